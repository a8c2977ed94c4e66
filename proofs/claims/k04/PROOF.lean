import PyProof.Rows.All
import Wide.All
import OpenK.AllK
import Wide.FinOn
import HandS.Base
import HandS.Call
import HandS.List
import HandS.Comp
import HandS.Ends
import HandS.Dict
import HandS.Iter
import HandS.Text
import HandS.Words
import HandS.WordsList
import HandS.More
import HandS.Codes
import HandS.Replace
import HandS.IsInst
import HandS.ExcInit
import HandS.WordsExc
import HandS.Exc
import HandS.TryOnly
import HandS.ExcOwn
import PySem.Challenge.RW_homereads_k04_lines_of_reads
set_option Elab.async false
set_option linter.all false
set_option maxRecDepth 100000
set_option maxHeartbeats 4000000
namespace Hr
open PySem PySem.Spec PyProof.Rows L2
/-! ### the text -/
def topS (i : Nat) : Stmt := PySem.Challenge.pw_homereads_k04_lines_of_reads.main.body.getD i (.Pass ⟨0, 0, 0, 0⟩)
abbrev sInit : Stmt := inClass (topS 2) 0
abbrev sReadReads : Stmt := topS 9
abbrev sWriteReads : Stmt := topS 10
abbrev sNameLine : Stmt := topS 11
abbrev sTextLine : Stmt := topS 12
abbrev sMarksLine : Stmt := topS 13
abbrev sLineAt : Stmt := topS 14
abbrev sFirstOther : Stmt := topS 15
abbrev sCell : Stmt := topS 17
abbrev sRow : Stmt := topS 18
abbrev sInteger : Stmt := topS 19
abbrev sText : Stmt := topS 20
abbrev sLTurned : Stmt := topS 21
abbrev sLaw : Stmt := topS 24
theorem scWriteReads : FnScope ["reads", "lines", "name", "text", "marks", "mark"] ["reads"] (defScope sWriteReads) := ⟨rfl, rfl, rfl, by decide +kernel, rfl, by decide +kernel, by decide +kernel⟩
theorem scCell : FnScope ["script", "k"] ["script", "k"] (defScope sCell) := ⟨rfl, rfl, rfl, by decide +kernel, rfl, by decide +kernel, by decide +kernel⟩
theorem scRow : FnScope ["cell", "count", "bound", "rest", "mixed", "row", "k"] ["cell", "count", "bound"] (defScope sRow) := ⟨rfl, rfl, rfl, by decide +kernel, rfl, by decide +kernel, by decide +kernel⟩
theorem scInteger : FnScope ["value"] ["value"] (defScope sInteger) := ⟨rfl, rfl, rfl, by decide +kernel, rfl, by decide +kernel, by decide +kernel⟩
theorem scText : FnScope ["cell", "size", "drawn", "kind", "text", "k", "letter"] ["cell", "size"] (defScope sText) := ⟨rfl, rfl, rfl, by decide +kernel, rfl, by decide +kernel, by decide +kernel⟩
theorem scLTurned : FnScope ["text", "news", "letter"] ["text"] (defScope sLTurned) := ⟨rfl, rfl, rfl, by decide +kernel, rfl, by decide +kernel, by decide +kernel⟩
theorem scInit : FnScope ["self", "line", "column"] ["self", "line", "column"] (defScope sInit) := ⟨rfl, rfl, rfl, by decide +kernel, rfl, by decide +kernel, by decide +kernel⟩
theorem scLineAt : FnScope ["lines", "at"] ["lines", "at"] (defScope sLineAt) := ⟨rfl, rfl, rfl, by decide +kernel, rfl, by decide +kernel, by decide +kernel⟩
theorem scFirstOther : FnScope ["line", "begin", "allowed", "column"] ["line", "begin", "allowed"] (defScope sFirstOther) := ⟨rfl, rfl, rfl, by decide +kernel, rfl, by decide +kernel, by decide +kernel⟩
theorem scNameLine : FnScope ["lines", "at", "sign", "line", "column"] ["lines", "at", "sign"] (defScope sNameLine) := ⟨rfl, rfl, rfl, by decide +kernel, rfl, by decide +kernel, by decide +kernel⟩
theorem scTextLine : FnScope ["lines", "at", "room", "line", "column"] ["lines", "at", "room"] (defScope sTextLine) := ⟨rfl, rfl, rfl, by decide +kernel, rfl, by decide +kernel, by decide +kernel⟩
theorem scReadReads : FnScope ["lines", "reads", "at", "name", "text", "marks"] ["lines"] (defScope sReadReads) := ⟨rfl, rfl, rfl, by decide +kernel, rfl, by decide +kernel, by decide +kernel⟩
theorem scMarksLine : FnScope ["lines", "at", "many", "line", "column", "character"] ["lines", "at", "many"] (defScope sMarksLine) := ⟨rfl, rfl, rfl, by decide +kernel, rfl, by decide +kernel, by decide +kernel⟩
/-! ### walks of a known number of turns -/
theorem for_gen {J : It} {n : Nat} {g : TG} {tb : TS} {D : Ends} {σ : L2.St} {H : Hp} (Pv : Nat → L2.St → Hp → Prop) (h0 : Pv 0 σ H) (hgo : ∀ i σ H, i < n → Pv i σ H → J.go i H) (hstop : ∀ σ H, Pv n σ H → J.stop n H)
    (hs : ∀ i σ H x H', i < n → Pv i σ H → J.yld i H x H' → g x σ H' fun σ2 H2 => tb { D with nx := Pv (i + 1), ct := Pv (i + 1), bk := D.nx } σ2 H2) (hd : ∀ σ H, Pv n σ H → D.nx σ H) :
    ∃ W : Nat → Nat → L2.St → Hp → Prop, (∃ m, W 0 m σ H) ∧ ∀ i m σ H, W i m σ H →
      (J.stop i H ∧ D.nx σ H) ∨ (J.go i H ∧ ∃ N : L2.St → Hp → Prop, (∀ σ' H', N σ' H' → ∃ m', m' < m ∧ W (i + 1) m' σ' H') ∧ ∀ x H', J.yld i H x H' → g x σ H' fun σ2 H2 => tb { D with nx := N, ct := N, bk := D.nx } σ2 H2) := by
  refine ⟨fun i m σ H => i + m = n ∧ Pv i σ H, ⟨n, Nat.zero_add n, h0⟩, fun i m σ H hw => ?_⟩
  obtain ⟨em, p⟩ := hw
  cases m with
  | zero =>
    obtain rfl : i = n := em
    exact .inl ⟨hstop σ H p, hd σ H p⟩
  | succ m =>
    have lt : i < n := by omega
    exact .inr ⟨hgo i σ H lt p, Pv (i + 1), fun σ' H' p' => ⟨m, Nat.lt_succ_self m, by omega, p'⟩, fun x H' y => hs i σ H x H' lt p y⟩
theorem lc_gen {J : It} {n : Nat} {g : TG} {tt : TT} {te : TE} {vs : List Nat} {σ : L2.St} {H1 : Hp} {D : Addr} {Qd : Hp → Prop} (Pv : Nat → Hp → Prop) (h0 : Pv 0 (upd H1 D (.lst []))) (hgo : ∀ i H, i < n → Pv i H → J.go i H) (hstop : ∀ H, Pv n H → J.stop n H)
    (hs : ∀ i H x H', i < n → Pv i H → J.yld i H x H' → g x (wipe σ vs) H' fun σ2 H2 => wipe σ2 vs = wipe σ vs ∧ tt σ2 H2 fun b H3 =>
      if b = true then te σ2 H3 fun y H4 => ∃ acc, H4 D = some (.lst acc) ∧ acc.length < sizeLine ∧ Pv (i + 1) (upd H4 D (.lst (acc ++ [y]))) else Pv (i + 1) H3) (hd : ∀ H, Pv n H → Qd H) :
    ∃ W : Nat → Nat → Hp → Prop, (∃ m, W 0 m (upd H1 D (.lst []))) ∧ ∀ i m H, W i m H →
      (J.stop i H ∧ Qd H) ∨ (J.go i H ∧ ∃ Nx : Hp → Prop, (∀ H', Nx H' → ∃ m', m' < m ∧ W (i + 1) m' H') ∧ ∀ x H', J.yld i H x H' → g x (wipe σ vs) H' fun σ2 H2 => wipe σ2 vs = wipe σ vs ∧ tt σ2 H2 fun b H3 =>
        if b = true then te σ2 H3 fun y H4 => ∃ acc, H4 D = some (.lst acc) ∧ acc.length < sizeLine ∧ Nx (upd H4 D (.lst (acc ++ [y]))) else Nx H3) := by
  refine ⟨fun i m H => i + m = n ∧ Pv i H, ⟨n, Nat.zero_add n, h0⟩, fun i m H hw => ?_⟩
  obtain ⟨em, p⟩ := hw
  cases m with
  | zero =>
    obtain rfl : i = n := em
    exact .inl ⟨hstop H p, hd H p⟩
  | succ m =>
    have lt : i < n := by omega
    exact .inr ⟨hgo i H lt p, Pv (i + 1), fun H' p' => ⟨m, Nat.lt_succ_self m, by omega, p'⟩, fun x H' y => hs i H x H' lt p y⟩
/-- a loop over a text's signs -/
theorem for_str {z : Str} {g : TG} {tb : TS} {D : Ends} {σ : L2.St} {H : Hp} (Pv : Nat → L2.St → Hp → Prop) (h0 : Pv 0 σ H)
    (hs : ∀ i c σ H, z.cps[i]? = some c → Pv i σ H → g (.str ⟨#[c]⟩) σ H fun σ2 H2 => tb { D with nx := Pv (i + 1), ct := Pv (i + 1), bk := D.nx } σ2 H2) (hd : ∀ σ H, Pv z.cps.size σ H → D.nx σ H) :
    ∃ W : Nat → Nat → L2.St → Hp → Prop, (∃ m, W 0 m σ H) ∧ ∀ i m σ H, W i m σ H →
      ((Its z).stop i H ∧ D.nx σ H) ∨ ((Its z).go i H ∧ ∃ N : L2.St → Hp → Prop, (∀ σ' H', N σ' H' → ∃ m', m' < m ∧ W (i + 1) m' σ' H') ∧ ∀ x H', (Its z).yld i H x H' → g x σ H' fun σ2 H2 => tb { D with nx := N, ct := N, bk := D.nx } σ2 H2) :=
  for_gen (J := Its z) (n := z.cps.size) Pv h0 (fun i σ H hi _ => hi) (fun σ H _ => Nat.le_refl _) (fun i σ H x H' hi p y => by
    obtain ⟨e, c, hc, ex⟩ := y
    subst e
    subst ex
    exact hs i c σ _ hc p) hd
/-! ### texts by lists -/
def T (l : List Nat) : Str := ⟨l.toArray⟩
theorem T_len (l : List Nat) : (T l).length = l.length := by
  show l.toArray.size = l.length
  simp
theorem T_size (l : List Nat) : (T l).cps.size = l.length := by
  show l.toArray.size = l.length
  simp
theorem T_list (l : List Nat) : (T l).cps.toList = l := rfl
theorem T_at (l : List Nat) (i : Nat) : (T l).cps[i]? = l[i]? := by
  show l.toArray[i]? = l[i]?
  simp
theorem T_app (a b : List Nat) : T a ++ T b = T (a ++ b) := by
  show Str.mk (a.toArray ++ b.toArray) = Str.mk (a ++ b).toArray
  simp
theorem T_inj {a b : List Nat} (h : T a = T b) : a = b := by
  have e : (T a).cps.toList = (T b).cps.toList := by rw [h]
  exact e
theorem T_nil : (Str.ofString "" : Str) = T [] := by decide +kernel
def Sg (c : Nat) : Prop := c = 65 ∨ c = 67 ∨ c = 71 ∨ c = 84 ∨ c = 78
def Dna (l : List Nat) : Prop := ∀ c ∈ l, Sg c
theorem Dna.app {a b : List Nat} (h : Dna a) (k : Dna b) : Dna (a ++ b) := fun c hc => by
  rcases List.mem_append.mp hc with q | q
  · exact h c q
  · exact k c q
theorem Dna.one {c : Nat} (h : Sg c) : Dna [c] := fun d hd => by
  obtain rfl : d = c := by simpa using hd
  exact h
theorem line_ok {n : Nat} (h : n ≤ 100000) : n ≤ sizeLine := by
  rw [sizeLine_eq]
  omega
theorem line_lt {n : Nat} (h : n ≤ 100000) : n < sizeLine := by
  rw [sizeLine_eq]
  omega
theorem same_upd {H : Hp} {p : Addr} {o : HO} (h : H p = none) : Same H (upd H p o) := fun b x e => by
  rw [upd_ne (ne_of_none e h)]
  exact e
theorem upd_upd {H : Hp} {p : Addr} {o o' : HO} : upd (upd H p o) p o' = upd H p o' := by
  funext b
  by_cases e : b = p
  · rw [e, upd_same, upd_same]
  · rw [upd_ne e, upd_ne e, upd_ne e]
/-! ### names that are still the built-in ones -/
structure Bl (mg : Str → Option Value) : Prop where
  len : mg "len" = none
  int : mg "int" = none
  abs : mg "abs" = none
  range : mg "range" = none
  isin : mg "isinstance" = none
  bool : mg "bool" = none
  str : mg "str" = none
section
variable {P : Program} {w : World} {K : PySem.W.Frag} {mg : Str → Option Value} {base : Heap}
/-! ### _law_cell -/
def spCell (K : PySem.W.Frag) : Sp := fun vs H Q _ => ∃ (a : Addr) (ns : List Int) (k : Nat), vs = [.ref a, .int (k : Int)] ∧ SqL K H a (ns.map V.int) ∧ ∀ x : Int, Q (.int x) H
theorem ok_cell {f : Addr} {fd : FuncData} {k : Nat} (F : Fun K "_law_cell" "_law_cell" sCell f fd) (B : Bl mg) : FnOk P w K mg base CX0 (k + 1) f fd ["script", "k"] (spCell K) := by
  refine F.ok scCell (fun vs H Q E h => ?_) (fun cdv A outer s H vs Q E hr h => ?_)
  · obtain ⟨a, ns, j, rfl, _⟩ := h
    rfl
  · obtain ⟨a, ns, j, rfl, hS, q⟩ := h
    refine ⟨_, pss_cons (ps_if (pt_cmpR op_lt (pv 1) (pe_callB call_len_seq (by rfl) B.len PySem.boot_len (pa_cons (pv 0) pa_nil)) (nomark _))
        (pss_one (ps_ret (pe_callTy call_int1 (by rfl) B.int (by decide +kernel) (pa_cons (pe_ix ix_list (pv 0) (pv 1) (fun _ _ => rfl)) pa_nil)))) pss_nil)
      (pss_one (ps_ret pe_int)), ?_⟩
    refine ⟨.int j, rfl, .ref a, rfl, a, ns.map V.int, rfl, .inl hS, j, _, rfl, rfl, _, rfl, ite2 (fun e => ?_) (fun e => q 0)⟩
    have h1 : (j : Int) < ((ns.map V.int).length : Int) := of_decide_eq_true e
    have h2 : j < ns.length := by
      rw [List.length_map] at h1
      omega
    have g1 : (ns.map V.int)[j]? = some (.int ns[j]) := by
      rw [List.getElem?_map, List.getElem?_eq_getElem h2]
      rfl
    exact ⟨.ref a, rfl, .int j, rfl, a, _, j, .int ns[j], rfl, rfl, hS, atI_nat g1, .inl ⟨_, rfl, q _⟩⟩
/-! ### _law_row -/
def spRow (K : PySem.W.Frag) : Sp := fun vs H Q _ => ∃ (c n b : Int), vs = [.int c, .int n, .int b] ∧ 0 ≤ n ∧ n ≤ 100000 ∧ 1 < b ∧ b < 1000 ∧
  ∀ (H' : Hp) (p : Addr) (xs : List Int), Same H H' → H p = none → H' p = some (.lst (xs.map V.int)) → xs.length = n.toNat → (∀ x ∈ xs, 0 ≤ x ∧ x < b) → Q (.ref p) H'
theorem ok_row {f : Addr} {fd : FuncData} {k : Nat} (F : Fun K "_law_row" "_law_row" sRow f fd) (B : Bl mg) : FnOk P w K mg base CX0 (k + 1) f fd ["cell", "count", "bound"] (spRow K) := by
  refine F.ok scRow (fun vs H Q E h => ?_) (fun cdv A outer s H vs Q E hr h => ?_)
  · obtain ⟨c, n, b, rfl, _⟩ := h
    rfl
  · obtain ⟨c, n, b, rfl, hn0, hn, hb1, hb2, q⟩ := h
    refine ⟨_, pss_cons (ps_set (i := 3) scRow.nd rfl (.inl rfl) (pe_callB call_abs (by rfl) B.abs (by decide +kernel) (pa_cons (pe_callTy call_int1 (by rfl) B.int (by decide +kernel) (pa_cons (pv 0) pa_nil)) pa_nil)))
      (pss_cons (ps_set (i := 4) scRow.nd rfl (.inl rfl) (pe_op op_add (pe_op op_mod (pe_callTy call_int1 (by rfl) B.int (by decide +kernel) (pa_cons (pv 0) pa_nil)) pe_int) pe_int))
      (pss_cons (ps_set (i := 5) scRow.nd rfl (.inl rfl) (pe_lst pa_nil))
      (pss_cons (ps_for PassesOwn.never rfl (pi_range1 rfl B.range (pa_cons (pv 1) pa_nil)) (pg_name (i := 6) scRow.nd rfl (.inl rfl))
        (pss_one (ps_if (pt_cmpR op_ge (pv 3) (pv 2) (nomark _))
          (pss_cons (ps_expr (pe_bm PySem.F.plainAttrs_list PySem.F.slot_list_append PySem.F.type_list_append mt_append (pv 5) (pa_cons (pe_op op_mod (pe_callTy call_int1 (by rfl) B.int (by decide +kernel) (pa_cons (pv 3) pa_nil)) (pv 2)) pa_nil)))
            (pss_one (ps_set (i := 3) scRow.nd rfl (.inl rfl) (pe_op op_fdiv (pv 3) (pv 2)))))
          (pss_cons (ps_set (i := 4) scRow.nd rfl (.inl rfl) (pe_op op_mod (pe_callTy call_int1 (by rfl) B.int (by decide +kernel) (pa_cons (pe_op op_add (pe_op op_add (pe_op op_mul (pv 4) pe_int) (pe_op op_mul pe_int (pv 6))) pe_int) pa_nil)) pe_int))
            (pss_one (ps_expr (pe_bm PySem.F.plainAttrs_list PySem.F.slot_list_append PySem.F.type_list_append mt_append (pv 5) (pa_cons (pe_op op_mod (pe_callTy call_int1 (by rfl) B.int (by decide +kernel) (pa_cons (pe_op op_fdiv (pe_op op_mul (pv 4) pe_int) pe_int) pa_nil)) (pv 2)) pa_nil))))))))
      (pss_one (ps_ret (pv 5)))))), ?_⟩
    refine ⟨.int c, rfl, .inl ⟨c, rfl, c, rfl, ?_⟩⟩
    refine ⟨.int c, rfl, .inl ⟨c, rfl, c, 1000003, rfl, rfl, (show (0 : Int) < 1000003 by decide), _, _, rfl, rfl, ?_⟩⟩
    refine ⟨Nat.zero_le _, fun p hp => ?_⟩
    refine ⟨.int n, rfl, n, rfl, by omega, by omega, ?_⟩
    refine for_range (lo := 0) (n := n.toNat) (fun i σ H' => ∃ (r m : Int) (kv : Option V) (xs : List Int), σ = [some (.int c), some (.int n), some (.int b), some (.int r), some (.int m), some (.ref p), kv] ∧ 0 ≤ m ∧ m < 4294967296 ∧ Same H H' ∧
      H' p = some (.lst (xs.map V.int)) ∧ xs.length = i ∧ ∀ x ∈ xs, 0 ≤ x ∧ x < b) ?_ ?_ ?_
    · refine ⟨_, _, none, [], rfl, ?_, ?_, same_upd hp, upd_same, rfl, fun x hx => by cases hx⟩
      · have := Int.emod_nonneg c (show (1000003 : Int) ≠ 0 by decide)
        omega
      · have := Int.emod_lt_of_pos c (show (0 : Int) < 1000003 by decide)
        omega
    · rintro i σ H' hi ⟨r, m, kv, xs, rfl, hm0, hm1, sm, hx, hl, hall⟩
      have grow : ∀ (y : Int) (τ : L2.St) (r' m' : Int), 0 ≤ y → y < b → 0 ≤ m' → m' < 4294967296 → τ = [some (.int c), some (.int n), some (.int b), some (.int r'), some (.int m'), some (.ref p), some (.int (0 + (i : Nat)))] →
          ∃ (r m : Int) (kv : Option V) (zs : List Int), τ = [some (.int c), some (.int n), some (.int b), some (.int r), some (.int m), some (.ref p), kv] ∧ 0 ≤ m ∧ m < 4294967296 ∧ Same H (upd H' p (.lst (xs.map V.int ++ [.int y]))) ∧
          (upd H' p (.lst (xs.map V.int ++ [.int y]))) p = some (.lst (zs.map V.int)) ∧ zs.length = i + 1 ∧ ∀ x ∈ zs, 0 ≤ x ∧ x < b := by
        intro y τ r' m' y0 y1 h0 h1 e
        refine ⟨r', m', _, xs ++ [y], e, h0, h1, fun q o k => ?_, ?_, ?_, ?_⟩
        · rw [upd_ne (ne_of_none k hp)]
          exact sm q o k
        · rw [upd_same, List.map_append]
          rfl
        · rw [List.length_append, hl]
          rfl
        · intro x hxm
          rcases List.mem_append.mp hxm with z | z
          · exact hall x z
          · obtain rfl : x = y := by simpa using z
            exact ⟨y0, y1⟩
      have hsz : (xs.map V.int).length < sizeLine := line_lt (by rw [List.length_map]; omega)
      refine ⟨.int r, rfl, .int b, rfl, r, b, rfl, rfl, _, rfl, ite2 (fun e => ?_) (fun e => ?_)⟩
      · refine ⟨.ref p, rfl, .inl ⟨rfl, _, .inl (.inl hx)⟩, .int r, rfl, .inl ⟨r, rfl, .int b, rfl, r, b, rfl, rfl, (show 0 < b by omega), p, _, _, rfl, rfl, hx, hsz, ?_⟩⟩
        refine ⟨.int r, rfl, .int b, rfl, r, b, rfl, rfl, ⟨by omega, by omega⟩, ?_⟩
        exact grow _ _ (r / b) m (Int.emod_nonneg r (by omega)) (Int.emod_lt_of_pos r (by omega)) hm0 hm1 rfl
      · refine ⟨.int m, rfl, m, 48271, rfl, rfl, .inl ⟨by omega, by omega⟩, .int (0 + (i : Nat)), rfl, 11, _, rfl, rfl, .inl ⟨by decide, by decide⟩, _, _, rfl, rfl, _, _, rfl, rfl, .inl ⟨_, rfl, _, 2147483647, rfl, rfl, (show (0 : Int) < 2147483647 by decide), ?_⟩⟩
        have b0 : 0 ≤ (m * 48271 + 11 * (0 + ((i : Nat) : Int)) + 7) % 2147483647 := Int.emod_nonneg _ (by decide)
        have b1 : (m * 48271 + 11 * (0 + ((i : Nat) : Int)) + 7) % 2147483647 < 2147483647 := Int.emod_lt_of_pos _ (by decide)
        refine ⟨.ref p, rfl, .inl ⟨rfl, _, .inl (.inl hx)⟩, _, rfl, (m * 48271 + 11 * (0 + ((i : Nat) : Int)) + 7) % 2147483647, 2862933555777941757, rfl, rfl, .inl ⟨by omega, by omega⟩, _, 1024, rfl, rfl, ⟨by decide, by decide⟩, .inl ⟨_, rfl, .int b, rfl, _, b, rfl, rfl, (show 0 < b by omega), p, _, _, rfl, rfl, hx, hsz, ?_⟩⟩
        exact grow _ _ r ((m * 48271 + 11 * (0 + ((i : Nat) : Int)) + 7) % 2147483647) (Int.emod_nonneg _ (by omega)) (Int.emod_lt_of_pos _ (by omega)) b0 (by omega) rfl
    · rintro σ H' ⟨r, m, kv, xs, rfl, hm0, hm1, sm, hx, hl, hall⟩
      exact ⟨.ref p, rfl, q H' p xs sm hp hx hl hall⟩
/-! ### _law_integer -/
def spInteger : Sp := fun vs H Q _ => ∃ i : Int, vs = [.int i] ∧ Q (.bl true) H
theorem ok_integer {f : Addr} {fd : FuncData} {k : Nat} (F : Fun K "_law_integer" "_law_integer" sInteger f fd) (B : Bl mg) : FnOk P w K mg base CX0 (k + 1) f fd ["value"] spInteger := by
  refine F.ok scInteger (fun vs H Q E h => ?_) (fun cdv A outer s H vs Q E hr h => ?_)
  · obtain ⟨i, rfl, _⟩ := h
    rfl
  · obtain ⟨i, rfl, q⟩ := h
    refine ⟨_, pss_one (ps_ret (pe_and (pe_callB call_isi (by rfl) B.isin (by decide +kernel) (pa_cons (pv 0) (pa_cons (pe_bltn (v := .ty "int") (by rfl) B.int (by decide +kernel) rfl) pa_nil)))
      (pe_one (pe_not (pe_callB call_isi (by rfl) B.isin (by decide +kernel) (pa_cons (pv 0) (pa_cons (pe_bltn (v := .ty "bool") (by rfl) B.bool (by decide +kernel) rfl) pa_nil))))))), ?_⟩
    refine ⟨.int i, rfl, .int i, .ty "int", _, _, true, rfl, .ty _, .base (.int i), kit_ty (by decide +kernel), true, rfl, iteT ?_⟩
    exact ⟨.int i, rfl, .int i, .ty "bool", _, _, false, rfl, .ty _, .base (.int i), kit_ty (by decide +kernel), false, rfl, q⟩
/-! ### _law_text -/
theorem sg_four (x : Int) : ∃ c, Sg c ∧ atI (Str.ofString "ACGT").cps.toList (x % 4) = some c := by
  have h : x % 4 = 0 ∨ x % 4 = 1 ∨ x % 4 = 2 ∨ x % 4 = 3 := by omega
  rcases h with h | h | h | h <;> rw [h]
  · exact ⟨65, .inl rfl, by decide +kernel⟩
  · exact ⟨67, .inr (.inl rfl), by decide +kernel⟩
  · exact ⟨71, .inr (.inr (.inl rfl)), by decide +kernel⟩
  · exact ⟨84, .inr (.inr (.inr (.inl rfl))), by decide +kernel⟩
theorem sg_two (x : Int) : ∃ c, Sg c ∧ atI (Str.ofString "AC").cps.toList (x % 2) = some c := by
  have h : x % 2 = 0 ∨ x % 2 = 1 := by omega
  rcases h with h | h <;> rw [h]
  · exact ⟨65, .inl rfl, by decide +kernel⟩
  · exact ⟨67, .inr (.inl rfl), by decide +kernel⟩
def spText (K : PySem.W.Frag) : Sp := fun vs H Q _ => ∃ (c n : Int), vs = [.int c, .int n] ∧ 0 ≤ n ∧ n ≤ 100000 ∧ ∀ (H' : Hp) (l : List Nat), Same H H' → Dna l → l.length = n.toNat → Q (.str (T l)) H'
theorem ok_text {f fR : Addr} {fd fdR : FuncData} {k : Nat} (F : Fun K "_law_text" "_law_text" sText f fd) (B : Bl mg) (GR : FnOk P w K mg base CX0 (k + 1) fR fdR ["cell", "count", "bound"] (spRow K)) (gR : mg "_law_row" = some (.ref fR)) (kR : PySem.W.keepIn K (.ref fR) = true) (bR : Binds K fdR ["cell", "count", "bound"] []) :
    FnOk P w K mg base CX0 (k + 1 + 1) f fd ["cell", "size"] (spText K) := by
  refine F.ok scText (fun vs H Q E h => ?_) (fun cdv A outer s H vs Q E hr h => ?_)
  · obtain ⟨c, n, rfl, _⟩ := h
    rfl
  · obtain ⟨c, n, rfl, hn0, hn, q⟩ := h
    refine ⟨_, pss_cons (ps_set (i := 2) scText.nd rfl (.inl rfl) (pe_call GR hr (by rfl) gR kR bR .nil pass0 (pa_cons (pv 0) (pa_cons (pv 1) (pa_cons pe_int pa_nil)))))
      (pss_cons (ps_set (i := 3) scText.nd rfl (.inl rfl) (pe_op op_mod (pe_op op_fdiv (pe_callB call_abs (by rfl) B.abs (by decide +kernel) (pa_cons (pe_callTy call_int1 (by rfl) B.int (by decide +kernel) (pa_cons (pv 0) pa_nil)) pa_nil)) pe_int) pe_int))
      (pss_cons (ps_set (i := 4) scText.nd rfl (.inl rfl) pe_str)
      (pss_cons (ps_for PassesOwn.never rfl (pi_range1 rfl B.range (pa_cons (pv 1) pa_nil)) (pg_name (i := 5) scText.nd rfl (.inl rfl))
        (C8.pss_cut (ps_set (i := 6) scText.nd rfl (.inl rfl) (pe_ix ix_str pe_str (pe_op op_mod (pe_ix ix_list (pv 2) (pv 5) (fun _ _ => rfl)) pe_int) (fun _ _ => rfl)))
        (C8.pss_cut (ps_if (PW.pt (pw_and (pt_cmpR op_eq (pv 3) pe_int (nomark _)) (pw_and (pt_cmpR op_gt (pv 5) pe_int (nomark _)) (pw_and1 (pt_cmpR op_gt (pe_op op_mod (pe_ix ix_list (pv 2) (pv 5) (fun _ _ => rfl)) pe_int) pe_int (nomark _))))))
            (pss_one (ps_set (i := 6) scText.nd rfl (.inl rfl) (pe_ix ix_str (pv 4) (pe_op op_sub (pv 5) pe_int) (fun _ _ => rfl)))) pss_nil)
        (C8.pss_cut (ps_if (pt_cmpR op_eq (pv 3) pe_int (nomark _)) (pss_one (ps_set (i := 6) scText.nd rfl (.inl rfl) (pe_ix ix_str pe_str (pe_op op_mod (pe_ix ix_list (pv 2) (pv 5) (fun _ _ => rfl)) pe_int) (fun _ _ => rfl)))) pss_nil)
        (C8.pss_cut (ps_if (PW.pt (pw_and (pt_cmpR op_eq (pv 3) pe_int (nomark _)) (pw_and1 (pt_cmpR op_gt (pe_ix ix_list (pv 2) (pv 5) (fun _ _ => rfl)) pe_int (nomark _)))))
            (pss_one (ps_set (i := 6) scText.nd rfl (.inl rfl) pe_str)) pss_nil)
        (pss_one (ps_set (i := 4) scText.nd rfl (.inl rfl) (pe_op op_add_str (pv 4) (pv 6)))))))))
      (pss_one (ps_ret (pv 4)))))), ?_⟩
    refine ⟨.int c, rfl, .int n, rfl, c, n, 97, rfl, hn0, hn, by decide, by decide, fun H1 p xs sm hp hx hl hall => ?_⟩
    refine ⟨.int c, rfl, .inl ⟨c, rfl, c, rfl, _, 7, rfl, rfl, ⟨by decide, by decide⟩, _, 4, rfl, rfl, (show (0 : Int) < 4 by decide), ?_⟩⟩
    refine ⟨.int n, rfl, n, rfl, by omega, by omega, ?_⟩
    obtain ⟨kd, hkd⟩ : ∃ kd : Int, kd = (if c < 0 then -c else c) / 7 % 4 := ⟨_, rfl⟩
    have hS : SqL K H1 p (xs.map V.int) := .inl (.inl hx)
    refine for_range (lo := 0) (n := n.toNat) (fun i σ H' => H' = H1 ∧ ∃ (l : List Nat) (kv lv : Option V), σ = [some (.int c), some (.int n), some (.ref p), some (.int kd), some (.str (T l)), kv, lv] ∧ l.length = i ∧ Dna l) ?_ ?_ ?_
    · exact ⟨rfl, [], none, none, by rw [← T_nil, hkd]; rfl, rfl, fun c hc => by cases hc⟩
    · rintro i σ H' hi ⟨rfl, l, kv, lv, rfl, hli, hd⟩
      have hix : i < xs.length := by omega
      have at1 : atI (xs.map V.int) (0 + (i : Nat)) = some (.int xs[i]) := by
        rw [Int.zero_add]
        refine atI_nat ?_
        rw [List.getElem?_map, List.getElem?_eq_getElem hix]
        rfl
      have done : ∀ d : Nat, Sg d → ∃ e, Sg e ∧ [some (.int c), some (.int n), some (.ref p), some (.int kd), some (.str (T l)), some (V.int (0 + (i : Nat))), some (.str (T [d]))] = [some (.int c), some (.int n), some (.ref p), some (.int kd), some (.str (T l)), some (V.int (0 + (i : Nat))), some (.str (T [e]))] := fun d hd => ⟨d, hd, rfl⟩
      refine ⟨fun σ H2 => H2 = H' ∧ ∃ d, Sg d ∧ σ = [some (.int c), some (.int n), some (.ref p), some (.int kd), some (.str (T l)), some (V.int (0 + (i : Nat))), some (.str (T [d]))], ?_, ?_⟩
      · obtain ⟨d, hsd, hat⟩ := sg_four xs[i]
        exact ⟨.ref p, rfl, .int (0 + (i : Nat)), rfl, p, _, _, _, rfl, rfl, hS, at1, _, 4, rfl, rfl, (show (0 : Int) < 4 by decide), _, _, d, rfl, rfl, by decide, hat, rfl, d, hsd, rfl⟩
      rintro σ H2 ⟨rfl, d, hsd, rfl⟩
      refine ⟨fun σ H3 => H3 = H2 ∧ ∃ d, Sg d ∧ σ = [some (.int c), some (.int n), some (.ref p), some (.int kd), some (.str (T l)), some (V.int (0 + (i : Nat))), some (.str (T [d]))], ?_, ?_⟩
      · refine ⟨.int kd, rfl, rfl, _, rfl, ite2 (fun _ => ?_) (fun _ => iteF ⟨rfl, d, hsd, rfl⟩)⟩
        refine ⟨.int (0 + (i : Nat)), rfl, _, 4, rfl, rfl, _, rfl, ite2 (fun e4 => ?_) (fun _ => iteF ⟨rfl, d, hsd, rfl⟩)⟩
        refine ⟨.ref p, rfl, .int (0 + (i : Nat)), rfl, p, _, _, _, rfl, rfl, hS, at1, _, 11, rfl, rfl, (show (0 : Int) < 11 by decide), _, 0, rfl, rfl, _, rfl, ite2 (fun _ => ?_) (fun _ => ⟨rfl, d, hsd, rfl⟩)⟩
        have h4 : (4 : Int) < 0 + (i : Nat) := of_decide_eq_true e4
        have hlt : i - 5 < l.length := by omega
        refine ⟨.str (T l), rfl, .int (0 + (i : Nat)), rfl, _, 5, rfl, rfl, T l, _, l[i - 5], rfl, rfl, line_ok (by rw [T_len]; omega), ?_, rfl, _, hd _ (List.getElem_mem hlt), rfl⟩
        rw [show (0 + ((i : Nat) : Int)) - 5 = ((i - 5 : Nat) : Int) by omega]
        refine atI_nat ?_
        exact List.getElem?_eq_getElem hlt
      rintro σ H3 ⟨rfl, d, hsd, rfl⟩
      refine ⟨fun σ H4 => H4 = H3 ∧ ∃ d, Sg d ∧ σ = [some (.int c), some (.int n), some (.ref p), some (.int kd), some (.str (T l)), some (V.int (0 + (i : Nat))), some (.str (T [d]))], ?_, ?_⟩
      · refine ⟨.int kd, rfl, rfl, _, rfl, ite2 (fun _ => ?_) (fun _ => ⟨rfl, d, hsd, rfl⟩)⟩
        obtain ⟨d, hsd, hat⟩ := sg_two xs[i]
        exact ⟨.ref p, rfl, .int (0 + (i : Nat)), rfl, p, _, _, _, rfl, rfl, hS, at1, _, 2, rfl, rfl, (show (0 : Int) < 2 by decide), _, _, d, rfl, rfl, by decide, hat, rfl, d, hsd, rfl⟩
      rintro σ H4 ⟨rfl, d, hsd, rfl⟩
      refine ⟨fun σ H5 => H5 = H4 ∧ ∃ d, Sg d ∧ σ = [some (.int c), some (.int n), some (.ref p), some (.int kd), some (.str (T l)), some (V.int (0 + (i : Nat))), some (.str (T [d]))], ?_, ?_⟩
      · refine ⟨.int kd, rfl, rfl, _, rfl, ite2 (fun _ => ?_) (fun _ => iteF ⟨rfl, d, hsd, rfl⟩)⟩
        refine ⟨.ref p, rfl, .int (0 + (i : Nat)), rfl, p, _, _, _, rfl, rfl, hS, at1, _, 88, rfl, rfl, _, rfl, ite2 (fun _ => ?_) (fun _ => ⟨rfl, d, hsd, rfl⟩)⟩
        exact ⟨rfl, 78, .inr (.inr (.inr (.inr rfl))), rfl⟩
      rintro σ H5 ⟨rfl, d, hsd, rfl⟩
      refine ⟨.str (T l), rfl, .str (T [d]), rfl, T l, T [d], rfl, rfl, line_ok (by rw [T_len, T_len, List.length_singleton]; omega), rfl, l ++ [d], some (.int (0 + (i : Nat))), some (.str (T [d])), ?_, ?_, hd.app (.one hsd)⟩
      · rw [T_app]
        rfl
      · rw [List.length_append, hli]
        rfl
    · rintro σ H' ⟨rfl, l, kv, lv, rfl, hli, hd⟩
      exact ⟨.str (T l), rfl, q H' l sm hd hli⟩
/-! ### _law_turned -/
def opp (c : Nat) : Nat := if c = 65 then 84 else if c = 67 then 71 else if c = 71 then 67 else if c = 84 then 65 else c
def turn (l : List Nat) : List Nat := (l.map opp).reverse
theorem opp_sg {c : Nat} (h : Sg c) : Sg (opp c) := by
  rcases h with h | h | h | h | h <;> subst h
  · exact .inr (.inr (.inr (.inl rfl)))
  · exact .inr (.inr (.inl rfl))
  · exact .inr (.inl rfl)
  · exact .inl rfl
  · exact .inr (.inr (.inr (.inr rfl)))
theorem opp_opp {c : Nat} (h : Sg c) : opp (opp c) = c := by
  rcases h with h | h | h | h | h <;> subst h <;> rfl
theorem turn_dna {l : List Nat} (h : Dna l) : Dna (turn l) := fun c hc => by
  obtain ⟨d, hd, e⟩ := List.mem_map.mp (List.mem_reverse.mp hc)
  rw [← e]
  exact opp_sg (h d hd)
theorem turn_len (l : List Nat) : (turn l).length = l.length := by
  unfold turn
  rw [List.length_reverse, List.length_map]
theorem turn_turn {l : List Nat} (h : Dna l) : turn (turn l) = l := by
  unfold turn
  rw [List.map_reverse, List.reverse_reverse, List.map_map]
  conv => rhs; rw [← List.map_id l]
  exact List.map_congr_left fun c hc => opp_opp (h c hc)
theorem turn_app (a b : List Nat) : turn (a ++ b) = turn b ++ turn a := by
  unfold turn
  rw [List.map_append, List.reverse_append]
theorem turn_snoc (a : List Nat) (c : Nat) : turn (a ++ [c]) = opp c :: turn a := by
  rw [turn_app]
  rfl
theorem sign_ix {c : Nat} (h : Sg c) : ∃ (i : Nat) (r : List Nat), Builtin.Str.occurrences (Str.ofString "ACGTN") ⟨#[c]⟩ 0 (Str.ofString "ACGTN").length 1 = i :: r ∧ atI (Str.ofString "TGCAN").cps.toList (i : Int) = some (opp c) ∧ (i : Int) + 2 = (if c = 65 then 2 else if c = 67 then 3 else if c = 71 then 4 else if c = 84 then 5 else 6) := by
  rcases h with h | h | h | h | h <;> subst h
  · exact ⟨0, [], by decide +kernel, by decide +kernel, by decide⟩
  · exact ⟨1, [], by decide +kernel, by decide +kernel, by decide⟩
  · exact ⟨2, [], by decide +kernel, by decide +kernel, by decide⟩
  · exact ⟨3, [], by decide +kernel, by decide +kernel, by decide⟩
  · exact ⟨4, [], by decide +kernel, by decide +kernel, by decide⟩
def spLTurned : Sp := fun vs H Q _ => ∃ l : List Nat, vs = [.str (T l)] ∧ Dna l ∧ l.length ≤ 100000 ∧ Q (.str (T (turn l))) H
theorem ok_lturned {f : Addr} {fd : FuncData} {k : Nat} (F : Fun K "_law_turned" "_law_turned" sLTurned f fd) : FnOk P w K mg base CX0 (k + 1) f fd ["text"] spLTurned := by
  refine F.ok scLTurned (fun vs H Q E h => ?_) (fun cdv A outer s H vs Q E hr h => ?_)
  · obtain ⟨l, rfl, _⟩ := h
    rfl
  · obtain ⟨l, rfl, hd, hl, q⟩ := h
    refine ⟨_, pss_cons (ps_set (i := 1) scLTurned.nd rfl (.inl rfl) pe_str)
      (pss_cons (ps_for PassesOwn.never rfl (pi_str (pv 0)) (pg_name (i := 2) scLTurned.nd rfl (.inl rfl))
        (pss_one (ps_set (i := 1) scLTurned.nd rfl (.inl rfl) (pe_op op_add_str (pe_ix ix_str pe_str (pe_bm PySem.F.plainAttrs_str PySem.F.slot_str_index PySem.F.type_str_index mt_sindex pe_str (pa_cons (pv 2) pa_nil)) (fun _ _ => rfl)) (pv 1)))))
      (pss_one (ps_ret (pv 1)))), ?_⟩
    refine ⟨.str (T l), rfl, T l, rfl, ?_⟩
    refine for_str (z := T l) (fun i σ H' => H' = H ∧ i ≤ l.length ∧ ∃ lv, σ = [some (.str (T l)), some (.str (T (turn (l.take i)))), lv]) ?_ ?_ ?_
    · exact ⟨rfl, Nat.zero_le _, none, by
        show [some (V.str (T l)), some (V.str (Str.ofString "")), none] = _
        rw [T_nil]
        rfl⟩
    · rintro i c σ H' hc ⟨rfl, _, lv, rfl⟩
      rw [T_at] at hc
      obtain ⟨hlt, hce⟩ := List.getElem?_eq_some_iff.mp hc
      have hsc : Sg c := by
        rw [← hce]
        exact hd _ (List.getElem_mem hlt)
      obtain ⟨j, r, ho, ha, _⟩ := sign_ix hsc
      have et : turn (l.take (i + 1)) = opp c :: turn (l.take i) := by
        rw [List.take_add_one, hc]
        exact turn_snoc _ c
      refine ⟨rfl, .str ⟨#[c]⟩, rfl, _, _, j, r, rfl, rfl, ho, _, _, _, rfl, rfl, by decide, ha, .str (T (turn (l.take i))), rfl, T [opp c], _, rfl, rfl, line_ok ?_, rfl, hlt, some (.str ⟨#[c]⟩), ?_⟩
      · rw [T_len, T_len, turn_len, List.length_take, List.length_singleton]
        omega
      · rw [T_app, et]
        rfl
    · rintro σ H' ⟨rfl, _, lv, rfl⟩
      rw [T_size, List.take_length]
      exact ⟨_, rfl, q⟩
end
/-! ### the errors of a line, and what reads one line -/
section
variable {P : Program} {w : World} {K : PySem.W.Frag} {mg : Str → Option Value} {base : Heap}
def spInit (C : Addr) : Sp := fun vs H Q _ => ∃ (a : Addr) (l c : Int), vs = [.ref a, .int l, .int c] ∧ H a = some (exo a C none) ∧
  ∀ dx, H dx = none → dx ≠ a → Q .non (upd (upd (upd H dx (exd dx [("line", .int l)])) a (exo a C (some dx))) dx (exd dx [("column", .int c), ("line", .int l)]))
/-- what stands behind the top of InvalidLine -/
structure IL (K : PySem.W.Frag) (mg : Str → Option Value) (C fI : Addr) (fd : FuncData) : Prop where
  gC : mg "InvalidLine" = some (.ref C)
  T : OexC K C
  iC : PySem.W.findIn K (.ref C) "__init__" = some (some (.ref fI))
  tI : PySem.W.typeIn K (.ref fI) = some (.type "function")
  F : Fun K "__init__" "InvalidLine.__init__" sInit fI fd
  b : Binds K fd ["self", "line", "column"] []
  nl : PySem.W.findIn K (.ref C) "line" = some none
  nc : PySem.W.findIn K (.ref C) "column" = some none
theorem ok_init {C fI : Addr} {fd : FuncData} (D : IL K mg C fI fd) : FnOk P w K mg base CX0 1 fI fd ["self", "line", "column"] (spInit C) := by
  refine D.F.ok scInit (fun vs H Q E h => ?_) (fun cdv A outer s H vs Q E hr h => ?_)
  · obtain ⟨a, l, c, rfl, _⟩ := h
    rfl
  · obtain ⟨a, l, c, rfl, ha, q⟩ := h
    refine ⟨_, pss_cons (ps_ost (pv 0) (pv 1)) (pss_one (ps_ost (pv 0) (pv 2))), ?_⟩
    refine ⟨.int l, rfl, .ref a, rfl, a, C, rfl, D.T, D.nl, .inl ⟨ha, fun dx hdx hne => ?_⟩⟩
    refine ⟨.int c, rfl, .ref a, rfl, a, C, rfl, D.T, D.nc, .inr ⟨dx, [("line", .int l)], ?_, ?_, by show 1 ≤ 900; decide, ?_⟩⟩
    · exact upd_same
    · rw [upd_ne hne, upd_same]
    · exact q dx hdx hne
/-- what a def wishes for if InvalidLine(l, c) leaves it -/
def Bad (E : XK) (C : Addr) (H : Hp) (l c : Int) : Prop := ∀ (H' : Hp) (d : Addr), Same H H' → H d = none → H' d = some (.xd [("column", .int c), ("line", .int l)]) → E (.ref C) (some d) H'
theorem Bad.same {E : XK} {C : Addr} {H H1 : Hp} {l c : Int} (b : Bad E C H l c) (s : Same H H1) : Bad E C H1 l c := fun H' d s' hd e => b H' d (s.trans s') (s.free hd) e
theorem bad_read {E : XK} {C : Addr} {H : Hp} {l c : Int} (b : Bad E C H l c) (a : Addr) (ha : H a = none) : spInit C [.ref a, .int l, .int c] (upd H a (exo a C none))
    (fun v H2 => v = .non ∧ ∃ (d : Addr) (fs : List (Str × V)), H2 a = some (exo a C (some d)) ∧ H2 d = some (exd d fs) ∧ H d = none ∧ E (.ref C) (some d) (upd (del H2 a) d (.xd fs))) (fun _ _ _ => False) := by
  refine ⟨a, l, c, rfl, upd_same, fun dx hdx hne => ⟨rfl, dx, _, ?_, upd_same, ?_, ?_⟩⟩
  · rw [upd_ne hne.symm, upd_same]
  · rw [upd_ne hne] at hdx
    exact hdx
  · rw [upd_ne hne] at hdx
    refine b _ dx (fun x o e => ?_) hdx upd_same
    have n1 : x ≠ dx := ne_of_none e hdx
    have n2 : x ≠ a := ne_of_none e ha
    rw [upd_ne n1, del_ne n2, upd_ne n1, upd_ne n2, upd_ne n1, upd_ne n2]
    exact e
/-! ### texts as lists -/
abbrev SqS (K : PySem.W.Frag) (H : Hp) (a : Addr) (ls : List (List Nat)) : Prop := SqL K H a (ls.map fun l => V.str (T l))
def spLineAt (K : PySem.W.Frag) (C : Addr) : Sp := fun vs H Q E => ∃ (a : Addr) (ls : List (List Nat)) (j : Nat), vs = [.ref a, .int (j : Int)] ∧ SqS K H a ls ∧
  (∀ l, ls[j]? = some l → Q (.str (T l)) H) ∧ (ls.length ≤ j → Bad E C H ls.length 0)
theorem ok_lineAt {f C fI : Addr} {fd fdI : FuncData} {k : Nat} (F : Fun K "_line_at" "_line_at" sLineAt f fd) (D : IL K mg C fI fdI) (ml : mg "len" = none) : FnOk P w K mg base (L2.CX P w) (k + 3) f fd ["lines", "at"] (spLineAt K C) := by
  refine F.okX scLineAt (fun vs H Q E h => ?_) (fun cdv A outer s H vs Q E hr h => ?_)
  · obtain ⟨a, ls, j, rfl, _⟩ := h
    rfl
  · obtain ⟨a, ls, j, rfl, hS, q, qb⟩ := h
    refine ⟨_, pss_cons (ps_if (pt_cmpR op_ge (pv 1) (pe_callB call_len_seq (by rfl) ml PySem.boot_len (pa_cons (pv 0) pa_nil)) (nomark _))
        (pss_one (ps_raise rfl (takes_of rfl rfl rfl rfl) (pmk_oex D.T D.iC D.tI (ok_init D) (hr.mono (by omega)) D.b .nil pass0 (by rfl) D.gC (pa_cons (pe_callB call_len_seq (by rfl) ml PySem.boot_len (pa_cons (pv 0) pa_nil)) (pa_cons pe_int pa_nil))))) pss_nil)
      (pss_one (ps_ret (pe_ix ix_list (pv 0) (pv 1) (fun _ _ => rfl)))), ?_⟩
    refine ⟨.int j, rfl, .ref a, rfl, a, _, rfl, .inl hS, j, _, rfl, rfl, _, rfl, ite2 (fun e => ?_) (fun e => ?_)⟩
    · have e1 : ((ls.map fun l => V.str (T l)).length : Int) ≤ (j : Int) := of_decide_eq_true e
      rw [List.length_map] at e1
      refine ⟨.ref a, rfl, a, _, rfl, .inl hS, by show 2 ≤ 1000; decide, fun x hx => ?_⟩
      rw [List.length_map]
      exact bad_read (qb (by omega)) x hx
    · have e1 : ¬ ((ls.map fun l => V.str (T l)).length : Int) ≤ (j : Int) := fun z => e (decide_eq_true z)
      rw [List.length_map] at e1
      have hj : j < ls.length := by omega
      refine ⟨.ref a, rfl, .int j, rfl, a, _, j, .str (T ls[j]), rfl, rfl, hS, atI_nat ?_, q _ (List.getElem?_eq_getElem hj)⟩
      rw [List.getElem?_map, List.getElem?_eq_getElem hj]
      rfl
end
/-! ### the first sign that is not allowed -/
def fo (l al : List Nat) (b : Nat) : Nat := b + (l.drop b).findIdx fun c => decide (c ∉ al)
theorem fo_le {l al : List Nat} {b : Nat} (h : b ≤ l.length) : fo l al b ≤ l.length := by
  have := List.findIdx_le_length (xs := l.drop b) (p := fun c => decide (c ∉ al))
  rw [List.length_drop] at this
  unfold fo
  omega
/-- walking on -/
theorem fo_step {l al : List Nat} {b i c : Nat} (hc : l[b + i]? = some c) (hin : c ∈ al) (hi : i ≤ (l.drop b).findIdx fun c => decide (c ∉ al)) : i + 1 ≤ (l.drop b).findIdx fun c => decide (c ∉ al) := by
  refine Nat.lt_of_le_of_ne hi fun e => ?_
  have hd : (l.drop b)[i]? = some c := by
    rw [List.getElem?_drop]
    exact hc
  obtain ⟨hlt, he⟩ := List.getElem?_eq_some_iff.mp hd
  have hp := List.findIdx_getElem (xs := l.drop b) (p := fun c => decide (c ∉ al)) (w := e ▸ hlt)
  have e2 : (l.drop b)[(l.drop b).findIdx fun c => decide (c ∉ al)]? = some c := by
    rw [← e]
    exact hd
  have e3 := (List.getElem?_eq_some_iff.mp e2).2
  rw [e3] at hp
  exact (of_decide_eq_true hp) hin
theorem fo_here {l al : List Nat} {b i c : Nat} (hc : l[b + i]? = some c) (hout : c ∉ al) (hi : i ≤ (l.drop b).findIdx fun c => decide (c ∉ al)) : fo l al b = b + i := by
  have hd : (l.drop b)[i]? = some c := by
    rw [List.getElem?_drop]
    exact hc
  obtain ⟨hlt, he⟩ := List.getElem?_eq_some_iff.mp hd
  have : (l.drop b).findIdx (fun c => decide (c ∉ al)) ≤ i := by
    refine Nat.le_of_not_lt fun z => ?_
    have hn := List.not_of_lt_findIdx z
    have e3 := (List.getElem?_eq_some_iff.mp hd).2
    rw [e3] at hn
    exact absurd (decide_eq_true hout) (by simpa using hn)
  unfold fo
  omega
theorem fo_end {l al : List Nat} {b : Nat} (hb : b ≤ l.length) (hi : l.length - b ≤ (l.drop b).findIdx fun c => decide (c ∉ al)) : fo l al b = l.length := by
  have := fo_le (al := al) hb
  unfold fo at *
  omega
section
variable {P : Program} {w : World} {K : PySem.W.Frag} {mg : Str → Option Value} {base : Heap}
def spFirst : Sp := fun vs H Q _ => ∃ (l al : List Nat) (b : Nat), vs = [.str (T l), .int (b : Int), .str (T al)] ∧ b ≤ l.length ∧ l.length ≤ 1000000 ∧ Q (.int (fo l al b : Nat)) H
theorem line_ok6 {n : Nat} (h : n ≤ 1000000) : n ≤ sizeLine := by
  rw [sizeLine_eq]
  omega
theorem ok_first {f : Addr} {fd : FuncData} {k : Nat} (F : Fun K "_first_other" "_first_other" sFirstOther f fd) (ml : mg "len" = none) (mr : mg "range" = none) : FnOk P w K mg base CX0 (k + 1) f fd ["line", "begin", "allowed"] spFirst := by
  refine F.ok scFirstOther (fun vs H Q E h => ?_) (fun cdv A outer s H vs Q E hr h => ?_)
  · obtain ⟨l, al, b, rfl, _⟩ := h
    rfl
  · obtain ⟨l, al, b, rfl, hb, hl, q⟩ := h
    refine ⟨_, pss_cons (ps_for PassesOwn.never rfl (pi_range2 rfl mr (pa_cons (pv 1) (pa_cons (pe_callB call_len_str (by rfl) ml PySem.boot_len (pa_cons (pv 0) pa_nil)) pa_nil))) (pg_name (i := 3) scFirstOther.nd rfl (.inl rfl))
        (pss_one (ps_if (pt_cmpR op_notIn_sign (pe_ix ix_str (pv 0) (pv 3) (fun _ _ => rfl)) (pv 2) rfl) (pss_one (ps_ret (pv 3))) pss_nil)))
      (pss_one (ps_ret (pe_callB call_len_str (by rfl) ml PySem.boot_len (pa_cons (pv 0) pa_nil)))), ?_⟩
    have hz : (T l).length ≤ sizeLine := line_ok6 (by rw [T_len]; exact hl)
    refine ⟨.int b, rfl, .str (T l), rfl, T l, rfl, hz, b, (T l).length, rfl, ⟨by omega, by omega, by omega, by rw [T_len]; omega⟩, ?_⟩
    rw [show (((T l).length : Nat) : Int) = ((l.length : Nat) : Int) by rw [T_len], show (((l.length : Nat) : Int) - ((b : Nat) : Int)).toNat = l.length - b by omega]
    refine for_range (lo := b) (n := l.length - b) (fun i σ H' => H' = H ∧ i ≤ ((l.drop b).findIdx fun c => decide (c ∉ al)) ∧ ∃ cv, σ = [some (.str (T l)), some (.int b), some (.str (T al)), cv]) ?_ ?_ ?_
    · exact ⟨rfl, Nat.zero_le _, none, rfl⟩
    · rintro i σ H' hi ⟨rfl, hle, cv, rfl⟩
      have hlt : b + i < l.length := by omega
      have hc : l[b + i]? = some l[b + i] := List.getElem?_eq_getElem hlt
      refine ⟨.str (T l), rfl, .int ((b : Int) + (i : Nat)), rfl, T l, _, l[b + i], rfl, rfl, hz, ?_, .str (T al), rfl, l[b + i], T al, rfl, rfl, _, rfl, ite2 (fun e => ?_) (fun e => ?_)⟩
      · rw [show (b : Int) + ((i : Nat) : Int) = ((b + i : Nat) : Int) by omega]
        exact atI_nat hc
      · have hout : l[b + i] ∉ al := by
          have e1 : (!decide (l[b + i] ∈ al)) = true := e
          simpa using e1
        refine ⟨.int ((b : Int) + (i : Nat)), rfl, ?_⟩
        rw [fo_here hc hout hle] at q
        rw [show (b : Int) + ((i : Nat) : Int) = ((b + i : Nat) : Int) by omega]
        exact q
      · have hin : l[b + i] ∈ al := by
          have e1 : ¬ (!decide (l[b + i] ∈ al)) = true := e
          simpa using e1
        exact ⟨rfl, fo_step hc hin hle, _, rfl⟩
    · rintro σ H' ⟨rfl, hle, cv, rfl⟩
      rw [fo_end hb hle] at q
      refine ⟨.str (T l), rfl, T l, rfl, hz, ?_⟩
      rw [T_len]
      exact q
end
/-! ### the name's line, a text's line -/
def ncl : List Nat := [48, 49, 50, 51, 52, 53, 54, 55, 56, 57, 65, 66, 67, 68, 69, 70, 71, 72, 73, 74, 75, 76, 77, 78, 79, 80, 81, 82, 83, 84, 85, 86, 87, 88, 89, 90, 97, 98, 99, 100, 101, 102, 103, 104, 105, 106, 107, 108, 109, 110, 111, 112, 113, 114, 115, 116, 117, 118, 119, 120, 121, 122]
def lets : List Nat := [65, 67, 71, 84, 78]
def nameFault (sg : Nat) (l : List Nat) : Option Nat :=
  if l.head? = some sg then (if min (fo l ncl 1) 41 < l.length ∨ l.length = 1 then some (min (fo l ncl 1) 41) else none) else some 0
def textFault (room : Nat) (l : List Nat) : Option Nat :=
  if min (fo l lets 0) room < l.length ∨ l = [] then some (min (fo l lets 0) room) else none
theorem start_one (l : List Nat) (s : Nat) : Txt.startswith (T l) (T [s]) = decide (l.head? = some s) := by
  unfold Txt.startswith Builtin.Str.subAt
  rw [T_len, T_len]
  cases l with
  | nil => rfl
  | cons c r =>
    have e1 : (T (c :: r)).cps.extract 0 (0 + [s].length) = #[c] := by
      show (c :: r).toArray.extract 0 1 = #[c]
      simp
    rw [e1]
    show (decide (0 + 1 ≤ r.length + 1) && (#[c] == #[s])) = decide (some c = some s)
    rw [decide_eq_true (by omega), Bool.true_and]
    by_cases h : c = s
    · subst h
      simp
    · have : ¬ (#[c] : Array Nat) = #[s] := fun z => h (by simpa using z)
      rw [beq_eq_false_iff_ne.mpr this]
      simp [h]
theorem cut_from (l : List Nat) (k : Nat) : cutS (T l) (some (k : Int)) none = T (l.drop k) := by
  unfold cutS
  rw [HT.sIx_nat, HT.sIx_none, T_len, T_list]
  show Str.mk _ = Str.mk _
  congr 2
  rw [List.take_of_length_le (by rw [List.length_drop]; omega)]
  by_cases h : k ≤ l.length
  · rw [Nat.min_eq_left h]
  · rw [Nat.min_eq_right (by omega), List.drop_of_length_le (Nat.le_refl _), List.drop_of_length_le (by omega)]
section
variable {P : Program} {w : World} {K : PySem.W.Frag} {mg : Str → Option Value} {base : Heap}
theorem min_int (a b : Nat) : (if ((b : Nat) : Int) < ((a : Nat) : Int) then ((b : Nat) : Int) else ((a : Nat) : Int)) = ((min a b : Nat) : Int) := by
  by_cases h : b < a
  · rw [if_pos (by omega), Nat.min_eq_right (by omega)]
  · rw [if_neg (by omega), Nat.min_eq_left (by omega)]
/-- a def of the module that may let InvalidLine out -/
def HasX (P : Program) (w : World) (K : PySem.W.Frag) (mg : Str → Option Value) (base : Heap) (k : Nat) (x : Str) (ps : List Str) (sp : Sp) : Prop :=
  ∃ f fd, FnOk P w K mg base (L2.CX P w) k f fd ps sp ∧ mg x = some (.ref f) ∧ PySem.W.keepIn K (.ref f) = true ∧ Binds K fd ps []
/-- a def of the module that keeps a promise -/
def Has (P : Program) (w : World) (K : PySem.W.Frag) (mg : Str → Option Value) (base : Heap) (k : Nat) (x : Str) (ps : List Str) (sp : Sp) : Prop :=
  ∃ f fd, FnOk P w K mg base CX0 k f fd ps sp ∧ mg x = some (.ref f) ∧ PySem.W.keepIn K (.ref f) = true ∧ Binds K fd ps []
def spName (K : PySem.W.Frag) (C : Addr) : Sp := fun vs H Q E => ∃ (a : Addr) (ls : List (List Nat)) (j sg : Nat), vs = [.ref a, .int (j : Int), .str (T [sg])] ∧ SqS K H a ls ∧ (∀ l ∈ ls, l.length ≤ 1000000) ∧
  (ls.length ≤ j → Bad E C H ls.length 0) ∧ (∀ l, ls[j]? = some l → nameFault sg l = none → Q (.str (T (l.drop 1))) H) ∧ ∀ l c, ls[j]? = some l → nameFault sg l = some c → Bad E C H j c
theorem ok_name {f C fI : Addr} {fd fdI : FuncData} {k : Nat} {t1 t2 : Tok} (F : Fun K "_name_line" "_name_line" sNameLine f fd) (D : IL K mg C fI fdI) (ml : mg "len" = none) (mm : mg "min" = none) (gN : mg "NAME_CHARACTERS" = some (.str (T ncl) t1)) (gL : mg "_LONGEST_NAME" = some (.int 40 t2))
    (hA : HasX P w K mg base 3 "_line_at" ["lines", "at"] (spLineAt K C)) (hF : Has P w K mg base 1 "_first_other" ["line", "begin", "allowed"] spFirst) : FnOk P w K mg base (L2.CX P w) (k + 4) f fd ["lines", "at", "sign"] (spName K C) := by
  obtain ⟨fA, dA, GA, gA, kA, bA⟩ := hA
  obtain ⟨fF, dF, GF, gF, kF, bF⟩ := hF
  refine F.okX scNameLine (fun vs H Q E h => ?_) (fun cdv A outer s H vs Q E hr h => ?_)
  · obtain ⟨a, ls, j, sg, rfl, _⟩ := h
    rfl
  · obtain ⟨a, ls, j, sg, rfl, hS, hlen, qe, qg, qb⟩ := h
    refine ⟨_, pss_cons (ps_set (i := 3) scNameLine.nd rfl (.inl rfl) (pe_call GA (hr.mono (by omega)) (by rfl) gA kA bA .nil (passes_call (takes_of rfl rfl rfl rfl) fun _ _ _ _ h => h) (pa_cons (pv 0) (pa_cons (pv 1) pa_nil))))
      (pss_cons (ps_if (pt_not (pt_val (pe_bm PySem.F.plainAttrs_str PySem.F.slot_str_startswith PySem.F.type_str_startswith mt_startswith (pv 3) (pa_cons (pv 2) pa_nil))))
        (pss_one (ps_raise rfl (takes_of rfl rfl rfl rfl) (pmk_oex D.T D.iC D.tI (ok_init D) (hr.mono (by omega)) D.b .nil pass0 (by rfl) D.gC (pa_cons (pv 1) (pa_cons pe_int pa_nil))))) pss_nil)
      (pss_cons (ps_set (i := 4) scNameLine.nd rfl (.inl rfl) (pe_callB (call_min2 rfl) (by rfl) mm (by decide +kernel)
        (pa_cons (pe_call GF (hr.mono (by omega)) (by rfl) gF kF bF .nil pass0 (pa_cons (pv 3) (pa_cons pe_int (pa_cons (pe_glob (v := .str (T ncl)) (by rfl) gN ⟨_, rfl⟩) pa_nil))))
          (pa_cons (pe_op op_add pe_int (pe_glob (v := .int 40) (by rfl) gL ⟨_, rfl⟩)) pa_nil))))
      (pss_cons (ps_if (PW.pt (pw_or (pt_cmpR op_lt (pv 4) (pe_callB call_len_str (by rfl) ml PySem.boot_len (pa_cons (pv 3) pa_nil)) (nomark _)) (pw_or1 (pt_cmpR op_eq (pe_callB call_len_str (by rfl) ml PySem.boot_len (pa_cons (pv 3) pa_nil)) pe_int (nomark _)))))
        (pss_one (ps_raise rfl (takes_of rfl rfl rfl rfl) (pmk_oex D.T D.iC D.tI (ok_init D) (hr.mono (by omega)) D.b .nil pass0 (by rfl) D.gC (pa_cons (pv 1) (pa_cons (pv 4) pa_nil))))) pss_nil)
      (pss_one (ps_ret (pe_slice sl_str (pv 3) (po_some pe_int) po_none)))))), ?_⟩
    refine ⟨.ref a, rfl, .int j, rfl, a, ls, j, rfl, hS, fun l hl => ?_, qe⟩
    have hz0 : l.length ≤ 1000000 := hlen l (List.mem_of_getElem? hl)
    have hz : (T l).length ≤ sizeLine := line_ok6 (by rw [T_len]; exact hz0)
    refine ⟨.str (T l), rfl, rfl, .str (T [sg]), rfl, _, _, rfl, rfl, _, rfl, ?_⟩
    rw [start_one]
    by_cases hh : l.head? = some sg
    · rw [decide_eq_true hh]
      refine iteF ?_
      have h1 : 1 ≤ l.length := by
        cases l with
        | nil => cases hh
        | cons c r => simp
      refine ⟨.str (T l), rfl, l, ncl, 1, rfl, h1, hz0, _, 40, rfl, rfl, _, _, rfl, ?_⟩
      rw [show (1 + 40 : Int) = ((41 : Nat) : Int) by decide, min_int]
      have hfl : (min (fo l ncl 1) 41 < l.length ∨ l.length = 1) → nameFault sg l = some (min (fo l ncl 1) 41) := fun z => by
        unfold nameFault
        rw [if_pos hh, if_pos z]
      refine ⟨_, rfl, .str (T l), rfl, T l, rfl, hz, _, _, rfl, rfl, _, rfl, ite2 (fun e => ?_) (fun e => ?_)⟩
      · have e1 : ((min (fo l ncl 1) 41 : Nat) : Int) < (((T l).length : Nat) : Int) := of_decide_eq_true e
        rw [T_len] at e1
        refine iteT ⟨.int j, rfl, _, rfl, by show 2 ≤ 1000; decide, fun x hx => ?_⟩
        exact bad_read (qb l _ hl (hfl (.inl (by omega)))) x hx
      · have e1 : ¬ ((min (fo l ncl 1) 41 : Nat) : Int) < (((T l).length : Nat) : Int) := fun z => e (decide_eq_true z)
        rw [T_len] at e1
        refine ⟨.str (T l), rfl, T l, rfl, hz, rfl, _, rfl, ite2 (fun e2 => ?_) (fun e2 => ?_)⟩
        · have e3 : (V.int ((T l).length : Nat)) = V.int 1 := of_decide_eq_true e2
          rw [T_len] at e3
          have e4 : ((l.length : Nat) : Int) = 1 := V.int.inj e3
          refine ⟨.int j, rfl, _, rfl, by show 2 ≤ 1000; decide, fun x hx => ?_⟩
          exact bad_read (qb l _ hl (hfl (.inr (by omega)))) x hx
        · have e3 : ¬ (V.int ((T l).length : Nat)) = V.int 1 := fun z => e2 (decide_eq_true z)
          rw [T_len] at e3
          have e4 : ¬ l.length = 1 := fun z => e3 (by rw [z]; rfl)
          refine ⟨.str (T l), rfl, 1, rfl, T l, rfl, hz, ?_⟩
          rw [show ((1 : Int)) = ((1 : Nat) : Int) by rfl, cut_from]
          refine qg l hl ?_
          unfold nameFault
          rw [if_pos hh, if_neg (by omega)]
    · rw [decide_eq_false hh]
      refine iteT ⟨.int j, rfl, by show 2 ≤ 1000; decide, fun x hx => ?_⟩
      exact bad_read (qb l 0 hl (by unfold nameFault; rw [if_neg hh])) x hx
end
section
variable {P : Program} {w : World} {K : PySem.W.Frag} {mg : Str → Option Value} {base : Heap}
def spTextLine (K : PySem.W.Frag) (C : Addr) : Sp := fun vs H Q E => ∃ (a : Addr) (ls : List (List Nat)) (j room : Nat), vs = [.ref a, .int (j : Int), .int (room : Int)] ∧ SqS K H a ls ∧ (∀ l ∈ ls, l.length ≤ 1000000) ∧
  (ls.length ≤ j → Bad E C H ls.length 0) ∧ (∀ l, ls[j]? = some l → textFault room l = none → Q (.str (T l)) H) ∧ ∀ l c, ls[j]? = some l → textFault room l = some c → Bad E C H j c
theorem ok_textLine {f C fI : Addr} {fd fdI : FuncData} {k : Nat} {t1 : Tok} (F : Fun K "_text_line" "_text_line" sTextLine f fd) (D : IL K mg C fI fdI) (ml : mg "len" = none) (mm : mg "min" = none) (gN : mg "LETTERS" = some (.str (T lets) t1))
    (hA : HasX P w K mg base 3 "_line_at" ["lines", "at"] (spLineAt K C)) (hF : Has P w K mg base 1 "_first_other" ["line", "begin", "allowed"] spFirst) : FnOk P w K mg base (L2.CX P w) (k + 4) f fd ["lines", "at", "room"] (spTextLine K C) := by
  obtain ⟨fA, dA, GA, gA, kA, bA⟩ := hA
  obtain ⟨fF, dF, GF, gF, kF, bF⟩ := hF
  refine F.okX scTextLine (fun vs H Q E h => ?_) (fun cdv A outer s H vs Q E hr h => ?_)
  · obtain ⟨a, ls, j, sg, rfl, _⟩ := h
    rfl
  · obtain ⟨a, ls, j, room, rfl, hS, hlen, qe, qg, qb⟩ := h
    refine ⟨_, pss_cons (ps_set (i := 3) scTextLine.nd rfl (.inl rfl) (pe_call GA (hr.mono (by omega)) (by rfl) gA kA bA .nil (passes_call (takes_of rfl rfl rfl rfl) fun _ _ _ _ h => h) (pa_cons (pv 0) (pa_cons (pv 1) pa_nil))))
      (pss_cons (ps_set (i := 4) scTextLine.nd rfl (.inl rfl) (pe_callB (call_min2 rfl) (by rfl) mm (by decide +kernel)
        (pa_cons (pe_call GF (hr.mono (by omega)) (by rfl) gF kF bF .nil pass0 (pa_cons (pv 3) (pa_cons pe_int (pa_cons (pe_glob (v := .str (T lets)) (by rfl) gN ⟨_, rfl⟩) pa_nil)))) (pa_cons (pv 2) pa_nil))))
      (pss_cons (ps_if (PW.pt (pw_or (pt_cmpR op_lt (pv 4) (pe_callB call_len_str (by rfl) ml PySem.boot_len (pa_cons (pv 3) pa_nil)) (nomark _)) (pw_or1 (pt_cmpR op_eq (pv 3) pe_str (nomark _)))))
        (pss_one (ps_raise rfl (takes_of rfl rfl rfl rfl) (pmk_oex D.T D.iC D.tI (ok_init D) (hr.mono (by omega)) D.b .nil pass0 (by rfl) D.gC (pa_cons (pv 1) (pa_cons (pv 4) pa_nil))))) pss_nil)
      (pss_one (ps_ret (pv 3))))), ?_⟩
    refine ⟨.ref a, rfl, .int j, rfl, a, ls, j, rfl, hS, fun l hl => ?_, qe⟩
    have hz0 : l.length ≤ 1000000 := hlen l (List.mem_of_getElem? hl)
    have hz : (T l).length ≤ sizeLine := line_ok6 (by rw [T_len]; exact hz0)
    refine ⟨.str (T l), rfl, l, lets, 0, rfl, Nat.zero_le _, hz0, .int room, rfl, _, _, rfl, ?_⟩
    rw [min_int]
    have hfl : (min (fo l lets 0) room < l.length ∨ l = []) → textFault room l = some (min (fo l lets 0) room) := fun z => by
      unfold textFault
      rw [if_pos z]
    refine ⟨_, rfl, .str (T l), rfl, T l, rfl, hz, _, _, rfl, rfl, _, rfl, ite2 (fun e => ?_) (fun e => ?_)⟩
    · have e1 : ((min (fo l lets 0) room : Nat) : Int) < (((T l).length : Nat) : Int) := of_decide_eq_true e
      rw [T_len] at e1
      refine iteT ⟨.int j, rfl, _, rfl, by show 2 ≤ 1000; decide, fun x hx => ?_⟩
      exact bad_read (qb l _ hl (hfl (.inl (by omega)))) x hx
    · have e1 : ¬ ((min (fo l lets 0) room : Nat) : Int) < (((T l).length : Nat) : Int) := fun z => e (decide_eq_true z)
      rw [T_len] at e1
      refine ⟨.str (T l), rfl, rfl, _, rfl, ite2 (fun e2 => ?_) (fun e2 => ?_)⟩
      · have e3 : V.str (T l) = V.str (Str.ofString "") := of_decide_eq_true e2
        have e4 : l = [] := T_inj ((V.str.inj e3).trans T_nil)
        refine ⟨.int j, rfl, _, rfl, by show 2 ≤ 1000; decide, fun x hx => ?_⟩
        exact bad_read (qb l _ hl (hfl (.inr e4))) x hx
      · have e4 : ¬ l = [] := fun z => e2 (decide_eq_true (by rw [z, T_nil]))
        refine ⟨.str (T l), rfl, qg l hl ?_⟩
        unfold textFault
        refine if_neg fun z => ?_
        rcases z with z | z
        · omega
        · exact e4 z
end
theorem textFault_room {room : Nat} {l : List Nat} (h : textFault room l = none) : l ≠ [] ∧ l.length ≤ room ∧ l.length ≤ fo l lets 0 := by
  unfold textFault at h
  by_cases c : min (fo l lets 0) room < l.length ∨ l = []
  · rw [if_pos c] at h
    cases h
  · exact ⟨fun z => c (.inr z), by omega, by omega⟩
/-! ### texts in lines of k letters -/
def ch (k : Nat) (t : List Nat) : List (List Nat) := (List.range ((t.length + k - 1) / k)).map fun i => (t.drop (i * k)).take k
theorem ch_part (k : Nat) (t : List Nat) : ∀ n : Nat, ((List.range n).map fun i => (t.drop (i * k)).take k).flatten = t.take (n * k)
  | 0 => by
    rw [Nat.zero_mul, List.take_zero]
    rfl
  | n + 1 => by
    rw [List.range_succ, List.map_append, List.flatten_append, ch_part k t n, Nat.succ_mul, List.take_add]
    simp
theorem ch_flat {k : Nat} (hk : 0 < k) (t : List Nat) : (ch k t).flatten = t := by
  unfold ch
  rw [ch_part]
  refine List.take_of_length_le ?_
  have h1 := Nat.div_add_mod (t.length + k - 1) k
  have h2 := Nat.mod_lt (t.length + k - 1) hk
  rw [Nat.mul_comm]
  omega
theorem ch_lt {k i : Nat} (hk : 0 < k) {t : List Nat} (hi : i < (t.length + k - 1) / k) : i * k < t.length := by
  have h1 := Nat.div_mul_le_self (t.length + k - 1) k
  have h2 : (i + 1) * k ≤ (t.length + k - 1) / k * k := Nat.mul_le_mul_right k hi
  rw [Nat.succ_mul] at h2
  omega
theorem ch_mem {k : Nat} (hk : 0 < k) {t l : List Nat} (h : l ∈ ch k t) : l ≠ [] ∧ ∀ c ∈ l, c ∈ t := by
  obtain ⟨i, hi, rfl⟩ := List.mem_map.mp h
  have hlt := ch_lt hk (List.mem_range.mp hi)
  refine ⟨fun z => ?_, fun c hc => List.mem_of_mem_drop (List.mem_of_mem_take hc)⟩
  have e := congrArg List.length z
  rw [List.length_take, List.length_drop, List.length_nil] at e
  omega
theorem ch_len (k : Nat) (t : List Nat) : (ch k t).length = (t.length + k - 1) / k := by
  unfold ch
  rw [List.length_map, List.length_range]
theorem ch_get {k i : Nat} {t : List Nat} (hi : i < (t.length + k - 1) / k) : (ch k t)[i]? = some ((t.drop (i * k)).take k) := by
  unfold ch
  rw [List.getElem?_map, List.getElem?_range hi]
  rfl
theorem rg_ch {n k : Nat} (hn : n ≤ 1000000) (h1 : 1 ≤ k) (hk : k ≤ 1000) : RgC 0 (n : Int) (k : Int) ((n + k - 1) / k) := by
  have h0 : (0 : Int) ≤ (n : Int) := by omega
  have hc : (1 : Int) ≤ (k : Int) := by omega
  have e : (((n + k - 1) / k : Nat) : Int) = ((n : Int) + (k : Int) - 1) / (k : Int) := by
    rw [Int.natCast_ediv, show ((n + k - 1 : Nat) : Int) = (n : Int) + (k : Int) - 1 by omega]
  refine ⟨by omega, by omega, ?_, ?_⟩
  · unfold Builtin.Range.small
    rw [rangeSize_pos hc h0, ← e]
    have q1 : (n + k - 1) / k ≤ n + k - 1 := Nat.div_le_self _ _
    generalize (n + k - 1) / k = qq at q1
    simp only [Builtin.Range.rangeFitsLong, Bool.and_eq_true, Bool.or_eq_true, decide_eq_true_eq, beq_iff_eq]
    refine ⟨⟨⟨⟨by omega, by omega, by omega⟩, by omega, by omega⟩, by omega, by omega⟩, .inr ?_⟩
    rw [if_pos (by omega), Bool.and_eq_true, decide_eq_true_eq, decide_eq_true_eq]
    omega
  · rw [rangeSize_pos hc h0, e]
theorem cut_mid (l : List Nat) (a b : Nat) : cutS (T l) (some (a : Int)) (some (b : Int)) = T ((l.drop a).take (b - a)) := by
  unfold cutS
  rw [HT.sIx_nat, HT.sIx_nat, T_len, T_list]
  show Str.mk _ = Str.mk _
  congr 2
  by_cases ha : a ≤ l.length
  · rw [Nat.min_eq_left ha]
    by_cases hb : b ≤ l.length
    · rw [Nat.min_eq_left hb]
    · rw [Nat.min_eq_right (by omega), List.take_of_length_le (by rw [List.length_drop]; omega), List.take_of_length_le (by rw [List.length_drop]; omega)]
  · rw [Nat.min_eq_right (a := a) (by omega), List.drop_of_length_le (Nat.le_refl _), List.drop_of_length_le (by omega), List.take_nil, List.take_nil]
/-! ### pairs of name and text -/
def Tups (H : Hp) : List V → List (List Nat × List Nat) → Prop := Paired fun v r => ∃ q, v = .ref q ∧ H q = some (.tup [.str (T r.1), .str (T r.2)])
theorem Tups.mono {H H' : Hp} {xs : List V} {rs : List (List Nat × List Nat)} (h : Tups H xs rs) (k : ∀ q ys, H q = some (.tup ys) → H' q = some (.tup ys)) : Tups H' xs rs :=
  Paired.mapP h fun _ _ ⟨q, e, t⟩ => ⟨q, e, k q _ t⟩
theorem Tups.snoc {H : Hp} {xs : List V} {rs : List (List Nat × List Nat)} {q : Addr} {r : List Nat × List Nat} (h : Tups H xs rs) (e : H q = some (.tup [.str (T r.1), .str (T r.2)])) : Tups H (xs ++ [.ref q]) (rs ++ [r]) :=
  Paired.snoc h ⟨q, rfl, e⟩
theorem paired_len {α β : Type} {F : α → β → Prop} : ∀ {xs : List α} {ys : List β}, Paired F xs ys → xs.length = ys.length
  | _, _, .nil => rfl
  | _, _, .cons _ t => congrArg (· + 1) (paired_len t)
theorem paired_get {α β : Type} {F : α → β → Prop} : ∀ {xs : List α} {ys : List β} {i : Nat} {x : α}, Paired F xs ys → xs[i]? = some x → ∃ y, ys[i]? = some y ∧ F x y
  | _, _, 0, _, .cons r _, e => ⟨_, rfl, by cases e; exact r⟩
  | _, _, i + 1, _, .cons _ t, e => paired_get (i := i) t e
/-! ### data as a whole -/
def Asc (l : List Nat) : Prop := ∀ c ∈ l, c < 128
def dS (l : List Nat) : PyData := .str (T l)
def dL (ls : List (List Nat)) : PyData := .list (ls.map dS)
def dR (rs : List (List Nat × List Nat)) : PyData := .list (rs.map fun r => .tuple [dS r.1, dS r.2])
theorem can_dS {l : List Nat} (h : Asc l) : (dS l).canLay0 = true := by
  show PyData.strOk (T l) = true
  unfold PyData.strOk
  rw [Array.all_eq_true]
  intro i hi
  have hi2 : i < l.length := by rw [T_size] at hi; exact hi
  have e : (T l).cps[i]? = l[i]? := T_at l i
  rw [Array.getElem?_eq_getElem hi, List.getElem?_eq_getElem hi2] at e
  rw [Option.some.inj e]
  have := h _ (List.getElem_mem hi2)
  exact decide_eq_true (by omega)
theorem can_dL {ls : List (List Nat)} (h : ∀ l ∈ ls, Asc l) : (dL ls).canLay0 = true := by
  show PyData.canLayAll0 (ls.map dS) = true
  induction ls with
  | nil => rfl
  | cons l r ih =>
    show ((dS l).canLay0 && PyData.canLayAll0 (r.map dS)) = true
    rw [can_dS (h l List.mem_cons_self), ih fun x hx => h x (List.mem_cons_of_mem _ hx)]
    rfl
theorem depth_dL (ls : List (List Nat)) : PyData.depth (dL ls) ≤ 64 := by
  have : PyData.depthAll (ls.map dS) = 0 := by
    induction ls with
    | nil => rfl
    | cons l r ih =>
      show max (PyData.depth (dS l)) (PyData.depthAll (r.map dS)) = 0
      rw [ih]
      rfl
  show PyData.depthAll (ls.map dS) + 1 ≤ 64
  omega
theorem shaped_dL {ls : List (List Nat)} (h : ∀ l ∈ ls, Asc l) : SeqAt.shaped (dL ls) = true := by
  unfold SeqAt.shaped
  rw [can_dL h, decide_eq_true (depth_dL ls)]
  rfl
theorem can_dR {rs : List (List Nat × List Nat)} (h : ∀ r ∈ rs, Asc r.1 ∧ Asc r.2) : (dR rs).canLay0 = true := by
  show PyData.canLayAll0 (rs.map fun r => .tuple [dS r.1, dS r.2]) = true
  induction rs with
  | nil => rfl
  | cons l r ih =>
    show (((dS l.1).canLay0 && ((dS l.2).canLay0 && true)) && PyData.canLayAll0 (r.map fun r => .tuple [dS r.1, dS r.2])) = true
    rw [can_dS (h l List.mem_cons_self).1, can_dS (h l List.mem_cons_self).2, ih fun x hx => h x (List.mem_cons_of_mem _ hx)]
    rfl
theorem depth_dR (rs : List (List Nat × List Nat)) : PyData.depth (dR rs) ≤ 64 := by
  have : PyData.depthAll (rs.map fun r => .tuple [dS r.1, dS r.2]) ≤ 1 := by
    induction rs with
    | nil => exact Nat.zero_le _
    | cons l r ih =>
      show max (max 0 (max 0 0) + 1) (PyData.depthAll (r.map fun r => .tuple [dS r.1, dS r.2])) ≤ 1
      omega
  show PyData.depthAll (rs.map fun r => .tuple [dS r.1, dS r.2]) + 1 ≤ 64
  omega
theorem shaped_dR {rs : List (List Nat × List Nat)} (h : ∀ r ∈ rs, Asc r.1 ∧ Asc r.2) : SeqAt.shaped (dR rs) = true := by
  unfold SeqAt.shaped
  rw [can_dR h, decide_eq_true (depth_dR rs)]
  rfl
section
variable {K : PySem.W.Frag}
theorem dp_strs {H : Hp} : ∀ ls : List (List Nat), DpAll K H (ls.map fun l => V.str (T l)) (ls.map dS)
  | [] => .nil
  | l :: r => .cons (.str _) (dp_strs r)
theorem dp_dL {H : Hp} {a : Addr} {ls : List (List Nat)} (h : SqS K H a ls) : Dp K H (.ref a) (dL ls) := .lst h (dp_strs ls)
theorem dp_tups {H : Hp} : ∀ {xs : List V} {rs : List (List Nat × List Nat)}, Tups H xs rs → DpAll K H xs (rs.map fun r => .tuple [dS r.1, dS r.2])
  | _, _, .nil => .nil
  | _, _, .cons ⟨_, e, h⟩ t => .cons (by rw [e]; exact .tup (.inl (.inl h)) (.cons (.str _) (.cons (.str _) .nil))) (dp_tups t)
theorem dp_dR {H : Hp} {a : Addr} {xs : List V} {rs : List (List Nat × List Nat)} (h : SqL K H a xs) (t : Tups H xs rs) : Dp K H (.ref a) (dR rs) := .lst h (dp_tups t)
end
theorem sg_asc {c : Nat} (h : Sg c) : c < 128 := by
  rcases h with h | h | h | h | h <;> omega
theorem dna_asc {l : List Nat} (h : Dna l) : Asc l := fun c hc => sg_asc (h c hc)
/-! ### marks -/
def mks : List Nat := [48, 49, 50, 51, 52, 53, 54, 55, 56, 57, 65, 66, 67, 68, 69, 70, 71, 72, 73, 74, 75, 76, 77, 78, 79, 80, 81, 82, 83, 84, 85, 86, 87, 88, 89, 90, 97, 98, 99, 100, 101]
theorem mks_text : Str.ofString "0123456789ABCDEFGHIJKLMNOPQRSTUVWXYZabcde" = T mks := by decide +kernel
theorem mks_asc : ∀ c ∈ mks, c < 128 := by decide
theorem mks_occ : ∀ c ∈ mks, Builtin.Str.occurrences (T mks) ⟨#[c]⟩ 0 (T mks).length 1 = [mks.idxOf c] := by decide +kernel
def mIx (c : Nat) : Int := (mks.idxOf c : Nat)
def mSg (i : Int) : Nat := mks.getD i.toNat 0
theorem mIx_sg : ∀ n, n < 41 → mIx (mSg ((n : Nat) : Int)) = ((n : Nat) : Int) ∧ mSg ((n : Nat) : Int) ∈ mks ∧ mks[n]? = some (mSg ((n : Nat) : Int)) := by decide
def marksFault (many : Nat) (l : List Nat) : Option Nat :=
  if min (fo l mks 0) many < l.length ∨ l.length < many then some (min (fo l mks 0) many) else none
theorem marks_in {many : Nat} {l : List Nat} (h : marksFault many l = none) : l.length = many ∧ ∀ c ∈ l, c ∈ mks := by
  unfold marksFault at h
  by_cases c : min (fo l mks 0) many < l.length ∨ l.length < many
  · rw [if_pos c] at h
    cases h
  · have h1 : l.length ≤ fo l mks 0 := by omega
    refine ⟨by omega, fun x hx => ?_⟩
    refine Decidable.byContradiction fun hn => ?_
    obtain ⟨i, hi, e⟩ := List.mem_iff_getElem.mp hx
    have hlt : (l.drop 0).findIdx (fun c => decide (c ∉ mks)) < (l.drop 0).length := by
      refine List.findIdx_lt_length.mpr ⟨x, ?_, decide_eq_true hn⟩
      rw [List.drop_zero]
      exact hx
    rw [List.drop_zero] at hlt
    unfold fo at h1
    rw [List.drop_zero] at h1
    omega
section
variable {P : Program} {w : World} {K : PySem.W.Frag} {mg : Str → Option Value} {base : Heap}
abbrev LI (ns : List Int) : HO := .lst (ns.map V.int)
def rSix : V → List V → Hp → VK → Prop := fun x xs H Q => ∃ a b i rest, x = .str a ∧ xs = [.str b] ∧ Builtin.Str.occurrences a b 0 a.length 1 = i :: rest ∧ Q (.int (i : Nat)) H
def spMarks (K : PySem.W.Frag) (C : Addr) : Sp := fun vs H Q E => ∃ (a : Addr) (ls : List (List Nat)) (j many : Nat), vs = [.ref a, .int (j : Int), .int (many : Int)] ∧ SqS K H a ls ∧ (∀ l ∈ ls, l.length ≤ 1000000) ∧ many ≤ 100000 ∧
  (ls.length ≤ j → Bad E C H ls.length 0) ∧ (∀ l, ls[j]? = some l → marksFault many l = none → ∀ (H' : Hp) (p : Addr), Same H H' → H p = none → H' p = some (LI (l.map mIx)) → Q (.ref p) H') ∧ ∀ l c, ls[j]? = some l → marksFault many l = some c → Bad E C H j c
theorem ok_marks {f C fI : Addr} {fd fdI : FuncData} {k : Nat} {t1 : Tok} (F : Fun K "_marks_line" "_marks_line" sMarksLine f fd) (D : IL K mg C fI fdI) (ml : mg "len" = none) (mm : mg "min" = none) (gN : mg "MARKS" = some (.str (T mks) t1))
    (hA : HasX P w K mg base 3 "_line_at" ["lines", "at"] (spLineAt K C)) (hF : Has P w K mg base 1 "_first_other" ["line", "begin", "allowed"] spFirst) : FnOk P w K mg base (L2.CX P w) (k + 4) f fd ["lines", "at", "many"] (spMarks K C) := by
  obtain ⟨fA, dA, GA, gA, kA, bA⟩ := hA
  obtain ⟨fF, dF, GF, gF, kF, bF⟩ := hF
  refine F.okX scMarksLine (fun vs H Q E h => ?_) (fun cdv A outer s H vs Q E hr h => ?_)
  · obtain ⟨a, ls, j, sg, rfl, _⟩ := h
    rfl
  · obtain ⟨a, ls, j, many, rfl, hS, hlen, hmany, qe, qg, qb⟩ := h
    refine ⟨_, pss_cons (ps_set (i := 3) scMarksLine.nd rfl (.inl rfl) (pe_call GA (hr.mono (by omega)) (by rfl) gA kA bA .nil (passes_call (takes_of rfl rfl rfl rfl) fun _ _ _ _ h => h) (pa_cons (pv 0) (pa_cons (pv 1) pa_nil))))
      (pss_cons (ps_set (i := 4) scMarksLine.nd rfl (.inl rfl) (pe_callB (call_min2 rfl) (by rfl) mm (by decide +kernel)
        (pa_cons (pe_call GF (hr.mono (by omega)) (by rfl) gF kF bF .nil pass0 (pa_cons (pv 3) (pa_cons pe_int (pa_cons (pe_glob (v := .str (T mks)) (by rfl) gN ⟨_, rfl⟩) pa_nil)))) (pa_cons (pv 2) pa_nil))))
      (pss_cons (ps_if (PW.pt (pw_or (pt_cmpR op_lt (pv 4) (pe_callB call_len_str (by rfl) ml PySem.boot_len (pa_cons (pv 3) pa_nil)) (nomark _)) (pw_or1 (pt_cmpR op_lt (pe_callB call_len_str (by rfl) ml PySem.boot_len (pa_cons (pv 3) pa_nil)) (pv 2) (nomark _)))))
        (pss_one (ps_raise rfl (takes_of rfl rfl rfl rfl) (pmk_oex D.T D.iC D.tI (ok_init D) (hr.mono (by omega)) D.b .nil pass0 (by rfl) D.gC (pa_cons (pv 1) (pa_cons (pv 4) pa_nil))))) pss_nil)
      (pss_one (ps_ret (pe_lc (own := [("character", 5)]) (g := gName 5) (tt := tYes) (te := tBM K "str" rSix (tC (.str (T mks))) (tCons (tVar 5) tNil)) rfl scMarksLine.nd (pi_str (pv 3)) (blkOk_by (own := [("character", 5)]) (N := ["lines", "at", "many", "line", "column", "character"]) (sc := defScope sMarksLine) (by decide +kernel))
        (fun _ _ _ _ _ => pg_name (i := 5) scMarksLine.nd rfl (Or.inl rfl)) (fun _ _ _ _ _ => pts_nil) (fun _ _ _ _ _ => pe_bm (r := rSix) PySem.F.plainAttrs_str PySem.F.slot_str_index PySem.F.type_str_index mt_sindex (pe_glob (v := .str (T mks)) (by rfl) gN ⟨_, rfl⟩) (pa_cons (pv 5) pa_nil))))))), ?_⟩
    refine ⟨.ref a, rfl, .int j, rfl, a, ls, j, rfl, hS, fun l hl => ?_, qe⟩
    have hz0 : l.length ≤ 1000000 := hlen l (List.mem_of_getElem? hl)
    have hz : (T l).length ≤ sizeLine := line_ok6 (by rw [T_len]; exact hz0)
    refine ⟨.str (T l), rfl, l, mks, 0, rfl, Nat.zero_le _, hz0, .int many, rfl, _, _, rfl, ?_⟩
    rw [min_int]
    have hfl : (min (fo l mks 0) many < l.length ∨ l.length < many) → marksFault many l = some (min (fo l mks 0) many) := fun z => by
      unfold marksFault
      rw [if_pos z]
    refine ⟨_, rfl, .str (T l), rfl, T l, rfl, hz, _, _, rfl, rfl, _, rfl, ite2 (fun e => ?_) (fun e => ?_)⟩
    · have e1 : ((min (fo l mks 0) many : Nat) : Int) < (((T l).length : Nat) : Int) := of_decide_eq_true e
      rw [T_len] at e1
      refine iteT ⟨.int j, rfl, _, rfl, by show 2 ≤ 1000; decide, fun x hx => ?_⟩
      exact bad_read (qb l _ hl (hfl (.inl (by omega)))) x hx
    · have e1 : ¬ ((min (fo l mks 0) many : Nat) : Int) < (((T l).length : Nat) : Int) := fun z => e (decide_eq_true z)
      rw [T_len] at e1
      refine ⟨.str (T l), rfl, T l, rfl, hz, .int many, rfl, _, _, rfl, rfl, _, rfl, ite2 (fun e2 => ?_) (fun e2 => ?_)⟩
      · have e3 : (((T l).length : Nat) : Int) < ((many : Nat) : Int) := of_decide_eq_true e2
        rw [T_len] at e3
        refine ⟨.int j, rfl, _, rfl, by show 2 ≤ 1000; decide, fun x hx => ?_⟩
        exact bad_read (qb l _ hl (hfl (.inr (by omega)))) x hx
      · have e3 : ¬ (((T l).length : Nat) : Int) < ((many : Nat) : Int) := fun z => e2 (decide_eq_true z)
        rw [T_len] at e3
        have hnf : marksFault many l = none := by
          unfold marksFault
          rw [if_neg (by omega)]
        obtain ⟨hml, hmc⟩ := marks_in hnf
        refine ⟨.str (T l), rfl, T l, rfl, fun Dd hD => ?_⟩
        refine lc_gen (J := Its (T l)) (n := l.length) (fun i H' => Same H H' ∧ H' Dd = some (LI ((l.take i).map mIx))) ⟨same_upd hD, upd_same⟩ ?_ ?_ ?_ ?_
        · intro i H' hi _
          show i < (T l).cps.size
          rw [T_size]
          exact hi
        · intro H' _
          show (T l).cps.size ≤ l.length
          rw [T_size]
          exact Nat.le_refl _
        · rintro i H' x H'' hi ⟨sm, hx⟩ ⟨rfl, c, hc, rfl⟩
          rw [T_at] at hc
          refine ⟨rfl, ?_⟩
          dsimp only [tYes]
          rw [if_pos rfl]
          refine ⟨rfl, .str ⟨#[c]⟩, rfl, _, _, mks.idxOf c, [], rfl, rfl, mks_occ c (hmc c (List.mem_of_getElem? hc)), _, hx, line_lt (by rw [List.length_map, List.length_map, List.length_take]; omega), fun b o e => ?_, ?_⟩
          · rw [upd_ne (ne_of_none e hD)]
            exact sm b o e
          · rw [upd_same, List.take_add_one, hc]
            show _ = some (HO.lst _)
            rw [List.map_append, List.map_append]
            rfl
        · rintro H' ⟨sm, hx⟩
          rw [List.take_length] at hx
          exact qg l hl hnf H' Dd sm hD hx
/-! ### reads -/
abbrev Rdx := List Nat × List Nat × List Int
/-- the tuples of reads; of their marks' addresses A holds -/
def Trip (A : Addr → Prop) (H : Hp) : List V → List Rdx → Prop := Paired fun v r => ∃ q pm, v = .ref q ∧ H q = some (.tup [.str (T r.1), .str (T r.2.1), .ref pm]) ∧ H pm = some (LI r.2.2) ∧ A pm
theorem Trip.mono {A B : Addr → Prop} {H H' : Hp} {xs : List V} {rs : List Rdx} (h : Trip A H xs rs) (k : ∀ q ys, H q = some (.tup ys) → H' q = some (.tup ys)) (k2 : ∀ q ns, H q = some (LI ns) → A q → H' q = some (LI ns) ∧ B q) : Trip B H' xs rs :=
  Paired.mapP h fun _ _ ⟨q, pm, e, t, m, n⟩ => ⟨q, pm, e, k q _ t, (k2 pm _ m n).1, (k2 pm _ m n).2⟩
theorem Trip.same {A : Addr → Prop} {H H' : Hp} {xs : List V} {rs : List Rdx} (h : Trip A H xs rs) (s : Same H H') : Trip A H' xs rs := h.mono (fun q ys e => s _ _ e) fun q ns e a => ⟨s _ _ e, a⟩
theorem Trip.snoc {A : Addr → Prop} {H : Hp} {xs : List V} {rs : List Rdx} {q pm : Addr} {r : Rdx} (h : Trip A H xs rs) (e : H q = some (.tup [.str (T r.1), .str (T r.2.1), .ref pm])) (m : H pm = some (LI r.2.2)) (n : A pm) : Trip A H (xs ++ [.ref q]) (rs ++ [r]) :=
  Paired.snoc h ⟨q, pm, rfl, e, m, n⟩
def rd (ls : List (List Nat)) : Nat → Nat → List Rdx → Except (Nat × Nat) (List Rdx)
  | 0, _, acc => .ok acc
  | n + 1, i, acc =>
    match ls[i]? with
    | none => .ok acc
    | some l0 =>
      match nameFault 64 l0 with
      | some c => .error (i, c)
      | none =>
        match ls[i + 1]? with
        | none => .error (ls.length, 0)
        | some l1 =>
          match textFault 1000 l1 with
          | some c => .error (i + 1, c)
          | none =>
            match ls[i + 2]? with
            | none => .error (ls.length, 0)
            | some l2 =>
              match marksFault l1.length l2 with
              | some c => .error (i + 2, c)
              | none => rd ls n (i + 3) (acc ++ [(l0.drop 1, l1, l2.map mIx)])
def spReadReads (K : PySem.W.Frag) (C : Addr) : Sp := fun vs H Q E => ∃ (a : Addr) (ls : List (List Nat)), vs = [.ref a] ∧ SqS K H a ls ∧ (∀ l ∈ ls, l.length ≤ 1000000) ∧ ls.length ≤ 100000 ∧
  (∀ rs, rd ls ((ls.length + 3 - 1) / 3) 0 [] = .ok rs → ∀ (H' : Hp) (p : Addr) (xs : List V), Same H H' → H p = none → H' p = some (.lst xs) → Trip (fun m => H m = none) H' xs rs → Q (.ref p) H') ∧ ∀ l c, rd ls ((ls.length + 3 - 1) / 3) 0 [] = .error (l, c) → Bad E C H l c
theorem at_text : Str.ofString "@" = T [64] := by decide +kernel
theorem ok_readReads {f C : Addr} {fd : FuncData} {k : Nat} {t1 : Tok} (F : Fun K "read_reads" "read_reads" sReadReads f fd) (ml : mg "len" = none) (mr : mg "range" = none) (gL : mg "_LONGEST_READ" = some (.int 1000 t1))
    (hN : HasX P w K mg base 4 "_name_line" ["lines", "at", "sign"] (spName K C)) (hT : HasX P w K mg base 4 "_text_line" ["lines", "at", "room"] (spTextLine K C)) (hM : HasX P w K mg base 4 "_marks_line" ["lines", "at", "many"] (spMarks K C)) : FnOk P w K mg base (L2.CX P w) (k + 5) f fd ["lines"] (spReadReads K C) := by
  obtain ⟨fN, dN, GN, gN, kN, bN⟩ := hN
  obtain ⟨fT, dT, GT, gT, kT, bT⟩ := hT
  obtain ⟨fM, dM, GM, gM, kM, bM⟩ := hM
  refine F.okX scReadReads (fun vs H Q E h => ?_) (fun cdv A outer s H vs Q E hr h => ?_)
  · obtain ⟨a, ls, rfl, _⟩ := h
    rfl
  · obtain ⟨a, ls, rfl, hS, hlen, hls, qg, qb⟩ := h
    refine ⟨_, pss_cons (ps_set (i := 1) scReadReads.nd rfl (.inl rfl) (pe_lst pa_nil))
      (pss_cons (ps_for (passes_of rfl) rfl (pi_range3 rfl mr (pa_cons pe_int (pa_cons (pe_callB call_len_seq (by rfl) ml PySem.boot_len (pa_cons (pv 0) pa_nil)) (pa_cons pe_int pa_nil)))) (pg_name (i := 2) scReadReads.nd rfl (.inl rfl))
        (pss_cons (ps_set (i := 3) scReadReads.nd rfl (.inl rfl) (pe_call GN (hr.mono (by omega)) (by rfl) gN kN bN .nil (passes_call (takes_of rfl rfl rfl rfl) fun _ _ _ _ h => h) (pa_cons (pv 0) (pa_cons (pv 2) (pa_cons pe_str pa_nil)))))
        (pss_cons (ps_set (i := 4) scReadReads.nd rfl (.inl rfl) (pe_call GT (hr.mono (by omega)) (by rfl) gT kT bT .nil (passes_call (takes_of rfl rfl rfl rfl) fun _ _ _ _ h => h) (pa_cons (pv 0) (pa_cons (pe_op op_add (pv 2) pe_int) (pa_cons (pe_glob (v := .int 1000) (by rfl) gL ⟨_, rfl⟩) pa_nil)))))
        (pss_cons (ps_set (i := 5) scReadReads.nd rfl (.inl rfl) (pe_call GM (hr.mono (by omega)) (by rfl) gM kM bM .nil (passes_call (takes_of rfl rfl rfl rfl) fun _ _ _ _ h => h) (pa_cons (pv 0) (pa_cons (pe_op op_add (pv 2) pe_int) (pa_cons (pe_callB call_len_str (by rfl) ml PySem.boot_len (pa_cons (pv 4) pa_nil)) pa_nil)))))
        (pss_one (ps_expr (pe_bm PySem.F.plainAttrs_list PySem.F.slot_list_append PySem.F.type_list_append mt_append (pv 1) (pa_cons (pe_tup (pa_cons (pv 3) (pa_cons (pv 4) (pa_cons (pv 5) pa_nil)))) pa_nil))))))))
      (pss_one (ps_ret (pv 1)))), ?_⟩
    have hlm : (ls.map fun l => V.str (T l)).length = ls.length := List.length_map _
    refine ⟨Nat.zero_le _, fun p hp => ?_⟩
    refine ⟨.ref a, rfl, a, _, rfl, .inl ((same_upd hp).seq hS), 0, _, 3, (ls.length + 3 - 1) / 3, rfl, by rw [hlm]; exact rg_ch (k := 3) (by omega) (by decide) (by decide), ?_⟩
    refine for_rangeC (lo := 0) (c := 3) (n := (ls.length + 3 - 1) / 3) (fun m σ H' => ∃ (n : Nat) (xs : List V) (rs : List Rdx) (av nv tv mv : Option V), σ = [some (.ref a), some (.ref p), av, nv, tv, mv] ∧ Same H H' ∧ H' p = some (.lst xs) ∧ Trip (fun m => H m = none ∧ m ≠ p) H' xs rs ∧ n + m = (ls.length + 3 - 1) / 3 ∧ xs.length ≤ m ∧
      rd ls n (m * 3) rs = rd ls ((ls.length + 3 - 1) / 3) 0 []) ⟨(ls.length + 3 - 1) / 3, [], [], none, none, none, none, rfl, same_upd hp, upd_same, .nil, rfl, Nat.le_refl _, by rw [Nat.zero_mul]⟩ ?_ ?_
    · rintro m σ H1 hm ⟨n, xs, rs, av, nv, tv, mv, rfl, sm, hx, ht, hn, hxl, hrd⟩
      have hS1 : SqS K H1 a ls := sm.seq hS
      obtain ⟨n', rfl⟩ : ∃ n', n = n' + 1 := ⟨n - 1, by omega⟩
      have hlt : m * 3 < ls.length := ch_lt (k := 3) (by decide) (t := ls.map fun _ => 0) (by rw [List.length_map]; exact hm) |> fun z => by rw [List.length_map] at z; exact z
      have em : (0 : Int) + ((m : Nat) : Int) * 3 = ((m * 3 : Nat) : Int) := by omega
      have l0 : ls[m * 3]? = some ls[m * 3] := List.getElem?_eq_getElem hlt
      refine ⟨.ref a, rfl, _, rfl, a, ls, m * 3, 64, by rw [at_text, ← em]; rfl, hS1, hlen, fun z => by omega, fun l hl hnf => ?_, fun l c hl hnf => ?_⟩
      · have er : ∀ e, (match ls[m * 3 + 1]? with
            | none => (.error (ls.length, 0) : Except (Nat × Nat) (List Rdx))
            | some l1 =>
              match textFault 1000 l1 with
              | some c => .error (m * 3 + 1, c)
              | none =>
                match ls[m * 3 + 2]? with
                | none => .error (ls.length, 0)
                | some l2 =>
                  match marksFault l1.length l2 with
                  | some c => .error (m * 3 + 2, c)
                  | none => rd ls n' (m * 3 + 3) (rs ++ [(l.drop 1, l1, l2.map mIx)])) = e → rd ls ((ls.length + 3 - 1) / 3) 0 [] = e := by
          intro e he
          rw [← hrd, ← he]
          conv => lhs; unfold rd
          rw [hl]
          dsimp only
          rw [hnf]
        refine ⟨.ref a, rfl, _, rfl, _, 1, rfl, rfl, a, ls, m * 3 + 1, 1000, by rw [show ((m * 3 + 1 : Nat) : Int) = 0 + ((m : Nat) : Int) * 3 + 1 by omega]; rfl, hS1, hlen, fun z => ?_, fun l1 hl1 ht1 => ?_, fun l1 c hl1 ht1 => ?_⟩
        · refine (qb ls.length 0 (er _ ?_)).same sm
          rw [List.getElem?_eq_none z]
        · have hb1 : l1.length ≤ 1000000 := hlen _ (List.mem_of_getElem? hl1)
          have hz1 : (T l1).length ≤ sizeLine := line_ok6 (by rw [T_len]; exact hb1)
          have hk1 : l1.length ≤ 1000 := (textFault_room ht1).2.1
          refine ⟨.ref a, rfl, _, rfl, _, 2, rfl, rfl, .str (T l1), rfl, T l1, rfl, hz1, a, ls, m * 3 + 2, l1.length, by rw [T_len, show ((m * 3 + 2 : Nat) : Int) = 0 + ((m : Nat) : Int) * 3 + 2 by omega]; rfl, hS1, hlen, by omega, fun z => ?_, fun l2 hl2 hm2 H2 pm s2 hpm hpm2 => ?_, fun l2 c hl2 hm2 => ?_⟩
          · refine (qb ls.length 0 (er _ ?_)).same sm
            rw [hl1]
            dsimp only
            rw [ht1, List.getElem?_eq_none z]
          · have hx2 := s2 _ _ hx
            refine ⟨.ref p, rfl, .inl ⟨rfl, _, .inl (.inl hx2)⟩, .str (T (l.drop 1)), rfl, .str (T l1), rfl, .ref pm, rfl, by show 3 ≤ sizeLine; decide, fun q2 hq2 => ?_⟩
            have np : p ≠ q2 := ne_of_none hx2 hq2
            have npm : pm ≠ p := (ne_of_none hx hpm).symm
            have nqm : pm ≠ q2 := ne_of_none hpm2 hq2
            refine ⟨p, xs, _, rfl, rfl, by rw [upd_ne np]; exact hx2, line_lt (by omega), ?_⟩
            refine ⟨n', xs ++ [.ref q2], rs ++ [(l.drop 1, l1, l2.map mIx)], _, _, _, _, rfl, fun b o hb => ?_, upd_same, ?_, by omega, by rw [List.length_append, List.length_singleton]; omega, ?_⟩
            · rw [upd_ne (ne_of_none hb hp), upd_ne (ne_of_none (s2 _ _ (sm _ _ hb)) hq2)]
              exact s2 _ _ (sm _ _ hb)
            · refine Trip.snoc (pm := pm) (ht.mono (fun b ys hb => ?_) (fun b ys hb hb0 => ⟨?_, hb0⟩)) ?_ ?_ ⟨sm.free hpm, npm⟩
              · have n1 : b ≠ p := fun z => by
                  rw [z, hx] at hb
                  cases hb
                rw [upd_ne n1, upd_ne (ne_of_none (s2 _ _ hb) hq2)]
                exact s2 _ _ hb
              · rw [upd_ne hb0.2, upd_ne (ne_of_none (s2 _ _ hb) hq2)]
                exact s2 _ _ hb
              · rw [upd_ne np.symm, upd_same]
              · rw [upd_ne npm, upd_ne nqm]
                exact hpm2
            · rw [show (m + 1) * 3 = m * 3 + 3 by omega]
              refine (er _ ?_).symm
              rw [hl1]
              dsimp only
              rw [ht1, hl2]
              dsimp only
              rw [hm2]
          · refine (qb (m * 3 + 2) c (er _ ?_)).same sm
            rw [hl1]
            dsimp only
            rw [ht1, hl2]
            dsimp only
            rw [hm2]
        · refine (qb (m * 3 + 1) c (er _ ?_)).same sm
          rw [hl1]
          dsimp only
          rw [ht1]
      · refine (qb (m * 3) c ?_).same sm
        rw [← hrd]
        unfold rd
        rw [hl]
        dsimp only
        rw [hnf]
    · rintro σ H' ⟨n, xs, rs, av, nv, tv, mv, rfl, sm, hx, ht, hn, hxl, hrd⟩
      have : n = 0 := by omega
      subst this
      exact ⟨.ref p, rfl, qg rs (by rw [← hrd]; rfl) H' p xs sm hp hx (ht.mono (fun b ys e => e) fun b ys e a => ⟨e, a.1⟩)⟩
end
theorem new_ne {H : Hp} {p q : Addr} {o : HO} (h : upd H p o q = none) : q ≠ p := fun e => by
  rw [e, upd_same] at h
  cases h
theorem new_old {H : Hp} {p q : Addr} {o : HO} (h : upd H p o q = none) : H q = none := by
  rw [upd_ne (new_ne h)] at h
  exact h
theorem cell_arg2 (a : Addr) (c d i : Nat) : [V.ref a, V.int ((c : Int) + (d : Int) * (0 + ((i : Nat) : Int)))] = [V.ref a, V.int ((c + d * i : Nat) : Int)] := by
  congr 2
  rw [Int.zero_add]
  simp
theorem join_ones : ∀ l : List Nat, Str.join (T []) (l.map fun c => T [c]) = T l
  | [] => rfl
  | [c] => rfl
  | c :: e :: r => by
    have ih := join_ones (e :: r)
    show T [c] ++ T [] ++ Str.join (T []) ((e :: r).map fun c => T [c]) = _
    rw [ih, T_app, T_app]
    rfl
theorem sum_ones (l : List Nat) : ((l.map fun c => T [c]).map (·.length)).sum = l.length := by
  induction l with
  | nil => rfl
  | cons c r ih =>
    rw [List.map_cons, List.map_cons, List.sum_cons, ih, T_len, List.length_cons]
    show 1 + r.length = r.length + 1
    omega
/-! ### lines of reads -/
def wr (rs : List Rdx) : List (List Nat) := rs.flatMap fun r => [64 :: r.1, r.2.1, r.2.2.map mSg]
theorem wr_snoc {rs : List Rdx} {i : Nat} {r : Rdx} (h : rs[i]? = some r) : wr (rs.take (i + 1)) = wr (rs.take i) ++ [64 :: r.1, r.2.1, r.2.2.map mSg] := by
  unfold wr
  rw [List.take_add_one, h, List.flatMap_append]
  simp
theorem wr_len (rs : List Rdx) : (wr rs).length = rs.length * 3 := by
  induction rs with
  | nil => rfl
  | cons r t ih =>
    have e : wr (r :: t) = [64 :: r.1, r.2.1, r.2.2.map mSg] ++ wr t := by
      unfold wr
      rw [List.flatMap_cons]
    rw [e, List.length_append, ih]
    show 3 + t.length * 3 = (t.length + 1) * 3
    omega
def Mks (ns : List Int) : Prop := ∀ m ∈ ns, 0 ≤ m ∧ m < 41
theorem mk_at {m : Int} (h0 : 0 ≤ m) (h1 : m < 41) : mIx (mSg m) = m ∧ mSg m ∈ mks ∧ atI mks m = some (mSg m) := by
  obtain ⟨n, rfl⟩ : ∃ n : Nat, m = (n : Int) := ⟨m.toNat, by omega⟩
  obtain ⟨a, b, c⟩ := mIx_sg n (by omega)
  exact ⟨a, b, atI_nat c⟩
section
variable {P : Program} {w : World} {K : PySem.W.Frag} {mg : Str → Option Value} {base : Heap}
def spWriteReads (K : PySem.W.Frag) : Sp := fun vs H Q _ => ∃ (a : Addr) (xs : List V) (rs : List Rdx) (A : Addr → Prop), vs = [.ref a] ∧ SqL K H a xs ∧ Trip A H xs rs ∧ rs.length ≤ 40 ∧ (∀ r ∈ rs, r.1.length ≤ 1000 ∧ r.2.2.length ≤ 1000 ∧ Mks r.2.2) ∧
  ∀ (H' : Hp) (p : Addr), Same H H' → H p = none → H' p = some (.lst ((wr rs).map fun l => V.str (T l))) → Q (.ref p) H'
theorem ok_writeReads {f : Addr} {fd : FuncData} {k : Nat} {t1 : Tok} (F : Fun K "write_reads" "write_reads" sWriteReads f fd) (gN : mg "MARKS" = some (.str (T mks) t1)) : FnOk P w K mg base CX0 (k + 1) f fd ["reads"] (spWriteReads K) := by
  refine F.ok scWriteReads (fun vs H Q E h => ?_) (fun cdv A outer s H vs Q E hr h => ?_)
  · obtain ⟨a, xs, rs, A, rfl, _⟩ := h
    rfl
  · obtain ⟨a, xs, rs, A, rfl, hS, ht, hrl, hrs, q⟩ := h
    refine ⟨_, pss_cons (ps_set (i := 1) scWriteReads.nd rfl (.inl rfl) (pe_lst pa_nil))
      (pss_cons (ps_for PassesOwn.never rfl (pi_list (pv 0)) (pg_tup rfl (pgs_cons (pg_name (i := 2) scWriteReads.nd rfl (.inl rfl)) (pgs_cons (pg_name (i := 3) scWriteReads.nd rfl (.inl rfl)) (pgs_cons (pg_name (i := 4) scWriteReads.nd rfl (.inl rfl)) pgs_nil))))
        (pss_cons (ps_expr (pe_bm PySem.F.plainAttrs_list PySem.F.slot_list_append PySem.F.type_list_append mt_append (pv 1) (pa_cons (pe_op op_add_str pe_str (pv 2)) pa_nil)))
        (pss_cons (ps_expr (pe_bm PySem.F.plainAttrs_list PySem.F.slot_list_append PySem.F.type_list_append mt_append (pv 1) (pa_cons (pv 3) pa_nil)))
        (pss_one (ps_expr (pe_bm PySem.F.plainAttrs_list PySem.F.slot_list_append PySem.F.type_list_append mt_append (pv 1) (pa_cons (pe_join pe_str (pe_lc (own := [("mark", 5)]) (g := gName 5) (tt := tYes) (te := tOp rIxS (tC (.str (T mks))) (tVar 5)) rfl scWriteReads.nd (pi_list (pv 4))
          (blkOk_by (own := [("mark", 5)]) (N := ["reads", "lines", "name", "text", "marks", "mark"]) (sc := defScope sWriteReads) (by decide +kernel)) (fun _ _ _ _ _ => pg_name (i := 5) scWriteReads.nd rfl (Or.inl rfl)) (fun _ _ _ _ _ => pts_nil) (fun _ _ _ _ _ => pe_ix (r := rIxS) ix_str (pe_glob (v := .str (T mks)) (by rfl) gN ⟨_, rfl⟩) (pv 5) (fun _ _ => rfl)))) pa_nil)))))))
      (pss_one (ps_ret (pv 1)))), ?_⟩
    refine ⟨Nat.zero_le _, fun p hp => ?_⟩
    have hS1 : SqL K (upd H p (.lst [])) a xs := (same_upd hp).seq hS
    refine ⟨.ref a, rfl, a, rfl, ⟨_, hS1⟩, ?_⟩
    have lenx := paired_len ht
    have cap : ∀ i, (wr (rs.take i)).length ≤ 120 := fun i => by
      rw [wr_len, List.length_take]
      omega
    refine for_list (K := K) (xs := xs) (fun i σ H' => ∃ nv tv mv bv, σ = [some (.ref a), some (.ref p), nv, tv, mv, bv] ∧ Same H H' ∧ H' p = some (.lst ((wr (rs.take i)).map fun l => V.str (T l)))) ⟨none, none, none, none, rfl, same_upd hp, upd_same⟩ ?_ ?_ ?_
    · rintro i σ H' _ ⟨nv, tv, mv, bv, _, sm, _⟩
      exact sm.seq hS
    · rintro i x σ H' hix ⟨nv, tv, mv, bv, rfl, sm, hx⟩
      obtain ⟨r, hr, qa, pm, rfl, hq, hpm, _⟩ := paired_get ht hix
      obtain ⟨r1, r2, r3⟩ := hrs r (List.mem_of_getElem? hr)
      have c0 := cap i
      refine ⟨qa, _, rfl, .inl (.inl (sm _ _ hq)), rfl, _, _, rfl, _, _, rfl, _, _, rfl, rfl, ?_⟩
      refine ⟨.ref p, rfl, .inl ⟨rfl, _, .inl (.inl hx)⟩, .str (T r.1), rfl, _, _, rfl, rfl, line_ok6 (by rw [T_len, show (Str.ofString "@").length = 1 by decide +kernel]; omega), p, _, _, rfl, rfl, hx, line_lt (by rw [List.length_map]; omega), ?_⟩
      refine ⟨.ref p, rfl, .inl ⟨rfl, _, .inl (.inl upd_same)⟩, .str (T r.2.1), rfl, p, _, _, rfl, rfl, upd_same, line_lt (by rw [List.length_append, List.length_map, List.length_singleton]; omega), ?_⟩
      have npm : pm ≠ p := ne_of_none hpm hp
      generalize hH2 : upd (upd H' p (.lst ((wr (rs.take i)).map (fun l => V.str (T l)) ++ [.str (Str.ofString "@" ++ T r.1)]))) p (.lst (((wr (rs.take i)).map (fun l => V.str (T l)) ++ [.str (Str.ofString "@" ++ T r.1)]) ++ [.str (T r.2.1)])) = H2
      have s2 : Same H H2 := fun b o e => by
        rw [← hH2, upd_ne (ne_of_none e hp), upd_ne (ne_of_none e hp)]
        exact sm b o e
      have hx2 : H2 p = some (.lst (((wr (rs.take i)).map (fun l => V.str (T l)) ++ [.str (Str.ofString "@" ++ T r.1)]) ++ [.str (T r.2.1)])) := by rw [← hH2, upd_same]
      have hpm2 : SqL K H2 pm (r.2.2.map V.int) := .inl (.inl (s2 _ _ hpm))
      refine ⟨.ref p, rfl, .inl ⟨rfl, _, .inl (.inl hx2)⟩, ⟨_, rfl⟩, .ref pm, rfl, pm, rfl, ⟨_, hpm2⟩, fun D hD => ?_⟩
      refine lc_list (K := K) (xs := r.2.2.map V.int) (fun i H3 => Same H2 H3 ∧ H3 D = some (.lst (((((r.2.2.take i).map mSg).map fun c => T [c])).map V.str))) ⟨same_upd hD, upd_same⟩ ?_ ?_ ?_
      · rintro i H3 _ ⟨s3, _⟩
        exact s3.seq hpm2
      · rintro j x H3 hjx ⟨s3, hx3⟩
        rw [List.getElem?_map] at hjx
        obtain ⟨y, hy, rfl⟩ := Option.map_eq_some_iff.mp hjx
        obtain ⟨y0, y1⟩ := r3 y (List.mem_of_getElem? hy)
        refine ⟨rfl, ?_⟩
        dsimp only [tYes]
        rw [if_pos rfl]
        refine ⟨.int y, rfl, T mks, _, mSg y, rfl, rfl, by decide +kernel, (mk_at y0 y1).2.2, _, hx3, line_lt (by rw [List.length_map, List.length_map, List.length_map, List.length_take]; omega), fun b o e => ?_, ?_⟩
        · rw [upd_ne (ne_of_none e hD)]
          exact s3 b o e
        · rw [upd_same, List.take_add_one, hy, List.map_append, List.map_append, List.map_append]
          rfl
      · rintro H3 ⟨s3, hx3⟩
        rw [List.length_map, List.take_length] at hx3
        refine ⟨_, D, (r.2.2.map mSg).map fun c => T [c], rfl, rfl, .inl (.inl (.inl hx3)), ?_, ?_⟩
        · rw [sum_ones, List.length_map, show (Str.ofString "").length = 0 by decide +kernel]
          omega
        · rw [TL.join_eq, T_nil, join_ones]
          refine ⟨p, _, _, rfl, rfl, s3 _ _ hx2, line_lt (by rw [List.length_append, List.length_append, List.length_map, List.length_singleton, List.length_singleton]; omega), ?_⟩
          refine ⟨_, _, _, _, rfl, fun b o e => ?_, ?_⟩
          · rw [upd_ne (ne_of_none e hp)]
            exact s3 _ _ (s2 b o e)
          · rw [upd_same, wr_snoc hr, List.map_append]
            show some (HO.lst _) = some (HO.lst _)
            rw [at_text, T_app, List.append_assoc, List.append_assoc]
            rfl
    · rintro σ H' ⟨nv, tv, mv, bv, rfl, sm, hx⟩
      rw [lenx, List.take_length] at hx
      exact ⟨.ref p, rfl, q H' p sm hp hx⟩
end
/-! ### what is written is read again -/
def Nam (l : List Nat) : Prop := 1 ≤ l.length ∧ l.length ≤ 40 ∧ ∀ c ∈ l, c ∈ ncl
theorem fo_all {l al : List Nat} {b : Nat} (hb : b ≤ l.length) (h : ∀ c ∈ l.drop b, c ∈ al) : fo l al b = l.length := by
  refine fo_end hb ?_
  have : (l.drop b).findIdx (fun c => decide (c ∉ al)) = (l.drop b).length := by
    refine List.findIdx_eq_length_of_false fun x hx => ?_
    simpa using h x hx
  rw [this, List.length_drop]
  exact Nat.le_refl _
theorem name_ok {sg : Nat} {n : List Nat} (h : Nam n) : nameFault sg (sg :: n) = none := by
  unfold nameFault
  rw [if_pos (show (sg :: n).head? = some sg from rfl), fo_all (l := sg :: n) (al := ncl) (b := 1) (by simp) (fun c hc => h.2.2 c hc), if_neg]
  have h1 := h.1
  have h2 := h.2.1
  rw [List.length_cons]
  omega
theorem dna_lets {l : List Nat} (h : Dna l) : ∀ c ∈ l, c ∈ lets := fun c hc => by
  rcases h c hc with e | e | e | e | e <;> subst e <;> decide
theorem text_ok {l : List Nat} {room : Nat} (h : Dna l) (hne : l ≠ []) (hr : l.length ≤ room) : textFault room l = none := by
  unfold textFault
  rw [fo_all (Nat.zero_le _) (fun c hc => dna_lets h c hc), if_neg]
  rintro (z | z)
  · omega
  · exact hne z
theorem marks_ok {ns : List Int} (h : Mks ns) : marksFault ns.length (ns.map mSg) = none ∧ (ns.map mSg).map mIx = ns := by
  have hin : ∀ c ∈ ns.map mSg, c ∈ mks := fun c hc => by
    obtain ⟨m, hm, rfl⟩ := List.mem_map.mp hc
    exact (mk_at (h m hm).1 (h m hm).2).2.1
  refine ⟨?_, ?_⟩
  · unfold marksFault
    rw [fo_all (Nat.zero_le _) (fun c hc => hin c hc), if_neg]
    rw [List.length_map]
    omega
  · rw [List.map_map]
    conv => rhs; rw [← List.map_id ns]
    exact List.map_congr_left fun m hm => (mk_at (h m hm).1 (h m hm).2).1
def Good (r : Rdx) : Prop := Nam r.1 ∧ Dna r.2.1 ∧ 1 ≤ r.2.1.length ∧ r.2.1.length ≤ 1000 ∧ r.2.2.length = r.2.1.length ∧ Mks r.2.2
theorem rd_wr : ∀ (rs : List Rdx) (pre : List (List Nat)) (n : Nat) (acc : List Rdx), (∀ r ∈ rs, Good r) → rs.length ≤ n → rd (pre ++ wr rs) n pre.length acc = .ok (acc ++ rs)
  | [], pre, n, acc, _, _ => by
    cases n with
    | zero =>
      rw [List.append_nil]
      rfl
    | succ n =>
      unfold rd
      rw [List.getElem?_eq_none (by show (pre ++ []).length ≤ _; rw [List.append_nil]; exact Nat.le_refl _), List.append_nil acc]
  | r :: rs, pre, n, acc, h, hn => by
    cases n with
    | zero => simp at hn
    | succ n =>
      obtain ⟨g1, g2, g3, g4, g5, g6⟩ := h r List.mem_cons_self
      have ew : wr (r :: rs) = (64 :: r.1) :: r.2.1 :: (r.2.2.map mSg) :: wr rs := by
        unfold wr
        rw [List.flatMap_cons]
        rfl
      rw [ew]
      have a0 : (pre ++ (64 :: r.1) :: r.2.1 :: (r.2.2.map mSg) :: wr rs)[pre.length]? = some (64 :: r.1) := by simp
      have a1 : (pre ++ (64 :: r.1) :: r.2.1 :: (r.2.2.map mSg) :: wr rs)[pre.length + 1]? = some r.2.1 := by simp
      have a2 : (pre ++ (64 :: r.1) :: r.2.1 :: (r.2.2.map mSg) :: wr rs)[pre.length + 2]? = some (r.2.2.map mSg) := by simp
      obtain ⟨m1, m2⟩ := marks_ok g6
      rw [g5] at m1
      unfold rd
      rw [a0]
      dsimp only
      rw [name_ok g1]
      dsimp only
      rw [a1]
      dsimp only
      rw [text_ok g2 (fun z => by rw [z] at g3; exact absurd g3 (by decide)) g4]
      dsimp only
      rw [a2]
      dsimp only
      rw [m1]
      dsimp only
      rw [m2]
      have ih := rd_wr rs (pre ++ [64 :: r.1, r.2.1, r.2.2.map mSg]) n (acc ++ [((64 :: r.1).drop 1, r.2.1, r.2.2)]) (fun x hx => h x (List.mem_cons_of_mem _ hx)) (by rw [List.length_cons] at hn; omega)
      have e1 : pre ++ (64 :: r.1) :: r.2.1 :: (r.2.2.map mSg) :: wr rs = (pre ++ [64 :: r.1, r.2.1, r.2.2.map mSg]) ++ wr rs := by simp
      have e2 : pre.length + 3 = (pre ++ [64 :: r.1, r.2.1, r.2.2.map mSg]).length := by
        rw [List.length_append]
        rfl
      rw [e1, e2, ih, List.append_assoc]
      rfl
theorem scLaw : FnScope ["script", "signs", "reads", "lines", "k", "cell", "text", "marks", "name", "handed", "told", "given", "found", "one", "mark"] ["script"] (defScope sLaw) := ⟨rfl, rfl, rfl, by decide +kernel, rfl, by decide +kernel, by decide +kernel⟩
def dT (rs : List Rdx) : PyData := .list (rs.map fun r => .tuple [dS r.1, dS r.2.1, .list (r.2.2.map .int)])
theorem can_ints (ns : List Int) : PyData.canLayAll0 (ns.map .int) = true := by
  induction ns with
  | nil => rfl
  | cons n r ih => exact ih
theorem depth_ints (ns : List Int) : PyData.depthAll (ns.map .int) = 0 := by
  induction ns with
  | nil => rfl
  | cons n r ih =>
    show max 0 (PyData.depthAll (r.map .int)) = 0
    rw [ih]
    rfl
theorem can_dT {rs : List Rdx} (h : ∀ r ∈ rs, Asc r.1 ∧ Asc r.2.1) : (dT rs).canLay0 = true := by
  show PyData.canLayAll0 (rs.map fun r => .tuple [dS r.1, dS r.2.1, .list (r.2.2.map .int)]) = true
  induction rs with
  | nil => rfl
  | cons l r ih =>
    show (((dS l.1).canLay0 && ((dS l.2.1).canLay0 && (PyData.canLayAll0 (l.2.2.map .int) && true))) && PyData.canLayAll0 (r.map fun r => .tuple [dS r.1, dS r.2.1, .list (r.2.2.map .int)])) = true
    rw [can_dS (h l List.mem_cons_self).1, can_dS (h l List.mem_cons_self).2, can_ints, ih fun x hx => h x (List.mem_cons_of_mem _ hx)]
    rfl
theorem depth_dT (rs : List Rdx) : PyData.depth (dT rs) ≤ 64 := by
  have : PyData.depthAll (rs.map fun r => .tuple [dS r.1, dS r.2.1, .list (r.2.2.map .int)]) ≤ 2 := by
    induction rs with
    | nil => exact Nat.zero_le _
    | cons l r ih =>
      show max (max 0 (max 0 (max (PyData.depthAll (l.2.2.map .int) + 1) 0)) + 1) (PyData.depthAll (r.map fun r => .tuple [dS r.1, dS r.2.1, .list (r.2.2.map .int)])) ≤ 2
      rw [depth_ints]
      omega
  show PyData.depthAll (rs.map fun r => .tuple [dS r.1, dS r.2.1, .list (r.2.2.map .int)]) + 1 ≤ 64
  omega
theorem shaped_dT {rs : List Rdx} (h : ∀ r ∈ rs, Asc r.1 ∧ Asc r.2.1) : SeqAt.shaped (dT rs) = true := by
  unfold SeqAt.shaped
  rw [can_dT h, decide_eq_true (depth_dT rs)]
  rfl
section
variable {K : PySem.W.Frag}
theorem dp_ints {H : Hp} : ∀ ns : List Int, DpAll K H (ns.map V.int) (ns.map .int)
  | [] => .nil
  | n :: r => .cons (.int n) (dp_ints r)
theorem dp_trip {A : Addr → Prop} {H : Hp} : ∀ {xs : List V} {rs : List Rdx}, Trip A H xs rs → DpAll K H xs (rs.map fun r => .tuple [dS r.1, dS r.2.1, .list (r.2.2.map .int)])
  | _, _, .nil => .nil
  | _, _, .cons ⟨_, _, e, h, m, _⟩ t => .cons (by rw [e]; exact .tup (.inl (.inl h)) (.cons (.str _) (.cons (.str _) (.cons (.lst (.inl (.inl m)) (dp_ints _)) .nil)))) (dp_trip t)
theorem dp_dT {A : Addr → Prop} {H : Hp} {a : Addr} {xs : List V} {rs : List Rdx} (h : SqL K H a xs) (t : Trip A H xs rs) : Dp K H (.ref a) (dT rs) := .lst h (dp_trip t)
end
theorem ncl_asc : ∀ c ∈ ncl, c < 128 := by decide
theorem ncl_text : Str.ofString "0123456789ABCDEFGHIJKLMNOPQRSTUVWXYZabcdefghijklmnopqrstuvwxyz" = T ncl := by decide +kernel
abbrev LS (ls : List (List Nat)) : HO := .lst (ls.map fun l => V.str (T l))
theorem asc_wr {rs : List Rdx} (h : ∀ r ∈ rs, Good r) : ∀ l ∈ wr rs, Asc l ∧ l.length ≤ 1000000 := by
  intro l hl
  obtain ⟨r, hr, hl2⟩ := List.mem_flatMap.mp hl
  obtain ⟨g1, g2, g3, g4, g5, g6⟩ := h r hr
  rcases List.mem_cons.mp hl2 with e | e
  · subst e
    refine ⟨fun c hc => ?_, by rw [List.length_cons]; have := g1.2.1; omega⟩
    rcases List.mem_cons.mp hc with z | z
    · subst z
      decide
    · exact ncl_asc c (g1.2.2 c z)
  · rcases List.mem_cons.mp e with e | e
    · subst e
      exact ⟨dna_asc g2, by omega⟩
    · obtain rfl : l = r.2.2.map mSg := by simpa using e
      refine ⟨fun c hc => ?_, by rw [List.length_map]; omega⟩
      obtain ⟨m, hm, rfl⟩ := List.mem_map.mp hc
      exact mks_asc _ (mk_at (g6 m hm).1 (g6 m hm).2).2.1
theorem str_T (z : Str) : T z.cps.toList = z := by
  show Str.mk z.cps.toList.toArray = z
  rw [Array.toArray_toList]
def qname (i : Nat) : List Nat := [114, 101, 97, 100] ++ (toString (i : Int) : Str).cps.toList
theorem qname_ok : ∀ i, i < 8 → (qname i).length ≤ 6 ∧ ∀ c ∈ qname i, c ∈ ncl := by
  unfold qname
  decide +kernel
def tails : List V := [.str (Str.ofString ""), .str (Str.ofString "x"), .str (Str.ofString "Z9")]
theorem tails_at (y : Int) (h0 : 0 ≤ y) (h1 : y < 3) : ∃ l : List Nat, l.length ≤ 2 ∧ (∀ c ∈ l, c ∈ ncl) ∧ atI tails y = some (.str (T l)) := by
  have h : y = 0 ∨ y = 1 ∨ y = 2 := by omega
  rcases h with h | h | h <;> rw [h]
  · exact ⟨[], by decide, by decide, by rw [← show Str.ofString "" = T [] by decide +kernel]; rfl⟩
  · exact ⟨[120], by decide, by decide, by rw [← show Str.ofString "x" = T [120] by decide +kernel]; rfl⟩
  · exact ⟨[90, 57], by decide, by decide, by rw [← show Str.ofString "Z9" = T [90, 57] by decide +kernel]; rfl⟩
def rListOf (K : PySem.W.Frag) : List V → Hp → VK → Prop := fun xs H Q => ∃ p ys, xs = [.ref p] ∧ (SqL K H p ys ∨ SqT K H p ys) ∧ ∀ l, H l = none → Q (.ref l) (upd H l (.lst ys))
section
variable {P : Program} {w : World} {K : PySem.W.Frag} {mg : Str → Option Value} {base : Heap}
def MI (H0 : Hp) (a : Addr) (i : Nat) (σ : L2.St) (H' : Hp) : Prop :=
  ∃ (pr pl : Addr) (xs : List V) (rs : List Rdx) (kv cv tv mv nv : Option V), σ = [some (.ref a), some (.str (T mks)), some (.ref pr), some (.ref pl), kv, cv, tv, mv, nv, none, none, none, none, none, none] ∧ Same H0 H' ∧ H0 pr = none ∧ H' pr = some (.lst xs) ∧ Trip (fun m => m ≠ pr) H' xs rs ∧ H' pl = some (LS (wr rs)) ∧ pr ≠ pl ∧ rs.length = i ∧
    ∀ r ∈ rs, Good r ∧ r.2.1.length ≤ 70 ∧ r.1.length ≤ 10
theorem wr_app (a b : List Rdx) : wr (a ++ b) = wr a ++ wr b := by
  unfold wr
  rw [List.flatMap_append]
def spLaw (K : PySem.W.Frag) : Sp := fun vs H Q _ => ∃ (a : Addr) (ns : List Int), vs = [.ref a] ∧ SqL K H a (ns.map V.int) ∧ ∀ H', Q (.bl true) H'
theorem ok_law {f C : Addr} {fd : FuncData} (F : Fun K "law" "law" sLaw f fd) (B : Bl mg) (mlist : mg "list" = none) (mtup : mg "tuple" = none) (mall : mg "all" = none) (hC : Has P w K mg base 2 "_law_cell" ["script", "k"] (spCell K)) (hT : Has P w K mg base 2 "_law_text" ["cell", "size"] (spText K)) (hRow : Has P w K mg base 2 "_law_row" ["cell", "count", "bound"] (spRow K))
    (hI : Has P w K mg base 2 "_law_integer" ["value"] spInteger) (hW : Has P w K mg base 2 "write_reads" ["reads"] (spWriteReads K)) (hR : HasX P w K mg base 5 "read_reads" ["lines"] (spReadReads K C)) : FnOk P w K mg base CX0 6 f fd ["script"] (spLaw K) := by
  obtain ⟨fC, dC, GC, gC, kC, bC⟩ := hC
  obtain ⟨fT, dT', GT, gT, kT, bT⟩ := hT
  obtain ⟨fO, dO, GO, gO, kO, bO⟩ := hRow
  obtain ⟨fI, dI, GI, gI, kI, bI⟩ := hI
  obtain ⟨fW, dW, GW, gW, kW, bW⟩ := hW
  obtain ⟨fR, dR', GR, gR, kR, bR⟩ := hR
  refine F.ok scLaw (fun vs H Q E h => ?_) (fun cdv A outer s H vs Q E hr h => ?_)
  · obtain ⟨c, ns, rfl, _⟩ := h
    rfl
  · obtain ⟨a, ns, rfl, hsq, q⟩ := h
    have hr2 : Room 2 _ := hr.mono (by decide)
    refine ⟨_, pss_cons (ps_set (i := 1) scLaw.nd rfl (.inr rfl) pe_str)
      (pss_cons (ps_set (i := 2) scLaw.nd rfl (.inl rfl) (pe_lst pa_nil))
      (pss_cons (ps_set (i := 3) scLaw.nd rfl (.inl rfl) (pe_lst pa_nil))
      (pss_cons (ps_for PassesOwn.never rfl (pi_range1 rfl B.range (pa_cons (pe_op op_mod (pe_call GC hr2 (by rfl) gC kC bC .nil pass0 (pa_cons (pv 0) (pa_cons pe_int pa_nil))) pe_int) pa_nil)) (pg_name (i := 4) scLaw.nd rfl (.inl rfl))
        (pss_cons (ps_set (i := 5) scLaw.nd rfl (.inl rfl) (pe_call GC hr2 (by rfl) gC kC bC .nil pass0 (pa_cons (pv 0) (pa_cons (pe_op op_add pe_int (pe_op op_mul pe_int (pv 4))) pa_nil))))
        (pss_cons (ps_set (i := 6) scLaw.nd rfl (.inl rfl) (pe_call GT hr2 (by rfl) gT kT bT .nil pass0 (pa_cons (pe_call GC hr2 (by rfl) gC kC bC .nil pass0 (pa_cons (pv 0) (pa_cons (pe_op op_add pe_int (pe_op op_mul pe_int (pv 4))) pa_nil))) (pa_cons (pe_op op_add pe_int (pe_op op_mod (pv 5) pe_int)) pa_nil))))
        (pss_cons (ps_set (i := 7) scLaw.nd rfl (.inl rfl) (pe_call GO hr2 (by rfl) gO kO bO .nil pass0 (pa_cons (pe_op op_add (pe_call GC hr2 (by rfl) gC kC bC .nil pass0 (pa_cons (pv 0) (pa_cons (pe_op op_add pe_int (pe_op op_mul pe_int (pv 4))) pa_nil))) pe_int)
            (pa_cons (pe_callB call_len_str (by rfl) B.len PySem.boot_len (pa_cons (pv 6) pa_nil)) (pa_cons pe_int pa_nil)))))
        (C8.pss_cut (ps_set (i := 8) scLaw.nd rfl (.inl rfl) (pe_op op_add_str (pe_op op_add_str pe_str (pe_callTy call_str_int (by rfl) B.str (by decide +kernel) (pa_cons (pv 4) pa_nil))) (pe_ix ix_list (pe_lst (pa_cons pe_str (pa_cons pe_str (pa_cons pe_str pa_nil)))) (pe_op op_mod (pe_op op_fdiv (pv 5) pe_int) pe_int) (fun _ _ => rfl))))
        (pss_cons (ps_expr (pe_bm PySem.F.plainAttrs_list PySem.F.slot_list_append PySem.F.type_list_append mt_append (pv 2) (pa_cons (pe_tup (pa_cons (pv 8) (pa_cons (pv 6) (pa_cons (pv 7) pa_nil)))) pa_nil)))
        (pss_one (ps_set (i := 3) scLaw.nd rfl (.inl rfl) (pe_op op_cat (pv 3) (pe_lst (pa_cons (pe_op op_add_str pe_str (pv 8)) (pa_cons (pv 6) (pa_cons
            (pe_join pe_str (pe_lc (own := [("mark", 14)]) (g := gName 14) (tt := tYes) (te := tOp rIxS (tVar 1) (tVar 14)) rfl scLaw.nd (pi_list (pv 7))
              (blkOk_by (own := [("mark", 14)]) (N := ["script", "signs", "reads", "lines", "k", "cell", "text", "marks", "name", "handed", "told", "given", "found", "one", "mark"]) (sc := defScope sLaw) (by decide +kernel))
              (fun _ _ _ _ _ => pg_name (i := 14) scLaw.nd rfl (Or.inl rfl)) (fun _ _ _ _ _ => pts_nil) (fun _ _ _ _ _ => pe_ix (r := rIxS) ix_str (pv 1) (pv 14) (fun _ _ => rfl)))) pa_nil)))))))))))))
      (pss_cons (ps_setLc (i := 9) (own := [("name", 8), ("text", 6), ("marks", 7)]) (g := gTup K 3 (gCons (gName 8) (gCons (gName 6) (gCons (gName 7) gNil)))) (tt := tYes) (te := tTup (tCons (tVar 8) (tCons (tVar 6) (tCons (tCB (rListOf K) (tCons (tVar 7) tNil)) tNil)))) (by rfl) scLaw.nd rfl rfl (sw_true rfl rfl rfl (by decide +kernel)) (pi_list (pv 2))
          (blkOk_by (own := [("name", 8), ("text", 6), ("marks", 7)]) (N := ["script", "signs", "reads", "lines", "k", "cell", "text", "marks", "name", "handed", "told", "given", "found", "one", "mark"]) (sc := defScope sLaw) (by decide +kernel))
          (fun _ _ _ _ _ => pg_tup rfl (pgs_cons (pg_name (i := 8) scLaw.nd rfl (Or.inl rfl)) (pgs_cons (pg_name (i := 6) scLaw.nd rfl (Or.inl rfl)) (pgs_cons (pg_name (i := 7) scLaw.nd rfl (Or.inl rfl)) pgs_nil)))) (fun _ _ _ _ _ => pts_nil)
          (fun _ _ _ _ _ => pe_tup (pa_cons (pv 8) (pa_cons (pv 6) (pa_cons (pe_callTy (r := rListOf K) call_list_of (by rfl) mlist (by decide +kernel) (pa_cons (pv 7) pa_nil)) pa_nil)))))
      (pss_cons (ps_set (i := 10) scLaw.nd rfl (.inl rfl) (pe_call GW hr2 (by rfl) gW kW bW .nil pass0 (pa_cons (pv 9) pa_nil)))
      (pss_cons (ps_if (PW.pt (pw_or (pt_cmpR (op_neD hr.units) (pv 10) (pv 3) (nomark _)) (pw_or1 (pt_cmpR (op_neD hr.units) (pv 9) (pv 2) (nomark _))))) (pss_one (ps_ret pe_bl)) pss_nil)
      (pss_cons (ps_set (i := 11) scLaw.nd rfl (.inl rfl) (pe_callTy call_list_of (by rfl) mlist (by decide +kernel) (pa_cons (pv 3) pa_nil)))
      (pss_cons (ps_set (i := 12) scLaw.nd rfl (.inl rfl) (pe_call GR (hr.mono (by decide)) (by rfl) gR kR bR .nil passL (pa_cons (pv 11) pa_nil)))
      (pss_cons (ps_if (PW.pt (pw_or (pt_not (pt_val (pe_callB call_isi (by rfl) B.isin (by decide +kernel) (pa_cons (pv 12) (pa_cons (pe_bltn (v := .ty "list") (by rfl) mlist (by decide +kernel) rfl) pa_nil)))))
          (pw_or (pt_cmpR (op_neD hr.units) (pv 12) (pv 2) (nomark _)) (pw_or1 (pt_cmpR (op_neD hr.units) (pv 11) (pv 3) (nomark _)))))) (pss_one (ps_ret pe_bl)) pss_nil)
      (pss_cons (ps_for PassesOwn.never rfl (pi_list (pv 12)) (pg_name (i := 13) scLaw.nd rfl (.inl rfl))
        (pss_cons (ps_if (PW.pt (pw_or (pt_not (pt_val (pe_callB call_isi (by rfl) B.isin (by decide +kernel) (pa_cons (pv 13) (pa_cons (pe_bltn (v := .ty "tuple") (by rfl) mtup (by decide +kernel) rfl) pa_nil)))))
            (pw_or1 (pt_not (pt_val (pe_callB (cr_all rfl) (by rfl) mall (by decide +kernel) (pa_cons
              (pe_lc (own := [("mark", 14)]) (g := gName 14) (tt := tYes) (te := tCall spInteger [] E0 (tCons (tVar 14) tNil)) rfl scLaw.nd (pi_list (pe_ix ix_tup (pv 13) pe_int (fun _ _ => rfl)))
                (blkOk_by (own := [("mark", 14)]) (N := ["script", "signs", "reads", "lines", "k", "cell", "text", "marks", "name", "handed", "told", "given", "found", "one", "mark"]) (sc := defScope sLaw) (by decide +kernel))
                (fun _ _ _ _ _ => pg_name (i := 14) scLaw.nd rfl (Or.inl rfl)) (fun _ _ _ _ _ => pts_nil) (fun _ _ _ _ _ => pe_call GI hr2 (by rfl) gI kI bI .nil pass0 (pa_cons (pv 14) pa_nil))) pa_nil)))))))
          (pss_one (ps_ret pe_bl)) pss_nil)
        (pss_one (ps_expr (pe_bm PySem.F.plainAttrs_list PySem.F.slot_list_append PySem.F.type_list_append mt_append (pe_ix ix_tup (pv 13) pe_int (fun _ _ => rfl)) (pa_cons pe_int pa_nil))))))
      (pss_one (ps_ret (pe_cmpR (op_eqD hr.units) (pe_call GR (hr.mono (by decide)) (by rfl) gR kR bR .nil passL (pa_cons (pv 3) pa_nil)) (pv 2) (nomark _)))))))))))))), ?_⟩
    refine ⟨Nat.zero_le _, fun pr hpr => ⟨Nat.zero_le _, fun pl hpl => ?_⟩⟩
    have sp := (same_upd (o := .lst []) hpr).trans (same_upd (o := .lst []) hpl)
    refine ⟨.ref a, rfl, a, ns, 0, rfl, sp.seq hsq, fun x => ?_⟩
    have x0 : 0 ≤ x % 7 := Int.emod_nonneg _ (by decide)
    have x1 : x % 7 < 7 := Int.emod_lt_of_pos _ (by decide)
    refine ⟨x, 7, rfl, rfl, (show (0 : Int) < 7 by decide), x % 7, rfl, by omega, by omega, ?_⟩
    refine for_range (lo := 0) (n := (x % 7).toNat) (MI H a) ?_ ?_ ?_
    · refine ⟨pr, pl, [], [], none, none, none, none, none, by rw [← mks_text]; rfl, sp, hpr, ?_, .nil, upd_same, (new_ne hpl).symm, rfl, (fun r hr => by cases hr)⟩
      rw [upd_ne (new_ne hpl).symm, upd_same]
    · rintro i σ H1 hi ⟨pr, pl, xs, rs, kv, cv, tv, mv, nv, rfl, sm, hpr0, hx, ht, hpl, npl, hl, hg⟩
      have hi7 : i < 7 := by omega
      have hxl : xs.length = i := (paired_len ht).trans hl
      refine ⟨.ref a, rfl, .int (0 + (i : Nat)), rfl, 2, _, rfl, rfl, .inl ⟨by decide, by decide⟩, 1, _, rfl, rfl, a, ns, 1 + 2 * i, cell_arg2 a 1 2 i, sm.seq hsq, fun cell => ?_⟩
      have m0 : 0 ≤ cell % 70 := Int.emod_nonneg _ (by decide)
      have m1 : cell % 70 < 70 := Int.emod_lt_of_pos _ (by decide)
      refine ⟨.ref a, rfl, .int (0 + (i : Nat)), rfl, 2, _, rfl, rfl, .inl ⟨by decide, by decide⟩, 2, _, rfl, rfl, a, ns, 2 + 2 * i, cell_arg2 a 2 2 i, sm.seq hsq, fun y2 => ?_⟩
      refine ⟨.int cell, rfl, cell, 70, rfl, rfl, (show (0 : Int) < 70 by decide), 1, _, rfl, rfl, y2, 1 + cell % 70, rfl, by omega, by omega, fun H2 t s2 dt lt => ?_⟩
      have lt1 : 1 ≤ t.length := by omega
      have lt2 : t.length ≤ 70 := by omega
      have hzt : (T t).length ≤ sizeLine := line_ok6 (by rw [T_len]; omega)
      refine ⟨.ref a, rfl, .int (0 + (i : Nat)), rfl, 2, _, rfl, rfl, .inl ⟨by decide, by decide⟩, 2, _, rfl, rfl, a, ns, 2 + 2 * i, cell_arg2 a 2 2 i, (sm.trans s2).seq hsq, fun y3 => ?_⟩
      refine ⟨_, _, rfl, rfl, .str (T t), rfl, T t, rfl, hzt, _, _, 41, rfl, by omega, by rw [T_len]; omega, by decide, by decide, fun H3 pm mk s3 hpm hmk hml hmall => ?_⟩
      have hml2 : mk.length = t.length := by
        rw [hml, T_len]
        omega
      have s13 := s2.trans s3
      -- the name
      refine ⟨fun σ H4 => Same H3 H4 ∧ ∃ nm, Nam nm ∧ nm.length ≤ 10 ∧ σ = [some (.ref a), some (.str (T mks)), some (.ref pr), some (.ref pl), some (.int (0 + (i : Nat))), some (.int cell), some (.str (T t)), some (.ref pm), some (.str (T nm)), none, none, none, none, none, none], ?_, ?_⟩
      · obtain ⟨tl, l1, l2, htl⟩ := tails_at (cell / 70 % 3) (Int.emod_nonneg _ (by decide)) (Int.emod_lt_of_pos _ (by decide))
        obtain ⟨o1, o2⟩ := qname_ok i (by omega)
        have ern : Str.ofString "read" ++ (toString ((0 : Int) + ((i : Nat) : Int)) : Str) = T (qname i) := by
          rw [Int.zero_add]
          conv => lhs; rw [← str_T (toString ((i : Nat) : Int) : Str)]
          rw [show Str.ofString "read" = T [114, 101, 97, 100] by decide +kernel, T_app]
          rfl
        have ln : (toString ((0 : Int) + ((i : Nat) : Int)) : Str).length ≤ 2 := by
          have e1 := o1
          unfold qname at e1
          rw [List.length_append] at e1
          rw [Int.zero_add]
          have e2 : (toString ((i : Nat) : Int) : Str).length = (toString ((i : Nat) : Int) : Str).cps.toList.length := by simp [Str.length]
          have e3 : ([114, 101, 97, 100] : List Nat).length = 4 := rfl
          omega
        refine ⟨.int (0 + (i : Nat)), rfl, _, rfl, ?_, _, _, rfl, rfl, line_ok (by rw [show (Str.ofString "read").length = 4 by decide +kernel]; omega), by show 3 ≤ sizeLine; decide, fun p1 hp1 => ?_⟩
        · have : ((0 : Int) + ((i : Nat) : Int)).natAbs = i := by omega
          rw [this]
          exact Nat.lt_of_le_of_lt (Nat.log2_le_self i) (by omega)
        refine ⟨.int cell, rfl, cell, 70, rfl, rfl, ⟨by decide, by decide⟩, _, 3, rfl, rfl, (show (0 : Int) < 3 by decide), p1, tails, _, .str (T tl), rfl, rfl, .inl (.inl upd_same), htl, _, _, rfl, rfl, ?_, same_upd hp1, qname i ++ tl, ⟨?_, ?_, ?_⟩, ?_, ?_⟩
        · rw [ern, T_len, T_len]
          exact line_ok (by omega)
        · unfold qname
          rw [List.length_append, List.length_append]
          show 1 ≤ 4 + _ + _
          omega
        · rw [List.length_append]
          omega
        · intro c hc
          rcases List.mem_append.mp hc with z | z
          · exact o2 c z
          · exact l2 c z
        · rw [List.length_append]
          omega
        · rw [ern, T_app]
          rfl
      rintro σ H4 ⟨s34, nm, hnm, hnl, rfl⟩
      have s14 := s13.trans s34
      have hx4 := s14 _ _ hx
      have hpm4 := s34 _ _ hmk
      have npm : pm ≠ pr := (ne_of_none (s2 _ _ hx) hpm).symm
      refine ⟨.ref pr, rfl, .inl ⟨rfl, _, .inl (.inl hx4)⟩, .str (T nm), rfl, .str (T t), rfl, .ref pm, rfl, by show 3 ≤ sizeLine; decide, fun q2 hq2 => ?_⟩
      have nq : pr ≠ q2 := ne_of_none hx4 hq2
      refine ⟨pr, xs, _, rfl, rfl, by rw [upd_ne nq]; exact hx4, line_lt (by omega), ?_⟩
      generalize hH5 : upd (upd H4 q2 (.tup [.str (T nm), .str (T t), .ref pm])) pr (.lst (xs ++ [.ref q2])) = H5
      have g4 : ∀ b o, b ≠ pr → H4 b = some o → H5 b = some o := fun b o hb e => by
        rw [← hH5, upd_ne hb, upd_ne (ne_of_none e hq2)]
        exact e
      have g5 : ∀ b o, b ≠ pr → H1 b = some o → H5 b = some o := fun b o hb e => g4 b o hb (s14 _ _ e)
      have s05 : Same H H5 := fun b o e => g5 b o (ne_of_none e hpr0) (sm _ _ e)
      have hx5 : H5 pr = some (.lst (xs ++ [.ref q2])) := by rw [← hH5, upd_same]
      have hpm5 := g4 _ _ npm hpm4
      have ht5 : Trip (fun m => m ≠ pr) H5 (xs ++ [.ref q2]) (rs ++ [(nm, t, mk)]) := by
        refine Trip.snoc (pm := pm) (ht.mono (fun b ys hb => g5 b _ (fun z => by rw [z, hx] at hb; cases hb) hb) fun b ns hb hA => ⟨g5 b _ hA hb, hA⟩) ?_ hpm5 npm
        rw [← hH5, upd_ne nq.symm, upd_same]
      have hpl5 := g5 _ _ npl.symm hpl
      have lwr := wr_len rs
      have hgood : Good (nm, t, mk) := ⟨hnm, dt, lt1, by show t.length ≤ 1000; omega, hml2, hmall⟩
      refine ⟨.ref pl, rfl, .str (T nm), rfl, _, _, rfl, rfl, line_ok6 (by rw [T_len, show (Str.ofString "@").length = 1 by decide +kernel]; omega), .str (T t), rfl, ⟨_, rfl⟩, .ref pm, rfl, pm, rfl, ⟨_, .inl (.inl hpm5)⟩, ?_⟩
      intro Dm hDm
      refine lc_list (K := K) (xs := mk.map V.int) (fun j H6 => Same H5 H6 ∧ H6 Dm = some (.lst (((((mk.take j).map mSg).map fun c => T [c])).map V.str))) ⟨same_upd hDm, upd_same⟩ (fun j H6 _ h => h.1.seq (.inl (.inl hpm5))) ?_ ?_
      · rintro j y H6 hjy ⟨s6, h6⟩
        rw [List.getElem?_map] at hjy
        obtain ⟨n, hn, rfl⟩ := Option.map_eq_some_iff.mp hjy
        obtain ⟨y0, y1⟩ := hmall n (List.mem_of_getElem? hn)
        refine ⟨rfl, ?_⟩
        dsimp only [tYes]
        rw [if_pos rfl]
        refine ⟨.str (T mks), rfl, .int n, rfl, T mks, _, mSg n, rfl, rfl, by decide +kernel, (mk_at y0 y1).2.2, _, h6, line_lt (by rw [List.length_map, List.length_map, List.length_map, List.length_take]; omega), fun b o e => ?_, ?_⟩
        · rw [upd_ne (ne_of_none e hDm)]
          exact s6 b o e
        · rw [upd_same, List.take_add_one, hn, List.map_append, List.map_append, List.map_append]
          rfl
      rintro H6 ⟨s6, h6⟩
      rw [List.length_map, List.take_length] at h6
      refine ⟨_, Dm, (mk.map mSg).map fun c => T [c], rfl, rfl, .inl (.inl (.inl h6)), ?_, ?_⟩
      · rw [sum_ones, List.length_map, show (Str.ofString "").length = 0 by decide +kernel]
        omega
      rw [TL.join_eq, T_nil, join_ones]
      refine ⟨by show 3 ≤ sizeLine; decide, fun p3 hp3 => ?_⟩
      refine ⟨pl, p3, _, _, rfl, rfl, same_upd hp3 _ _ (s6 _ _ hpl5), upd_same, line_ok (by rw [List.length_map, lwr]; show _ + 3 ≤ _; omega), fun p4 hp4 => ?_⟩
      have s5e := (s6.trans (same_upd hp3)).trans (same_upd (o := .lst ((wr rs).map (fun l => V.str (T l)) ++ [.str (Str.ofString "@" ++ T nm), .str (T t), .str (T (mk.map mSg))])) hp4)
      refine ⟨pr, p4, xs ++ [.ref q2], rs ++ [(nm, t, mk)], _, _, _, _, _, rfl, s05.trans s5e, hpr0, s5e _ _ hx5, ht5.same s5e, ?_, ne_of_none (same_upd hp3 _ _ (s6 _ _ hx5)) hp4, by rw [List.length_append, hl]; rfl, ?_⟩
      · rw [upd_same]
        show some (HO.lst _) = some (HO.lst _)
        rw [wr_app, List.map_append, at_text, T_app]
        rfl
      · intro r hr
        rcases List.mem_append.mp hr with z | z
        · exact hg r z
        · obtain rfl : r = (nm, t, mk) := by simpa using z
          exact ⟨hgood, lt2, hnl⟩
    · rintro σ H1 ⟨pr, pl, xs, rs, kv, cv, tv, mv, nv, rfl, sm, hpr0, hx, ht, hpl, npl, hl, hg⟩
      have hl7 : rs.length ≤ 7 := by omega
      have hgood : ∀ r ∈ rs, Good r := fun r hr => (hg r hr).1
      have hxl : xs.length = rs.length := paired_len ht
      have hasc : ∀ r ∈ rs, Asc r.1 ∧ Asc r.2.1 := fun r hr => ⟨fun c hc => ncl_asc c ((hgood r hr).1.2.2 c hc), dna_asc (hgood r hr).2.1⟩
      have shR := shaped_dT hasc
      have eqR := SeqAt.eqv_refl _ (can_dT hasc)
      have hascL : ∀ l ∈ wr rs, Asc l := fun l hl => (asc_wr hgood l hl).1
      have shF := shaped_dL hascL
      have eqF := SeqAt.eqv_refl _ (can_dL hascL)
      have lwr := wr_len rs
      have hrd : rd (wr rs) (((wr rs).length + 3 - 1) / 3) 0 [] = .ok rs := by
        have e : ((wr rs).length + 3 - 1) / 3 = rs.length := by rw [lwr]; omega
        rw [e]
        exact rd_wr rs [] rs.length [] hgood (Nat.le_refl _)
      -- handed
      refine ⟨.ref pr, rfl, pr, rfl, ⟨_, .inl (.inl hx)⟩, fun D hD => ?_⟩
      refine lc_list (K := K) (xs := xs) (fun i H2 => Same H1 H2 ∧ ∃ ys, H2 D = some (.lst ys) ∧ Trip (fun m => m ≠ D) H2 ys (rs.take i)) ⟨same_upd hD, [], upd_same, by rw [List.take_zero]; exact .nil⟩ ?_ ?_ ?_
      · rintro i H2 _ ⟨s2, _⟩
        exact .inl (.inl (s2 _ _ hx))
      · rintro i v H2 hv ⟨s2, ys, hys, hty⟩
        obtain ⟨r, hr, qa, pm, rfl, hqa, hpm, _⟩ := paired_get ht hv
        have lys := paired_len hty
        rw [List.length_take] at lys
        refine ⟨qa, _, rfl, .inl (.inl (s2 _ _ hqa)), rfl, _, _, rfl, _, _, rfl, _, _, rfl, rfl, rfl, ?_⟩
        dsimp only [tYes]
        rw [if_pos rfl]
        refine ⟨.str (T r.1), rfl, .str (T r.2.1), rfl, .ref pm, rfl, pm, _, rfl, .inl (.inl (.inl (s2 _ _ hpm))), fun l hl => ⟨by show 3 ≤ sizeLine; decide, fun q6 hq6 => ?_⟩⟩
        have nlD : l ≠ D := (ne_of_none hys hl).symm
        have nqD : q6 ≠ D := (ne_of_none (same_upd (o := LI r.2.2) hl _ _ hys) hq6).symm
        have nql : l ≠ q6 := ne_of_none (upd_same (H := H2) (a := l) (o := LI r.2.2)) hq6
        have hqH : H2 q6 = none := new_old hq6
        refine ⟨ys, by rw [upd_ne nqD.symm, upd_ne nlD.symm]; exact hys, line_lt (by omega), fun b o e => ?_, ys ++ [.ref q6], upd_same, ?_⟩
        · have e2 := s2 _ _ e
          rw [upd_ne (ne_of_none e hD), upd_ne (ne_of_none e2 hqH), upd_ne (ne_of_none e2 hl)]
          exact e2
        · rw [List.take_add_one, hr]
          refine Trip.snoc (pm := l) (hty.mono (fun b zs hb => ?_) fun b zs hb hA => ⟨?_, hA⟩) ?_ ?_ nlD
          · have n1 : b ≠ D := fun z => by
              rw [z, hys] at hb
              cases hb
            rw [upd_ne n1, upd_ne (ne_of_none hb hqH), upd_ne (ne_of_none hb hl)]
            exact hb
          · rw [upd_ne hA, upd_ne (ne_of_none hb hqH), upd_ne (ne_of_none hb hl)]
            exact hb
          · rw [upd_ne nqD, upd_same]
          · rw [upd_ne nlD, upd_ne nql, upd_same]
      rintro H2 ⟨s2, ys, hys, hty⟩
      rw [hxl, List.take_length] at hty
      have s02 := sm.trans s2
      -- told
      refine ⟨.ref D, rfl, D, ys, rs, _, rfl, .inl (.inl hys), hty, by omega, (fun r hr => ⟨by have := (hg r hr).2.2; omega, by have h1 := (hgood r hr).2.2.2.2.1; have h2 := (hg r hr).2.1; omega, (hgood r hr).2.2.2.2.2⟩), fun H3 pt s3 hpt hpt2 => ?_⟩
      have s13 := s2.trans s3
      have hpl3 := s13 _ _ hpl
      refine ⟨.ref pt, rfl, .ref pl, rfl, dL (wr rs), dL (wr rs), dp_dL (.inl (.inl hpt2)), dp_dL (.inl (.inl hpl3)), shF, shF, _, rfl, ?_⟩
      rw [eqF]
      refine iteF ⟨.ref D, rfl, .ref pr, rfl, dT rs, dT rs, dp_dT (.inl (.inl (s3 _ _ hys))) (hty.same s3), dp_dT (.inl (.inl (s13 _ _ hx))) (ht.same s13), shR, shR, _, rfl, ?_⟩
      rw [eqR]
      refine iteF ?_
      -- given, found
      refine ⟨.ref pl, rfl, pl, _, rfl, .inl (.inl (.inl hpl3)), fun pg hpg => ?_⟩
      have s3s := same_upd (o := LS (wr rs)) hpg
      generalize hHs : upd H3 pg (LS (wr rs)) = Hs at s3s ⊢
      have hpgs : Hs pg = some (LS (wr rs)) := by rw [← hHs, upd_same]
      have s1s := s13.trans s3s
      have hls1 : ∀ l ∈ wr rs, l.length ≤ 1000000 := fun l hl => (asc_wr hgood l hl).2
      refine ⟨.ref pg, rfl, pg, wr rs, rfl, .inl (.inl hpgs), hls1, by omega, fun rs' hr' H4 p4 zs s4 hp4 hz ht4 => ?_, fun l c hbad => by rw [hrd] at hbad; cases hbad⟩
      obtain rfl : rs' = rs := by
        rw [hrd] at hr'
        cases hr'
        rfl
      have s14 := s1s.trans s4
      have hzl : zs.length = rs'.length := paired_len ht4
      refine ⟨.ref p4, rfl, _, .ty "list", _, _, true, rfl, .ty _, .base (.lst hz), kit_ty (by decide +kernel), true, rfl, iteF ?_⟩
      refine ⟨.ref p4, rfl, .ref pr, rfl, dT rs', dT rs', dp_dT (.inl (.inl hz)) ht4, dp_dT (.inl (.inl (s14 _ _ hx))) (ht.same s14), shR, shR, _, rfl, ?_⟩
      rw [eqR]
      refine iteF ⟨.ref pg, rfl, .ref pl, rfl, dL (wr rs'), dL (wr rs'), dp_dL (.inl (.inl (s4 _ _ hpgs))), dp_dL (.inl (.inl (s14 _ _ hpl))), shF, shF, _, rfl, ?_⟩
      rw [eqF]
      refine iteF ?_
      -- for one in found
      refine ⟨.ref p4, rfl, p4, rfl, ⟨_, .inl (.inl hz)⟩, ?_⟩
      refine for_list (K := K) (xs := zs) (fun i σ H' => Same Hs H' ∧ H' p4 = some (.lst zs) ∧ (∀ v ∈ zs, ∃ q z1 z2 pm ns, v = .ref q ∧ H' q = some (.tup [.str z1, .str z2, .ref pm]) ∧ H' pm = some (LI ns) ∧ ns.length ≤ 100 + i ∧ Hs pm = none) ∧
          ∃ ov, σ = [some (.ref a), some (.str (T mks)), some (.ref pr), some (.ref pl), kv, cv, tv, mv, nv, some (.ref D), some (.ref pt), some (.ref pg), some (.ref p4), ov, none]) ⟨s4, hz, fun v hv => ?_, none, rfl⟩ ?_ ?_ ?_
      · obtain ⟨i, hi, e⟩ := List.mem_iff_getElem.mp hv
        have hv2 : zs[i]? = some v := by rw [List.getElem?_eq_getElem hi, e]
        obtain ⟨r, hr, qa, pm, e2, hqa, hpm, hpm0⟩ := paired_get ht4 hv2
        refine ⟨qa, _, _, pm, r.2.2, e2, hqa, hpm, ?_, hpm0⟩
        have h1 := (hgood r (List.mem_of_getElem? hr)).2.2.2.2.1
        have h2 := (hg r (List.mem_of_getElem? hr)).2.1
        omega
      · rintro i σ H' _ ⟨_, h, _⟩
        exact .inl (.inl h)
      · rintro i v σ H5 hv ⟨s5, hz5, hall, ov, rfl⟩
        have hi7 : i < 7 := by
          have := (List.getElem?_eq_some_iff.mp hv).1
          omega
        obtain ⟨q5, z1, z2, pm, ns5, rfl, hq5, hpm5, hn5, hpm0⟩ := hall v (List.mem_of_getElem? hv)
        have hpmS : SqL K H5 pm (ns5.map V.int) := .inl (.inl hpm5)
        refine ⟨.ref q5, rfl, .ref q5, .ty "tuple", _, _, true, rfl, .ty _, .base (.tup hq5), kit_ty (by decide +kernel), true, rfl, iteF ?_⟩
        refine ⟨.ref q5, rfl, q5, _, 2, .ref pm, rfl, rfl, .inl (.inl hq5), atI_nat (j := 2) rfl, pm, rfl, ⟨_, hpmS⟩, fun Dm hDm => ?_⟩
        refine lc_list (K := K) (xs := ns5.map V.int) (fun m H6 => Same H5 H6 ∧ H6 Dm = some (.lst ((List.replicate m true).map V.bl))) ⟨same_upd hDm, upd_same⟩ (fun m H6 _ h => h.1.seq hpmS) ?_ ?_
        · rintro m y H6 hy ⟨s6, h6⟩
          rw [List.getElem?_map] at hy
          obtain ⟨n, hn, rfl⟩ := Option.map_eq_some_iff.mp hy
          have hml := (List.getElem?_eq_some_iff.mp hn).1
          refine ⟨rfl, ?_⟩
          dsimp only [tYes]
          rw [if_pos rfl]
          refine ⟨.int n, rfl, n, rfl, _, h6, line_lt (by rw [List.length_map, List.length_replicate]; omega), fun b o e => ?_, ?_⟩
          · rw [upd_ne (ne_of_none e hDm)]
            exact s6 b o e
          · rw [upd_same, List.replicate_succ', List.map_append]
            rfl
        rintro H6 ⟨s6, h6⟩
        refine ⟨Dm, List.replicate (ns5.map V.int).length true, rfl, .inl (.inl h6), true, ?_, iteF ?_⟩
        · rw [List.all_replicate]
          simp
        have hq6 := s6 _ _ hq5
        have hpm6 := s6 _ _ hpm5
        have hz6 := s6 _ _ hz5
        have n1 : p4 ≠ pm := fun z => by
          rw [← z, hz5] at hpm5
          have e : zs = ns5.map V.int := by cases hpm5; rfl
          have hm := List.mem_of_getElem? hv
          rw [e] at hm
          obtain ⟨n, _, e2⟩ := List.mem_map.mp hm
          cases e2
        refine ⟨.ref q5, rfl, q5, _, 2, .ref pm, rfl, rfl, .inl (.inl hq6), atI_nat (j := 2) rfl, .inl ⟨rfl, _, .inl (.inl hpm6)⟩, pm, _, _, rfl, rfl, hpm6, line_lt (by rw [List.length_map]; omega), ?_⟩
        refine ⟨fun b o e => ?_, ?_, fun v hv2 => ?_, _, rfl⟩
        · rw [upd_ne (ne_of_none e hpm0)]
          exact s6 _ _ (s5 _ _ e)
        · rw [upd_ne n1]
          exact hz6
        · obtain ⟨q7, w1, w2, pm7, ns7, rfl, hq7, hpm7, hn7, hpm70⟩ := hall v hv2
          have n2 : q7 ≠ pm := fun z => by
            rw [← z, hq7] at hpm5
            cases hpm5
          by_cases e : pm7 = pm
          · subst e
            refine ⟨q7, w1, w2, pm7, ns5 ++ [7], rfl, by rw [upd_ne n2]; exact s6 _ _ hq7, ?_, by rw [List.length_append, List.length_singleton]; omega, hpm70⟩
            rw [upd_same]
            show some (HO.lst _) = some (HO.lst _)
            rw [List.map_append]
            rfl
          · exact ⟨q7, w1, w2, pm7, ns7, rfl, by rw [upd_ne n2]; exact s6 _ _ hq7, by rw [upd_ne e]; exact s6 _ _ hpm7, by omega, hpm70⟩
      · rintro σ H5 ⟨s5, hz5, hall, ov, rfl⟩
        have s15 := s1s.trans s5
        refine ⟨.ref pl, rfl, pl, wr rs', rfl, .inl (.inl (s15 _ _ hpl)), hls1, by omega, fun rs2 hr2 H6 p6 y6 s6 hp6 hy6 ht6 => ?_, fun l c hbad => by rw [hrd] at hbad; cases hbad⟩
        obtain rfl : rs2 = rs' := by
          rw [hrd] at hr2
          cases hr2
          rfl
        have s16 := s15.trans s6
        refine ⟨.ref pr, rfl, dT rs2, dT rs2, dp_dT (.inl (.inl hy6)) ht6, dp_dT (.inl (.inl (s16 _ _ hx))) (ht.same s16), shR, shR, ?_⟩
        rw [eqR]
        exact q _
end
theorem all_mk {l : PySem.W.OpenLaw} {w : World} {K : PySem.W.Frag} {h : Heap} {mg : Str → Option Value} {fa fRR fWR fNL fTL fML fLA fFO fC fR fIN fT fL C fI hE : Addr} (X : K.In h) (G : h.Ns mainGlobals mg) (hfa : mg "law" = some (.ref fa))
    {odRR anRR : Option Addr} {slRR : Array (Option Value)} {ocRR kVRR dcRR pmRR cdRR ctRR : Value}
    {odWR anWR : Option Addr} {slWR : Array (Option Value)} {ocWR kVWR dcWR pmWR cdWR ctWR : Value}
    {odNL anNL : Option Addr} {slNL : Array (Option Value)} {ocNL kVNL dcNL pmNL cdNL ctNL : Value}
    {odTL anTL : Option Addr} {slTL : Array (Option Value)} {ocTL kVTL dcTL pmTL cdTL ctTL : Value}
    {odML anML : Option Addr} {slML : Array (Option Value)} {ocML kVML dcML pmML cdML ctML : Value}
    {odLA anLA : Option Addr} {slLA : Array (Option Value)} {ocLA kVLA dcLA pmLA cdLA ctLA : Value}
    {odFO anFO : Option Addr} {slFO : Array (Option Value)} {ocFO kVFO dcFO pmFO cdFO ctFO : Value}
    {odC anC : Option Addr} {slC : Array (Option Value)} {ocC kVC dcC pmC cdC ctC : Value}
    {odR anR : Option Addr} {slR : Array (Option Value)} {ocR kVR dcR pmR cdR ctR : Value}
    {odIN anIN : Option Addr} {slIN : Array (Option Value)} {ocIN kVIN dcIN pmIN cdIN ctIN : Value}
    {odT anT : Option Addr} {slT : Array (Option Value)} {ocT kVT dcT pmT cdT ctT : Value}
    {odL anL : Option Addr} {slL : Array (Option Value)} {ocL kVL dcL pmL cdL ctL : Value}
    {odI0 anI0 : Option Addr} {slI0 : Array (Option Value)} {ocI0 kVI0 dcI0 pmI0 cdI0 ctI0 : Value}
    (aRR : PySem.W.nsIn K mainGlobals "read_reads" = some (some (.ref fRR))) (lRR : K.lookup fRR = some ⟨ocRR, odRR, .func (PySem.W.fnOf "read_reads" "read_reads" (defArgs sReadReads) (defBody sReadReads) (defScope sReadReads) .none kVRR dcRR pmRR anRR cdRR ctRR), slRR⟩) (cRR : PySem.W.codeIn K cdRR "read_reads" = true) (kRR : PySem.W.keepIn K (.ref fRR) = true)
    (aWR : PySem.W.nsIn K mainGlobals "write_reads" = some (some (.ref fWR))) (lWR : K.lookup fWR = some ⟨ocWR, odWR, .func (PySem.W.fnOf "write_reads" "write_reads" (defArgs sWriteReads) (defBody sWriteReads) (defScope sWriteReads) .none kVWR dcWR pmWR anWR cdWR ctWR), slWR⟩) (cWR : PySem.W.codeIn K cdWR "write_reads" = true) (kWR : PySem.W.keepIn K (.ref fWR) = true)
    (aNL : PySem.W.nsIn K mainGlobals "_name_line" = some (some (.ref fNL))) (lNL : K.lookup fNL = some ⟨ocNL, odNL, .func (PySem.W.fnOf "_name_line" "_name_line" (defArgs sNameLine) (defBody sNameLine) (defScope sNameLine) .none kVNL dcNL pmNL anNL cdNL ctNL), slNL⟩) (cNL : PySem.W.codeIn K cdNL "_name_line" = true) (kNL : PySem.W.keepIn K (.ref fNL) = true)
    (aTL : PySem.W.nsIn K mainGlobals "_text_line" = some (some (.ref fTL))) (lTL : K.lookup fTL = some ⟨ocTL, odTL, .func (PySem.W.fnOf "_text_line" "_text_line" (defArgs sTextLine) (defBody sTextLine) (defScope sTextLine) .none kVTL dcTL pmTL anTL cdTL ctTL), slTL⟩) (cTL : PySem.W.codeIn K cdTL "_text_line" = true) (kTL : PySem.W.keepIn K (.ref fTL) = true)
    (aML : PySem.W.nsIn K mainGlobals "_marks_line" = some (some (.ref fML))) (lML : K.lookup fML = some ⟨ocML, odML, .func (PySem.W.fnOf "_marks_line" "_marks_line" (defArgs sMarksLine) (defBody sMarksLine) (defScope sMarksLine) .none kVML dcML pmML anML cdML ctML), slML⟩) (cML : PySem.W.codeIn K cdML "_marks_line" = true) (kML : PySem.W.keepIn K (.ref fML) = true)
    (aLA : PySem.W.nsIn K mainGlobals "_line_at" = some (some (.ref fLA))) (lLA : K.lookup fLA = some ⟨ocLA, odLA, .func (PySem.W.fnOf "_line_at" "_line_at" (defArgs sLineAt) (defBody sLineAt) (defScope sLineAt) .none kVLA dcLA pmLA anLA cdLA ctLA), slLA⟩) (cLA : PySem.W.codeIn K cdLA "_line_at" = true) (kLA : PySem.W.keepIn K (.ref fLA) = true)
    (aFO : PySem.W.nsIn K mainGlobals "_first_other" = some (some (.ref fFO))) (lFO : K.lookup fFO = some ⟨ocFO, odFO, .func (PySem.W.fnOf "_first_other" "_first_other" (defArgs sFirstOther) (defBody sFirstOther) (defScope sFirstOther) .none kVFO dcFO pmFO anFO cdFO ctFO), slFO⟩) (cFO : PySem.W.codeIn K cdFO "_first_other" = true) (kFO : PySem.W.keepIn K (.ref fFO) = true)
    (aC : PySem.W.nsIn K mainGlobals "_law_cell" = some (some (.ref fC))) (lC : K.lookup fC = some ⟨ocC, odC, .func (PySem.W.fnOf "_law_cell" "_law_cell" (defArgs sCell) (defBody sCell) (defScope sCell) .none kVC dcC pmC anC cdC ctC), slC⟩) (cC : PySem.W.codeIn K cdC "_law_cell" = true) (kC : PySem.W.keepIn K (.ref fC) = true)
    (aR : PySem.W.nsIn K mainGlobals "_law_row" = some (some (.ref fR))) (lR : K.lookup fR = some ⟨ocR, odR, .func (PySem.W.fnOf "_law_row" "_law_row" (defArgs sRow) (defBody sRow) (defScope sRow) .none kVR dcR pmR anR cdR ctR), slR⟩) (cR : PySem.W.codeIn K cdR "_law_row" = true) (kR : PySem.W.keepIn K (.ref fR) = true)
    (aIN : PySem.W.nsIn K mainGlobals "_law_integer" = some (some (.ref fIN))) (lIN : K.lookup fIN = some ⟨ocIN, odIN, .func (PySem.W.fnOf "_law_integer" "_law_integer" (defArgs sInteger) (defBody sInteger) (defScope sInteger) .none kVIN dcIN pmIN anIN cdIN ctIN), slIN⟩) (cIN : PySem.W.codeIn K cdIN "_law_integer" = true) (kIN : PySem.W.keepIn K (.ref fIN) = true)
    (aT : PySem.W.nsIn K mainGlobals "_law_text" = some (some (.ref fT))) (lT : K.lookup fT = some ⟨ocT, odT, .func (PySem.W.fnOf "_law_text" "_law_text" (defArgs sText) (defBody sText) (defScope sText) .none kVT dcT pmT anT cdT ctT), slT⟩) (cT : PySem.W.codeIn K cdT "_law_text" = true) (kT : PySem.W.keepIn K (.ref fT) = true)
    (aL : PySem.W.nsIn K mainGlobals "law" = some (some (.ref fL))) (lL : K.lookup fL = some ⟨ocL, odL, .func (PySem.W.fnOf "law" "law" (defArgs sLaw) (defBody sLaw) (defScope sLaw) .none kVL dcL pmL anL cdL ctL), slL⟩) (cL : PySem.W.codeIn K cdL "law" = true) (kL : PySem.W.keepIn K (.ref fL) = true)
    {xnm xq : Str} {xN : Addr} {xbs : List Value} {xsn : List Str} {xsub : List Value} {xab : Bool} {xcol : Option Bool} {xdd : Option Addr} {xm0 xm1 xm2 xm3 xm5 : Option Value}
    (iA : PySem.W.nsIn K mainGlobals "InvalidLine" = some (some (.ref C))) (iX : K.lookup C = some (excClassObj xnm xq C xN xbs [.ref hE, .type "ValueError", .type "Exception", .type "BaseException", .type "object"] true xsn xsub xab xcol xdd xm0 xm1 xm2 xm3 xm5 "ValueError.__new__"))
    (iS : PySem.W.findIn K (.ref C) "__setattr__" = some (some (.builtin "object.__setattr__"))) (iE : PySem.W.subIn K (.ref C) (.type "BaseException") = some true) (iY : PySem.W.typeIn K (.ref C) = some (.type "type")) (iK : PySem.W.keepIn K (.ref C) = true)
    (iF : PySem.W.findIn K (.ref C) "__init__" = some (some (.ref fI))) (iT : PySem.W.typeIn K (.ref fI) = some (.type "function")) (iL : PySem.W.findIn K (.ref C) "line" = some none) (iC : PySem.W.findIn K (.ref C) "column" = some none)
    (lI0 : K.lookup fI = some ⟨ocI0, odI0, .func (PySem.W.fnOf "__init__" "InvalidLine.__init__" (defArgs sInit) (defBody sInit) (defScope sInit) .none kVI0 dcI0 pmI0 anI0 cdI0 ctI0), slI0⟩) (cI0 : PySem.W.codeIn K cdI0 "InvalidLine.__init__" = true) (kI0 : PySem.W.keepIn K (.ref fI) = true)
    {tNC : Tok} (nNC : PySem.W.nsIn K mainGlobals "NAME_CHARACTERS" = some (some (.str "0123456789ABCDEFGHIJKLMNOPQRSTUVWXYZabcdefghijklmnopqrstuvwxyz" tNC)))
    {tLN : Tok} (nLN : PySem.W.nsIn K mainGlobals "_LONGEST_NAME" = some (some (.int 40 tLN)))
    {tLRD : Tok} (nLRD : PySem.W.nsIn K mainGlobals "_LONGEST_READ" = some (some (.int 1000 tLRD)))
    {tLE : Tok} (nLE : PySem.W.nsIn K mainGlobals "LETTERS" = some (some (.str "ACGTN" tLE)))
    {tMK : Tok} (nMK : PySem.W.nsIn K mainGlobals "MARKS" = some (some (.str "0123456789ABCDEFGHIJKLMNOPQRSTUVWXYZabcde" tMK)))
    (zlen : PySem.W.nsIn K mainGlobals "len" = some none) (zint : PySem.W.nsIn K mainGlobals "int" = some none) (zabs : PySem.W.nsIn K mainGlobals "abs" = some none) (zrange : PySem.W.nsIn K mainGlobals "range" = some none) (zisinstance : PySem.W.nsIn K mainGlobals "isinstance" = some none) (zbool : PySem.W.nsIn K mainGlobals "bool" = some none) (zstr : PySem.W.nsIn K mainGlobals "str" = some none) (zmin : PySem.W.nsIn K mainGlobals "min" = some none) (zlist : PySem.W.nsIn K mainGlobals "list" = some none) (ztuple : PySem.W.nsIn K mainGlobals "tuple" = some none) (zall : PySem.W.nsIn K mainGlobals "all" = some none) :
    ∃ fd : FuncData, (∀ (s : Shared) (v : Value), BindsTo s fd ⟨[v], []⟩ [("script", v)]) ∧ ∀ base : Heap, K.In base → base.Ns mainGlobals mg → FnOk l.prog w K mg base CX0 6 fa fd ["script"] (spLaw K) := by
  have e := hfa.symm.trans (PySem.W.mg_of X G aL)
  cases e
  have FRR := fun_mk (st := sReadReads) lRR cRR kRR
  have FWR := fun_mk (st := sWriteReads) lWR cWR kWR
  have FNL := fun_mk (st := sNameLine) lNL cNL kNL
  have FTL := fun_mk (st := sTextLine) lTL cTL kTL
  have FML := fun_mk (st := sMarksLine) lML cML kML
  have FLA := fun_mk (st := sLineAt) lLA cLA kLA
  have FFO := fun_mk (st := sFirstOther) lFO cFO kFO
  have FC := fun_mk (st := sCell) lC cC kC
  have FR := fun_mk (st := sRow) lR cR kR
  have FIN := fun_mk (st := sInteger) lIN cIN kIN
  have FT := fun_mk (st := sText) lT cT kT
  have FL := fun_mk (st := sLaw) lL cL kL
  have FI0 := fun_mk (st := sInit) lI0 cI0 kI0
  have bI0 := FI0.binds (ps := ["self", "line", "column"]) fun _ _ _ _ _ _ us hl => match us, hl with | [_, _, _], _ => rfl
  have IE : IL K mg C fI _ := ⟨PySem.W.mg_of X G iA, ⟨⟨_, _, _, _, _, _, _, _, _, _, _, _, _, _, _, iX, rfl⟩, iS, iE, iY, iK⟩, iF, iT, FI0, bI0, iL, iC⟩
  have B : Bl mg := ⟨PySem.W.mg_none_of X G zlen, PySem.W.mg_none_of X G zint, PySem.W.mg_none_of X G zabs, PySem.W.mg_none_of X G zrange, PySem.W.mg_none_of X G zisinstance, PySem.W.mg_none_of X G zbool, PySem.W.mg_none_of X G zstr⟩
  have bRR := FRR.binds (ps := ["lines"]) fun _ _ _ _ _ _ us hl => match us, hl with | [_], _ => rfl
  have bWR := FWR.binds (ps := ["reads"]) fun _ _ _ _ _ _ us hl => match us, hl with | [_], _ => rfl
  have bNL := FNL.binds (ps := ["lines", "at", "sign"]) fun _ _ _ _ _ _ us hl => match us, hl with | [_, _, _], _ => rfl
  have bTL := FTL.binds (ps := ["lines", "at", "room"]) fun _ _ _ _ _ _ us hl => match us, hl with | [_, _, _], _ => rfl
  have bML := FML.binds (ps := ["lines", "at", "many"]) fun _ _ _ _ _ _ us hl => match us, hl with | [_, _, _], _ => rfl
  have bLA := FLA.binds (ps := ["lines", "at"]) fun _ _ _ _ _ _ us hl => match us, hl with | [_, _], _ => rfl
  have bFO := FFO.binds (ps := ["line", "begin", "allowed"]) fun _ _ _ _ _ _ us hl => match us, hl with | [_, _, _], _ => rfl
  have bC := FC.binds (ps := ["script", "k"]) fun _ _ _ _ _ _ us hl => match us, hl with | [_, _], _ => rfl
  have bR := FR.binds (ps := ["cell", "count", "bound"]) fun _ _ _ _ _ _ us hl => match us, hl with | [_, _, _], _ => rfl
  have bIN := FIN.binds (ps := ["value"]) fun _ _ _ _ _ _ us hl => match us, hl with | [_], _ => rfl
  have bT := FT.binds (ps := ["cell", "size"]) fun _ _ _ _ _ _ us hl => match us, hl with | [_, _], _ => rfl
  have gN : mg "NAME_CHARACTERS" = some (.str (T ncl) tNC) := (PySem.W.mg_of X G nNC).trans (by rw [← ncl_text])
  have gE : mg "LETTERS" = some (.str (T lets) tLE) := (PySem.W.mg_of X G nLE).trans (by rw [show Str.ofString "ACGTN" = T lets by decide +kernel])
  have gM : mg "MARKS" = some (.str (T mks) tMK) := (PySem.W.mg_of X G nMK).trans (by rw [← mks_text])
  have zm := PySem.W.mg_none_of X G zmin
  have fin : ∀ base : Heap, FnOk l.prog w K mg base CX0 6 fa _ ["script"] (spLaw K) := fun base => by
    have hA : HasX l.prog w K mg base 3 "_line_at" ["lines", "at"] (spLineAt K C) := ⟨fLA, _, ok_lineAt FLA IE B.len, PySem.W.mg_of X G aLA, kLA, bLA⟩
    have hF : Has l.prog w K mg base 1 "_first_other" ["line", "begin", "allowed"] spFirst := ⟨fFO, _, ok_first FFO B.len B.range, PySem.W.mg_of X G aFO, kFO, bFO⟩
    have hNL : HasX l.prog w K mg base 4 "_name_line" ["lines", "at", "sign"] (spName K C) := ⟨fNL, _, ok_name FNL IE B.len zm gN (PySem.W.mg_of X G nLN) hA hF, PySem.W.mg_of X G aNL, kNL, bNL⟩
    have hTL : HasX l.prog w K mg base 4 "_text_line" ["lines", "at", "room"] (spTextLine K C) := ⟨fTL, _, ok_textLine FTL IE B.len zm gE hA hF, PySem.W.mg_of X G aTL, kTL, bTL⟩
    have hML : HasX l.prog w K mg base 4 "_marks_line" ["lines", "at", "many"] (spMarks K C) := ⟨fML, _, ok_marks FML IE B.len zm gM hA hF, PySem.W.mg_of X G aML, kML, bML⟩
    have hRR : HasX l.prog w K mg base 5 "read_reads" ["lines"] (spReadReads K C) := ⟨fRR, _, ok_readReads FRR B.len B.range (PySem.W.mg_of X G nLRD) hNL hTL hML, PySem.W.mg_of X G aRR, kRR, bRR⟩
    exact ok_law FL B (PySem.W.mg_none_of X G zlist) (PySem.W.mg_none_of X G ztuple) (PySem.W.mg_none_of X G zall) ⟨fC, _, ok_cell FC B, PySem.W.mg_of X G aC, kC, bC⟩ ⟨fT, _, ok_text FT B (ok_row FR B) (PySem.W.mg_of X G aR) kR bR, PySem.W.mg_of X G aT, kT, bT⟩
      ⟨fR, _, ok_row FR B, PySem.W.mg_of X G aR, kR, bR⟩ ⟨fIN, _, ok_integer FIN B, PySem.W.mg_of X G aIN, kIN, bIN⟩ ⟨fWR, _, ok_writeReads FWR gM, PySem.W.mg_of X G aWR, kWR, bWR⟩ hRR
  exact ⟨PySem.W.fnOf "law" "law" (defArgs sLaw) (defBody sLaw) (defScope sLaw) .none kVL dcL pmL anL cdL ctL, fun s v => .of_eq rfl, fun base _ _ => fin base⟩
end Hr
open PySem PySem.W PyProof.Rows
set_option maxHeartbeats 0 in
theorem PySem.Challenge.cw_homereads_k04_lines_of_reads_holds : PySem.Challenge.rw_homereads_k04_lines_of_reads.Holds := by
  w_on; o_law; k_head; (case hw => w_witness2)
  k_fill
  refine L2.walk_of (l := PySem.Challenge.rw_homereads_k04_lines_of_reads) (n := 63) (k := 6) (x := "script") (CX := fun _ => L2.CX0) (sp := fun w => Hr.spLaw _) rfl (by decide) rfl ⟨rfl, by decide, by decide⟩ (fun w h Y => PySem.W.kIn_of Y) ?F (fun _ _ a ns hl _ hS => ⟨a, ns, rfl, hS, fun _ => rfl⟩) (fun _ _ _ _ _ h => h)
  case F =>
    intro w mg fa h KX G hmg
    refine' Hr.all_mk KX G hmg ?aRR ?lRR ?cRR ?kRR ?aWR ?lWR ?cWR ?kWR ?aNL ?lNL ?cNL ?kNL ?aTL ?lTL ?cTL ?kTL ?aML ?lML ?cML ?kML ?aLA ?lLA ?cLA ?kLA ?aFO ?lFO ?cFO ?kFO ?aC ?lC ?cC ?kC ?aR ?lR ?cR ?kR ?aIN ?lIN ?cIN ?kIN ?aT ?lT ?cT ?kT ?aL ?lL ?cL ?kL ?iA ?iX ?iS ?iE ?iY ?iK ?iF ?iT ?iL ?iC ?lI0 ?cI0 ?kI0 ?nNC ?nLN ?nLRD ?nLE ?nMK ?zlen ?zint ?zabs ?zrange ?zisinstance ?zbool ?zstr ?zmin ?zlist ?ztuple ?zall
    (case aRR => k_is)
    (case lRR => k_is)
    (case cRR => k_is)
    (case kRR => k_is)
    (case aWR => k_is)
    (case lWR => k_is)
    (case cWR => k_is)
    (case kWR => k_is)
    (case aNL => k_is)
    (case lNL => k_is)
    (case cNL => k_is)
    (case kNL => k_is)
    (case aTL => k_is)
    (case lTL => k_is)
    (case cTL => k_is)
    (case kTL => k_is)
    (case aML => k_is)
    (case lML => k_is)
    (case cML => k_is)
    (case kML => k_is)
    (case aLA => k_is)
    (case lLA => k_is)
    (case cLA => k_is)
    (case kLA => k_is)
    (case aFO => k_is)
    (case lFO => k_is)
    (case cFO => k_is)
    (case kFO => k_is)
    (case aC => k_is)
    (case lC => k_is)
    (case cC => k_is)
    (case kC => k_is)
    (case aR => k_is)
    (case lR => k_is)
    (case cR => k_is)
    (case kR => k_is)
    (case aIN => k_is)
    (case lIN => k_is)
    (case cIN => k_is)
    (case kIN => k_is)
    (case aT => k_is)
    (case lT => k_is)
    (case cT => k_is)
    (case kT => k_is)
    (case aL => k_is)
    (case lL => k_is)
    (case cL => k_is)
    (case kL => k_is)
    (case iA => k_is)
    (case iX => k_is)
    (case iS => k_is)
    (case iE => k_is)
    (case iY => k_is)
    (case iK => k_is)
    (case iF => k_is)
    (case iT => k_is)
    (case iL => k_is)
    (case iC => k_is)
    (case lI0 => k_is)
    (case cI0 => k_is)
    (case kI0 => k_is)
    (case nNC => k_is)
    (case nLN => k_is)
    (case nLRD => k_is)
    (case nLE => k_is)
    (case nMK => k_is)
    (case zlen => k_is)
    (case zint => k_is)
    (case zabs => k_is)
    (case zrange => k_is)
    (case zisinstance => k_is)
    (case zbool => k_is)
    (case zstr => k_is)
    (case zmin => k_is)
    (case zlist => k_is)
    (case ztuple => k_is)
    (case zall => k_is)
