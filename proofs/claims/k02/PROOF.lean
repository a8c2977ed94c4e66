import PyProof.Rows.All
import Wide.All
import OpenK.AllK
import Wide.FinOn
import HandS.Base
import HandS.Call
import HandS.List
import HandS.Comp
import HandS.Ends
import HandS.Dict
import HandS.Iter
import HandS.Text
import HandS.Words
import HandS.WordsList
import HandS.More
import HandS.Codes
import HandS.Replace
import HandS.IsInst
import HandS.ExcInit
import HandS.WordsExc
import HandS.Exc
import HandS.TryOnly
import HandS.ExcOwn
import PySem.Challenge.RW_homereads_k02_lines_of_references
set_option Elab.async false
set_option linter.all false
set_option maxRecDepth 100000
set_option maxHeartbeats 4000000
namespace Hr
open PySem PySem.Spec PyProof.Rows L2
/-! ### the text -/
def topS (i : Nat) : Stmt := PySem.Challenge.pw_homereads_k02_lines_of_references.main.body.getD i (.Pass ⟨0, 0, 0, 0⟩)
abbrev sInit : Stmt := inClass (topS 2) 0
abbrev sReadRefs : Stmt := topS 9
abbrev sWriteRefs : Stmt := topS 10
abbrev sDivText : Stmt := topS 11
abbrev sNameLine : Stmt := topS 12
abbrev sTextLine : Stmt := topS 13
abbrev sLineAt : Stmt := topS 14
abbrev sFirstOther : Stmt := topS 15
abbrev sCell : Stmt := topS 17
abbrev sRow : Stmt := topS 18
abbrev sInteger : Stmt := topS 19
abbrev sText : Stmt := topS 20
abbrev sLTurned : Stmt := topS 21
abbrev sLName : Stmt := topS 24
abbrev sLDiv : Stmt := topS 25
abbrev sLaw : Stmt := topS 26
theorem scWriteRefs : FnScope ["references", "lines", "name", "text", "begin"] ["references"] (defScope sWriteRefs) := ⟨rfl, rfl, rfl, by decide +kernel, rfl, by decide +kernel, by decide +kernel⟩
theorem scLName : FnScope ["cell", "signs", "size", "x"] ["cell"] (defScope sLName) := ⟨rfl, rfl, rfl, by decide +kernel, rfl, by decide +kernel, by decide +kernel⟩
theorem scLDiv : FnScope ["text", "cell", "lines", "drawn", "at", "k"] ["text", "cell"] (defScope sLDiv) := ⟨rfl, rfl, rfl, by decide +kernel, rfl, by decide +kernel, by decide +kernel⟩
theorem scCell : FnScope ["script", "k"] ["script", "k"] (defScope sCell) := ⟨rfl, rfl, rfl, by decide +kernel, rfl, by decide +kernel, by decide +kernel⟩
theorem scRow : FnScope ["cell", "count", "bound", "rest", "mixed", "row", "k"] ["cell", "count", "bound"] (defScope sRow) := ⟨rfl, rfl, rfl, by decide +kernel, rfl, by decide +kernel, by decide +kernel⟩
theorem scInteger : FnScope ["value"] ["value"] (defScope sInteger) := ⟨rfl, rfl, rfl, by decide +kernel, rfl, by decide +kernel, by decide +kernel⟩
theorem scText : FnScope ["cell", "size", "drawn", "kind", "text", "k", "letter"] ["cell", "size"] (defScope sText) := ⟨rfl, rfl, rfl, by decide +kernel, rfl, by decide +kernel, by decide +kernel⟩
theorem scLTurned : FnScope ["text", "news", "letter"] ["text"] (defScope sLTurned) := ⟨rfl, rfl, rfl, by decide +kernel, rfl, by decide +kernel, by decide +kernel⟩
theorem scInit : FnScope ["self", "line", "column"] ["self", "line", "column"] (defScope sInit) := ⟨rfl, rfl, rfl, by decide +kernel, rfl, by decide +kernel, by decide +kernel⟩
theorem scLineAt : FnScope ["lines", "at"] ["lines", "at"] (defScope sLineAt) := ⟨rfl, rfl, rfl, by decide +kernel, rfl, by decide +kernel, by decide +kernel⟩
theorem scFirstOther : FnScope ["line", "begin", "allowed", "column"] ["line", "begin", "allowed"] (defScope sFirstOther) := ⟨rfl, rfl, rfl, by decide +kernel, rfl, by decide +kernel, by decide +kernel⟩
theorem scNameLine : FnScope ["lines", "at", "sign", "line", "column"] ["lines", "at", "sign"] (defScope sNameLine) := ⟨rfl, rfl, rfl, by decide +kernel, rfl, by decide +kernel, by decide +kernel⟩
theorem scTextLine : FnScope ["lines", "at", "room", "line", "column"] ["lines", "at", "room"] (defScope sTextLine) := ⟨rfl, rfl, rfl, by decide +kernel, rfl, by decide +kernel, by decide +kernel⟩
theorem scReadRefs : FnScope ["lines", "references", "at", "name", "text"] ["lines"] (defScope sReadRefs) := ⟨rfl, rfl, rfl, by decide +kernel, rfl, by decide +kernel, by decide +kernel⟩
theorem scDivText : FnScope ["lines", "at", "parts", "room", "part"] ["lines", "at"] (defScope sDivText) := ⟨rfl, rfl, rfl, by decide +kernel, rfl, by decide +kernel, by decide +kernel⟩
/-! ### walks of a known number of turns -/
theorem for_gen {J : It} {n : Nat} {g : TG} {tb : TS} {D : Ends} {σ : L2.St} {H : Hp} (Pv : Nat → L2.St → Hp → Prop) (h0 : Pv 0 σ H) (hgo : ∀ i σ H, i < n → Pv i σ H → J.go i H) (hstop : ∀ σ H, Pv n σ H → J.stop n H)
    (hs : ∀ i σ H x H', i < n → Pv i σ H → J.yld i H x H' → g x σ H' fun σ2 H2 => tb { D with nx := Pv (i + 1), ct := Pv (i + 1), bk := D.nx } σ2 H2) (hd : ∀ σ H, Pv n σ H → D.nx σ H) :
    ∃ W : Nat → Nat → L2.St → Hp → Prop, (∃ m, W 0 m σ H) ∧ ∀ i m σ H, W i m σ H →
      (J.stop i H ∧ D.nx σ H) ∨ (J.go i H ∧ ∃ N : L2.St → Hp → Prop, (∀ σ' H', N σ' H' → ∃ m', m' < m ∧ W (i + 1) m' σ' H') ∧ ∀ x H', J.yld i H x H' → g x σ H' fun σ2 H2 => tb { D with nx := N, ct := N, bk := D.nx } σ2 H2) := by
  refine ⟨fun i m σ H => i + m = n ∧ Pv i σ H, ⟨n, Nat.zero_add n, h0⟩, fun i m σ H hw => ?_⟩
  obtain ⟨em, p⟩ := hw
  cases m with
  | zero =>
    obtain rfl : i = n := em
    exact .inl ⟨hstop σ H p, hd σ H p⟩
  | succ m =>
    have lt : i < n := by omega
    exact .inr ⟨hgo i σ H lt p, Pv (i + 1), fun σ' H' p' => ⟨m, Nat.lt_succ_self m, by omega, p'⟩, fun x H' y => hs i σ H x H' lt p y⟩
theorem lc_gen {J : It} {n : Nat} {g : TG} {tt : TT} {te : TE} {vs : List Nat} {σ : L2.St} {H1 : Hp} {D : Addr} {Qd : Hp → Prop} (Pv : Nat → Hp → Prop) (h0 : Pv 0 (upd H1 D (.lst []))) (hgo : ∀ i H, i < n → Pv i H → J.go i H) (hstop : ∀ H, Pv n H → J.stop n H)
    (hs : ∀ i H x H', i < n → Pv i H → J.yld i H x H' → g x (wipe σ vs) H' fun σ2 H2 => wipe σ2 vs = wipe σ vs ∧ tt σ2 H2 fun b H3 =>
      if b = true then te σ2 H3 fun y H4 => ∃ acc, H4 D = some (.lst acc) ∧ acc.length < sizeLine ∧ Pv (i + 1) (upd H4 D (.lst (acc ++ [y]))) else Pv (i + 1) H3) (hd : ∀ H, Pv n H → Qd H) :
    ∃ W : Nat → Nat → Hp → Prop, (∃ m, W 0 m (upd H1 D (.lst []))) ∧ ∀ i m H, W i m H →
      (J.stop i H ∧ Qd H) ∨ (J.go i H ∧ ∃ Nx : Hp → Prop, (∀ H', Nx H' → ∃ m', m' < m ∧ W (i + 1) m' H') ∧ ∀ x H', J.yld i H x H' → g x (wipe σ vs) H' fun σ2 H2 => wipe σ2 vs = wipe σ vs ∧ tt σ2 H2 fun b H3 =>
        if b = true then te σ2 H3 fun y H4 => ∃ acc, H4 D = some (.lst acc) ∧ acc.length < sizeLine ∧ Nx (upd H4 D (.lst (acc ++ [y]))) else Nx H3) := by
  refine ⟨fun i m H => i + m = n ∧ Pv i H, ⟨n, Nat.zero_add n, h0⟩, fun i m H hw => ?_⟩
  obtain ⟨em, p⟩ := hw
  cases m with
  | zero =>
    obtain rfl : i = n := em
    exact .inl ⟨hstop H p, hd H p⟩
  | succ m =>
    have lt : i < n := by omega
    exact .inr ⟨hgo i H lt p, Pv (i + 1), fun H' p' => ⟨m, Nat.lt_succ_self m, by omega, p'⟩, fun x H' y => hs i H x H' lt p y⟩
/-- a loop over a text's signs -/
theorem for_str {z : Str} {g : TG} {tb : TS} {D : Ends} {σ : L2.St} {H : Hp} (Pv : Nat → L2.St → Hp → Prop) (h0 : Pv 0 σ H)
    (hs : ∀ i c σ H, z.cps[i]? = some c → Pv i σ H → g (.str ⟨#[c]⟩) σ H fun σ2 H2 => tb { D with nx := Pv (i + 1), ct := Pv (i + 1), bk := D.nx } σ2 H2) (hd : ∀ σ H, Pv z.cps.size σ H → D.nx σ H) :
    ∃ W : Nat → Nat → L2.St → Hp → Prop, (∃ m, W 0 m σ H) ∧ ∀ i m σ H, W i m σ H →
      ((Its z).stop i H ∧ D.nx σ H) ∨ ((Its z).go i H ∧ ∃ N : L2.St → Hp → Prop, (∀ σ' H', N σ' H' → ∃ m', m' < m ∧ W (i + 1) m' σ' H') ∧ ∀ x H', (Its z).yld i H x H' → g x σ H' fun σ2 H2 => tb { D with nx := N, ct := N, bk := D.nx } σ2 H2) :=
  for_gen (J := Its z) (n := z.cps.size) Pv h0 (fun i σ H hi _ => hi) (fun σ H _ => Nat.le_refl _) (fun i σ H x H' hi p y => by
    obtain ⟨e, c, hc, ex⟩ := y
    subst e
    subst ex
    exact hs i c σ _ hc p) hd
/-! ### texts by lists -/
def T (l : List Nat) : Str := ⟨l.toArray⟩
theorem T_len (l : List Nat) : (T l).length = l.length := by
  show l.toArray.size = l.length
  simp
theorem T_size (l : List Nat) : (T l).cps.size = l.length := by
  show l.toArray.size = l.length
  simp
theorem T_list (l : List Nat) : (T l).cps.toList = l := rfl
theorem T_at (l : List Nat) (i : Nat) : (T l).cps[i]? = l[i]? := by
  show l.toArray[i]? = l[i]?
  simp
theorem T_app (a b : List Nat) : T a ++ T b = T (a ++ b) := by
  show Str.mk (a.toArray ++ b.toArray) = Str.mk (a ++ b).toArray
  simp
theorem T_inj {a b : List Nat} (h : T a = T b) : a = b := by
  have e : (T a).cps.toList = (T b).cps.toList := by rw [h]
  exact e
theorem T_nil : (Str.ofString "" : Str) = T [] := by decide +kernel
def Sg (c : Nat) : Prop := c = 65 ∨ c = 67 ∨ c = 71 ∨ c = 84 ∨ c = 78
def Dna (l : List Nat) : Prop := ∀ c ∈ l, Sg c
theorem Dna.app {a b : List Nat} (h : Dna a) (k : Dna b) : Dna (a ++ b) := fun c hc => by
  rcases List.mem_append.mp hc with q | q
  · exact h c q
  · exact k c q
theorem Dna.one {c : Nat} (h : Sg c) : Dna [c] := fun d hd => by
  obtain rfl : d = c := by simpa using hd
  exact h
theorem line_ok {n : Nat} (h : n ≤ 100000) : n ≤ sizeLine := by
  rw [sizeLine_eq]
  omega
theorem line_lt {n : Nat} (h : n ≤ 100000) : n < sizeLine := by
  rw [sizeLine_eq]
  omega
theorem same_upd {H : Hp} {p : Addr} {o : HO} (h : H p = none) : Same H (upd H p o) := fun b x e => by
  rw [upd_ne (ne_of_none e h)]
  exact e
theorem upd_upd {H : Hp} {p : Addr} {o o' : HO} : upd (upd H p o) p o' = upd H p o' := by
  funext b
  by_cases e : b = p
  · rw [e, upd_same, upd_same]
  · rw [upd_ne e, upd_ne e, upd_ne e]
/-! ### names that are still the built-in ones -/
structure Bl (mg : Str → Option Value) : Prop where
  len : mg "len" = none
  int : mg "int" = none
  abs : mg "abs" = none
  range : mg "range" = none
  isin : mg "isinstance" = none
  bool : mg "bool" = none
  str : mg "str" = none
section
variable {P : Program} {w : World} {K : PySem.W.Frag} {mg : Str → Option Value} {base : Heap}
/-! ### _law_cell -/
def spCell (K : PySem.W.Frag) : Sp := fun vs H Q _ => ∃ (a : Addr) (ns : List Int) (k : Nat), vs = [.ref a, .int (k : Int)] ∧ SqL K H a (ns.map V.int) ∧ ∀ x : Int, Q (.int x) H
theorem ok_cell {f : Addr} {fd : FuncData} {k : Nat} (F : Fun K "_law_cell" "_law_cell" sCell f fd) (B : Bl mg) : FnOk P w K mg base CX0 (k + 1) f fd ["script", "k"] (spCell K) := by
  refine F.ok scCell (fun vs H Q E h => ?_) (fun cdv A outer s H vs Q E hr h => ?_)
  · obtain ⟨a, ns, j, rfl, _⟩ := h
    rfl
  · obtain ⟨a, ns, j, rfl, hS, q⟩ := h
    refine ⟨_, pss_cons (ps_if (pt_cmpR op_lt (pv 1) (pe_callB call_len_seq (by rfl) B.len PySem.boot_len (pa_cons (pv 0) pa_nil)) (nomark _))
        (pss_one (ps_ret (pe_callTy call_int1 (by rfl) B.int (by decide +kernel) (pa_cons (pe_ix ix_list (pv 0) (pv 1) (fun _ _ => rfl)) pa_nil)))) pss_nil)
      (pss_one (ps_ret pe_int)), ?_⟩
    refine ⟨.int j, rfl, .ref a, rfl, a, ns.map V.int, rfl, .inl hS, j, _, rfl, rfl, _, rfl, ite2 (fun e => ?_) (fun e => q 0)⟩
    have h1 : (j : Int) < ((ns.map V.int).length : Int) := of_decide_eq_true e
    have h2 : j < ns.length := by
      rw [List.length_map] at h1
      omega
    have g1 : (ns.map V.int)[j]? = some (.int ns[j]) := by
      rw [List.getElem?_map, List.getElem?_eq_getElem h2]
      rfl
    exact ⟨.ref a, rfl, .int j, rfl, a, _, j, .int ns[j], rfl, rfl, hS, atI_nat g1, .inl ⟨_, rfl, q _⟩⟩
/-! ### _law_row -/
def spRow (K : PySem.W.Frag) : Sp := fun vs H Q _ => ∃ (c n b : Int), vs = [.int c, .int n, .int b] ∧ 0 ≤ n ∧ n ≤ 100000 ∧ 1 < b ∧ b < 1000 ∧
  ∀ (H' : Hp) (p : Addr) (xs : List Int), Same H H' → H p = none → H' p = some (.lst (xs.map V.int)) → xs.length = n.toNat → (∀ x ∈ xs, 0 ≤ x ∧ x < b) → Q (.ref p) H'
theorem ok_row {f : Addr} {fd : FuncData} {k : Nat} (F : Fun K "_law_row" "_law_row" sRow f fd) (B : Bl mg) : FnOk P w K mg base CX0 (k + 1) f fd ["cell", "count", "bound"] (spRow K) := by
  refine F.ok scRow (fun vs H Q E h => ?_) (fun cdv A outer s H vs Q E hr h => ?_)
  · obtain ⟨c, n, b, rfl, _⟩ := h
    rfl
  · obtain ⟨c, n, b, rfl, hn0, hn, hb1, hb2, q⟩ := h
    refine ⟨_, pss_cons (ps_set (i := 3) scRow.nd rfl (.inl rfl) (pe_callB call_abs (by rfl) B.abs (by decide +kernel) (pa_cons (pe_callTy call_int1 (by rfl) B.int (by decide +kernel) (pa_cons (pv 0) pa_nil)) pa_nil)))
      (pss_cons (ps_set (i := 4) scRow.nd rfl (.inl rfl) (pe_op op_add (pe_op op_mod (pe_callTy call_int1 (by rfl) B.int (by decide +kernel) (pa_cons (pv 0) pa_nil)) pe_int) pe_int))
      (pss_cons (ps_set (i := 5) scRow.nd rfl (.inl rfl) (pe_lst pa_nil))
      (pss_cons (ps_for PassesOwn.never rfl (pi_range1 rfl B.range (pa_cons (pv 1) pa_nil)) (pg_name (i := 6) scRow.nd rfl (.inl rfl))
        (pss_one (ps_if (pt_cmpR op_ge (pv 3) (pv 2) (nomark _))
          (pss_cons (ps_expr (pe_bm PySem.F.plainAttrs_list PySem.F.slot_list_append PySem.F.type_list_append mt_append (pv 5) (pa_cons (pe_op op_mod (pe_callTy call_int1 (by rfl) B.int (by decide +kernel) (pa_cons (pv 3) pa_nil)) (pv 2)) pa_nil)))
            (pss_one (ps_set (i := 3) scRow.nd rfl (.inl rfl) (pe_op op_fdiv (pv 3) (pv 2)))))
          (pss_cons (ps_set (i := 4) scRow.nd rfl (.inl rfl) (pe_op op_mod (pe_callTy call_int1 (by rfl) B.int (by decide +kernel) (pa_cons (pe_op op_add (pe_op op_add (pe_op op_mul (pv 4) pe_int) (pe_op op_mul pe_int (pv 6))) pe_int) pa_nil)) pe_int))
            (pss_one (ps_expr (pe_bm PySem.F.plainAttrs_list PySem.F.slot_list_append PySem.F.type_list_append mt_append (pv 5) (pa_cons (pe_op op_mod (pe_callTy call_int1 (by rfl) B.int (by decide +kernel) (pa_cons (pe_op op_fdiv (pe_op op_mul (pv 4) pe_int) pe_int) pa_nil)) (pv 2)) pa_nil))))))))
      (pss_one (ps_ret (pv 5)))))), ?_⟩
    refine ⟨.int c, rfl, .inl ⟨c, rfl, c, rfl, ?_⟩⟩
    refine ⟨.int c, rfl, .inl ⟨c, rfl, c, 1000003, rfl, rfl, (show (0 : Int) < 1000003 by decide), _, _, rfl, rfl, ?_⟩⟩
    refine ⟨Nat.zero_le _, fun p hp => ?_⟩
    refine ⟨.int n, rfl, n, rfl, by omega, by omega, ?_⟩
    refine for_range (lo := 0) (n := n.toNat) (fun i σ H' => ∃ (r m : Int) (kv : Option V) (xs : List Int), σ = [some (.int c), some (.int n), some (.int b), some (.int r), some (.int m), some (.ref p), kv] ∧ 0 ≤ m ∧ m < 4294967296 ∧ Same H H' ∧
      H' p = some (.lst (xs.map V.int)) ∧ xs.length = i ∧ ∀ x ∈ xs, 0 ≤ x ∧ x < b) ?_ ?_ ?_
    · refine ⟨_, _, none, [], rfl, ?_, ?_, same_upd hp, upd_same, rfl, fun x hx => by cases hx⟩
      · have := Int.emod_nonneg c (show (1000003 : Int) ≠ 0 by decide)
        omega
      · have := Int.emod_lt_of_pos c (show (0 : Int) < 1000003 by decide)
        omega
    · rintro i σ H' hi ⟨r, m, kv, xs, rfl, hm0, hm1, sm, hx, hl, hall⟩
      have grow : ∀ (y : Int) (τ : L2.St) (r' m' : Int), 0 ≤ y → y < b → 0 ≤ m' → m' < 4294967296 → τ = [some (.int c), some (.int n), some (.int b), some (.int r'), some (.int m'), some (.ref p), some (.int (0 + (i : Nat)))] →
          ∃ (r m : Int) (kv : Option V) (zs : List Int), τ = [some (.int c), some (.int n), some (.int b), some (.int r), some (.int m), some (.ref p), kv] ∧ 0 ≤ m ∧ m < 4294967296 ∧ Same H (upd H' p (.lst (xs.map V.int ++ [.int y]))) ∧
          (upd H' p (.lst (xs.map V.int ++ [.int y]))) p = some (.lst (zs.map V.int)) ∧ zs.length = i + 1 ∧ ∀ x ∈ zs, 0 ≤ x ∧ x < b := by
        intro y τ r' m' y0 y1 h0 h1 e
        refine ⟨r', m', _, xs ++ [y], e, h0, h1, fun q o k => ?_, ?_, ?_, ?_⟩
        · rw [upd_ne (ne_of_none k hp)]
          exact sm q o k
        · rw [upd_same, List.map_append]
          rfl
        · rw [List.length_append, hl]
          rfl
        · intro x hxm
          rcases List.mem_append.mp hxm with z | z
          · exact hall x z
          · obtain rfl : x = y := by simpa using z
            exact ⟨y0, y1⟩
      have hsz : (xs.map V.int).length < sizeLine := line_lt (by rw [List.length_map]; omega)
      refine ⟨.int r, rfl, .int b, rfl, r, b, rfl, rfl, _, rfl, ite2 (fun e => ?_) (fun e => ?_)⟩
      · refine ⟨.ref p, rfl, .inl ⟨rfl, _, .inl (.inl hx)⟩, .int r, rfl, .inl ⟨r, rfl, .int b, rfl, r, b, rfl, rfl, (show 0 < b by omega), p, _, _, rfl, rfl, hx, hsz, ?_⟩⟩
        refine ⟨.int r, rfl, .int b, rfl, r, b, rfl, rfl, ⟨by omega, by omega⟩, ?_⟩
        exact grow _ _ (r / b) m (Int.emod_nonneg r (by omega)) (Int.emod_lt_of_pos r (by omega)) hm0 hm1 rfl
      · refine ⟨.int m, rfl, m, 48271, rfl, rfl, .inl ⟨by omega, by omega⟩, .int (0 + (i : Nat)), rfl, 11, _, rfl, rfl, .inl ⟨by decide, by decide⟩, _, _, rfl, rfl, _, _, rfl, rfl, .inl ⟨_, rfl, _, 2147483647, rfl, rfl, (show (0 : Int) < 2147483647 by decide), ?_⟩⟩
        have b0 : 0 ≤ (m * 48271 + 11 * (0 + ((i : Nat) : Int)) + 7) % 2147483647 := Int.emod_nonneg _ (by decide)
        have b1 : (m * 48271 + 11 * (0 + ((i : Nat) : Int)) + 7) % 2147483647 < 2147483647 := Int.emod_lt_of_pos _ (by decide)
        refine ⟨.ref p, rfl, .inl ⟨rfl, _, .inl (.inl hx)⟩, _, rfl, (m * 48271 + 11 * (0 + ((i : Nat) : Int)) + 7) % 2147483647, 2862933555777941757, rfl, rfl, .inl ⟨by omega, by omega⟩, _, 1024, rfl, rfl, ⟨by decide, by decide⟩, .inl ⟨_, rfl, .int b, rfl, _, b, rfl, rfl, (show 0 < b by omega), p, _, _, rfl, rfl, hx, hsz, ?_⟩⟩
        exact grow _ _ r ((m * 48271 + 11 * (0 + ((i : Nat) : Int)) + 7) % 2147483647) (Int.emod_nonneg _ (by omega)) (Int.emod_lt_of_pos _ (by omega)) b0 (by omega) rfl
    · rintro σ H' ⟨r, m, kv, xs, rfl, hm0, hm1, sm, hx, hl, hall⟩
      exact ⟨.ref p, rfl, q H' p xs sm hp hx hl hall⟩
/-! ### _law_integer -/
def spInteger : Sp := fun vs H Q _ => ∃ i : Int, vs = [.int i] ∧ Q (.bl true) H
theorem ok_integer {f : Addr} {fd : FuncData} {k : Nat} (F : Fun K "_law_integer" "_law_integer" sInteger f fd) (B : Bl mg) : FnOk P w K mg base CX0 (k + 1) f fd ["value"] spInteger := by
  refine F.ok scInteger (fun vs H Q E h => ?_) (fun cdv A outer s H vs Q E hr h => ?_)
  · obtain ⟨i, rfl, _⟩ := h
    rfl
  · obtain ⟨i, rfl, q⟩ := h
    refine ⟨_, pss_one (ps_ret (pe_and (pe_callB call_isi (by rfl) B.isin (by decide +kernel) (pa_cons (pv 0) (pa_cons (pe_bltn (v := .ty "int") (by rfl) B.int (by decide +kernel) rfl) pa_nil)))
      (pe_one (pe_not (pe_callB call_isi (by rfl) B.isin (by decide +kernel) (pa_cons (pv 0) (pa_cons (pe_bltn (v := .ty "bool") (by rfl) B.bool (by decide +kernel) rfl) pa_nil))))))), ?_⟩
    refine ⟨.int i, rfl, .int i, .ty "int", _, _, true, rfl, .ty _, .base (.int i), kit_ty (by decide +kernel), true, rfl, iteT ?_⟩
    exact ⟨.int i, rfl, .int i, .ty "bool", _, _, false, rfl, .ty _, .base (.int i), kit_ty (by decide +kernel), false, rfl, q⟩
/-! ### _law_text -/
theorem sg_four (x : Int) : ∃ c, Sg c ∧ atI (Str.ofString "ACGT").cps.toList (x % 4) = some c := by
  have h : x % 4 = 0 ∨ x % 4 = 1 ∨ x % 4 = 2 ∨ x % 4 = 3 := by omega
  rcases h with h | h | h | h <;> rw [h]
  · exact ⟨65, .inl rfl, by decide +kernel⟩
  · exact ⟨67, .inr (.inl rfl), by decide +kernel⟩
  · exact ⟨71, .inr (.inr (.inl rfl)), by decide +kernel⟩
  · exact ⟨84, .inr (.inr (.inr (.inl rfl))), by decide +kernel⟩
theorem sg_two (x : Int) : ∃ c, Sg c ∧ atI (Str.ofString "AC").cps.toList (x % 2) = some c := by
  have h : x % 2 = 0 ∨ x % 2 = 1 := by omega
  rcases h with h | h <;> rw [h]
  · exact ⟨65, .inl rfl, by decide +kernel⟩
  · exact ⟨67, .inr (.inl rfl), by decide +kernel⟩
def spText (K : PySem.W.Frag) : Sp := fun vs H Q _ => ∃ (c n : Int), vs = [.int c, .int n] ∧ 0 ≤ n ∧ n ≤ 100000 ∧ ∀ (H' : Hp) (l : List Nat), Same H H' → Dna l → l.length = n.toNat → Q (.str (T l)) H'
theorem ok_text {f fR : Addr} {fd fdR : FuncData} {k : Nat} (F : Fun K "_law_text" "_law_text" sText f fd) (B : Bl mg) (GR : FnOk P w K mg base CX0 (k + 1) fR fdR ["cell", "count", "bound"] (spRow K)) (gR : mg "_law_row" = some (.ref fR)) (kR : PySem.W.keepIn K (.ref fR) = true) (bR : Binds K fdR ["cell", "count", "bound"] []) :
    FnOk P w K mg base CX0 (k + 1 + 1) f fd ["cell", "size"] (spText K) := by
  refine F.ok scText (fun vs H Q E h => ?_) (fun cdv A outer s H vs Q E hr h => ?_)
  · obtain ⟨c, n, rfl, _⟩ := h
    rfl
  · obtain ⟨c, n, rfl, hn0, hn, q⟩ := h
    refine ⟨_, pss_cons (ps_set (i := 2) scText.nd rfl (.inl rfl) (pe_call GR hr (by rfl) gR kR bR .nil pass0 (pa_cons (pv 0) (pa_cons (pv 1) (pa_cons pe_int pa_nil)))))
      (pss_cons (ps_set (i := 3) scText.nd rfl (.inl rfl) (pe_op op_mod (pe_op op_fdiv (pe_callB call_abs (by rfl) B.abs (by decide +kernel) (pa_cons (pe_callTy call_int1 (by rfl) B.int (by decide +kernel) (pa_cons (pv 0) pa_nil)) pa_nil)) pe_int) pe_int))
      (pss_cons (ps_set (i := 4) scText.nd rfl (.inl rfl) pe_str)
      (pss_cons (ps_for PassesOwn.never rfl (pi_range1 rfl B.range (pa_cons (pv 1) pa_nil)) (pg_name (i := 5) scText.nd rfl (.inl rfl))
        (C8.pss_cut (ps_set (i := 6) scText.nd rfl (.inl rfl) (pe_ix ix_str pe_str (pe_op op_mod (pe_ix ix_list (pv 2) (pv 5) (fun _ _ => rfl)) pe_int) (fun _ _ => rfl)))
        (C8.pss_cut (ps_if (PW.pt (pw_and (pt_cmpR op_eq (pv 3) pe_int (nomark _)) (pw_and (pt_cmpR op_gt (pv 5) pe_int (nomark _)) (pw_and1 (pt_cmpR op_gt (pe_op op_mod (pe_ix ix_list (pv 2) (pv 5) (fun _ _ => rfl)) pe_int) pe_int (nomark _))))))
            (pss_one (ps_set (i := 6) scText.nd rfl (.inl rfl) (pe_ix ix_str (pv 4) (pe_op op_sub (pv 5) pe_int) (fun _ _ => rfl)))) pss_nil)
        (C8.pss_cut (ps_if (pt_cmpR op_eq (pv 3) pe_int (nomark _)) (pss_one (ps_set (i := 6) scText.nd rfl (.inl rfl) (pe_ix ix_str pe_str (pe_op op_mod (pe_ix ix_list (pv 2) (pv 5) (fun _ _ => rfl)) pe_int) (fun _ _ => rfl)))) pss_nil)
        (C8.pss_cut (ps_if (PW.pt (pw_and (pt_cmpR op_eq (pv 3) pe_int (nomark _)) (pw_and1 (pt_cmpR op_gt (pe_ix ix_list (pv 2) (pv 5) (fun _ _ => rfl)) pe_int (nomark _)))))
            (pss_one (ps_set (i := 6) scText.nd rfl (.inl rfl) pe_str)) pss_nil)
        (pss_one (ps_set (i := 4) scText.nd rfl (.inl rfl) (pe_op op_add_str (pv 4) (pv 6)))))))))
      (pss_one (ps_ret (pv 4)))))), ?_⟩
    refine ⟨.int c, rfl, .int n, rfl, c, n, 97, rfl, hn0, hn, by decide, by decide, fun H1 p xs sm hp hx hl hall => ?_⟩
    refine ⟨.int c, rfl, .inl ⟨c, rfl, c, rfl, _, 7, rfl, rfl, ⟨by decide, by decide⟩, _, 4, rfl, rfl, (show (0 : Int) < 4 by decide), ?_⟩⟩
    refine ⟨.int n, rfl, n, rfl, by omega, by omega, ?_⟩
    obtain ⟨kd, hkd⟩ : ∃ kd : Int, kd = (if c < 0 then -c else c) / 7 % 4 := ⟨_, rfl⟩
    have hS : SqL K H1 p (xs.map V.int) := .inl (.inl hx)
    refine for_range (lo := 0) (n := n.toNat) (fun i σ H' => H' = H1 ∧ ∃ (l : List Nat) (kv lv : Option V), σ = [some (.int c), some (.int n), some (.ref p), some (.int kd), some (.str (T l)), kv, lv] ∧ l.length = i ∧ Dna l) ?_ ?_ ?_
    · exact ⟨rfl, [], none, none, by rw [← T_nil, hkd]; rfl, rfl, fun c hc => by cases hc⟩
    · rintro i σ H' hi ⟨rfl, l, kv, lv, rfl, hli, hd⟩
      have hix : i < xs.length := by omega
      have at1 : atI (xs.map V.int) (0 + (i : Nat)) = some (.int xs[i]) := by
        rw [Int.zero_add]
        refine atI_nat ?_
        rw [List.getElem?_map, List.getElem?_eq_getElem hix]
        rfl
      have done : ∀ d : Nat, Sg d → ∃ e, Sg e ∧ [some (.int c), some (.int n), some (.ref p), some (.int kd), some (.str (T l)), some (V.int (0 + (i : Nat))), some (.str (T [d]))] = [some (.int c), some (.int n), some (.ref p), some (.int kd), some (.str (T l)), some (V.int (0 + (i : Nat))), some (.str (T [e]))] := fun d hd => ⟨d, hd, rfl⟩
      refine ⟨fun σ H2 => H2 = H' ∧ ∃ d, Sg d ∧ σ = [some (.int c), some (.int n), some (.ref p), some (.int kd), some (.str (T l)), some (V.int (0 + (i : Nat))), some (.str (T [d]))], ?_, ?_⟩
      · obtain ⟨d, hsd, hat⟩ := sg_four xs[i]
        exact ⟨.ref p, rfl, .int (0 + (i : Nat)), rfl, p, _, _, _, rfl, rfl, hS, at1, _, 4, rfl, rfl, (show (0 : Int) < 4 by decide), _, _, d, rfl, rfl, by decide, hat, rfl, d, hsd, rfl⟩
      rintro σ H2 ⟨rfl, d, hsd, rfl⟩
      refine ⟨fun σ H3 => H3 = H2 ∧ ∃ d, Sg d ∧ σ = [some (.int c), some (.int n), some (.ref p), some (.int kd), some (.str (T l)), some (V.int (0 + (i : Nat))), some (.str (T [d]))], ?_, ?_⟩
      · refine ⟨.int kd, rfl, rfl, _, rfl, ite2 (fun _ => ?_) (fun _ => iteF ⟨rfl, d, hsd, rfl⟩)⟩
        refine ⟨.int (0 + (i : Nat)), rfl, _, 4, rfl, rfl, _, rfl, ite2 (fun e4 => ?_) (fun _ => iteF ⟨rfl, d, hsd, rfl⟩)⟩
        refine ⟨.ref p, rfl, .int (0 + (i : Nat)), rfl, p, _, _, _, rfl, rfl, hS, at1, _, 11, rfl, rfl, (show (0 : Int) < 11 by decide), _, 0, rfl, rfl, _, rfl, ite2 (fun _ => ?_) (fun _ => ⟨rfl, d, hsd, rfl⟩)⟩
        have h4 : (4 : Int) < 0 + (i : Nat) := of_decide_eq_true e4
        have hlt : i - 5 < l.length := by omega
        refine ⟨.str (T l), rfl, .int (0 + (i : Nat)), rfl, _, 5, rfl, rfl, T l, _, l[i - 5], rfl, rfl, line_ok (by rw [T_len]; omega), ?_, rfl, _, hd _ (List.getElem_mem hlt), rfl⟩
        rw [show (0 + ((i : Nat) : Int)) - 5 = ((i - 5 : Nat) : Int) by omega]
        refine atI_nat ?_
        exact List.getElem?_eq_getElem hlt
      rintro σ H3 ⟨rfl, d, hsd, rfl⟩
      refine ⟨fun σ H4 => H4 = H3 ∧ ∃ d, Sg d ∧ σ = [some (.int c), some (.int n), some (.ref p), some (.int kd), some (.str (T l)), some (V.int (0 + (i : Nat))), some (.str (T [d]))], ?_, ?_⟩
      · refine ⟨.int kd, rfl, rfl, _, rfl, ite2 (fun _ => ?_) (fun _ => ⟨rfl, d, hsd, rfl⟩)⟩
        obtain ⟨d, hsd, hat⟩ := sg_two xs[i]
        exact ⟨.ref p, rfl, .int (0 + (i : Nat)), rfl, p, _, _, _, rfl, rfl, hS, at1, _, 2, rfl, rfl, (show (0 : Int) < 2 by decide), _, _, d, rfl, rfl, by decide, hat, rfl, d, hsd, rfl⟩
      rintro σ H4 ⟨rfl, d, hsd, rfl⟩
      refine ⟨fun σ H5 => H5 = H4 ∧ ∃ d, Sg d ∧ σ = [some (.int c), some (.int n), some (.ref p), some (.int kd), some (.str (T l)), some (V.int (0 + (i : Nat))), some (.str (T [d]))], ?_, ?_⟩
      · refine ⟨.int kd, rfl, rfl, _, rfl, ite2 (fun _ => ?_) (fun _ => iteF ⟨rfl, d, hsd, rfl⟩)⟩
        refine ⟨.ref p, rfl, .int (0 + (i : Nat)), rfl, p, _, _, _, rfl, rfl, hS, at1, _, 88, rfl, rfl, _, rfl, ite2 (fun _ => ?_) (fun _ => ⟨rfl, d, hsd, rfl⟩)⟩
        exact ⟨rfl, 78, .inr (.inr (.inr (.inr rfl))), rfl⟩
      rintro σ H5 ⟨rfl, d, hsd, rfl⟩
      refine ⟨.str (T l), rfl, .str (T [d]), rfl, T l, T [d], rfl, rfl, line_ok (by rw [T_len, T_len, List.length_singleton]; omega), rfl, l ++ [d], some (.int (0 + (i : Nat))), some (.str (T [d])), ?_, ?_, hd.app (.one hsd)⟩
      · rw [T_app]
        rfl
      · rw [List.length_append, hli]
        rfl
    · rintro σ H' ⟨rfl, l, kv, lv, rfl, hli, hd⟩
      exact ⟨.str (T l), rfl, q H' l sm hd hli⟩
/-! ### _law_turned -/
def opp (c : Nat) : Nat := if c = 65 then 84 else if c = 67 then 71 else if c = 71 then 67 else if c = 84 then 65 else c
def turn (l : List Nat) : List Nat := (l.map opp).reverse
theorem opp_sg {c : Nat} (h : Sg c) : Sg (opp c) := by
  rcases h with h | h | h | h | h <;> subst h
  · exact .inr (.inr (.inr (.inl rfl)))
  · exact .inr (.inr (.inl rfl))
  · exact .inr (.inl rfl)
  · exact .inl rfl
  · exact .inr (.inr (.inr (.inr rfl)))
theorem opp_opp {c : Nat} (h : Sg c) : opp (opp c) = c := by
  rcases h with h | h | h | h | h <;> subst h <;> rfl
theorem turn_dna {l : List Nat} (h : Dna l) : Dna (turn l) := fun c hc => by
  obtain ⟨d, hd, e⟩ := List.mem_map.mp (List.mem_reverse.mp hc)
  rw [← e]
  exact opp_sg (h d hd)
theorem turn_len (l : List Nat) : (turn l).length = l.length := by
  unfold turn
  rw [List.length_reverse, List.length_map]
theorem turn_turn {l : List Nat} (h : Dna l) : turn (turn l) = l := by
  unfold turn
  rw [List.map_reverse, List.reverse_reverse, List.map_map]
  conv => rhs; rw [← List.map_id l]
  exact List.map_congr_left fun c hc => opp_opp (h c hc)
theorem turn_app (a b : List Nat) : turn (a ++ b) = turn b ++ turn a := by
  unfold turn
  rw [List.map_append, List.reverse_append]
theorem turn_snoc (a : List Nat) (c : Nat) : turn (a ++ [c]) = opp c :: turn a := by
  rw [turn_app]
  rfl
theorem sign_ix {c : Nat} (h : Sg c) : ∃ (i : Nat) (r : List Nat), Builtin.Str.occurrences (Str.ofString "ACGTN") ⟨#[c]⟩ 0 (Str.ofString "ACGTN").length 1 = i :: r ∧ atI (Str.ofString "TGCAN").cps.toList (i : Int) = some (opp c) ∧ (i : Int) + 2 = (if c = 65 then 2 else if c = 67 then 3 else if c = 71 then 4 else if c = 84 then 5 else 6) := by
  rcases h with h | h | h | h | h <;> subst h
  · exact ⟨0, [], by decide +kernel, by decide +kernel, by decide⟩
  · exact ⟨1, [], by decide +kernel, by decide +kernel, by decide⟩
  · exact ⟨2, [], by decide +kernel, by decide +kernel, by decide⟩
  · exact ⟨3, [], by decide +kernel, by decide +kernel, by decide⟩
  · exact ⟨4, [], by decide +kernel, by decide +kernel, by decide⟩
def spLTurned : Sp := fun vs H Q _ => ∃ l : List Nat, vs = [.str (T l)] ∧ Dna l ∧ l.length ≤ 100000 ∧ Q (.str (T (turn l))) H
theorem ok_lturned {f : Addr} {fd : FuncData} {k : Nat} (F : Fun K "_law_turned" "_law_turned" sLTurned f fd) : FnOk P w K mg base CX0 (k + 1) f fd ["text"] spLTurned := by
  refine F.ok scLTurned (fun vs H Q E h => ?_) (fun cdv A outer s H vs Q E hr h => ?_)
  · obtain ⟨l, rfl, _⟩ := h
    rfl
  · obtain ⟨l, rfl, hd, hl, q⟩ := h
    refine ⟨_, pss_cons (ps_set (i := 1) scLTurned.nd rfl (.inl rfl) pe_str)
      (pss_cons (ps_for PassesOwn.never rfl (pi_str (pv 0)) (pg_name (i := 2) scLTurned.nd rfl (.inl rfl))
        (pss_one (ps_set (i := 1) scLTurned.nd rfl (.inl rfl) (pe_op op_add_str (pe_ix ix_str pe_str (pe_bm PySem.F.plainAttrs_str PySem.F.slot_str_index PySem.F.type_str_index mt_sindex pe_str (pa_cons (pv 2) pa_nil)) (fun _ _ => rfl)) (pv 1)))))
      (pss_one (ps_ret (pv 1)))), ?_⟩
    refine ⟨.str (T l), rfl, T l, rfl, ?_⟩
    refine for_str (z := T l) (fun i σ H' => H' = H ∧ i ≤ l.length ∧ ∃ lv, σ = [some (.str (T l)), some (.str (T (turn (l.take i)))), lv]) ?_ ?_ ?_
    · exact ⟨rfl, Nat.zero_le _, none, by
        show [some (V.str (T l)), some (V.str (Str.ofString "")), none] = _
        rw [T_nil]
        rfl⟩
    · rintro i c σ H' hc ⟨rfl, _, lv, rfl⟩
      rw [T_at] at hc
      obtain ⟨hlt, hce⟩ := List.getElem?_eq_some_iff.mp hc
      have hsc : Sg c := by
        rw [← hce]
        exact hd _ (List.getElem_mem hlt)
      obtain ⟨j, r, ho, ha, _⟩ := sign_ix hsc
      have et : turn (l.take (i + 1)) = opp c :: turn (l.take i) := by
        rw [List.take_add_one, hc]
        exact turn_snoc _ c
      refine ⟨rfl, .str ⟨#[c]⟩, rfl, _, _, j, r, rfl, rfl, ho, _, _, _, rfl, rfl, by decide, ha, .str (T (turn (l.take i))), rfl, T [opp c], _, rfl, rfl, line_ok ?_, rfl, hlt, some (.str ⟨#[c]⟩), ?_⟩
      · rw [T_len, T_len, turn_len, List.length_take, List.length_singleton]
        omega
      · rw [T_app, et]
        rfl
    · rintro σ H' ⟨rfl, _, lv, rfl⟩
      rw [T_size, List.take_length]
      exact ⟨_, rfl, q⟩
end
/-! ### the errors of a line, and what reads one line -/
section
variable {P : Program} {w : World} {K : PySem.W.Frag} {mg : Str → Option Value} {base : Heap}
def spInit (C : Addr) : Sp := fun vs H Q _ => ∃ (a : Addr) (l c : Int), vs = [.ref a, .int l, .int c] ∧ H a = some (exo a C none) ∧
  ∀ dx, H dx = none → dx ≠ a → Q .non (upd (upd (upd H dx (exd dx [("line", .int l)])) a (exo a C (some dx))) dx (exd dx [("column", .int c), ("line", .int l)]))
/-- what stands behind the top of InvalidLine -/
structure IL (K : PySem.W.Frag) (mg : Str → Option Value) (C fI : Addr) (fd : FuncData) : Prop where
  gC : mg "InvalidLine" = some (.ref C)
  T : OexC K C
  iC : PySem.W.findIn K (.ref C) "__init__" = some (some (.ref fI))
  tI : PySem.W.typeIn K (.ref fI) = some (.type "function")
  F : Fun K "__init__" "InvalidLine.__init__" sInit fI fd
  b : Binds K fd ["self", "line", "column"] []
  nl : PySem.W.findIn K (.ref C) "line" = some none
  nc : PySem.W.findIn K (.ref C) "column" = some none
theorem ok_init {C fI : Addr} {fd : FuncData} (D : IL K mg C fI fd) : FnOk P w K mg base CX0 1 fI fd ["self", "line", "column"] (spInit C) := by
  refine D.F.ok scInit (fun vs H Q E h => ?_) (fun cdv A outer s H vs Q E hr h => ?_)
  · obtain ⟨a, l, c, rfl, _⟩ := h
    rfl
  · obtain ⟨a, l, c, rfl, ha, q⟩ := h
    refine ⟨_, pss_cons (ps_ost (pv 0) (pv 1)) (pss_one (ps_ost (pv 0) (pv 2))), ?_⟩
    refine ⟨.int l, rfl, .ref a, rfl, a, C, rfl, D.T, D.nl, .inl ⟨ha, fun dx hdx hne => ?_⟩⟩
    refine ⟨.int c, rfl, .ref a, rfl, a, C, rfl, D.T, D.nc, .inr ⟨dx, [("line", .int l)], ?_, ?_, by show 1 ≤ 900; decide, ?_⟩⟩
    · exact upd_same
    · rw [upd_ne hne, upd_same]
    · exact q dx hdx hne
/-- what a def wishes for if InvalidLine(l, c) leaves it -/
def Bad (E : XK) (C : Addr) (H : Hp) (l c : Int) : Prop := ∀ (H' : Hp) (d : Addr), Same H H' → H d = none → H' d = some (.xd [("column", .int c), ("line", .int l)]) → E (.ref C) (some d) H'
theorem Bad.same {E : XK} {C : Addr} {H H1 : Hp} {l c : Int} (b : Bad E C H l c) (s : Same H H1) : Bad E C H1 l c := fun H' d s' hd e => b H' d (s.trans s') (s.free hd) e
theorem bad_read {E : XK} {C : Addr} {H : Hp} {l c : Int} (b : Bad E C H l c) (a : Addr) (ha : H a = none) : spInit C [.ref a, .int l, .int c] (upd H a (exo a C none))
    (fun v H2 => v = .non ∧ ∃ (d : Addr) (fs : List (Str × V)), H2 a = some (exo a C (some d)) ∧ H2 d = some (exd d fs) ∧ H d = none ∧ E (.ref C) (some d) (upd (del H2 a) d (.xd fs))) (fun _ _ _ => False) := by
  refine ⟨a, l, c, rfl, upd_same, fun dx hdx hne => ⟨rfl, dx, _, ?_, upd_same, ?_, ?_⟩⟩
  · rw [upd_ne hne.symm, upd_same]
  · rw [upd_ne hne] at hdx
    exact hdx
  · rw [upd_ne hne] at hdx
    refine b _ dx (fun x o e => ?_) hdx upd_same
    have n1 : x ≠ dx := ne_of_none e hdx
    have n2 : x ≠ a := ne_of_none e ha
    rw [upd_ne n1, del_ne n2, upd_ne n1, upd_ne n2, upd_ne n1, upd_ne n2]
    exact e
/-! ### texts as lists -/
abbrev SqS (K : PySem.W.Frag) (H : Hp) (a : Addr) (ls : List (List Nat)) : Prop := SqL K H a (ls.map fun l => V.str (T l))
def spLineAt (K : PySem.W.Frag) (C : Addr) : Sp := fun vs H Q E => ∃ (a : Addr) (ls : List (List Nat)) (j : Nat), vs = [.ref a, .int (j : Int)] ∧ SqS K H a ls ∧
  (∀ l, ls[j]? = some l → Q (.str (T l)) H) ∧ (ls.length ≤ j → Bad E C H ls.length 0)
theorem ok_lineAt {f C fI : Addr} {fd fdI : FuncData} {k : Nat} (F : Fun K "_line_at" "_line_at" sLineAt f fd) (D : IL K mg C fI fdI) (ml : mg "len" = none) : FnOk P w K mg base (L2.CX P w) (k + 3) f fd ["lines", "at"] (spLineAt K C) := by
  refine F.okX scLineAt (fun vs H Q E h => ?_) (fun cdv A outer s H vs Q E hr h => ?_)
  · obtain ⟨a, ls, j, rfl, _⟩ := h
    rfl
  · obtain ⟨a, ls, j, rfl, hS, q, qb⟩ := h
    refine ⟨_, pss_cons (ps_if (pt_cmpR op_ge (pv 1) (pe_callB call_len_seq (by rfl) ml PySem.boot_len (pa_cons (pv 0) pa_nil)) (nomark _))
        (pss_one (ps_raise rfl (takes_of rfl rfl rfl rfl) (pmk_oex D.T D.iC D.tI (ok_init D) (hr.mono (by omega)) D.b .nil pass0 (by rfl) D.gC (pa_cons (pe_callB call_len_seq (by rfl) ml PySem.boot_len (pa_cons (pv 0) pa_nil)) (pa_cons pe_int pa_nil))))) pss_nil)
      (pss_one (ps_ret (pe_ix ix_list (pv 0) (pv 1) (fun _ _ => rfl)))), ?_⟩
    refine ⟨.int j, rfl, .ref a, rfl, a, _, rfl, .inl hS, j, _, rfl, rfl, _, rfl, ite2 (fun e => ?_) (fun e => ?_)⟩
    · have e1 : ((ls.map fun l => V.str (T l)).length : Int) ≤ (j : Int) := of_decide_eq_true e
      rw [List.length_map] at e1
      refine ⟨.ref a, rfl, a, _, rfl, .inl hS, by show 2 ≤ 1000; decide, fun x hx => ?_⟩
      rw [List.length_map]
      exact bad_read (qb (by omega)) x hx
    · have e1 : ¬ ((ls.map fun l => V.str (T l)).length : Int) ≤ (j : Int) := fun z => e (decide_eq_true z)
      rw [List.length_map] at e1
      have hj : j < ls.length := by omega
      refine ⟨.ref a, rfl, .int j, rfl, a, _, j, .str (T ls[j]), rfl, rfl, hS, atI_nat ?_, q _ (List.getElem?_eq_getElem hj)⟩
      rw [List.getElem?_map, List.getElem?_eq_getElem hj]
      rfl
end
/-! ### the first sign that is not allowed -/
def fo (l al : List Nat) (b : Nat) : Nat := b + (l.drop b).findIdx fun c => decide (c ∉ al)
theorem fo_le {l al : List Nat} {b : Nat} (h : b ≤ l.length) : fo l al b ≤ l.length := by
  have := List.findIdx_le_length (xs := l.drop b) (p := fun c => decide (c ∉ al))
  rw [List.length_drop] at this
  unfold fo
  omega
/-- walking on -/
theorem fo_step {l al : List Nat} {b i c : Nat} (hc : l[b + i]? = some c) (hin : c ∈ al) (hi : i ≤ (l.drop b).findIdx fun c => decide (c ∉ al)) : i + 1 ≤ (l.drop b).findIdx fun c => decide (c ∉ al) := by
  refine Nat.lt_of_le_of_ne hi fun e => ?_
  have hd : (l.drop b)[i]? = some c := by
    rw [List.getElem?_drop]
    exact hc
  obtain ⟨hlt, he⟩ := List.getElem?_eq_some_iff.mp hd
  have hp := List.findIdx_getElem (xs := l.drop b) (p := fun c => decide (c ∉ al)) (w := e ▸ hlt)
  have e2 : (l.drop b)[(l.drop b).findIdx fun c => decide (c ∉ al)]? = some c := by
    rw [← e]
    exact hd
  have e3 := (List.getElem?_eq_some_iff.mp e2).2
  rw [e3] at hp
  exact (of_decide_eq_true hp) hin
theorem fo_here {l al : List Nat} {b i c : Nat} (hc : l[b + i]? = some c) (hout : c ∉ al) (hi : i ≤ (l.drop b).findIdx fun c => decide (c ∉ al)) : fo l al b = b + i := by
  have hd : (l.drop b)[i]? = some c := by
    rw [List.getElem?_drop]
    exact hc
  obtain ⟨hlt, he⟩ := List.getElem?_eq_some_iff.mp hd
  have : (l.drop b).findIdx (fun c => decide (c ∉ al)) ≤ i := by
    refine Nat.le_of_not_lt fun z => ?_
    have hn := List.not_of_lt_findIdx z
    have e3 := (List.getElem?_eq_some_iff.mp hd).2
    rw [e3] at hn
    exact absurd (decide_eq_true hout) (by simpa using hn)
  unfold fo
  omega
theorem fo_end {l al : List Nat} {b : Nat} (hb : b ≤ l.length) (hi : l.length - b ≤ (l.drop b).findIdx fun c => decide (c ∉ al)) : fo l al b = l.length := by
  have := fo_le (al := al) hb
  unfold fo at *
  omega
section
variable {P : Program} {w : World} {K : PySem.W.Frag} {mg : Str → Option Value} {base : Heap}
def spFirst : Sp := fun vs H Q _ => ∃ (l al : List Nat) (b : Nat), vs = [.str (T l), .int (b : Int), .str (T al)] ∧ b ≤ l.length ∧ l.length ≤ 1000000 ∧ Q (.int (fo l al b : Nat)) H
theorem line_ok6 {n : Nat} (h : n ≤ 1000000) : n ≤ sizeLine := by
  rw [sizeLine_eq]
  omega
theorem ok_first {f : Addr} {fd : FuncData} {k : Nat} (F : Fun K "_first_other" "_first_other" sFirstOther f fd) (ml : mg "len" = none) (mr : mg "range" = none) : FnOk P w K mg base CX0 (k + 1) f fd ["line", "begin", "allowed"] spFirst := by
  refine F.ok scFirstOther (fun vs H Q E h => ?_) (fun cdv A outer s H vs Q E hr h => ?_)
  · obtain ⟨l, al, b, rfl, _⟩ := h
    rfl
  · obtain ⟨l, al, b, rfl, hb, hl, q⟩ := h
    refine ⟨_, pss_cons (ps_for PassesOwn.never rfl (pi_range2 rfl mr (pa_cons (pv 1) (pa_cons (pe_callB call_len_str (by rfl) ml PySem.boot_len (pa_cons (pv 0) pa_nil)) pa_nil))) (pg_name (i := 3) scFirstOther.nd rfl (.inl rfl))
        (pss_one (ps_if (pt_cmpR op_notIn_sign (pe_ix ix_str (pv 0) (pv 3) (fun _ _ => rfl)) (pv 2) rfl) (pss_one (ps_ret (pv 3))) pss_nil)))
      (pss_one (ps_ret (pe_callB call_len_str (by rfl) ml PySem.boot_len (pa_cons (pv 0) pa_nil)))), ?_⟩
    have hz : (T l).length ≤ sizeLine := line_ok6 (by rw [T_len]; exact hl)
    refine ⟨.int b, rfl, .str (T l), rfl, T l, rfl, hz, b, (T l).length, rfl, ⟨by omega, by omega, by omega, by rw [T_len]; omega⟩, ?_⟩
    rw [show (((T l).length : Nat) : Int) = ((l.length : Nat) : Int) by rw [T_len], show (((l.length : Nat) : Int) - ((b : Nat) : Int)).toNat = l.length - b by omega]
    refine for_range (lo := b) (n := l.length - b) (fun i σ H' => H' = H ∧ i ≤ ((l.drop b).findIdx fun c => decide (c ∉ al)) ∧ ∃ cv, σ = [some (.str (T l)), some (.int b), some (.str (T al)), cv]) ?_ ?_ ?_
    · exact ⟨rfl, Nat.zero_le _, none, rfl⟩
    · rintro i σ H' hi ⟨rfl, hle, cv, rfl⟩
      have hlt : b + i < l.length := by omega
      have hc : l[b + i]? = some l[b + i] := List.getElem?_eq_getElem hlt
      refine ⟨.str (T l), rfl, .int ((b : Int) + (i : Nat)), rfl, T l, _, l[b + i], rfl, rfl, hz, ?_, .str (T al), rfl, l[b + i], T al, rfl, rfl, _, rfl, ite2 (fun e => ?_) (fun e => ?_)⟩
      · rw [show (b : Int) + ((i : Nat) : Int) = ((b + i : Nat) : Int) by omega]
        exact atI_nat hc
      · have hout : l[b + i] ∉ al := by
          have e1 : (!decide (l[b + i] ∈ al)) = true := e
          simpa using e1
        refine ⟨.int ((b : Int) + (i : Nat)), rfl, ?_⟩
        rw [fo_here hc hout hle] at q
        rw [show (b : Int) + ((i : Nat) : Int) = ((b + i : Nat) : Int) by omega]
        exact q
      · have hin : l[b + i] ∈ al := by
          have e1 : ¬ (!decide (l[b + i] ∈ al)) = true := e
          simpa using e1
        exact ⟨rfl, fo_step hc hin hle, _, rfl⟩
    · rintro σ H' ⟨rfl, hle, cv, rfl⟩
      rw [fo_end hb hle] at q
      refine ⟨.str (T l), rfl, T l, rfl, hz, ?_⟩
      rw [T_len]
      exact q
end
/-! ### the name's line, a text's line -/
def ncl : List Nat := [48, 49, 50, 51, 52, 53, 54, 55, 56, 57, 65, 66, 67, 68, 69, 70, 71, 72, 73, 74, 75, 76, 77, 78, 79, 80, 81, 82, 83, 84, 85, 86, 87, 88, 89, 90, 97, 98, 99, 100, 101, 102, 103, 104, 105, 106, 107, 108, 109, 110, 111, 112, 113, 114, 115, 116, 117, 118, 119, 120, 121, 122]
def lets : List Nat := [65, 67, 71, 84, 78]
def nameFault (sg : Nat) (l : List Nat) : Option Nat :=
  if l.head? = some sg then (if min (fo l ncl 1) 41 < l.length ∨ l.length = 1 then some (min (fo l ncl 1) 41) else none) else some 0
def textFault (room : Nat) (l : List Nat) : Option Nat :=
  if min (fo l lets 0) room < l.length ∨ l = [] then some (min (fo l lets 0) room) else none
theorem start_one (l : List Nat) (s : Nat) : Txt.startswith (T l) (T [s]) = decide (l.head? = some s) := by
  unfold Txt.startswith Builtin.Str.subAt
  rw [T_len, T_len]
  cases l with
  | nil => rfl
  | cons c r =>
    have e1 : (T (c :: r)).cps.extract 0 (0 + [s].length) = #[c] := by
      show (c :: r).toArray.extract 0 1 = #[c]
      simp
    rw [e1]
    show (decide (0 + 1 ≤ r.length + 1) && (#[c] == #[s])) = decide (some c = some s)
    rw [decide_eq_true (by omega), Bool.true_and]
    by_cases h : c = s
    · subst h
      simp
    · have : ¬ (#[c] : Array Nat) = #[s] := fun z => h (by simpa using z)
      rw [beq_eq_false_iff_ne.mpr this]
      simp [h]
theorem cut_from (l : List Nat) (k : Nat) : cutS (T l) (some (k : Int)) none = T (l.drop k) := by
  unfold cutS
  rw [HT.sIx_nat, HT.sIx_none, T_len, T_list]
  show Str.mk _ = Str.mk _
  congr 2
  rw [List.take_of_length_le (by rw [List.length_drop]; omega)]
  by_cases h : k ≤ l.length
  · rw [Nat.min_eq_left h]
  · rw [Nat.min_eq_right (by omega), List.drop_of_length_le (Nat.le_refl _), List.drop_of_length_le (by omega)]
section
variable {P : Program} {w : World} {K : PySem.W.Frag} {mg : Str → Option Value} {base : Heap}
theorem min_int (a b : Nat) : (if ((b : Nat) : Int) < ((a : Nat) : Int) then ((b : Nat) : Int) else ((a : Nat) : Int)) = ((min a b : Nat) : Int) := by
  by_cases h : b < a
  · rw [if_pos (by omega), Nat.min_eq_right (by omega)]
  · rw [if_neg (by omega), Nat.min_eq_left (by omega)]
/-- a def of the module that may let InvalidLine out -/
def HasX (P : Program) (w : World) (K : PySem.W.Frag) (mg : Str → Option Value) (base : Heap) (k : Nat) (x : Str) (ps : List Str) (sp : Sp) : Prop :=
  ∃ f fd, FnOk P w K mg base (L2.CX P w) k f fd ps sp ∧ mg x = some (.ref f) ∧ PySem.W.keepIn K (.ref f) = true ∧ Binds K fd ps []
/-- a def of the module that keeps a promise -/
def Has (P : Program) (w : World) (K : PySem.W.Frag) (mg : Str → Option Value) (base : Heap) (k : Nat) (x : Str) (ps : List Str) (sp : Sp) : Prop :=
  ∃ f fd, FnOk P w K mg base CX0 k f fd ps sp ∧ mg x = some (.ref f) ∧ PySem.W.keepIn K (.ref f) = true ∧ Binds K fd ps []
def spName (K : PySem.W.Frag) (C : Addr) : Sp := fun vs H Q E => ∃ (a : Addr) (ls : List (List Nat)) (j sg : Nat), vs = [.ref a, .int (j : Int), .str (T [sg])] ∧ SqS K H a ls ∧ (∀ l ∈ ls, l.length ≤ 1000000) ∧
  (ls.length ≤ j → Bad E C H ls.length 0) ∧ (∀ l, ls[j]? = some l → nameFault sg l = none → Q (.str (T (l.drop 1))) H) ∧ ∀ l c, ls[j]? = some l → nameFault sg l = some c → Bad E C H j c
theorem ok_name {f C fI : Addr} {fd fdI : FuncData} {k : Nat} {t1 t2 : Tok} (F : Fun K "_name_line" "_name_line" sNameLine f fd) (D : IL K mg C fI fdI) (ml : mg "len" = none) (mm : mg "min" = none) (gN : mg "NAME_CHARACTERS" = some (.str (T ncl) t1)) (gL : mg "_LONGEST_NAME" = some (.int 40 t2))
    (hA : HasX P w K mg base 3 "_line_at" ["lines", "at"] (spLineAt K C)) (hF : Has P w K mg base 1 "_first_other" ["line", "begin", "allowed"] spFirst) : FnOk P w K mg base (L2.CX P w) (k + 4) f fd ["lines", "at", "sign"] (spName K C) := by
  obtain ⟨fA, dA, GA, gA, kA, bA⟩ := hA
  obtain ⟨fF, dF, GF, gF, kF, bF⟩ := hF
  refine F.okX scNameLine (fun vs H Q E h => ?_) (fun cdv A outer s H vs Q E hr h => ?_)
  · obtain ⟨a, ls, j, sg, rfl, _⟩ := h
    rfl
  · obtain ⟨a, ls, j, sg, rfl, hS, hlen, qe, qg, qb⟩ := h
    refine ⟨_, pss_cons (ps_set (i := 3) scNameLine.nd rfl (.inl rfl) (pe_call GA (hr.mono (by omega)) (by rfl) gA kA bA .nil (passes_call (takes_of rfl rfl rfl rfl) fun _ _ _ _ h => h) (pa_cons (pv 0) (pa_cons (pv 1) pa_nil))))
      (pss_cons (ps_if (pt_not (pt_val (pe_bm PySem.F.plainAttrs_str PySem.F.slot_str_startswith PySem.F.type_str_startswith mt_startswith (pv 3) (pa_cons (pv 2) pa_nil))))
        (pss_one (ps_raise rfl (takes_of rfl rfl rfl rfl) (pmk_oex D.T D.iC D.tI (ok_init D) (hr.mono (by omega)) D.b .nil pass0 (by rfl) D.gC (pa_cons (pv 1) (pa_cons pe_int pa_nil))))) pss_nil)
      (pss_cons (ps_set (i := 4) scNameLine.nd rfl (.inl rfl) (pe_callB (call_min2 rfl) (by rfl) mm (by decide +kernel)
        (pa_cons (pe_call GF (hr.mono (by omega)) (by rfl) gF kF bF .nil pass0 (pa_cons (pv 3) (pa_cons pe_int (pa_cons (pe_glob (v := .str (T ncl)) (by rfl) gN ⟨_, rfl⟩) pa_nil))))
          (pa_cons (pe_op op_add pe_int (pe_glob (v := .int 40) (by rfl) gL ⟨_, rfl⟩)) pa_nil))))
      (pss_cons (ps_if (PW.pt (pw_or (pt_cmpR op_lt (pv 4) (pe_callB call_len_str (by rfl) ml PySem.boot_len (pa_cons (pv 3) pa_nil)) (nomark _)) (pw_or1 (pt_cmpR op_eq (pe_callB call_len_str (by rfl) ml PySem.boot_len (pa_cons (pv 3) pa_nil)) pe_int (nomark _)))))
        (pss_one (ps_raise rfl (takes_of rfl rfl rfl rfl) (pmk_oex D.T D.iC D.tI (ok_init D) (hr.mono (by omega)) D.b .nil pass0 (by rfl) D.gC (pa_cons (pv 1) (pa_cons (pv 4) pa_nil))))) pss_nil)
      (pss_one (ps_ret (pe_slice sl_str (pv 3) (po_some pe_int) po_none)))))), ?_⟩
    refine ⟨.ref a, rfl, .int j, rfl, a, ls, j, rfl, hS, fun l hl => ?_, qe⟩
    have hz0 : l.length ≤ 1000000 := hlen l (List.mem_of_getElem? hl)
    have hz : (T l).length ≤ sizeLine := line_ok6 (by rw [T_len]; exact hz0)
    refine ⟨.str (T l), rfl, rfl, .str (T [sg]), rfl, _, _, rfl, rfl, _, rfl, ?_⟩
    rw [start_one]
    by_cases hh : l.head? = some sg
    · rw [decide_eq_true hh]
      refine iteF ?_
      have h1 : 1 ≤ l.length := by
        cases l with
        | nil => cases hh
        | cons c r => simp
      refine ⟨.str (T l), rfl, l, ncl, 1, rfl, h1, hz0, _, 40, rfl, rfl, _, _, rfl, ?_⟩
      rw [show (1 + 40 : Int) = ((41 : Nat) : Int) by decide, min_int]
      have hfl : (min (fo l ncl 1) 41 < l.length ∨ l.length = 1) → nameFault sg l = some (min (fo l ncl 1) 41) := fun z => by
        unfold nameFault
        rw [if_pos hh, if_pos z]
      refine ⟨_, rfl, .str (T l), rfl, T l, rfl, hz, _, _, rfl, rfl, _, rfl, ite2 (fun e => ?_) (fun e => ?_)⟩
      · have e1 : ((min (fo l ncl 1) 41 : Nat) : Int) < (((T l).length : Nat) : Int) := of_decide_eq_true e
        rw [T_len] at e1
        refine iteT ⟨.int j, rfl, _, rfl, by show 2 ≤ 1000; decide, fun x hx => ?_⟩
        exact bad_read (qb l _ hl (hfl (.inl (by omega)))) x hx
      · have e1 : ¬ ((min (fo l ncl 1) 41 : Nat) : Int) < (((T l).length : Nat) : Int) := fun z => e (decide_eq_true z)
        rw [T_len] at e1
        refine ⟨.str (T l), rfl, T l, rfl, hz, rfl, _, rfl, ite2 (fun e2 => ?_) (fun e2 => ?_)⟩
        · have e3 : (V.int ((T l).length : Nat)) = V.int 1 := of_decide_eq_true e2
          rw [T_len] at e3
          have e4 : ((l.length : Nat) : Int) = 1 := V.int.inj e3
          refine ⟨.int j, rfl, _, rfl, by show 2 ≤ 1000; decide, fun x hx => ?_⟩
          exact bad_read (qb l _ hl (hfl (.inr (by omega)))) x hx
        · have e3 : ¬ (V.int ((T l).length : Nat)) = V.int 1 := fun z => e2 (decide_eq_true z)
          rw [T_len] at e3
          have e4 : ¬ l.length = 1 := fun z => e3 (by rw [z]; rfl)
          refine ⟨.str (T l), rfl, 1, rfl, T l, rfl, hz, ?_⟩
          rw [show ((1 : Int)) = ((1 : Nat) : Int) by rfl, cut_from]
          refine qg l hl ?_
          unfold nameFault
          rw [if_pos hh, if_neg (by omega)]
    · rw [decide_eq_false hh]
      refine iteT ⟨.int j, rfl, by show 2 ≤ 1000; decide, fun x hx => ?_⟩
      exact bad_read (qb l 0 hl (by unfold nameFault; rw [if_neg hh])) x hx
end
section
variable {P : Program} {w : World} {K : PySem.W.Frag} {mg : Str → Option Value} {base : Heap}
def spTextLine (K : PySem.W.Frag) (C : Addr) : Sp := fun vs H Q E => ∃ (a : Addr) (ls : List (List Nat)) (j room : Nat), vs = [.ref a, .int (j : Int), .int (room : Int)] ∧ SqS K H a ls ∧ (∀ l ∈ ls, l.length ≤ 1000000) ∧
  (ls.length ≤ j → Bad E C H ls.length 0) ∧ (∀ l, ls[j]? = some l → textFault room l = none → Q (.str (T l)) H) ∧ ∀ l c, ls[j]? = some l → textFault room l = some c → Bad E C H j c
theorem ok_textLine {f C fI : Addr} {fd fdI : FuncData} {k : Nat} {t1 : Tok} (F : Fun K "_text_line" "_text_line" sTextLine f fd) (D : IL K mg C fI fdI) (ml : mg "len" = none) (mm : mg "min" = none) (gN : mg "LETTERS" = some (.str (T lets) t1))
    (hA : HasX P w K mg base 3 "_line_at" ["lines", "at"] (spLineAt K C)) (hF : Has P w K mg base 1 "_first_other" ["line", "begin", "allowed"] spFirst) : FnOk P w K mg base (L2.CX P w) (k + 4) f fd ["lines", "at", "room"] (spTextLine K C) := by
  obtain ⟨fA, dA, GA, gA, kA, bA⟩ := hA
  obtain ⟨fF, dF, GF, gF, kF, bF⟩ := hF
  refine F.okX scTextLine (fun vs H Q E h => ?_) (fun cdv A outer s H vs Q E hr h => ?_)
  · obtain ⟨a, ls, j, sg, rfl, _⟩ := h
    rfl
  · obtain ⟨a, ls, j, room, rfl, hS, hlen, qe, qg, qb⟩ := h
    refine ⟨_, pss_cons (ps_set (i := 3) scTextLine.nd rfl (.inl rfl) (pe_call GA (hr.mono (by omega)) (by rfl) gA kA bA .nil (passes_call (takes_of rfl rfl rfl rfl) fun _ _ _ _ h => h) (pa_cons (pv 0) (pa_cons (pv 1) pa_nil))))
      (pss_cons (ps_set (i := 4) scTextLine.nd rfl (.inl rfl) (pe_callB (call_min2 rfl) (by rfl) mm (by decide +kernel)
        (pa_cons (pe_call GF (hr.mono (by omega)) (by rfl) gF kF bF .nil pass0 (pa_cons (pv 3) (pa_cons pe_int (pa_cons (pe_glob (v := .str (T lets)) (by rfl) gN ⟨_, rfl⟩) pa_nil)))) (pa_cons (pv 2) pa_nil))))
      (pss_cons (ps_if (PW.pt (pw_or (pt_cmpR op_lt (pv 4) (pe_callB call_len_str (by rfl) ml PySem.boot_len (pa_cons (pv 3) pa_nil)) (nomark _)) (pw_or1 (pt_cmpR op_eq (pv 3) pe_str (nomark _)))))
        (pss_one (ps_raise rfl (takes_of rfl rfl rfl rfl) (pmk_oex D.T D.iC D.tI (ok_init D) (hr.mono (by omega)) D.b .nil pass0 (by rfl) D.gC (pa_cons (pv 1) (pa_cons (pv 4) pa_nil))))) pss_nil)
      (pss_one (ps_ret (pv 3))))), ?_⟩
    refine ⟨.ref a, rfl, .int j, rfl, a, ls, j, rfl, hS, fun l hl => ?_, qe⟩
    have hz0 : l.length ≤ 1000000 := hlen l (List.mem_of_getElem? hl)
    have hz : (T l).length ≤ sizeLine := line_ok6 (by rw [T_len]; exact hz0)
    refine ⟨.str (T l), rfl, l, lets, 0, rfl, Nat.zero_le _, hz0, .int room, rfl, _, _, rfl, ?_⟩
    rw [min_int]
    have hfl : (min (fo l lets 0) room < l.length ∨ l = []) → textFault room l = some (min (fo l lets 0) room) := fun z => by
      unfold textFault
      rw [if_pos z]
    refine ⟨_, rfl, .str (T l), rfl, T l, rfl, hz, _, _, rfl, rfl, _, rfl, ite2 (fun e => ?_) (fun e => ?_)⟩
    · have e1 : ((min (fo l lets 0) room : Nat) : Int) < (((T l).length : Nat) : Int) := of_decide_eq_true e
      rw [T_len] at e1
      refine iteT ⟨.int j, rfl, _, rfl, by show 2 ≤ 1000; decide, fun x hx => ?_⟩
      exact bad_read (qb l _ hl (hfl (.inl (by omega)))) x hx
    · have e1 : ¬ ((min (fo l lets 0) room : Nat) : Int) < (((T l).length : Nat) : Int) := fun z => e (decide_eq_true z)
      rw [T_len] at e1
      refine ⟨.str (T l), rfl, rfl, _, rfl, ite2 (fun e2 => ?_) (fun e2 => ?_)⟩
      · have e3 : V.str (T l) = V.str (Str.ofString "") := of_decide_eq_true e2
        have e4 : l = [] := T_inj ((V.str.inj e3).trans T_nil)
        refine ⟨.int j, rfl, _, rfl, by show 2 ≤ 1000; decide, fun x hx => ?_⟩
        exact bad_read (qb l _ hl (hfl (.inr e4))) x hx
      · have e4 : ¬ l = [] := fun z => e2 (decide_eq_true (by rw [z, T_nil]))
        refine ⟨.str (T l), rfl, qg l hl ?_⟩
        unfold textFault
        refine if_neg fun z => ?_
        rcases z with z | z
        · omega
        · exact e4 z
/-! ### a divided text -/
def dv : List (List Nat) → Nat → Nat → List Nat → Bool → Except (Nat × Nat) (List Nat × Nat)
  | [], i, _, acc, e => if e = true then .error (i, 0) else .ok (acc, i)
  | l :: r, i, room, acc, e =>
    if e = false ∧ l.head? = some 62 then .ok (acc, i) else
      match textFault room l with
      | some c => .error (i, c)
      | none => dv r (i + 1) (room - l.length) (acc ++ l) false
theorem dv_cons (l : List Nat) (r : List (List Nat)) (i room : Nat) (acc : List Nat) (e : Bool) : dv (l :: r) i room acc e = if e = false ∧ l.head? = some 62 then .ok (acc, i) else
    match textFault room l with
    | some c => .error (i, c)
    | none => dv r (i + 1) (room - l.length) (acc ++ l) false := by rw [dv]
theorem join_flat : ∀ ps : List (List Nat), Str.join (T []) (ps.map T) = T ps.flatten
  | [] => rfl
  | [c] => by
    show T c = _
    rw [List.flatten_cons, List.flatten_nil, List.append_nil]
  | c :: e :: r => by
    have ih := join_flat (e :: r)
    show T c ++ T [] ++ Str.join (T []) ((e :: r).map T) = _
    rw [ih, T_app, T_app, List.append_nil]
    rfl
theorem sum_flat (ps : List (List Nat)) : ((ps.map T).map (·.length)).sum = ps.flatten.length := by
  induction ps with
  | nil => rfl
  | cons c r ih => rw [List.map_cons, List.map_cons, List.sum_cons, ih, T_len, List.flatten_cons, List.length_append]
theorem textFault_room {room : Nat} {l : List Nat} (h : textFault room l = none) : l ≠ [] ∧ l.length ≤ room ∧ l.length ≤ fo l lets 0 := by
  unfold textFault at h
  by_cases c : min (fo l lets 0) room < l.length ∨ l = []
  · rw [if_pos c] at h
    cases h
  · exact ⟨fun z => c (.inr z), by omega, by omega⟩
def spDiv (K : PySem.W.Frag) (C : Addr) : Sp := fun vs H Q E => ∃ (a : Addr) (ls : List (List Nat)) (j : Nat), vs = [.ref a, .int (j : Int)] ∧ SqS K H a ls ∧ (∀ l ∈ ls, l.length ≤ 1000000) ∧ ls.length ≤ 100000 ∧ j ≤ ls.length ∧
  (∀ t i, dv (ls.drop j) j 100000 [] true = .ok (t, i) → ∀ (H' : Hp) (q : Addr), Same H H' → H q = none → H' q = some (.tup [.str (T t), .int ((i : Nat) : Int)]) → Q (.ref q) H') ∧ ∀ l c, dv (ls.drop j) j 100000 [] true = .error (l, c) → Bad E C H l c
theorem gt_text : Str.ofString ">" = T [62] := by decide +kernel
/-- between two turns -/
def DivInv (a p : Addr) (ls : List (List Nat)) (j : Nat) (H : Hp) (m : Nat) (σ : L2.St) (H' : Hp) : Prop :=
  ∃ (i r : Nat) (ps : List (List Nat)) (pv : Option V), σ = [some (.ref a), some (.int (i : Nat)), some (.ref p), some (.int (r : Nat)), pv] ∧ m + i = ls.length ∧ Same H H' ∧ H' p = some (.lst ((ps.map T).map V.str)) ∧
      ps.flatten.length + r = 100000 ∧ ps.length ≤ i ∧ dv (ls.drop i) i r ps.flatten ps.isEmpty = dv (ls.drop j) j 100000 [] true
theorem ok_div {f C : Addr} {fd : FuncData} {k : Nat} {t1 : Tok} (F : Fun K "_divided_text" "_divided_text" sDivText f fd) (ml : mg "len" = none) (gL : mg "_LONGEST_REFERENCE" = some (.int 100000 t1))
    (hT : HasX P w K mg base 4 "_text_line" ["lines", "at", "room"] (spTextLine K C)) : FnOk P w K mg base (L2.CX P w) (k + 5) f fd ["lines", "at"] (spDiv K C) := by
  obtain ⟨fT, dT, GT, gT, kT, bT⟩ := hT
  refine F.okX scDivText (fun vs H Q E h => ?_) (fun cdv A outer s H vs Q E hr h => ?_)
  · obtain ⟨a, ls, j, rfl, _⟩ := h
    rfl
  · obtain ⟨a, ls, j, rfl, hS, hlen, hls, hj, qg, qb⟩ := h
    refine ⟨_, pss_cons (ps_set (i := 2) scDivText.nd rfl (.inl rfl) (pe_lst pa_nil))
      (pss_cons (ps_set (i := 3) scDivText.nd rfl (.inl rfl) (pe_glob (v := .int 100000) (by rfl) gL ⟨_, rfl⟩))
      (pss_cons (ps_while (passes_of rfl) (PW.pt (pw_or (pt_not (pt_truth (pv 2) (fun _ => rfl))) (pw_or1 (PW.pt (pw_and (pt_cmpR op_lt (pv 1) (pe_callB call_len_seq (by rfl) ml PySem.boot_len (pa_cons (pv 0) pa_nil)) (nomark _))
          (pw_and1 (pt_not (pt_val (pe_bm PySem.F.plainAttrs_str PySem.F.slot_str_startswith PySem.F.type_str_startswith mt_startswith (pe_ix ix_list (pv 0) (pv 1) (fun _ _ => rfl)) (pa_cons pe_str pa_nil))))))))))
        (pss_cons (ps_set (i := 4) scDivText.nd rfl (.inl rfl) (pe_call GT (hr.mono (by omega)) (by rfl) gT kT bT .nil (passes_call (takes_of rfl rfl rfl rfl) fun _ _ _ _ h => h) (pa_cons (pv 0) (pa_cons (pv 1) (pa_cons (pv 3) pa_nil)))))
        (pss_cons (ps_expr (pe_bm PySem.F.plainAttrs_list PySem.F.slot_list_append PySem.F.type_list_append mt_append (pv 2) (pa_cons (pv 4) pa_nil)))
        (pss_cons (ps_aug (i := 3) scDivText.nd rfl (.inl rfl) (pe_callB call_len_str (by rfl) ml PySem.boot_len (pa_cons (pv 4) pa_nil)) ip_sub)
        (pss_one (ps_aug (i := 1) scDivText.nd rfl (.inl rfl) pe_int ip_add))))))
      (pss_one (ps_ret (pe_tup (pa_cons (pe_join pe_str (pv 2)) (pa_cons (pv 1) pa_nil))))))), ?_⟩
    refine ⟨Nat.zero_le _, fun p hp => ?_⟩
    refine ⟨DivInv a p ls j H, ⟨ls.length - j, j, 100000, [], none, rfl, by omega, same_upd hp, upd_same, rfl, Nat.zero_le _, rfl⟩, ?_⟩
    rintro m σ H' ⟨i, r, ps, pv, rfl, em, sm, hx, hr2, hpl, hdv⟩
    have hS' : SqS K H' a ls := sm.seq hS
    have body : (ps.isEmpty = true ∨ ∃ l, ls[i]? = some l ∧ ¬ l.head? = some 62) →
        (∀ l, ls[i]? = some l → textFault r l = none → m ≠ 0 ∧ (r - l.length : Int) = ((r - l.length : Nat) : Int) ∧ (ps ++ [l]).flatten.length + (r - l.length) = 100000 ∧ dv (ls.drop (i + 1)) (i + 1) (r - l.length) (ps ++ [l]).flatten (ps ++ [l]).isEmpty = dv (ls.drop j) j 100000 [] true) ∧
        (∀ l c, ls[i]? = some l → textFault r l = some c → Bad E C H' i c) ∧ (ls.length ≤ i → Bad E C H' ls.length 0) := by
      intro hc
      refine ⟨fun l hl ht => ?_, fun l c hl ht => ?_, fun hi => ?_⟩
      · obtain ⟨hlt, hle⟩ := List.getElem?_eq_some_iff.mp hl
        obtain ⟨_, h2, _⟩ := textFault_room ht
        have ed : ls.drop i = l :: ls.drop (i + 1) := by rw [List.drop_eq_getElem_cons hlt, hle]
        have ef : (ps ++ [l]).flatten = ps.flatten ++ l := by rw [List.flatten_append, List.flatten_cons, List.flatten_nil, List.append_nil]
        have ee : (ps ++ [l]).isEmpty = false := by simp
        refine ⟨by omega, by omega, by rw [ef, List.length_append]; omega, ?_⟩
        rw [← hdv, ed, ef, ee]
        rw [dv_cons, if_neg, ht]
        · rintro ⟨z1, z2⟩
          rcases hc with z | ⟨l', z3, z4⟩
          · rw [z] at z1
            cases z1
          · rw [hl] at z3
            cases z3
            exact z4 z2
      · refine (qb i c ?_).same sm
        obtain ⟨hlt, hle⟩ := List.getElem?_eq_some_iff.mp hl
        have ed : ls.drop i = l :: ls.drop (i + 1) := by rw [List.drop_eq_getElem_cons hlt, hle]
        rw [← hdv, ed]
        rw [dv_cons, if_neg, ht]
        · rintro ⟨z1, z2⟩
          rcases hc with z | ⟨l', z3, z4⟩
          · rw [z] at z1
            cases z1
          · rw [hl] at z3
            cases z3
            exact z4 z2
      · refine (qb ls.length 0 ?_).same sm
        have ei : i = ls.length := by omega
        have e1 : ps.isEmpty = true := by
          rcases hc with z | ⟨l', z3, _⟩
          · exact z
          · rw [List.getElem?_eq_none hi] at z3
            cases z3
        rw [← hdv, List.drop_of_length_le hi, e1, ei]
        rfl
    have fin : ¬ (ps.isEmpty = true ∨ ∃ l, ls[i]? = some l ∧ ¬ l.head? = some 62) → ∀ q H'', Same H' H'' → H' q = none → H'' q = some (.tup [.str (T ps.flatten), .int ((i : Nat) : Int)]) → Q (.ref q) H'' := by
      intro hc q H'' s2 hq e
      refine qg ps.flatten i ?_ H'' q (sm.trans s2) (sm.free hq) e
      rw [← hdv]
      have e1 : ps.isEmpty = false := Bool.eq_false_iff.mpr fun z => hc (.inl z)
      by_cases hi : i < ls.length
      · have ed : ls.drop i = ls[i] :: ls.drop (i + 1) := List.drop_eq_getElem_cons hi
        have hh : ls[i].head? = some 62 := Decidable.byContradiction fun z => hc (.inr ⟨_, List.getElem?_eq_getElem hi, z⟩)
        rw [ed, e1]
        rw [dv_cons, if_pos ⟨rfl, hh⟩]
      · rw [List.drop_of_length_le (by omega), e1]
        rfl
    refine ⟨.ref p, rfl, !ps.isEmpty, .inl ⟨_, .inl (.inl hx), by cases ps <;> rfl⟩, ?_⟩
    by_cases he : ps.isEmpty = true
    · have hc : ps.isEmpty = true ∨ ∃ l, ls[i]? = some l ∧ ¬ l.head? = some 62 := .inl he
      rw [he]
      refine iteT (iteT ?_)
      refine ⟨fun σ' H'' => ∃ m', m' < m ∧ DivInv a p ls j H m' σ' H'', fun _ _ h => h, ?_⟩
      obtain ⟨bg, bb, be⟩ := body hc
      refine ⟨.ref a, rfl, .int i, rfl, .int r, rfl, a, ls, i, r, rfl, hS', hlen, be, fun l hl ht => ?_, bb⟩
      obtain ⟨n0, er, ef, ed⟩ := bg l hl ht
      have hz : (T l).length ≤ sizeLine := line_ok6 (by rw [T_len]; exact hlen l (List.mem_of_getElem? hl))
      refine ⟨.ref p, rfl, .inl ⟨rfl, _, .inl (.inl hx)⟩, .str (T l), rfl, p, _, _, rfl, rfl, hx, line_lt (by rw [List.length_map, List.length_map]; omega), ?_⟩
      refine ⟨.int r, rfl, .str (T l), rfl, T l, rfl, hz, _, _, rfl, rfl, ?_⟩
      refine ⟨.int i, rfl, _, _, rfl, rfl, ?_⟩
      refine ⟨m - 1, by omega, i + 1, r - l.length, ps ++ [l], some (.str (T l)), ?_, by omega, ?_, ?_, ef, ?_, ed⟩
      · rw [T_len, ← er]
        rfl
      · intro b o e
        rw [upd_ne (ne_of_none e hp)]
        exact sm b o e
      · rw [upd_same, List.map_append, List.map_append]
        rfl
      · rw [List.length_append, List.length_singleton]
        omega
    · rw [Bool.eq_false_iff.mpr he]
      refine iteF ⟨.int i, rfl, .ref a, rfl, a, _, rfl, .inl hS', i, _, rfl, rfl, _, rfl, ite2 (fun e => ?_) (fun e => iteF ?_)⟩
      · have e1 : ((i : Nat) : Int) < ((ls.map fun l => V.str (T l)).length : Int) := of_decide_eq_true e
        rw [List.length_map] at e1
        have hlt : i < ls.length := by omega
        have hat : (ls.map fun l => V.str (T l))[i]? = some (.str (T ls[i])) := by
          rw [List.getElem?_map, List.getElem?_eq_getElem hlt]
          rfl
        refine ⟨.ref a, rfl, .int i, rfl, a, _, i, .str (T ls[i]), rfl, rfl, hS', atI_nat hat, rfl, _, _, rfl, rfl, _, rfl, ?_⟩
        rw [gt_text, start_one]
        by_cases hh : ls[i].head? = some 62
        · have hn : ¬ (ps.isEmpty = true ∨ ∃ l, ls[i]? = some l ∧ ¬ l.head? = some 62) := by
            rintro (z | ⟨l, z1, z2⟩)
            · exact he z
            · rw [List.getElem?_eq_getElem hlt] at z1
              cases z1
              exact z2 hh
          rw [decide_eq_true hh]
          refine iteF ?_
          refine ⟨⟨_, rfl⟩, .ref p, rfl, _, p, ps.map T, rfl, rfl, .inl (.inl (.inl hx)), ?_, .int i, rfl, by show 2 ≤ sizeLine; decide, fun q hq => ?_⟩
          · rw [sum_flat, show (Str.ofString "").length = 0 by decide +kernel]
            omega
          · refine fin hn q _ (same_upd hq) hq ?_
            rw [upd_same, TL.join_eq, T_nil, join_flat]
        · have hc : ps.isEmpty = true ∨ ∃ l, ls[i]? = some l ∧ ¬ l.head? = some 62 := .inr ⟨_, List.getElem?_eq_getElem hlt, hh⟩
          rw [decide_eq_false hh]
          refine iteT ?_
          refine ⟨fun σ' H'' => ∃ m', m' < m ∧ DivInv a p ls j H m' σ' H'', fun _ _ h => h, ?_⟩
          obtain ⟨bg, bb, be⟩ := body hc
          refine ⟨.ref a, rfl, .int i, rfl, .int r, rfl, a, ls, i, r, rfl, hS', hlen, be, fun l hl ht => ?_, bb⟩
          obtain ⟨n0, er, ef, ed⟩ := bg l hl ht
          have hz : (T l).length ≤ sizeLine := line_ok6 (by rw [T_len]; exact hlen l (List.mem_of_getElem? hl))
          refine ⟨.ref p, rfl, .inl ⟨rfl, _, .inl (.inl hx)⟩, .str (T l), rfl, p, _, _, rfl, rfl, hx, line_lt (by rw [List.length_map, List.length_map]; omega), ?_⟩
          refine ⟨.int r, rfl, .str (T l), rfl, T l, rfl, hz, _, _, rfl, rfl, ?_⟩
          refine ⟨.int i, rfl, _, _, rfl, rfl, ?_⟩
          refine ⟨m - 1, by omega, i + 1, r - l.length, ps ++ [l], some (.str (T l)), ?_, by omega, ?_, ?_, ef, ?_, ed⟩
          · rw [T_len, ← er]
            rfl
          · intro b o e
            rw [upd_ne (ne_of_none e hp)]
            exact sm b o e
          · rw [upd_same, List.map_append, List.map_append]
            rfl
          · rw [List.length_append, List.length_singleton]
            omega
      · have e1 : ¬ ((i : Nat) : Int) < ((ls.map fun l => V.str (T l)).length : Int) := fun z => e (decide_eq_true z)
        rw [List.length_map] at e1
        have hn : ¬ (ps.isEmpty = true ∨ ∃ l, ls[i]? = some l ∧ ¬ l.head? = some 62) := by
          rintro (z | ⟨l, z1, z2⟩)
          · exact he z
          · rw [List.getElem?_eq_none (by omega)] at z1
            cases z1
        refine ⟨⟨_, rfl⟩, .ref p, rfl, _, p, ps.map T, rfl, rfl, .inl (.inl (.inl hx)), ?_, .int i, rfl, by show 2 ≤ sizeLine; decide, fun q hq => ?_⟩
        · rw [sum_flat, show (Str.ofString "").length = 0 by decide +kernel]
          omega
        · refine fin hn q _ (same_upd hq) hq ?_
          rw [upd_same, TL.join_eq, T_nil, join_flat]
end
/-! ### texts in lines of k letters -/
def ch (k : Nat) (t : List Nat) : List (List Nat) := (List.range ((t.length + k - 1) / k)).map fun i => (t.drop (i * k)).take k
theorem ch_part (k : Nat) (t : List Nat) : ∀ n : Nat, ((List.range n).map fun i => (t.drop (i * k)).take k).flatten = t.take (n * k)
  | 0 => by
    rw [Nat.zero_mul, List.take_zero]
    rfl
  | n + 1 => by
    rw [List.range_succ, List.map_append, List.flatten_append, ch_part k t n, Nat.succ_mul, List.take_add]
    simp
theorem ch_flat {k : Nat} (hk : 0 < k) (t : List Nat) : (ch k t).flatten = t := by
  unfold ch
  rw [ch_part]
  refine List.take_of_length_le ?_
  have h1 := Nat.div_add_mod (t.length + k - 1) k
  have h2 := Nat.mod_lt (t.length + k - 1) hk
  rw [Nat.mul_comm]
  omega
theorem ch_lt {k i : Nat} (hk : 0 < k) {t : List Nat} (hi : i < (t.length + k - 1) / k) : i * k < t.length := by
  have h1 := Nat.div_mul_le_self (t.length + k - 1) k
  have h2 : (i + 1) * k ≤ (t.length + k - 1) / k * k := Nat.mul_le_mul_right k hi
  rw [Nat.succ_mul] at h2
  omega
theorem ch_mem {k : Nat} (hk : 0 < k) {t l : List Nat} (h : l ∈ ch k t) : l ≠ [] ∧ ∀ c ∈ l, c ∈ t := by
  obtain ⟨i, hi, rfl⟩ := List.mem_map.mp h
  have hlt := ch_lt hk (List.mem_range.mp hi)
  refine ⟨fun z => ?_, fun c hc => List.mem_of_mem_drop (List.mem_of_mem_take hc)⟩
  have e := congrArg List.length z
  rw [List.length_take, List.length_drop, List.length_nil] at e
  omega
theorem ch_len (k : Nat) (t : List Nat) : (ch k t).length = (t.length + k - 1) / k := by
  unfold ch
  rw [List.length_map, List.length_range]
theorem ch_get {k i : Nat} {t : List Nat} (hi : i < (t.length + k - 1) / k) : (ch k t)[i]? = some ((t.drop (i * k)).take k) := by
  unfold ch
  rw [List.getElem?_map, List.getElem?_range hi]
  rfl
theorem rg_ch {n k : Nat} (hn : n ≤ 1000000) (h1 : 1 ≤ k) (hk : k ≤ 1000) : RgC 0 (n : Int) (k : Int) ((n + k - 1) / k) := by
  have h0 : (0 : Int) ≤ (n : Int) := by omega
  have hc : (1 : Int) ≤ (k : Int) := by omega
  have e : (((n + k - 1) / k : Nat) : Int) = ((n : Int) + (k : Int) - 1) / (k : Int) := by
    rw [Int.natCast_ediv, show ((n + k - 1 : Nat) : Int) = (n : Int) + (k : Int) - 1 by omega]
  refine ⟨by omega, by omega, ?_, ?_⟩
  · unfold Builtin.Range.small
    rw [rangeSize_pos hc h0, ← e]
    have q1 : (n + k - 1) / k ≤ n + k - 1 := Nat.div_le_self _ _
    generalize (n + k - 1) / k = qq at q1
    simp only [Builtin.Range.rangeFitsLong, Bool.and_eq_true, Bool.or_eq_true, decide_eq_true_eq, beq_iff_eq]
    refine ⟨⟨⟨⟨by omega, by omega, by omega⟩, by omega, by omega⟩, by omega, by omega⟩, .inr ?_⟩
    rw [if_pos (by omega), Bool.and_eq_true, decide_eq_true_eq, decide_eq_true_eq]
    omega
  · rw [rangeSize_pos hc h0, e]
theorem cut_mid (l : List Nat) (a b : Nat) : cutS (T l) (some (a : Int)) (some (b : Int)) = T ((l.drop a).take (b - a)) := by
  unfold cutS
  rw [HT.sIx_nat, HT.sIx_nat, T_len, T_list]
  show Str.mk _ = Str.mk _
  congr 2
  by_cases ha : a ≤ l.length
  · rw [Nat.min_eq_left ha]
    by_cases hb : b ≤ l.length
    · rw [Nat.min_eq_left hb]
    · rw [Nat.min_eq_right (by omega), List.take_of_length_le (by rw [List.length_drop]; omega), List.take_of_length_le (by rw [List.length_drop]; omega)]
  · rw [Nat.min_eq_right (a := a) (by omega), List.drop_of_length_le (Nat.le_refl _), List.drop_of_length_le (by omega), List.take_nil, List.take_nil]
/-! ### pairs of name and text -/
def Tups (H : Hp) : List V → List (List Nat × List Nat) → Prop := Paired fun v r => ∃ q, v = .ref q ∧ H q = some (.tup [.str (T r.1), .str (T r.2)])
theorem Tups.mono {H H' : Hp} {xs : List V} {rs : List (List Nat × List Nat)} (h : Tups H xs rs) (k : ∀ q ys, H q = some (.tup ys) → H' q = some (.tup ys)) : Tups H' xs rs :=
  Paired.mapP h fun _ _ ⟨q, e, t⟩ => ⟨q, e, k q _ t⟩
theorem Tups.snoc {H : Hp} {xs : List V} {rs : List (List Nat × List Nat)} {q : Addr} {r : List Nat × List Nat} (h : Tups H xs rs) (e : H q = some (.tup [.str (T r.1), .str (T r.2)])) : Tups H (xs ++ [.ref q]) (rs ++ [r]) :=
  Paired.snoc h ⟨q, rfl, e⟩
theorem paired_len {α β : Type} {F : α → β → Prop} : ∀ {xs : List α} {ys : List β}, Paired F xs ys → xs.length = ys.length
  | _, _, .nil => rfl
  | _, _, .cons _ t => congrArg (· + 1) (paired_len t)
theorem paired_get {α β : Type} {F : α → β → Prop} : ∀ {xs : List α} {ys : List β} {i : Nat} {x : α}, Paired F xs ys → xs[i]? = some x → ∃ y, ys[i]? = some y ∧ F x y
  | _, _, 0, _, .cons r _, e => ⟨_, rfl, by cases e; exact r⟩
  | _, _, i + 1, _, .cons _ t, e => paired_get (i := i) t e
def rr (ls : List (List Nat)) : Nat → Nat → List (List Nat × List Nat) → Except (Nat × Nat) (List (List Nat × List Nat))
  | 0, _, acc => .ok acc
  | n + 1, i, acc =>
    match ls[i]? with
    | none => .ok acc
    | some l =>
      match nameFault 62 l with
      | some c => .error (i, c)
      | none =>
        match dv (ls.drop (i + 1)) (i + 1) 100000 [] true with
        | .error e => .error e
        | .ok (t, i') => rr ls n i' (acc ++ [(l.drop 1, t)])
theorem dv_le : ∀ (r : List (List Nat)) (i room : Nat) (acc : List Nat) (e : Bool) {t : List Nat} {i' : Nat}, dv r i room acc e = .ok (t, i') → i ≤ i' ∧ i' ≤ i + r.length
  | [], i, room, acc, e, t, i', h => by
    cases e with
    | true => cases h
    | false =>
      cases h
      exact ⟨Nat.le_refl _, Nat.le_refl _⟩
  | l :: r, i, room, acc, e, t, i', h => by
    rw [dv_cons] at h
    by_cases c : e = false ∧ l.head? = some 62
    · rw [if_pos c] at h
      cases h
      exact ⟨Nat.le_refl _, Nat.le_add_right _ _⟩
    · rw [if_neg c] at h
      cases ht : textFault room l with
      | some d =>
        rw [ht] at h
        cases h
      | none =>
        rw [ht] at h
        have := dv_le r (i + 1) (room - l.length) (acc ++ l) false h
        rw [List.length_cons]
        omega
section
variable {P : Program} {w : World} {K : PySem.W.Frag} {mg : Str → Option Value} {base : Heap}
def spReadRefs (K : PySem.W.Frag) (C : Addr) : Sp := fun vs H Q E => ∃ (a : Addr) (ls : List (List Nat)), vs = [.ref a] ∧ SqS K H a ls ∧ (∀ l ∈ ls, l.length ≤ 1000000) ∧ ls.length ≤ 100000 ∧
  (∀ rs, rr ls ls.length 0 [] = .ok rs → ∀ (H' : Hp) (p : Addr) (xs : List V), Same H H' → H p = none → H' p = some (.lst xs) → Tups H' xs rs → Q (.ref p) H') ∧ ∀ l c, rr ls ls.length 0 [] = .error (l, c) → Bad E C H l c
/-- between two turns -/
def RefInv (a p : Addr) (ls : List (List Nat)) (H : Hp) (m : Nat) (σ : L2.St) (H' : Hp) : Prop :=
  ∃ (i n : Nat) (xs : List V) (rs : List (List Nat × List Nat)) (nv tv : Option V), σ = [some (.ref a), some (.ref p), some (.int (i : Nat)), nv, tv] ∧ m + i = ls.length ∧ ls.length ≤ i + n ∧ Same H H' ∧ H' p = some (.lst xs) ∧ Tups H' xs rs ∧ xs.length ≤ i ∧
    rr ls n i rs = rr ls ls.length 0 []
theorem ok_readRefs {f C : Addr} {fd : FuncData} {k : Nat} (F : Fun K "read_references" "read_references" sReadRefs f fd) (ml : mg "len" = none)
    (hN : HasX P w K mg base 4 "_name_line" ["lines", "at", "sign"] (spName K C)) (hD : HasX P w K mg base 5 "_divided_text" ["lines", "at"] (spDiv K C)) : FnOk P w K mg base (L2.CX P w) (k + 6) f fd ["lines"] (spReadRefs K C) := by
  obtain ⟨fN, dN, GN, gN, kN, bN⟩ := hN
  obtain ⟨fD, dD, GD, gD, kD, bD⟩ := hD
  refine F.okX scReadRefs (fun vs H Q E h => ?_) (fun cdv A outer s H vs Q E hr h => ?_)
  · obtain ⟨a, ls, rfl, _⟩ := h
    rfl
  · obtain ⟨a, ls, rfl, hS, hlen, hls, qg, qb⟩ := h
    refine ⟨_, pss_cons (ps_set (i := 1) scReadRefs.nd rfl (.inl rfl) (pe_lst pa_nil))
      (pss_cons (ps_set (i := 2) scReadRefs.nd rfl (.inl rfl) pe_int)
      (pss_cons (ps_while (passes_of rfl) (pt_cmpR op_lt (pv 2) (pe_callB call_len_seq (by rfl) ml PySem.boot_len (pa_cons (pv 0) pa_nil)) (nomark _))
        (pss_cons (ps_set (i := 3) scReadRefs.nd rfl (.inl rfl) (pe_call GN (hr.mono (by omega)) (by rfl) gN kN bN .nil (passes_call (takes_of rfl rfl rfl rfl) fun _ _ _ _ h => h) (pa_cons (pv 0) (pa_cons (pv 2) (pa_cons pe_str pa_nil)))))
        (pss_cons (ps_asg (pe_call GD (hr.mono (by omega)) (by rfl) gD kD bD .nil (passes_call (takes_of rfl rfl rfl rfl) fun _ _ _ _ h => h) (pa_cons (pv 0) (pa_cons (pe_op op_add (pv 2) pe_int) pa_nil)))
            (pg_tup rfl (pgs_cons (pg_name (i := 4) scReadRefs.nd rfl (.inl rfl)) (pgs_cons (pg_name (i := 2) scReadRefs.nd rfl (.inl rfl)) pgs_nil))))
        (pss_one (ps_expr (pe_bm PySem.F.plainAttrs_list PySem.F.slot_list_append PySem.F.type_list_append mt_append (pv 1) (pa_cons (pe_tup (pa_cons (pv 3) (pa_cons (pv 4) pa_nil))) pa_nil)))))))
      (pss_one (ps_ret (pv 1))))), ?_⟩
    refine ⟨Nat.zero_le _, fun p hp => ?_⟩
    refine ⟨RefInv a p ls H, ⟨ls.length, 0, ls.length, [], [], none, none, rfl, rfl, by omega, same_upd hp, upd_same, .nil, Nat.zero_le _, rfl⟩, ?_⟩
    rintro m σ H' ⟨i, n, xs, rs, nv, tv, rfl, em, hn, sm, hx, ht, hxl, hrr⟩
    have hS' : SqS K H' a ls := sm.seq hS
    refine ⟨.int i, rfl, .ref a, rfl, a, _, rfl, .inl hS', i, _, rfl, rfl, _, rfl, ite2 (fun e => ?_) (fun e => ?_)⟩
    · have e1 : ((i : Nat) : Int) < ((ls.map fun l => V.str (T l)).length : Int) := of_decide_eq_true e
      rw [List.length_map] at e1
      have hlt : i < ls.length := by omega
      obtain ⟨n', rfl⟩ : ∃ n', n = n' + 1 := ⟨n - 1, by omega⟩
      refine ⟨fun σ' H'' => ∃ m', m' < m ∧ RefInv a p ls H m' σ' H'', fun _ _ h => h, ?_⟩
      refine ⟨.ref a, rfl, .int i, rfl, a, ls, i, 62, by rw [gt_text]; rfl, hS', hlen, fun z => by omega, fun l hl hnf => ?_, fun l c hl hnf => ?_⟩
      · refine ⟨.ref a, rfl, .int i, rfl, i, 1, rfl, rfl, a, ls, i + 1, rfl, hS', hlen, hls, by omega, fun t i' hdv H2 q s2 hq hqe => ?_, fun l' c hdv => ?_⟩
        · have hle := dv_le _ _ _ _ _ hdv
          rw [List.length_drop] at hle
          have hx2 : H2 p = some (.lst xs) := s2 _ _ hx
          refine ⟨q, [.str (T t), .int (i' : Nat)], rfl, .inl (.inl hqe), rfl, _, _, rfl, _, _, rfl, rfl, ?_⟩
          refine ⟨.ref p, rfl, .inl ⟨rfl, _, .inl (.inl hx2)⟩, .str (T (l.drop 1)), rfl, .str (T t), rfl, by show 2 ≤ sizeLine; decide, fun q2 hq2 => ?_⟩
          have np : p ≠ q2 := ne_of_none hx2 hq2
          refine ⟨p, xs, _, rfl, rfl, by rw [upd_ne np]; exact hx2, line_lt (by omega), ?_⟩
          refine ⟨ls.length - i', by omega, i', n', xs ++ [.ref q2], rs ++ [(l.drop 1, t)], _, _, rfl, by omega, by omega, fun b o hb => ?_, upd_same, ?_, by rw [List.length_append, List.length_singleton]; omega, ?_⟩
          · rw [upd_ne (ne_of_none hb hp), upd_ne (ne_of_none (s2 _ _ (sm _ _ hb)) hq2)]
            exact s2 _ _ (sm _ _ hb)
          · refine Tups.snoc (ht.mono fun b ys hb => ?_) ?_
            · have n1 : b ≠ p := fun z => by
                rw [z, hx] at hb
                cases hb
              rw [upd_ne n1, upd_ne (ne_of_none (s2 _ _ hb) hq2)]
              exact s2 _ _ hb
            · rw [upd_ne np.symm, upd_same]
          · rw [← hrr]
            conv => rhs; unfold rr
            rw [hl]
            dsimp only
            rw [hnf]
            dsimp only
            rw [hdv]
        · refine (qb l' c ?_).same sm
          rw [← hrr]
          unfold rr
          rw [hl]
          dsimp only
          rw [hnf]
          dsimp only
          rw [hdv]
      · refine (qb i c ?_).same sm
        rw [← hrr]
        unfold rr
        rw [hl]
        dsimp only
        rw [hnf]
    · have e1 : ¬ ((i : Nat) : Int) < ((ls.map fun l => V.str (T l)).length : Int) := fun z => e (decide_eq_true z)
      rw [List.length_map] at e1
      refine ⟨.ref p, rfl, qg rs ?_ H' p xs sm hp hx ht⟩
      rw [← hrr]
      cases n with
      | zero => rfl
      | succ n =>
        unfold rr
        rw [List.getElem?_eq_none (by omega)]
end
/-! ### data as a whole -/
def Asc (l : List Nat) : Prop := ∀ c ∈ l, c < 128
def dS (l : List Nat) : PyData := .str (T l)
def dL (ls : List (List Nat)) : PyData := .list (ls.map dS)
def dR (rs : List (List Nat × List Nat)) : PyData := .list (rs.map fun r => .tuple [dS r.1, dS r.2])
theorem can_dS {l : List Nat} (h : Asc l) : (dS l).canLay0 = true := by
  show PyData.strOk (T l) = true
  unfold PyData.strOk
  rw [Array.all_eq_true]
  intro i hi
  have hi2 : i < l.length := by rw [T_size] at hi; exact hi
  have e : (T l).cps[i]? = l[i]? := T_at l i
  rw [Array.getElem?_eq_getElem hi, List.getElem?_eq_getElem hi2] at e
  rw [Option.some.inj e]
  have := h _ (List.getElem_mem hi2)
  exact decide_eq_true (by omega)
theorem can_dL {ls : List (List Nat)} (h : ∀ l ∈ ls, Asc l) : (dL ls).canLay0 = true := by
  show PyData.canLayAll0 (ls.map dS) = true
  induction ls with
  | nil => rfl
  | cons l r ih =>
    show ((dS l).canLay0 && PyData.canLayAll0 (r.map dS)) = true
    rw [can_dS (h l List.mem_cons_self), ih fun x hx => h x (List.mem_cons_of_mem _ hx)]
    rfl
theorem depth_dL (ls : List (List Nat)) : PyData.depth (dL ls) ≤ 64 := by
  have : PyData.depthAll (ls.map dS) = 0 := by
    induction ls with
    | nil => rfl
    | cons l r ih =>
      show max (PyData.depth (dS l)) (PyData.depthAll (r.map dS)) = 0
      rw [ih]
      rfl
  show PyData.depthAll (ls.map dS) + 1 ≤ 64
  omega
theorem shaped_dL {ls : List (List Nat)} (h : ∀ l ∈ ls, Asc l) : SeqAt.shaped (dL ls) = true := by
  unfold SeqAt.shaped
  rw [can_dL h, decide_eq_true (depth_dL ls)]
  rfl
theorem can_dR {rs : List (List Nat × List Nat)} (h : ∀ r ∈ rs, Asc r.1 ∧ Asc r.2) : (dR rs).canLay0 = true := by
  show PyData.canLayAll0 (rs.map fun r => .tuple [dS r.1, dS r.2]) = true
  induction rs with
  | nil => rfl
  | cons l r ih =>
    show (((dS l.1).canLay0 && ((dS l.2).canLay0 && true)) && PyData.canLayAll0 (r.map fun r => .tuple [dS r.1, dS r.2])) = true
    rw [can_dS (h l List.mem_cons_self).1, can_dS (h l List.mem_cons_self).2, ih fun x hx => h x (List.mem_cons_of_mem _ hx)]
    rfl
theorem depth_dR (rs : List (List Nat × List Nat)) : PyData.depth (dR rs) ≤ 64 := by
  have : PyData.depthAll (rs.map fun r => .tuple [dS r.1, dS r.2]) ≤ 1 := by
    induction rs with
    | nil => exact Nat.zero_le _
    | cons l r ih =>
      show max (max 0 (max 0 0) + 1) (PyData.depthAll (r.map fun r => .tuple [dS r.1, dS r.2])) ≤ 1
      omega
  show PyData.depthAll (rs.map fun r => .tuple [dS r.1, dS r.2]) + 1 ≤ 64
  omega
theorem shaped_dR {rs : List (List Nat × List Nat)} (h : ∀ r ∈ rs, Asc r.1 ∧ Asc r.2) : SeqAt.shaped (dR rs) = true := by
  unfold SeqAt.shaped
  rw [can_dR h, decide_eq_true (depth_dR rs)]
  rfl
section
variable {K : PySem.W.Frag}
theorem dp_strs {H : Hp} : ∀ ls : List (List Nat), DpAll K H (ls.map fun l => V.str (T l)) (ls.map dS)
  | [] => .nil
  | l :: r => .cons (.str _) (dp_strs r)
theorem dp_dL {H : Hp} {a : Addr} {ls : List (List Nat)} (h : SqS K H a ls) : Dp K H (.ref a) (dL ls) := .lst h (dp_strs ls)
theorem dp_tups {H : Hp} : ∀ {xs : List V} {rs : List (List Nat × List Nat)}, Tups H xs rs → DpAll K H xs (rs.map fun r => .tuple [dS r.1, dS r.2])
  | _, _, .nil => .nil
  | _, _, .cons ⟨_, e, h⟩ t => .cons (by rw [e]; exact .tup (.inl (.inl h)) (.cons (.str _) (.cons (.str _) .nil))) (dp_tups t)
theorem dp_dR {H : Hp} {a : Addr} {xs : List V} {rs : List (List Nat × List Nat)} (h : SqL K H a xs) (t : Tups H xs rs) : Dp K H (.ref a) (dR rs) := .lst h (dp_tups t)
end
theorem sg_asc {c : Nat} (h : Sg c) : c < 128 := by
  rcases h with h | h | h | h | h <;> omega
theorem dna_asc {l : List Nat} (h : Dna l) : Asc l := fun c hc => sg_asc (h c hc)
/-! ### lines of references -/
def wl (rs : List (List Nat × List Nat)) : List (List Nat) := rs.flatMap fun r => (62 :: r.1) :: ch 60 r.2
theorem wl_snoc {rs : List (List Nat × List Nat)} {i : Nat} {r : List Nat × List Nat} (h : rs[i]? = some r) : wl (rs.take (i + 1)) = wl (rs.take i) ++ ((62 :: r.1) :: ch 60 r.2) := by
  unfold wl
  rw [List.take_add_one, h, List.flatMap_append]
  simp
theorem wl_len : ∀ {rs : List (List Nat × List Nat)}, (∀ r ∈ rs, r.2.length ≤ 1000) → (wl rs).length ≤ rs.length * 2000
  | [], _ => Nat.le_refl _
  | r :: t, h => by
    have ih := wl_len (rs := t) fun x hx => h x (List.mem_cons_of_mem _ hx)
    have h0 := h r List.mem_cons_self
    have e : wl (r :: t) = ((62 :: r.1) :: ch 60 r.2) ++ wl t := by
      unfold wl
      rw [List.flatMap_cons]
    rw [e, List.length_append, List.length_cons, ch_len, List.length_cons]
    omega
section
variable {P : Program} {w : World} {K : PySem.W.Frag} {mg : Str → Option Value} {base : Heap}
def spWrite (K : PySem.W.Frag) : Sp := fun vs H Q _ => ∃ (a : Addr) (xs : List V) (rs : List (List Nat × List Nat)), vs = [.ref a] ∧ SqL K H a xs ∧ Tups H xs rs ∧ rs.length ≤ 40 ∧ (∀ r ∈ rs, r.1.length ≤ 1000 ∧ r.2.length ≤ 1000) ∧
  ∀ (H' : Hp) (p : Addr), Same H H' → H p = none → H' p = some (.lst ((wl rs).map fun l => V.str (T l))) → Q (.ref p) H'
theorem ok_write {f : Addr} {fd : FuncData} {k : Nat} {t1 : Tok} (F : Fun K "write_references" "write_references" sWriteRefs f fd) (ml : mg "len" = none) (mr : mg "range" = none) (gL : mg "_LINE_LENGTH" = some (.int 60 t1)) : FnOk P w K mg base CX0 (k + 1) f fd ["references"] (spWrite K) := by
  refine F.ok scWriteRefs (fun vs H Q E h => ?_) (fun cdv A outer s H vs Q E hr h => ?_)
  · obtain ⟨a, xs, rs, rfl, _⟩ := h
    rfl
  · obtain ⟨a, xs, rs, rfl, hS, ht, hrl, hrs, q⟩ := h
    refine ⟨_, pss_cons (ps_set (i := 1) scWriteRefs.nd rfl (.inl rfl) (pe_lst pa_nil))
      (pss_cons (ps_for PassesOwn.never rfl (pi_list (pv 0)) (pg_tup rfl (pgs_cons (pg_name (i := 2) scWriteRefs.nd rfl (.inl rfl)) (pgs_cons (pg_name (i := 3) scWriteRefs.nd rfl (.inl rfl)) pgs_nil)))
        (pss_cons (ps_expr (pe_bm PySem.F.plainAttrs_list PySem.F.slot_list_append PySem.F.type_list_append mt_append (pv 1) (pa_cons (pe_op op_add_str pe_str (pv 2)) pa_nil)))
        (pss_one (ps_for PassesOwn.never rfl (pi_range3 rfl mr (pa_cons pe_int (pa_cons (pe_callB call_len_str (by rfl) ml PySem.boot_len (pa_cons (pv 3) pa_nil)) (pa_cons (pe_glob (v := .int 60) (by rfl) gL ⟨_, rfl⟩) pa_nil)))) (pg_name (i := 4) scWriteRefs.nd rfl (.inl rfl))
          (pss_one (ps_expr (pe_bm PySem.F.plainAttrs_list PySem.F.slot_list_append PySem.F.type_list_append mt_append (pv 1) (pa_cons (pe_slice sl_str (pv 3) (po_some (pv 4)) (po_some (pe_op op_add (pv 4) (pe_glob (v := .int 60) (by rfl) gL ⟨_, rfl⟩)))) pa_nil))))))))
      (pss_one (ps_ret (pv 1)))), ?_⟩
    refine ⟨Nat.zero_le _, fun p hp => ?_⟩
    have hS1 : SqL K (upd H p (.lst [])) a xs := (same_upd hp).seq hS
    refine ⟨.ref a, rfl, a, rfl, ⟨_, hS1⟩, ?_⟩
    have lenx := paired_len ht
    have cap : ∀ i, (wl (rs.take i)).length ≤ 80000 := fun i => by
      have h1 := wl_len (rs := rs.take i) fun r hr => (hrs r (List.mem_of_mem_take hr)).2
      rw [List.length_take] at h1
      omega
    refine for_list (K := K) (xs := xs) (fun i σ H' => ∃ nv tv bv, σ = [some (.ref a), some (.ref p), nv, tv, bv] ∧ Same H H' ∧ H' p = some (.lst ((wl (rs.take i)).map fun l => V.str (T l)))) ⟨none, none, none, rfl, same_upd hp, upd_same⟩ ?_ ?_ ?_
    · rintro i σ H' _ ⟨nv, tv, bv, _, sm, _⟩
      exact sm.seq hS
    · rintro i x σ H' hix ⟨nv, tv, bv, rfl, sm, hx⟩
      obtain ⟨r, hr, qa, rfl, hq⟩ := paired_get ht hix
      have hr0 := hrs r (List.mem_of_getElem? hr)
      have hz : (T r.2).length ≤ sizeLine := line_ok6 (by rw [T_len]; omega)
      refine ⟨qa, _, rfl, .inl (.inl (sm _ _ hq)), rfl, _, _, rfl, _, _, rfl, rfl, ?_⟩
      have c1 := cap (i + 1)
      rw [wl_snoc hr, List.length_append, List.length_cons] at c1
      refine ⟨.ref p, rfl, .inl ⟨rfl, _, .inl (.inl hx)⟩, .str (T r.1), rfl, _, _, rfl, rfl, line_ok6 (by rw [T_len, show (Str.ofString ">").length = 1 by decide +kernel]; omega), p, _, _, rfl, rfl, hx, line_lt (by rw [List.length_map]; omega), ?_⟩
      refine ⟨.str (T r.2), rfl, T r.2, rfl, hz, 0, _, 60, (r.2.length + 60 - 1) / 60, rfl, ?_, ?_⟩
      · rw [T_len]
        exact rg_ch (k := 60) (by omega) (by decide) (by decide)
      refine for_rangeC (lo := 0) (c := 60) (n := (r.2.length + 60 - 1) / 60) (fun j σ H'' => ∃ bv, σ = [some (.ref a), some (.ref p), some (.str (T r.1)), some (.str (T r.2)), bv] ∧ Same H H'' ∧ H'' p = some (.lst ((wl (rs.take i) ++ ((62 :: r.1) :: (ch 60 r.2).take j)).map fun l => V.str (T l)))) ?_ ?_ ?_
      · refine ⟨_, rfl, fun b o e => ?_, ?_⟩
        · rw [upd_ne (ne_of_none e hp)]
          exact sm b o e
        · rw [upd_same, gt_text, T_app, List.map_append]
          rfl
      · rintro j σ H'' hj ⟨bv, rfl, sm2, hx2⟩
        rw [ch_len] at c1
        refine ⟨.ref p, rfl, .inl ⟨rfl, _, .inl (.inl hx2)⟩, .str (T r.2), rfl, _, rfl, _, rfl, _, rfl, _, _, rfl, rfl, _, rfl, T r.2, rfl, hz, p, _, _, rfl, rfl, hx2, line_lt ?_, ?_⟩
        · rw [List.length_map, List.length_append, List.length_cons, List.length_take, ch_len]
          omega
        · refine ⟨_, rfl, fun b o e => ?_, ?_⟩
          · rw [upd_ne (ne_of_none e hp)]
            exact sm2 b o e
          · rw [upd_same, List.take_add_one, ch_get hj]
            show some (HO.lst (_ ++ [V.str (cutS (T r.2) (some ((0 : Int) + ((j : Nat) : Int) * 60)) (some ((0 : Int) + ((j : Nat) : Int) * 60 + 60)))])) = _
            rw [show (0 : Int) + ((j : Nat) : Int) * 60 = ((j * 60 : Nat) : Int) by omega, show ((j * 60 : Nat) : Int) + 60 = ((j * 60 + 60 : Nat) : Int) by omega, cut_mid, Nat.add_sub_cancel_left]
            simp
      · rintro σ H'' ⟨bv, rfl, sm2, hx2⟩
        refine ⟨_, _, _, rfl, sm2, ?_⟩
        rw [hx2, wl_snoc hr, List.take_of_length_le (l := ch 60 r.2) (by rw [ch_len]; exact Nat.le_refl _)]
    · rintro σ H' ⟨nv, tv, bv, rfl, sm, hx⟩
      rw [lenx, List.take_length] at hx
      exact ⟨.ref p, rfl, q H' p sm hp hx⟩
end
theorem join_ones : ∀ l : List Nat, Str.join (T []) (l.map fun c => T [c]) = T l
  | [] => rfl
  | [c] => rfl
  | c :: e :: r => by
    have ih := join_ones (e :: r)
    show T [c] ++ T [] ++ Str.join (T []) ((e :: r).map fun c => T [c]) = _
    rw [ih, T_app, T_app]
    rfl
theorem sum_ones (l : List Nat) : ((l.map fun c => T [c]).map (·.length)).sum = l.length := by
  induction l with
  | nil => rfl
  | cons c r ih =>
    rw [List.map_cons, List.map_cons, List.sum_cons, ih, T_len, List.length_cons]
    show 1 + r.length = r.length + 1
    omega
section
variable {P : Program} {w : World} {K : PySem.W.Frag} {mg : Str → Option Value} {base : Heap}
def Nam (l : List Nat) : Prop := 1 ≤ l.length ∧ l.length ≤ 40 ∧ ∀ c ∈ l, c ∈ ncl
theorem ncl_asc : ∀ c ∈ ncl, c < 128 := by decide
theorem ncl_text : Str.ofString "0123456789ABCDEFGHIJKLMNOPQRSTUVWXYZabcdefghijklmnopqrstuvwxyz" = T ncl := by decide +kernel
/-! ### _law_name -/
def spLName (K : PySem.W.Frag) : Sp := fun vs H Q _ => ∃ c : Int, vs = [.int c] ∧ ∀ (H' : Hp) (l : List Nat), Same H H' → Nam l → Q (.str (T l)) H'
theorem ok_lname {f : Addr} {fd : FuncData} {k : Nat} (F : Fun K "_law_name" "_law_name" sLName f fd) (B : Bl mg) (hR : Has P w K mg base (k + 1) "_law_row" ["cell", "count", "bound"] (spRow K)) : FnOk P w K mg base CX0 (k + 1 + 1) f fd ["cell"] (spLName K) := by
  obtain ⟨fR, dR', GR, gR, kR, bR⟩ := hR
  refine F.ok scLName (fun vs H Q E h => ?_) (fun cdv A outer s H vs Q E hr h => ?_)
  · obtain ⟨c, rfl, _⟩ := h
    rfl
  · obtain ⟨c, rfl, q⟩ := h
    refine ⟨_, pss_cons (ps_set (i := 1) scLName.nd rfl (.inr rfl) pe_str)
      (pss_cons (ps_set (i := 2) scLName.nd rfl (.inl rfl) (pe_op op_add pe_int (pe_op op_mod (pe_callB call_abs (by rfl) B.abs (by decide +kernel) (pa_cons (pe_callTy call_int1 (by rfl) B.int (by decide +kernel) (pa_cons (pv 0) pa_nil)) pa_nil)) pe_int)))
      (C8.pss_cut (ps_if (pt_cmpR op_eq (pe_op op_mod (pe_op op_fdiv (pe_callB call_abs (by rfl) B.abs (by decide +kernel) (pa_cons (pe_callTy call_int1 (by rfl) B.int (by decide +kernel) (pa_cons (pv 0) pa_nil)) pa_nil)) pe_int) pe_int) pe_int (nomark _))
        (pss_one (ps_set (i := 2) scLName.nd rfl (.inl rfl) pe_int)) pss_nil)
      (pss_one (ps_ret (pe_join pe_str (pe_lc (own := [("x", 3)]) (g := gName 3) (tt := tYes) rfl scLName.nd (pi_list (pe_call GR hr (by rfl) gR kR bR .nil pass0 (pa_cons (pv 0) (pa_cons (pv 2) (pa_cons pe_int pa_nil)))))
        (blkOk_by (own := [("x", 3)]) (N := ["cell", "signs", "size", "x"]) (sc := defScope sLName) (by decide +kernel)) (fun _ _ _ _ _ => pg_name (i := 3) scLName.nd rfl (Or.inl rfl)) (fun _ _ _ _ _ => pts_nil) (fun _ _ _ _ _ => pe_ix (r := rIxS) ix_str (pv 1) (pv 3) (fun _ _ => rfl)))))))), ?_⟩
    refine ⟨.int c, rfl, .inl ⟨c, rfl, c, rfl, _, 12, rfl, rfl, (show (0 : Int) < 12 by decide), 1, _, rfl, rfl, ?_⟩⟩
    have m0 : 0 ≤ (if c < 0 then -c else c) % 12 := Int.emod_nonneg _ (by decide)
    have m1 : (if c < 0 then -c else c) % 12 < 12 := Int.emod_lt_of_pos _ (by decide)
    refine ⟨fun σ H' => H' = H ∧ ∃ n : Int, 1 ≤ n ∧ n ≤ 40 ∧ σ = [some (.int c), some (.str (T ncl)), some (.int n), none], ?_, ?_⟩
    · refine ⟨.int c, rfl, .inl ⟨c, rfl, c, rfl, _, 12, rfl, rfl, ⟨by decide, by decide⟩, _, 5, rfl, rfl, (show (0 : Int) < 5 by decide), rfl, _, rfl, ite2 (fun _ => ?_) (fun _ => ?_)⟩⟩
      · exact ⟨rfl, 40, by decide, by decide, by rw [← ncl_text]; rfl⟩
      · exact ⟨rfl, 1 + (if c < 0 then -c else c) % 12, by omega, by omega, by rw [← ncl_text]; rfl⟩
    rintro σ H' ⟨rfl, n, n1, n40, rfl⟩
    refine ⟨⟨_, rfl⟩, .int c, rfl, .int n, rfl, c, n, 62, rfl, by omega, by omega, by decide, by decide, fun H1 p xs sm hp hx hl hall => ?_⟩
    have hS : SqL K H1 p (xs.map V.int) := .inl (.inl hx)
    refine ⟨p, rfl, ⟨_, hS⟩, fun D hD => ?_⟩
    have nl : ncl.length = 62 := by decide
    refine lc_list (K := K) (xs := xs.map V.int) (fun i H2 => Same H1 H2 ∧ ∃ m : List Nat, m.length = i ∧ (∀ c ∈ m, c ∈ ncl) ∧ H2 D = some (.lst ((m.map fun c => T [c]).map V.str))) ⟨same_upd hD, [], rfl, (fun c hc => by cases hc), upd_same⟩ ?_ ?_ ?_
    · rintro i H2 _ ⟨s2, _⟩
      exact s2.seq hS
    · rintro i x H2 hix ⟨s2, m, hm, hmc, hx2⟩
      rw [List.getElem?_map] at hix
      obtain ⟨y, hy, rfl⟩ := Option.map_eq_some_iff.mp hix
      obtain ⟨y0, y1⟩ := hall y (List.mem_of_getElem? hy)
      obtain ⟨yn, rfl⟩ : ∃ yn : Nat, y = (yn : Int) := ⟨y.toNat, by omega⟩
      have hyn : yn < ncl.length := by omega
      have hil : i < xs.length := (List.getElem?_eq_some_iff.mp hy).1
      refine ⟨rfl, ?_⟩
      dsimp only [tYes]
      rw [if_pos rfl]
      refine ⟨.str (T ncl), rfl, .int (yn : Int), rfl, T ncl, _, ncl[yn], rfl, rfl, by decide +kernel, atI_nat (List.getElem?_eq_getElem hyn), _, hx2, line_lt (by rw [List.length_map, List.length_map]; omega), fun b o e => ?_, m ++ [ncl[yn]], by rw [List.length_append, hm]; rfl, ?_, ?_⟩
      · rw [upd_ne (ne_of_none e hD)]
        exact s2 b o e
      · intro d hd
        rcases List.mem_append.mp hd with z | z
        · exact hmc d z
        · obtain rfl : d = ncl[yn] := by simpa using z
          exact List.getElem_mem hyn
      · rw [upd_same, List.map_append, List.map_append]
        rfl
    · rintro H2 ⟨s2, m, hm, hmc, hx2⟩
      rw [List.length_map] at hm
      refine ⟨_, D, m.map fun c => T [c], rfl, rfl, .inl (.inl (.inl hx2)), ?_, ?_⟩
      · rw [sum_ones, show (Str.ofString "").length = 0 by decide +kernel]
        omega
      · rw [TL.join_eq, T_nil, join_ones]
        exact q H2 m (sm.trans s2) ⟨by omega, by omega, hmc⟩
/-! ### _law_divided -/
def spLDiv (K : PySem.W.Frag) : Sp := fun vs H Q _ => ∃ (t : List Nat) (c : Int), vs = [.str (T t), .int c] ∧ 1 ≤ t.length ∧ t.length ≤ 150 ∧
  ∀ (H' : Hp) (p : Addr) (ps : List (List Nat)), Same H H' → H p = none → H' p = some (.lst (ps.map fun l => V.str (T l))) → ps.flatten = t → (∀ l ∈ ps, l ≠ []) → ps.length ≤ 150 → Q (.ref p) H'
theorem ok_ldiv {f : Addr} {fd : FuncData} {k : Nat} (F : Fun K "_law_divided" "_law_divided" sLDiv f fd) (B : Bl mg) (hR : Has P w K mg base (k + 1) "_law_row" ["cell", "count", "bound"] (spRow K)) : FnOk P w K mg base CX0 (k + 1 + 1) f fd ["text", "cell"] (spLDiv K) := by
  obtain ⟨fR, dR', GR, gR, kR, bR⟩ := hR
  refine F.ok scLDiv (fun vs H Q E h => ?_) (fun cdv A outer s H vs Q E hr h => ?_)
  · obtain ⟨t, c, rfl, _⟩ := h
    rfl
  · obtain ⟨t, c, rfl, ht1, ht2, q⟩ := h
    refine ⟨_, pss_cons (ps_set (i := 2) scLDiv.nd rfl (.inl rfl) (pe_lst pa_nil))
      (pss_cons (ps_set (i := 3) scLDiv.nd rfl (.inl rfl) (pe_call GR hr (by rfl) gR kR bR .nil pass0 (pa_cons (pv 1) (pa_cons pe_int (pa_cons pe_int pa_nil)))))
      (pss_cons (ps_set (i := 4) scLDiv.nd rfl (.inl rfl) pe_int)
      (pss_cons (ps_for PassesOwn.never rfl (pi_range1 rfl B.range (pa_cons pe_int pa_nil)) (pg_name (i := 5) scLDiv.nd rfl (.inl rfl))
        (pss_one (ps_if (pt_cmpR op_lt (pv 4) (pe_callB call_len_str (by rfl) B.len PySem.boot_len (pa_cons (pv 0) pa_nil)) (nomark _))
          (pss_cons (ps_expr (pe_bm PySem.F.plainAttrs_list PySem.F.slot_list_append PySem.F.type_list_append mt_append (pv 2) (pa_cons (pe_slice sl_str (pv 0) (po_some (pv 4)) (po_some (pe_op op_add (pe_op op_add (pv 4) pe_int) (pe_ix ix_list (pv 3) (pv 5) (fun _ _ => rfl))))) pa_nil)))
          (pss_one (ps_set (i := 4) scLDiv.nd rfl (.inl rfl) (pe_op op_add (pe_op op_add (pv 4) pe_int) (pe_ix ix_list (pv 3) (pv 5) (fun _ _ => rfl)))))) pss_nil)))
      (pss_one (ps_ret (pv 2)))))), ?_⟩
    have hz : (T t).length ≤ sizeLine := line_ok6 (by rw [T_len]; omega)
    refine ⟨Nat.zero_le _, fun p hp => ?_⟩
    refine ⟨.int c, rfl, c, 150, 70, rfl, by decide, by decide, by decide, by decide, fun H1 d xs sm hd hx hl hall => ?_⟩
    have hS : SqL K H1 d (xs.map V.int) := .inl (.inl hx)
    have hp1 : H1 p = some (.lst []) := sm _ _ upd_same
    have ndp : d ≠ p := fun e => by
      rw [e, upd_same] at hd
      cases hd
    refine ⟨150, rfl, by decide, by decide, ?_⟩
    have e150 : (150 : Int).toNat = 150 := rfl
    rw [e150] at hl ⊢
    refine for_range (lo := 0) (n := 150) (fun i σ H' => ∃ (n : Nat) (ps : List (List Nat)) (kv : Option V), σ = [some (.str (T t)), some (.int c), some (.ref p), some (.ref d), some (.int (n : Nat)), kv] ∧ Same H H' ∧ H' d = some (.lst (xs.map V.int)) ∧ H' p = some (.lst (ps.map fun l => V.str (T l))) ∧
      ps.flatten = t.take n ∧ (∀ l ∈ ps, l ≠ []) ∧ ps.length ≤ i ∧ (i ≤ n ∨ t.length ≤ n)) ?_ ?_ ?_
    · exact ⟨0, [], none, rfl, (same_upd hp).trans sm, hx, hp1, by rw [List.take_zero]; rfl, (fun l hl => by cases hl), Nat.le_refl _, .inl (Nat.le_refl _)⟩
    · rintro i σ H' hi ⟨n, ps, kv, rfl, s2, hx2, hp2, hf, hne, hpl, hni⟩
      have hil : i < xs.length := by omega
      obtain ⟨y0, y1⟩ := hall xs[i] (List.getElem_mem hil)
      obtain ⟨yn, hyn⟩ : ∃ yn : Nat, xs[i] = (yn : Int) := ⟨xs[i].toNat, by omega⟩
      have at1 : atI (xs.map V.int) (0 + (i : Nat)) = some (.int (yn : Int)) := by
        rw [Int.zero_add]
        refine atI_nat ?_
        rw [List.getElem?_map, List.getElem?_eq_getElem hil, hyn]
        rfl
      refine ⟨.int n, rfl, .str (T t), rfl, T t, rfl, hz, n, _, rfl, rfl, _, rfl, ite2 (fun e => ?_) (fun e => ?_)⟩
      · have e1 : ((n : Nat) : Int) < (((T t).length : Nat) : Int) := of_decide_eq_true e
        rw [T_len] at e1
        refine ⟨.ref p, rfl, .inl ⟨rfl, _, .inl (.inl hp2)⟩, .str (T t), rfl, .int n, rfl, _, rfl, .int n, rfl, _, _, rfl, rfl, .ref d, rfl, .int (0 + (i : Nat)), rfl, d, _, _, _, rfl, rfl, .inl (.inl hx2), at1, _, _, rfl, rfl, _, rfl, T t, rfl, hz, p, _, _, rfl, rfl, hp2, line_lt (by rw [List.length_map]; omega), ?_⟩
        have hx3 : (upd H' p (.lst ((ps.map fun l => V.str (T l)) ++ [V.str (cutS (T t) (some (n : Int)) (some ((n : Int) + 1 + (yn : Int))))]))) d = some (.lst (xs.map V.int)) := by
          rw [upd_ne ndp]
          exact hx2
        refine ⟨.int n, rfl, _, _, rfl, rfl, .ref d, rfl, .int (0 + (i : Nat)), rfl, d, _, _, _, rfl, rfl, .inl (.inl hx3), at1, _, _, rfl, rfl, ?_⟩
        refine ⟨n + 1 + yn, ps ++ [(t.drop n).take (1 + yn)], _, rfl, fun b o e => ?_, hx3, ?_, ?_, ?_, ?_, .inl ?_⟩
        · rw [upd_ne (ne_of_none e hp)]
          exact s2 b o e
        · rw [upd_same, show (n : Int) + 1 + (yn : Int) = ((n + 1 + yn : Nat) : Int) by omega, cut_mid, show n + 1 + yn - n = 1 + yn by omega, List.map_append]
          rfl
        · rw [List.flatten_append, hf, show n + 1 + yn = n + (1 + yn) by omega, (List.take_add : List.take (n + (1 + yn)) t = List.take n t ++ List.take (1 + yn) (List.drop n t)), List.flatten_cons, List.flatten_nil, List.append_nil]
        · intro l hl
          rcases List.mem_append.mp hl with z | z
          · exact hne l z
          · obtain rfl : l = (t.drop n).take (1 + yn) := by simpa using z
            intro z2
            have e := congrArg List.length z2
            rw [List.length_take, List.length_drop, List.length_nil] at e
            omega
        · rw [List.length_append, List.length_singleton]
          omega
        · omega
      · have e1 : ¬ ((n : Nat) : Int) < (((T t).length : Nat) : Int) := fun z => e (decide_eq_true z)
        rw [T_len] at e1
        exact ⟨n, ps, _, rfl, s2, hx2, hp2, hf, hne, by omega, .inr (by omega)⟩
    · rintro σ H' ⟨n, ps, kv, rfl, s2, hx2, hp2, hf, hne, hpl, hni⟩
      refine ⟨.ref p, rfl, q H' p ps s2 hp hp2 ?_ hne hpl⟩
      rw [hf, List.take_of_length_le (by omega)]
end
/-! ### lines that tell references -/
inductive Blk : List (List Nat) → List (List Nat × List Nat) → Prop
  | nil : Blk [] []
  | cons {n t : List Nat} {ps os : List (List Nat)} {rs : List (List Nat × List Nat)} (hn : Nam n) (hp : ps ≠ []) (hps : ∀ l ∈ ps, l ≠ [] ∧ Dna l) (ht : ps.flatten = t) (hl : t.length ≤ 100000) (b : Blk os rs) : Blk ((62 :: n) :: (ps ++ os)) ((n, t) :: rs)
theorem Blk.app {as : List (List Nat)} {rs : List (List Nat × List Nat)} (h : Blk as rs) {bs : List (List Nat)} {qs : List (List Nat × List Nat)} (k : Blk bs qs) : Blk (as ++ bs) (rs ++ qs) := by
  induction h with
  | nil => exact k
  | cons hn hp hps ht hl b ih =>
    have := Blk.cons hn hp hps ht hl ih
    rw [List.cons_append, List.append_assoc, List.cons_append]
    exact this
theorem fo_all {l al : List Nat} {b : Nat} (hb : b ≤ l.length) (h : ∀ c ∈ l.drop b, c ∈ al) : fo l al b = l.length := by
  refine fo_end hb ?_
  have : (l.drop b).findIdx (fun c => decide (c ∉ al)) = (l.drop b).length := by
    refine List.findIdx_eq_length_of_false fun x hx => ?_
    simpa using h x hx
  rw [this, List.length_drop]
  exact Nat.le_refl _
theorem name_ok {n : List Nat} (h : Nam n) : nameFault 62 (62 :: n) = none := by
  unfold nameFault
  rw [if_pos (show (62 :: n).head? = some 62 from rfl), fo_all (l := 62 :: n) (al := ncl) (b := 1) (by simp) (fun c hc => h.2.2 c hc), if_neg]
  have h1 := h.1
  have h2 := h.2.1
  rw [List.length_cons]
  omega
theorem dna_lets {l : List Nat} (h : Dna l) : ∀ c ∈ l, c ∈ lets := fun c hc => by
  rcases h c hc with e | e | e | e | e <;> subst e <;> decide
theorem text_ok {l : List Nat} {room : Nat} (h : Dna l) (hne : l ≠ []) (hr : l.length ≤ room) : textFault room l = none := by
  unfold textFault
  rw [fo_all (Nat.zero_le _) (fun c hc => dna_lets h c hc), if_neg]
  rintro (z | z)
  · omega
  · exact hne z
theorem dv_blk {os : List (List Nat)} (ho : os = [] ∨ ∃ x r, os = (62 :: x) :: r) : ∀ (ps : List (List Nat)) (i room : Nat) (acc : List Nat) (e : Bool), (ps ≠ [] ∨ e = false) → (∀ l ∈ ps, l ≠ [] ∧ Dna l) → ps.flatten.length ≤ room → dv (ps ++ os) i room acc e = .ok (acc ++ ps.flatten, i + ps.length)
  | [], i, room, acc, e, he, _, _ => by
    obtain rfl : e = false := by
      rcases he with z | z
      · exact absurd rfl z
      · exact z
    rcases ho with rfl | ⟨x, r, rfl⟩
    · rw [List.flatten_nil, List.append_nil, List.append_nil]
      rfl
    · rw [List.nil_append, dv_cons, if_pos ⟨rfl, rfl⟩, List.flatten_nil, List.append_nil]
      rfl
  | l :: ps, i, room, acc, e, _, hps, hr => by
    have h0 := hps l List.mem_cons_self
    rw [List.flatten_cons, List.length_append] at hr
    have hh : ¬ l.head? = some 62 := fun z => by
      cases l with
      | nil => cases z
      | cons c r =>
        have e1 : c = 62 := Option.some.inj z
        have := h0.2 c List.mem_cons_self
        rw [e1] at this
        rcases this with q | q | q | q | q <;> cases q
    rw [List.cons_append, dv_cons, if_neg fun z => hh z.2, text_ok h0.2 h0.1 (by omega)]
    have ih := dv_blk ho ps (i + 1) (room - l.length) (acc ++ l) false (.inr rfl) (fun x hx => hps x (List.mem_cons_of_mem _ hx)) (by omega)
    dsimp only
    rw [ih, List.flatten_cons, List.append_assoc, List.length_cons, Nat.add_assoc, Nat.add_comm 1]
theorem rr_blk : ∀ {os : List (List Nat)} {rs : List (List Nat × List Nat)}, Blk os rs → ∀ (pre : List (List Nat)) (n : Nat) (acc : List (List Nat × List Nat)), os.length ≤ n → rr (pre ++ os) n pre.length acc = .ok (acc ++ rs)
  | _, _, .nil, pre, n, acc, _ => by
    cases n with
    | zero =>
      rw [List.append_nil, List.append_nil]
      rfl
    | succ n =>
      unfold rr
      rw [List.getElem?_eq_none (by rw [List.append_nil]; exact Nat.le_refl _), List.append_nil acc]
  | _, _, @Blk.cons nn t ps os rs hn hp hps ht hl b, pre, n, acc, hle => by
    cases n with
    | zero => simp at hle
    | succ n =>
      have hle2 : os.length ≤ n := by
        rw [List.length_cons, List.length_append] at hle
        omega
      have g0 : (pre ++ (62 :: nn) :: (ps ++ os))[pre.length]? = some (62 :: nn) := by simp
      have ed : (pre ++ (62 :: nn) :: (ps ++ os)).drop (pre.length + 1) = ps ++ os := by simp
      have ho : os = [] ∨ ∃ x r, os = (62 :: x) :: r := by
        cases b with
        | nil => exact .inl rfl
        | cons => exact .inr ⟨_, _, rfl⟩
      have edv := dv_blk ho ps (pre.length + 1) 100000 [] true (.inl hp) hps (by rw [ht]; exact hl)
      unfold rr
      rw [g0]
      dsimp only
      rw [name_ok hn]
      dsimp only
      rw [ed, edv]
      dsimp only
      rw [List.nil_append, ht]
      have ih := rr_blk b (pre ++ (62 :: nn) :: ps) n (acc ++ [(nn, t)]) hle2
      have e1 : pre ++ (62 :: nn) :: (ps ++ os) = (pre ++ (62 :: nn) :: ps) ++ os := by simp
      have e2 : pre.length + 1 + ps.length = (pre ++ (62 :: nn) :: ps).length := by
        rw [List.length_append, List.length_cons]
        omega
      have e3 : (62 :: nn).drop 1 = nn := rfl
      rw [e1, e2, e3, ih, List.append_assoc]
      rfl
theorem blk_one {n t : List Nat} {ps : List (List Nat)} (hn : Nam n) (hp : ps ≠ []) (hps : ∀ l ∈ ps, l ≠ [] ∧ Dna l) (ht : ps.flatten = t) (hl : t.length ≤ 100000) : Blk ((62 :: n) :: ps) [(n, t)] := by
  have h := Blk.cons hn hp hps ht hl Blk.nil
  rw [List.append_nil] at h
  exact h
theorem pieces_of {ps : List (List Nat)} {t : List Nat} (hd : Dna t) (ht : t ≠ []) (hf : ps.flatten = t) (hne : ∀ l ∈ ps, l ≠ []) : ps ≠ [] ∧ ∀ l ∈ ps, l ≠ [] ∧ Dna l := by
  refine ⟨fun z => ht (by rw [← hf, z]; rfl), fun l hl => ⟨hne l hl, fun c hc => hd c ?_⟩⟩
  rw [← hf]
  exact List.mem_flatten.mpr ⟨l, hl, hc⟩
theorem Blk.mem {os : List (List Nat)} {rs : List (List Nat × List Nat)} (h : Blk os rs) : ∀ l ∈ os, l.length ≤ 100000 ∧ Asc l := by
  induction h with
  | nil => exact fun l hl => by cases hl
  | @cons n t ps os rs hn hp hps ht hl b ih =>
    intro l hm
    rcases List.mem_cons.mp hm with z | z
    · subst z
      refine ⟨by rw [List.length_cons]; have := hn.2.1; omega, fun c hc => ?_⟩
      rcases List.mem_cons.mp hc with y | y
      · subst y
        decide
      · exact ncl_asc c (hn.2.2 c y)
    · rcases List.mem_append.mp z with y | y
      · refine ⟨?_, dna_asc (hps l y).2⟩
        have h1 : l.length ≤ ps.flatten.length := by
          clear ht hl hp hps hn
          induction ps with
          | nil => cases y
          | cons x r ih2 =>
            rw [List.flatten_cons, List.length_append]
            rcases List.mem_cons.mp y with q | q
            · subst q
              omega
            · have := ih2 (List.mem_cons_of_mem _ (List.mem_append_left _ q)) (List.mem_append_left _ q) q
              omega
        rw [ht] at h1
        omega
      · exact ih l y
theorem scLaw : FnScope ["script", "count", "references", "full", "other", "k", "cell", "text", "name", "handed", "told", "lines", "given", "found", "at", "one"] ["script"] (defScope sLaw) := ⟨rfl, rfl, rfl, by decide +kernel, rfl, by decide +kernel, by decide +kernel⟩
section
variable {P : Program} {w : World} {K : PySem.W.Frag} {mg : Str → Option Value} {base : Heap}
abbrev LS (ls : List (List Nat)) : HO := .lst (ls.map fun l => V.str (T l))
/-- between two references -/
def MI (H0 : Hp) (a : Addr) (cnt : Int) (i : Nat) (σ : L2.St) (H' : Hp) : Prop :=
  ∃ (pr pf po : Addr) (xs : List V) (rs : List (List Nat × List Nat)) (os : List (List Nat)) (kv cv tv nv : Option V), σ = [some (.ref a), some (.int cnt), some (.ref pr), some (.ref pf), some (.ref po), kv, cv, tv, nv, none, none, none, none, none, none, none] ∧
    Same H0 H' ∧ H0 pr = none ∧ H' pr = some (.lst xs) ∧ Tups H' xs rs ∧ H' pf = some (LS (wl rs)) ∧ H' po = some (LS os) ∧ pr ≠ pf ∧ pr ≠ po ∧ Blk (wl rs) rs ∧ Blk os rs ∧ rs.length = i ∧ (∀ r ∈ rs, Nam r.1 ∧ Dna r.2 ∧ r.2.length ≤ 150) ∧ os.length ≤ i * 200
theorem wl_app (a b : List (List Nat × List Nat)) : wl (a ++ b) = wl a ++ wl b := by
  unfold wl
  rw [List.flatMap_append]
theorem wl_one (n t : List Nat) : wl [(n, t)] = (62 :: n) :: ch 60 t := by
  unfold wl
  rw [List.flatMap_cons, List.flatMap_nil, List.append_nil]
theorem new_ne {H : Hp} {p q : Addr} {o : HO} (h : upd H p o q = none) : q ≠ p := fun e => by
  rw [e, upd_same] at h
  cases h
theorem new_old {H : Hp} {p q : Addr} {o : HO} (h : upd H p o q = none) : H q = none := by
  rw [upd_ne (new_ne h)] at h
  exact h
theorem cell_arg (a : Addr) (c d i : Nat) : [V.ref a, V.int ((c : Int) + (d : Int) * (0 + ((i : Nat) : Int)))] = [V.ref a, V.int ((c + d * i : Nat) : Int)] := by
  congr 2
  rw [Int.zero_add]
  simp
def spLaw (K : PySem.W.Frag) : Sp := fun vs H Q _ => ∃ (a : Addr) (ns : List Int), vs = [.ref a] ∧ SqL K H a (ns.map V.int) ∧ ∀ H', Q (.bl true) H'
theorem ok_law {f C : Addr} {fd : FuncData} (F : Fun K "law" "law" sLaw f fd) (B : Bl mg) (mlist : mg "list" = none) (mtup : mg "tuple" = none) (mall : mg "all" = none) (hC : Has P w K mg base 2 "_law_cell" ["script", "k"] (spCell K)) (hT : Has P w K mg base 2 "_law_text" ["cell", "size"] (spText K))
    (hN : Has P w K mg base 2 "_law_name" ["cell"] (spLName K)) (hD : Has P w K mg base 2 "_law_divided" ["text", "cell"] (spLDiv K)) (hW : Has P w K mg base 2 "write_references" ["references"] (spWrite K)) (hR : HasX P w K mg base 6 "read_references" ["lines"] (spReadRefs K C)) : FnOk P w K mg base CX0 7 f fd ["script"] (spLaw K) := by
  obtain ⟨fC, dC, GC, gC, kC, bC⟩ := hC
  obtain ⟨fT, dT, GT, gT, kT, bT⟩ := hT
  obtain ⟨fN, dN, GN, gN, kN, bN⟩ := hN
  obtain ⟨fD, dD, GD, gD, kD, bD⟩ := hD
  obtain ⟨fW, dW, GW, gW, kW, bW⟩ := hW
  obtain ⟨fR, dR', GR, gR, kR, bR⟩ := hR
  refine F.ok scLaw (fun vs H Q E h => ?_) (fun cdv A outer s H vs Q E hr h => ?_)
  · obtain ⟨c, ns, rfl, _⟩ := h
    rfl
  · obtain ⟨a, ns, rfl, hsq, q⟩ := h
    refine ⟨_, pss_cons (ps_set (i := 1) scLaw.nd rfl (.inl rfl) (pe_op op_mod (pe_call GC (hr.mono (by decide)) (by rfl) gC kC bC .nil pass0 (pa_cons (pv 0) (pa_cons pe_int pa_nil))) pe_int))
      (pss_cons (ps_set (i := 2) scLaw.nd rfl (.inl rfl) (pe_lst pa_nil))
      (pss_cons (ps_set (i := 3) scLaw.nd rfl (.inl rfl) (pe_lst pa_nil))
      (pss_cons (ps_set (i := 4) scLaw.nd rfl (.inl rfl) (pe_lst pa_nil))
      (pss_cons (ps_for PassesOwn.never rfl (pi_range1 rfl B.range (pa_cons (pv 1) pa_nil)) (pg_name (i := 5) scLaw.nd rfl (.inl rfl))
        (pss_cons (ps_set (i := 6) scLaw.nd rfl (.inl rfl) (pe_call GC (hr.mono (by decide)) (by rfl) gC kC bC .nil pass0 (pa_cons (pv 0) (pa_cons (pe_op op_add pe_int (pe_op op_mul pe_int (pv 5))) pa_nil))))
        (pss_cons (ps_set (i := 7) scLaw.nd rfl (.inr rfl) (pe_call GT (hr.mono (by decide)) (by rfl) gT kT bT .nil pass0 (pa_cons (pe_call GC (hr.mono (by decide)) (by rfl) gC kC bC .nil pass0 (pa_cons (pv 0) (pa_cons (pe_op op_add pe_int (pe_op op_mul pe_int (pv 5))) pa_nil)))
            (pa_cons (pe_op op_add pe_int (pe_op op_mod (pe_op op_fdiv (pe_callB call_abs (by rfl) B.abs (by decide +kernel) (pa_cons (pe_callTy call_int1 (by rfl) B.int (by decide +kernel) (pa_cons (pv 6) pa_nil)) pa_nil)) pe_int) pe_int)) pa_nil))))
        (pss_cons (ps_set (i := 8) scLaw.nd rfl (.inl rfl) (pe_call GN (hr.mono (by decide)) (by rfl) gN kN bN .nil pass0 (pa_cons (pv 6) pa_nil)))
        (pss_cons (ps_expr (pe_bm PySem.F.plainAttrs_list PySem.F.slot_list_append PySem.F.type_list_append mt_append (pv 2) (pa_cons (pe_tup (pa_cons (pv 8) (pa_cons (pv 7) pa_nil))) pa_nil)))
        (pss_cons (ps_set (i := 3) scLaw.nd rfl (.inl rfl) (pe_op op_cat (pe_op op_cat (pv 3) (pe_lst (pa_cons (pe_op op_add_str pe_str (pv 8)) pa_nil)))
            (pe_lc (own := [("at", 14)]) (g := gName 14) (tt := tYes) rfl scLaw.nd (pi_range3 rfl B.range (pa_cons pe_int (pa_cons (pe_callB call_len_str (by rfl) B.len PySem.boot_len (pa_cons (pv 7) pa_nil)) (pa_cons pe_int pa_nil))))
              (blkOk_by (own := [("at", 14)]) (N := ["script", "count", "references", "full", "other", "k", "cell", "text", "name", "handed", "told", "lines", "given", "found", "at", "one"]) (sc := defScope sLaw) (by decide +kernel))
              (fun _ _ _ _ _ => pg_name (i := 14) scLaw.nd rfl (Or.inl rfl)) (fun _ _ _ _ _ => pts_nil) (fun _ _ _ _ _ => pe_slice sl_str (pv 7) (po_some (pv 14)) (po_some (pe_op op_add (pv 14) pe_int))))))
        (pss_one (ps_set (i := 4) scLaw.nd rfl (.inl rfl) (pe_op op_cat (pe_op op_cat (pv 4) (pe_lst (pa_cons (pe_op op_add_str pe_str (pv 8)) pa_nil)))
            (pe_call GD (hr.mono (by decide)) (by rfl) gD kD bD .nil pass0 (pa_cons (pv 7) (pa_cons (pe_call GC (hr.mono (by decide)) (by rfl) gC kC bC .nil pass0 (pa_cons (pv 0) (pa_cons (pe_op op_add pe_int (pe_op op_mul pe_int (pv 5))) pa_nil))) pa_nil))))))))))))
      (pss_cons (ps_set (i := 9) scLaw.nd rfl (.inl rfl) (pe_callTy call_list_of (by rfl) mlist (by decide +kernel) (pa_cons (pv 2) pa_nil)))
      (pss_cons (ps_set (i := 10) scLaw.nd rfl (.inl rfl) (pe_call GW (hr.mono (by decide)) (by rfl) gW kW bW .nil pass0 (pa_cons (pv 9) pa_nil)))
      (pss_cons (ps_if (PW.pt (pw_or (pt_not (pt_val (pe_callB call_isi (by rfl) B.isin (by decide +kernel) (pa_cons (pv 10) (pa_cons (pe_bltn (v := .ty "list") (by rfl) mlist (by decide +kernel) rfl) pa_nil)))))
          (pw_or (pt_cmpR (op_neD hr.units) (pv 10) (pv 3) (nomark _)) (pw_or1 (pt_cmpR (op_neD hr.units) (pv 9) (pv 2) (nomark _)))))) (pss_one (ps_ret pe_bl)) pss_nil)
      (pss_cons (ps_for PassesOwn.never rfl (pi_list (pe_lst (pa_cons (pv 3) (pa_cons (pv 4) pa_nil)))) (pg_name (i := 11) scLaw.nd rfl (.inl rfl))
        (pss_cons (ps_set (i := 12) scLaw.nd rfl (.inl rfl) (pe_callTy call_list_of (by rfl) mlist (by decide +kernel) (pa_cons (pv 11) pa_nil)))
        (pss_cons (ps_set (i := 13) scLaw.nd rfl (.inl rfl) (pe_call GR (hr.mono (by decide)) (by rfl) gR kR bR .nil passL (pa_cons (pv 12) pa_nil)))
        (pss_cons (ps_if (PW.pt (pw_or (pt_not (pt_val (pe_callB call_isi (by rfl) B.isin (by decide +kernel) (pa_cons (pv 13) (pa_cons (pe_bltn (v := .ty "list") (by rfl) mlist (by decide +kernel) rfl) pa_nil)))))
            (pw_or (pt_cmpR (op_neD hr.units) (pv 13) (pv 2) (nomark _)) (pw_or1 (pt_cmpR (op_neD hr.units) (pv 12) (pv 11) (nomark _)))))) (pss_one (ps_ret pe_bl)) pss_nil)
        (pss_cons (ps_if (pt_not (pt_val (pe_callB (cr_all rfl) (by rfl) mall (by decide +kernel) (pa_cons
            (pe_lc (own := [("one", 15)]) (g := gName 15) (tt := tYes) rfl scLaw.nd (pi_list (pv 13))
              (blkOk_by (own := [("one", 15)]) (N := ["script", "count", "references", "full", "other", "k", "cell", "text", "name", "handed", "told", "lines", "given", "found", "at", "one"]) (sc := defScope sLaw) (by decide +kernel))
              (fun _ _ _ _ _ => pg_name (i := 15) scLaw.nd rfl (Or.inl rfl)) (fun _ _ _ _ _ => pts_nil) (fun _ _ _ _ _ => pe_callB (r := rIsi K) call_isi (by rfl) B.isin (by decide +kernel) (pa_cons (pv 15) (pa_cons (pe_bltn (v := .ty "tuple") (by rfl) mtup (by decide +kernel) rfl) pa_nil)))) pa_nil)))) (pss_one (ps_ret pe_bl)) pss_nil)
        (pss_cons (ps_expr (pe_bm PySem.F.plainAttrs_list PySem.F.slot_list_append PySem.F.type_list_append mt_append (pv 13) (pa_cons (pe_tup (pa_cons pe_str (pa_cons pe_str pa_nil))) pa_nil)))
        (pss_one (ps_if (pt_cmpR (op_neD hr.units) (pe_call GR (hr.mono (by decide)) (by rfl) gR kR bR .nil passL (pa_cons (pv 12) pa_nil)) (pv 2) (nomark _)) (pss_one (ps_ret pe_bl)) pss_nil))))))))
      (pss_one (ps_ret pe_bl)))))))))), ?_⟩
    have cellq : ∀ (j : Nat) (H' : Hp) (Z : VK), Same H H' → (∀ x : Int, Z (.int x) H') → spCell K [.ref a, .int (j : Int)] H' Z E0 := fun j H' Z sm z => ⟨a, ns, j, rfl, sm.seq hsq, z⟩
    refine ⟨.ref a, rfl, a, ns, 0, rfl, hsq, fun x => ⟨x, 5, rfl, rfl, (show (0 : Int) < 5 by decide), ?_⟩⟩
    have x0 : 0 ≤ x % 5 := Int.emod_nonneg _ (by decide)
    have x1 : x % 5 < 5 := Int.emod_lt_of_pos _ (by decide)
    refine ⟨Nat.zero_le _, fun pr hpr => ⟨Nat.zero_le _, fun pf hpf => ⟨Nat.zero_le _, fun po hpo => ?_⟩⟩⟩
    refine ⟨.int (x % 5), rfl, x % 5, rfl, by omega, by omega, ?_⟩
    refine for_range (lo := 0) (n := (x % 5).toNat) (MI H a (x % 5)) ?_ ?_ ?_
    · refine ⟨pr, pf, po, [], [], [], none, none, none, none, rfl, ((same_upd hpr).trans (same_upd hpf)).trans (same_upd hpo), hpr, ?_, .nil, ?_, upd_same, (new_ne hpf).symm, (new_ne (new_old hpo)).symm, .nil, .nil, rfl, (fun r hr => by cases hr), Nat.le_refl _⟩
      · rw [upd_ne (new_ne (new_old hpo)).symm, upd_ne (new_ne hpf).symm, upd_same]
      · rw [upd_ne (new_ne hpo).symm, upd_same]
        rfl
    · rintro i σ H1 hi ⟨pr, pf, po, xs, rs, os, kv, cv, tv, nv, rfl, sm, hpr0, hx, ht, hf, ho, n1, n2, b1, b2, hl, hg, hos⟩
      have hi5 : i < 5 := by omega
      have hxl : xs.length = i := (paired_len ht).trans hl
      refine ⟨.ref a, rfl, .int (0 + (i : Nat)), rfl, 3, _, rfl, rfl, .inl ⟨by decide, by decide⟩, 1, _, rfl, rfl, a, ns, 1 + 3 * i, cell_arg a 1 3 i, sm.seq hsq, fun cell => ?_⟩
      refine ⟨.ref a, rfl, .int (0 + (i : Nat)), rfl, 3, _, rfl, rfl, .inl ⟨by decide, by decide⟩, 2, _, rfl, rfl, a, ns, 2 + 3 * i, cell_arg a 2 3 i, sm.seq hsq, fun y2 => ?_⟩
      have m0 : 0 ≤ (if cell < 0 then -cell else cell) / 60 % 150 := Int.emod_nonneg _ (by decide)
      have m1 : (if cell < 0 then -cell else cell) / 60 % 150 < 150 := Int.emod_lt_of_pos _ (by decide)
      refine ⟨.int cell, rfl, .inl ⟨cell, rfl, cell, rfl, _, 60, rfl, rfl, ⟨by decide, by decide⟩, _, 150, rfl, rfl, (show (0 : Int) < 150 by decide), 1, _, rfl, rfl, y2, 1 + (if cell < 0 then -cell else cell) / 60 % 150, rfl, by omega, by omega, fun H2 t s2 dt lt => ?_⟩⟩
      have lt1 : 1 ≤ t.length := by omega
      have lt2 : t.length ≤ 150 := by omega
      have hzt : (T t).length ≤ sizeLine := line_ok6 (by rw [T_len]; omega)
      refine ⟨.int cell, rfl, cell, rfl, fun H3 nm s3 hnm => ?_⟩
      have s13 := s2.trans s3
      have hx3 := s13 _ _ hx
      refine ⟨.ref pr, rfl, .inl ⟨rfl, _, .inl (.inl hx3)⟩, .str (T nm), rfl, .str (T t), rfl, by show 2 ≤ sizeLine; decide, fun q2 hq2 => ?_⟩
      have nq : pr ≠ q2 := ne_of_none hx3 hq2
      refine ⟨pr, xs, _, rfl, rfl, by rw [upd_ne nq]; exact hx3, line_lt (by omega), ?_⟩
      -- the heap behind the append
      generalize hH4 : upd (upd H3 q2 (.tup [.str (T nm), .str (T t)])) pr (.lst (xs ++ [.ref q2])) = H4
      have g4 : ∀ b o, b ≠ pr → H1 b = some o → H4 b = some o := fun b o hb e => by
        rw [← hH4, upd_ne hb, upd_ne (ne_of_none (s13 _ _ e) hq2)]
        exact s13 _ _ e
      have s04 : Same H H4 := fun b o e => g4 b o (ne_of_none e hpr0) (sm _ _ e)
      have hx4 : H4 pr = some (.lst (xs ++ [.ref q2])) := by rw [← hH4, upd_same]
      have ht4 : Tups H4 (xs ++ [.ref q2]) (rs ++ [(nm, t)]) := by
        refine Tups.snoc (ht.mono fun b ys hb => g4 b _ (fun z => by rw [z, hx] at hb; cases hb) hb) ?_
        rw [← hH4, upd_ne nq.symm, upd_same]
      have hf4 := g4 _ _ n1.symm hf
      have ho4 := g4 _ _ n2.symm ho
      have lwl : (wl rs).length ≤ 10000 := by
        have := wl_len (rs := rs) fun r hr => by have := (hg r hr).2.2; omega
        omega
      have e62 : Str.ofString ">" ++ T nm = T (62 :: nm) := by
        rw [gt_text, T_app]
        rfl
      have hnl : (Str.ofString ">").length + (T nm).length ≤ sizeLine := line_ok6 (by rw [T_len, show (Str.ofString ">").length = 1 by decide +kernel]; have := hnm.2.1; omega)
      have lch : (ch 60 t).length ≤ 4 := by
        rw [ch_len]
        omega
      -- full
      refine ⟨.ref pf, rfl, .str (T nm), rfl, _, _, rfl, rfl, hnl, by show 1 ≤ sizeLine; decide, fun p1 hp1 => ?_⟩
      refine ⟨pf, p1, _, _, rfl, rfl, same_upd hp1 _ _ hf4, upd_same, line_ok (by rw [List.length_map, List.length_singleton]; omega), fun p2 hp2 => ?_⟩
      refine ⟨.str (T t), rfl, T t, rfl, hzt, 0, _, 60, (t.length + 60 - 1) / 60, rfl, by rw [T_len]; exact rg_ch (k := 60) (by omega) (by decide) (by decide), fun D hD => ?_⟩
      refine lc_gen (n := (t.length + 60 - 1) / 60) (fun j H' => Same (upd (upd H4 p1 (.lst [.str (Str.ofString ">" ++ T nm)])) p2 (.lst ((wl rs).map (fun l => V.str (T l)) ++ [.str (Str.ofString ">" ++ T nm)]))) H' ∧ H' D = some (.lst (((ch 60 t).take j).map fun l => V.str (T l)))) ⟨same_upd hD, upd_same⟩ (fun j H' hj _ => hj) (fun H' _ => Nat.le_refl _) ?_ ?_
      · rintro j H' v H'' hj ⟨sj, hdj⟩ ⟨rfl, rfl⟩
        refine ⟨rfl, ?_⟩
        dsimp only [tYes]
        rw [if_pos rfl]
        refine ⟨.str (T t), rfl, _, rfl, _, rfl, _, rfl, _, _, rfl, rfl, _, rfl, T t, rfl, hzt, _, hdj, line_lt ?_, fun b o e => ?_, ?_⟩
        · rw [List.length_map, List.length_take]
          omega
        · rw [upd_ne (ne_of_none e hD)]
          exact sj b o e
        · rw [upd_same, List.take_add_one, ch_get hj]
          show some (HO.lst (_ ++ [V.str (cutS (T t) (some ((0 : Int) + ((j : Nat) : Int) * 60)) (some ((0 : Int) + ((j : Nat) : Int) * 60 + 60)))])) = _
          rw [show (0 : Int) + ((j : Nat) : Int) * 60 = ((j * 60 : Nat) : Int) by omega, show ((j * 60 : Nat) : Int) + 60 = ((j * 60 + 60 : Nat) : Int) by omega, cut_mid, Nat.add_sub_cancel_left]
          simp
      rintro H7 ⟨s7, hd7⟩
      rw [List.take_of_length_le (by rw [ch_len]; exact Nat.le_refl _)] at hd7
      have hp27 := s7 _ _ upd_same
      have s47 : Same H4 H7 := ((same_upd hp1).trans (same_upd hp2)).trans s7
      refine ⟨p2, D, _, _, rfl, rfl, hp27, hd7, line_ok (by rw [List.length_append, List.length_map, List.length_map, List.length_singleton]; omega), fun p3 hp3 => ?_⟩
      -- other
      refine ⟨.ref po, rfl, .str (T nm), rfl, _, _, rfl, rfl, hnl, by show 1 ≤ sizeLine; decide, fun p4 hp4 => ?_⟩
      refine ⟨po, p4, _, _, rfl, rfl, same_upd hp4 _ _ (same_upd hp3 _ _ (s47 _ _ ho4)), upd_same, line_ok (by rw [List.length_map, List.length_singleton]; omega), fun p5 hp5 => ?_⟩
      have s35 := ((same_upd hp3).trans (same_upd hp4)).trans (same_upd (o := .lst (os.map (fun l => V.str (T l)) ++ [.str (Str.ofString ">" ++ T nm)])) hp5)
      refine ⟨.str (T t), rfl, .ref a, rfl, .int (0 + (i : Nat)), rfl, 3, _, rfl, rfl, .inl ⟨by decide, by decide⟩, 3, _, rfl, rfl, a, ns, 3 + 3 * i, cell_arg a 3 3 i, ((s04.trans s47).trans s35).seq hsq, fun y3 => ?_⟩
      refine ⟨t, y3, rfl, lt1, lt2, fun H9 dp ps s9 hdp hps hfl hne hlen => ?_⟩
      refine ⟨p5, dp, _, _, rfl, rfl, s9 _ _ upd_same, hps, line_ok (by rw [List.length_append, List.length_map, List.length_map, List.length_singleton]; omega), fun p6 hp6 => ?_⟩
      have s4e := ((s47.trans s35).trans s9).trans (same_upd (o := .lst ((os.map (fun l => V.str (T l)) ++ [.str (Str.ofString ">" ++ T nm)]) ++ ps.map fun l => V.str (T l))) hp6)
      have hx9 := s4e _ _ hx4
      obtain ⟨hp0, hpd⟩ := pieces_of dt (fun z => by rw [z] at lt1; exact absurd lt1 (by decide)) hfl hne
      refine ⟨pr, p3, p6, _, rs ++ [(nm, t)], os ++ ((62 :: nm) :: ps), _, _, _, _, rfl, s04.trans s4e, hpr0, hx9, ht4.mono fun b ys hb => s4e _ _ hb, ?_, ?_, ?_, ?_, ?_, b2.app (blk_one hnm hp0 hpd hfl (by omega)), by rw [List.length_append, hl]; rfl, ?_, ?_⟩
      · have k3 := upd_same (H := H7) (a := p3) (o := .lst (((wl rs).map (fun l => V.str (T l)) ++ [.str (Str.ofString ">" ++ T nm)]) ++ (ch 60 t).map fun l => V.str (T l)))
        have k4 := same_upd (o := .lst [.str (Str.ofString ">" ++ T nm)]) hp4 _ _ k3
        have k5 := same_upd (o := .lst (os.map (fun l => V.str (T l)) ++ [.str (Str.ofString ">" ++ T nm)])) hp5 _ _ k4
        have k9 := s9 _ _ k5
        have h3 := same_upd (o := .lst ((os.map (fun l => V.str (T l)) ++ [.str (Str.ofString ">" ++ T nm)]) ++ ps.map fun l => V.str (T l))) hp6 _ _ k9
        refine Eq.trans h3 ?_
        show some (HO.lst _) = some (HO.lst _)
        rw [wl_app, wl_one, List.map_append, List.map_cons, e62, List.append_assoc]
        rfl
      · rw [upd_same]
        show some (HO.lst _) = some (HO.lst _)
        rw [List.map_append, List.map_cons, e62, List.append_assoc]
        rfl
      · exact ne_of_none (s47 _ _ hx4) hp3
      · exact ne_of_none (s9 _ _ (s35 _ _ (s47 _ _ hx4))) hp6
      · rw [wl_app, wl_one]
        refine b1.app (blk_one hnm ?_ (fun l hlm => ?_) (ch_flat (by decide) t) (by omega))
        · intro z
          have e := congrArg List.length z
          rw [ch_len, List.length_nil] at e
          omega
        · exact ⟨(ch_mem (by decide) hlm).1, fun c hc => dt c ((ch_mem (by decide) hlm).2 c hc)⟩
      · intro r hr
        rcases List.mem_append.mp hr with z | z
        · exact hg r z
        · obtain rfl : r = (nm, t) := by simpa using z
          exact ⟨hnm, dt, lt2⟩
      · rw [List.length_append, List.length_cons]
        omega
    · rintro σ H1 ⟨pr, pf, po, xs, rs, os, kv, cv, tv, nv, rfl, sm, hpr0, hx, ht, hf, ho, n1, n2, b1, b2, hl, hg, hos⟩
      have hl5 : rs.length ≤ 5 := by omega
      have hasc : ∀ r ∈ rs, Asc r.1 ∧ Asc r.2 := fun r hr => ⟨fun c hc => ncl_asc c ((hg r hr).1.2.2 c hc), dna_asc (hg r hr).2.1⟩
      have shR := shaped_dR hasc
      have eqR := SeqAt.eqv_refl _ (can_dR hasc)
      have shF := shaped_dL (ls := wl rs) fun l hm => (b1.mem l hm).2
      have eqF := SeqAt.eqv_refl _ (can_dL (ls := wl rs) fun l hm => (b1.mem l hm).2)
      -- handed, told
      refine ⟨.ref pr, rfl, pr, xs, rfl, .inl (.inl (.inl hx)), fun ph hph => ?_⟩
      have sh := same_upd (o := .lst xs) hph
      refine ⟨.ref ph, rfl, ph, xs, rs, rfl, .inl (.inl upd_same), ht.mono fun b ys e => sh _ _ e, by omega, fun r hr => ⟨by have := (hg r hr).1.2.1; omega, by have := (hg r hr).2.2; omega⟩, fun H2 pt s2 hpt hpt2 => ?_⟩
      have s12 := sh.trans s2
      have hx2 := s12 _ _ hx
      have ht2 : Tups H2 xs rs := ht.mono fun b ys e => s12 _ _ e
      have hf2 := s12 _ _ hf
      have ho2 := s12 _ _ ho
      have hh2 := s2 _ _ upd_same
      refine ⟨.ref pt, rfl, _, .ty "list", _, _, true, rfl, .ty _, .base (.lst hpt2), kit_ty (by decide +kernel), true, rfl, iteF ?_⟩
      refine ⟨.ref pt, rfl, .ref pf, rfl, dL (wl rs), dL (wl rs), dp_dL (.inl (.inl hpt2)), dp_dL (.inl (.inl hf2)), shF, shF, _, rfl, ?_⟩
      rw [eqF]
      refine iteF ⟨.ref ph, rfl, .ref pr, rfl, dR rs, dR rs, dp_dR (.inl (.inl hh2)) ht2, dp_dR (.inl (.inl hx2)) ht2, shR, shR, _, rfl, ?_⟩
      rw [eqR]
      refine iteF ?_
      -- for lines in [full, other]
      refine ⟨.ref pf, rfl, .ref po, rfl, by show 2 ≤ sizeLine; decide, fun pl hpl => ?_⟩
      have sl := same_upd (o := .lst [.ref pf, .ref po]) hpl
      generalize hHs : upd H2 pl (.lst [.ref pf, .ref po]) = Hs at sl ⊢
      have hpls : Hs pl = some (.lst [.ref pf, .ref po]) := by rw [← hHs, upd_same]
      have hxs := sl _ _ hx2
      have hts : Tups Hs xs rs := ht2.mono fun b ys e => sl _ _ e
      have hfs := sl _ _ hf2
      have hos2 := sl _ _ ho2
      have lwl : (wl rs).length ≤ 10000 := by
        have := wl_len (rs := rs) fun r hr => by have := (hg r hr).2.2; omega
        omega
      have both : ∀ (j : Nat) (v : V), ([.ref pf, .ref po] : List V)[j]? = some v → ∃ (px : Addr) (zs : List (List Nat)), v = .ref px ∧ Hs px = some (LS zs) ∧ Blk zs rs ∧ zs.length ≤ 100000 := by
        intro j v hj
        match j, hj with
        | 0, hj =>
          cases hj
          exact ⟨pf, wl rs, rfl, hfs, b1, by omega⟩
        | 1, hj =>
          cases hj
          exact ⟨po, os, rfl, hos2, b2, by omega⟩
      refine ⟨pl, rfl, ⟨_, .inl (.inl hpls)⟩, ?_⟩
      refine for_list (K := K) (xs := [.ref pf, .ref po]) (fun j σ H' => Same Hs H' ∧ ∃ lv gv fv : Option V, σ = [some (.ref a), some (.int (x % 5)), some (.ref pr), some (.ref pf), some (.ref po), kv, cv, tv, nv, some (.ref ph), some (.ref pt), lv, gv, fv, none, none]) ⟨Same.refl _, none, none, none, rfl⟩ ?_ ?_ ?_
      · rintro j σ H' _ ⟨s, _⟩
        exact .inl (.inl (s _ _ hpls))
      · rintro j v σ H3 hj ⟨s3, lv, gv, fv, rfl⟩
        obtain ⟨px, zs, rfl, hpx, bz, lz⟩ := both j v hj
        have hpx3 := s3 _ _ hpx
        have hrr : rr zs zs.length 0 [] = .ok rs := rr_blk bz [] zs.length [] (Nat.le_refl _)
        have hz1 : ∀ l ∈ zs, l.length ≤ 1000000 := fun l hm => by have := (bz.mem l hm).1; omega
        have shZ := shaped_dL (ls := zs) fun l hm => (bz.mem l hm).2
        have eqZ := SeqAt.eqv_refl _ (can_dL (ls := zs) fun l hm => (bz.mem l hm).2)
        refine ⟨.ref px, rfl, px, _, rfl, .inl (.inl (.inl hpx3)), fun pg hpg => ?_⟩
        refine ⟨.ref pg, rfl, pg, zs, rfl, .inl (.inl upd_same), hz1, lz, fun rs' hr' H4 p4 ys s4 hp4 hy ht4 => ?_, fun l c hbad => by rw [hrr] at hbad; cases hbad⟩
        obtain rfl : rs' = rs := by
          rw [hrr] at hr'
          cases hr'
          rfl
        have s34 := (same_upd (o := .lst (zs.map fun l => V.str (T l))) hpg).trans s4
        have s04 := s3.trans s34
        have hg4 := s4 _ _ (upd_same (H := H3) (a := pg) (o := .lst (zs.map fun l => V.str (T l))))
        refine ⟨.ref p4, rfl, _, .ty "list", _, _, true, rfl, .ty _, .base (.lst hy), kit_ty (by decide +kernel), true, rfl, iteF ?_⟩
        refine ⟨.ref p4, rfl, .ref pr, rfl, dR rs', dR rs', dp_dR (.inl (.inl hy)) ht4, dp_dR (.inl (.inl (s04 _ _ hxs))) (hts.mono fun b ys e => s04 _ _ e), shR, shR, _, rfl, ?_⟩
        rw [eqR]
        refine iteF ⟨.ref pg, rfl, .ref px, rfl, dL zs, dL zs, dp_dL (.inl (.inl hg4)), dp_dL (.inl (.inl (s34 _ _ hpx3))), shZ, shZ, _, rfl, ?_⟩
        rw [eqZ]
        refine iteF ?_
        -- all are tuples
        refine ⟨.ref p4, rfl, p4, rfl, ⟨_, .inl (.inl hy)⟩, fun D hD => ?_⟩
        refine lc_list (K := K) (xs := ys) (fun m H' => Same H4 H' ∧ H' D = some (.lst ((List.replicate m true).map V.bl))) ⟨same_upd hD, upd_same⟩ (fun m H' _ hm => .inl (.inl (hm.1 _ _ hy))) ?_ ?_
        · rintro m v H' hv ⟨sm5, hd5⟩
          obtain ⟨r, _, qa, rfl, hqa⟩ := paired_get ht4 hv
          have hml : m < ys.length := (List.getElem?_eq_some_iff.mp hv).1
          have hyl := paired_len ht4
          refine ⟨rfl, ?_⟩
          dsimp only [tYes]
          rw [if_pos rfl]
          refine ⟨.ref qa, rfl, .ref qa, .ty "tuple", _, _, true, rfl, .ty _, .base (.tup (sm5 _ _ hqa)), kit_ty (by decide +kernel), _, hd5, line_lt (by rw [List.length_map, List.length_replicate]; omega), fun b o e => ?_, ?_⟩
          · rw [upd_ne (ne_of_none e hD)]
            exact sm5 b o e
          · rw [upd_same, List.replicate_succ', List.map_append]
            rfl
        rintro H5 ⟨s5, hd5⟩
        refine ⟨D, List.replicate ys.length true, rfl, .inl (.inl hd5), true, ?_, iteF ?_⟩
        · rw [List.all_replicate]
          simp
        have hy5 := s5 _ _ hy
        -- found.append(('x', 'A'))
        refine ⟨.ref p4, rfl, .inl ⟨rfl, _, .inl (.inl hy5)⟩, by show 2 ≤ sizeLine; decide, fun q6 hq6 => ?_⟩
        have nq6 : p4 ≠ q6 := ne_of_none hy5 hq6
        refine ⟨p4, ys, _, rfl, rfl, by rw [upd_ne nq6]; exact hy5, line_lt (by have := paired_len ht4; omega), ?_⟩
        generalize hH6 : upd (upd H5 q6 (.tup [.str (Str.ofString "x"), .str (Str.ofString "A")])) p4 (.lst (ys ++ [.ref q6])) = H6
        have g6 : ∀ b o, b ≠ p4 → H5 b = some o → H6 b = some o := fun b o hb e => by
          rw [← hH6, upd_ne hb, upd_ne (ne_of_none e hq6)]
          exact e
        have s06 : Same Hs H6 := fun b o e => g6 b o (ne_of_none (same_upd hpg _ _ (s3 _ _ e)) hp4) (s5 _ _ (s04 _ _ e))
        have hg6 : H6 pg = some (.lst (zs.map fun l => V.str (T l))) := g6 _ _ (ne_of_none (upd_same (H := H3) (a := pg) (o := .lst (zs.map fun l => V.str (T l)))) hp4) (s5 _ _ hg4)
        refine ⟨.ref pg, rfl, pg, zs, rfl, .inl (.inl hg6), hz1, lz, fun rs2 hr2 H7 p7 y7 s7 hp7 hy7 ht7 => ?_, fun l c hbad => by rw [hrr] at hbad; cases hbad⟩
        obtain rfl : rs2 = rs' := by
          rw [hrr] at hr2
          cases hr2
          rfl
        have s07 := s06.trans s7
        refine ⟨.ref pr, rfl, dR rs2, dR rs2, dp_dR (.inl (.inl hy7)) ht7, dp_dR (.inl (.inl (s07 _ _ hxs))) (hts.mono fun b ys e => s07 _ _ e), shR, shR, _, rfl, ?_⟩
        rw [eqR]
        exact iteF ⟨s07, _, _, _, rfl⟩
      · rintro σ H' ⟨_, lv, gv, fv, rfl⟩
        exact q _
end
theorem all_mk {l : PySem.W.OpenLaw} {w : World} {K : PySem.W.Frag} {h : Heap} {mg : Str → Option Value} {fa fRR fWR fDT fNL fTL fLA fFO fC fR fT fN fD fL C fI hE : Addr} (X : K.In h) (G : h.Ns mainGlobals mg) (hfa : mg "law" = some (.ref fa))
    {odRR anRR : Option Addr} {slRR : Array (Option Value)} {ocRR kVRR dcRR pmRR cdRR ctRR : Value}
    {odWR anWR : Option Addr} {slWR : Array (Option Value)} {ocWR kVWR dcWR pmWR cdWR ctWR : Value}
    {odDT anDT : Option Addr} {slDT : Array (Option Value)} {ocDT kVDT dcDT pmDT cdDT ctDT : Value}
    {odNL anNL : Option Addr} {slNL : Array (Option Value)} {ocNL kVNL dcNL pmNL cdNL ctNL : Value}
    {odTL anTL : Option Addr} {slTL : Array (Option Value)} {ocTL kVTL dcTL pmTL cdTL ctTL : Value}
    {odLA anLA : Option Addr} {slLA : Array (Option Value)} {ocLA kVLA dcLA pmLA cdLA ctLA : Value}
    {odFO anFO : Option Addr} {slFO : Array (Option Value)} {ocFO kVFO dcFO pmFO cdFO ctFO : Value}
    {odC anC : Option Addr} {slC : Array (Option Value)} {ocC kVC dcC pmC cdC ctC : Value}
    {odR anR : Option Addr} {slR : Array (Option Value)} {ocR kVR dcR pmR cdR ctR : Value}
    {odT anT : Option Addr} {slT : Array (Option Value)} {ocT kVT dcT pmT cdT ctT : Value}
    {odN anN : Option Addr} {slN : Array (Option Value)} {ocN kVN dcN pmN cdN ctN : Value}
    {odD anD : Option Addr} {slD : Array (Option Value)} {ocD kVD dcD pmD cdD ctD : Value}
    {odL anL : Option Addr} {slL : Array (Option Value)} {ocL kVL dcL pmL cdL ctL : Value}
    {odI0 anI0 : Option Addr} {slI0 : Array (Option Value)} {ocI0 kVI0 dcI0 pmI0 cdI0 ctI0 : Value}
    (aRR : PySem.W.nsIn K mainGlobals "read_references" = some (some (.ref fRR))) (lRR : K.lookup fRR = some ⟨ocRR, odRR, .func (PySem.W.fnOf "read_references" "read_references" (defArgs sReadRefs) (defBody sReadRefs) (defScope sReadRefs) .none kVRR dcRR pmRR anRR cdRR ctRR), slRR⟩) (cRR : PySem.W.codeIn K cdRR "read_references" = true) (kRR : PySem.W.keepIn K (.ref fRR) = true)
    (aWR : PySem.W.nsIn K mainGlobals "write_references" = some (some (.ref fWR))) (lWR : K.lookup fWR = some ⟨ocWR, odWR, .func (PySem.W.fnOf "write_references" "write_references" (defArgs sWriteRefs) (defBody sWriteRefs) (defScope sWriteRefs) .none kVWR dcWR pmWR anWR cdWR ctWR), slWR⟩) (cWR : PySem.W.codeIn K cdWR "write_references" = true) (kWR : PySem.W.keepIn K (.ref fWR) = true)
    (aDT : PySem.W.nsIn K mainGlobals "_divided_text" = some (some (.ref fDT))) (lDT : K.lookup fDT = some ⟨ocDT, odDT, .func (PySem.W.fnOf "_divided_text" "_divided_text" (defArgs sDivText) (defBody sDivText) (defScope sDivText) .none kVDT dcDT pmDT anDT cdDT ctDT), slDT⟩) (cDT : PySem.W.codeIn K cdDT "_divided_text" = true) (kDT : PySem.W.keepIn K (.ref fDT) = true)
    (aNL : PySem.W.nsIn K mainGlobals "_name_line" = some (some (.ref fNL))) (lNL : K.lookup fNL = some ⟨ocNL, odNL, .func (PySem.W.fnOf "_name_line" "_name_line" (defArgs sNameLine) (defBody sNameLine) (defScope sNameLine) .none kVNL dcNL pmNL anNL cdNL ctNL), slNL⟩) (cNL : PySem.W.codeIn K cdNL "_name_line" = true) (kNL : PySem.W.keepIn K (.ref fNL) = true)
    (aTL : PySem.W.nsIn K mainGlobals "_text_line" = some (some (.ref fTL))) (lTL : K.lookup fTL = some ⟨ocTL, odTL, .func (PySem.W.fnOf "_text_line" "_text_line" (defArgs sTextLine) (defBody sTextLine) (defScope sTextLine) .none kVTL dcTL pmTL anTL cdTL ctTL), slTL⟩) (cTL : PySem.W.codeIn K cdTL "_text_line" = true) (kTL : PySem.W.keepIn K (.ref fTL) = true)
    (aLA : PySem.W.nsIn K mainGlobals "_line_at" = some (some (.ref fLA))) (lLA : K.lookup fLA = some ⟨ocLA, odLA, .func (PySem.W.fnOf "_line_at" "_line_at" (defArgs sLineAt) (defBody sLineAt) (defScope sLineAt) .none kVLA dcLA pmLA anLA cdLA ctLA), slLA⟩) (cLA : PySem.W.codeIn K cdLA "_line_at" = true) (kLA : PySem.W.keepIn K (.ref fLA) = true)
    (aFO : PySem.W.nsIn K mainGlobals "_first_other" = some (some (.ref fFO))) (lFO : K.lookup fFO = some ⟨ocFO, odFO, .func (PySem.W.fnOf "_first_other" "_first_other" (defArgs sFirstOther) (defBody sFirstOther) (defScope sFirstOther) .none kVFO dcFO pmFO anFO cdFO ctFO), slFO⟩) (cFO : PySem.W.codeIn K cdFO "_first_other" = true) (kFO : PySem.W.keepIn K (.ref fFO) = true)
    (aC : PySem.W.nsIn K mainGlobals "_law_cell" = some (some (.ref fC))) (lC : K.lookup fC = some ⟨ocC, odC, .func (PySem.W.fnOf "_law_cell" "_law_cell" (defArgs sCell) (defBody sCell) (defScope sCell) .none kVC dcC pmC anC cdC ctC), slC⟩) (cC : PySem.W.codeIn K cdC "_law_cell" = true) (kC : PySem.W.keepIn K (.ref fC) = true)
    (aR : PySem.W.nsIn K mainGlobals "_law_row" = some (some (.ref fR))) (lR : K.lookup fR = some ⟨ocR, odR, .func (PySem.W.fnOf "_law_row" "_law_row" (defArgs sRow) (defBody sRow) (defScope sRow) .none kVR dcR pmR anR cdR ctR), slR⟩) (cR : PySem.W.codeIn K cdR "_law_row" = true) (kR : PySem.W.keepIn K (.ref fR) = true)
    (aT : PySem.W.nsIn K mainGlobals "_law_text" = some (some (.ref fT))) (lT : K.lookup fT = some ⟨ocT, odT, .func (PySem.W.fnOf "_law_text" "_law_text" (defArgs sText) (defBody sText) (defScope sText) .none kVT dcT pmT anT cdT ctT), slT⟩) (cT : PySem.W.codeIn K cdT "_law_text" = true) (kT : PySem.W.keepIn K (.ref fT) = true)
    (aN : PySem.W.nsIn K mainGlobals "_law_name" = some (some (.ref fN))) (lN : K.lookup fN = some ⟨ocN, odN, .func (PySem.W.fnOf "_law_name" "_law_name" (defArgs sLName) (defBody sLName) (defScope sLName) .none kVN dcN pmN anN cdN ctN), slN⟩) (cN : PySem.W.codeIn K cdN "_law_name" = true) (kN : PySem.W.keepIn K (.ref fN) = true)
    (aD : PySem.W.nsIn K mainGlobals "_law_divided" = some (some (.ref fD))) (lD : K.lookup fD = some ⟨ocD, odD, .func (PySem.W.fnOf "_law_divided" "_law_divided" (defArgs sLDiv) (defBody sLDiv) (defScope sLDiv) .none kVD dcD pmD anD cdD ctD), slD⟩) (cD : PySem.W.codeIn K cdD "_law_divided" = true) (kD : PySem.W.keepIn K (.ref fD) = true)
    (aL : PySem.W.nsIn K mainGlobals "law" = some (some (.ref fL))) (lL : K.lookup fL = some ⟨ocL, odL, .func (PySem.W.fnOf "law" "law" (defArgs sLaw) (defBody sLaw) (defScope sLaw) .none kVL dcL pmL anL cdL ctL), slL⟩) (cL : PySem.W.codeIn K cdL "law" = true) (kL : PySem.W.keepIn K (.ref fL) = true)
    {xnm xq : Str} {xN : Addr} {xbs : List Value} {xsn : List Str} {xsub : List Value} {xab : Bool} {xcol : Option Bool} {xdd : Option Addr} {xm0 xm1 xm2 xm3 xm5 : Option Value}
    (iA : PySem.W.nsIn K mainGlobals "InvalidLine" = some (some (.ref C))) (iX : K.lookup C = some (excClassObj xnm xq C xN xbs [.ref hE, .type "ValueError", .type "Exception", .type "BaseException", .type "object"] true xsn xsub xab xcol xdd xm0 xm1 xm2 xm3 xm5 "ValueError.__new__"))
    (iS : PySem.W.findIn K (.ref C) "__setattr__" = some (some (.builtin "object.__setattr__"))) (iE : PySem.W.subIn K (.ref C) (.type "BaseException") = some true) (iY : PySem.W.typeIn K (.ref C) = some (.type "type")) (iK : PySem.W.keepIn K (.ref C) = true)
    (iF : PySem.W.findIn K (.ref C) "__init__" = some (some (.ref fI))) (iT : PySem.W.typeIn K (.ref fI) = some (.type "function")) (iL : PySem.W.findIn K (.ref C) "line" = some none) (iC : PySem.W.findIn K (.ref C) "column" = some none)
    (lI0 : K.lookup fI = some ⟨ocI0, odI0, .func (PySem.W.fnOf "__init__" "InvalidLine.__init__" (defArgs sInit) (defBody sInit) (defScope sInit) .none kVI0 dcI0 pmI0 anI0 cdI0 ctI0), slI0⟩) (cI0 : PySem.W.codeIn K cdI0 "InvalidLine.__init__" = true) (kI0 : PySem.W.keepIn K (.ref fI) = true)
    {tNC : Tok} (nNC : PySem.W.nsIn K mainGlobals "NAME_CHARACTERS" = some (some (.str "0123456789ABCDEFGHIJKLMNOPQRSTUVWXYZabcdefghijklmnopqrstuvwxyz" tNC)))
    {tLN : Tok} (nLN : PySem.W.nsIn K mainGlobals "_LONGEST_NAME" = some (some (.int 40 tLN)))
    {tLR : Tok} (nLR : PySem.W.nsIn K mainGlobals "_LONGEST_REFERENCE" = some (some (.int 100000 tLR)))
    {tLL : Tok} (nLL : PySem.W.nsIn K mainGlobals "_LINE_LENGTH" = some (some (.int 60 tLL)))
    {tLE : Tok} (nLE : PySem.W.nsIn K mainGlobals "LETTERS" = some (some (.str "ACGTN" tLE)))
    (zlen : PySem.W.nsIn K mainGlobals "len" = some none) (zint : PySem.W.nsIn K mainGlobals "int" = some none) (zabs : PySem.W.nsIn K mainGlobals "abs" = some none) (zrange : PySem.W.nsIn K mainGlobals "range" = some none) (zisinstance : PySem.W.nsIn K mainGlobals "isinstance" = some none) (zbool : PySem.W.nsIn K mainGlobals "bool" = some none) (zstr : PySem.W.nsIn K mainGlobals "str" = some none) (zmin : PySem.W.nsIn K mainGlobals "min" = some none) (zlist : PySem.W.nsIn K mainGlobals "list" = some none) (ztuple : PySem.W.nsIn K mainGlobals "tuple" = some none) (zall : PySem.W.nsIn K mainGlobals "all" = some none) :
    ∃ fd : FuncData, (∀ (s : Shared) (v : Value), BindsTo s fd ⟨[v], []⟩ [("script", v)]) ∧ ∀ base : Heap, K.In base → base.Ns mainGlobals mg → FnOk l.prog w K mg base CX0 7 fa fd ["script"] (spLaw K) := by
  have e := hfa.symm.trans (PySem.W.mg_of X G aL)
  cases e
  have FRR := fun_mk (st := sReadRefs) lRR cRR kRR
  have FWR := fun_mk (st := sWriteRefs) lWR cWR kWR
  have FDT := fun_mk (st := sDivText) lDT cDT kDT
  have FNL := fun_mk (st := sNameLine) lNL cNL kNL
  have FTL := fun_mk (st := sTextLine) lTL cTL kTL
  have FLA := fun_mk (st := sLineAt) lLA cLA kLA
  have FFO := fun_mk (st := sFirstOther) lFO cFO kFO
  have FC := fun_mk (st := sCell) lC cC kC
  have FR := fun_mk (st := sRow) lR cR kR
  have FT := fun_mk (st := sText) lT cT kT
  have FN := fun_mk (st := sLName) lN cN kN
  have FD := fun_mk (st := sLDiv) lD cD kD
  have FL := fun_mk (st := sLaw) lL cL kL
  have FI0 := fun_mk (st := sInit) lI0 cI0 kI0
  have bI0 := FI0.binds (ps := ["self", "line", "column"]) fun _ _ _ _ _ _ us hl => match us, hl with | [_, _, _], _ => rfl
  have IE : IL K mg C fI _ := ⟨PySem.W.mg_of X G iA, ⟨⟨_, _, _, _, _, _, _, _, _, _, _, _, _, _, _, iX, rfl⟩, iS, iE, iY, iK⟩, iF, iT, FI0, bI0, iL, iC⟩
  have B : Bl mg := ⟨PySem.W.mg_none_of X G zlen, PySem.W.mg_none_of X G zint, PySem.W.mg_none_of X G zabs, PySem.W.mg_none_of X G zrange, PySem.W.mg_none_of X G zisinstance, PySem.W.mg_none_of X G zbool, PySem.W.mg_none_of X G zstr⟩
  have bRR := FRR.binds (ps := ["lines"]) fun _ _ _ _ _ _ us hl => match us, hl with | [_], _ => rfl
  have bWR := FWR.binds (ps := ["references"]) fun _ _ _ _ _ _ us hl => match us, hl with | [_], _ => rfl
  have bDT := FDT.binds (ps := ["lines", "at"]) fun _ _ _ _ _ _ us hl => match us, hl with | [_, _], _ => rfl
  have bNL := FNL.binds (ps := ["lines", "at", "sign"]) fun _ _ _ _ _ _ us hl => match us, hl with | [_, _, _], _ => rfl
  have bTL := FTL.binds (ps := ["lines", "at", "room"]) fun _ _ _ _ _ _ us hl => match us, hl with | [_, _, _], _ => rfl
  have bLA := FLA.binds (ps := ["lines", "at"]) fun _ _ _ _ _ _ us hl => match us, hl with | [_, _], _ => rfl
  have bFO := FFO.binds (ps := ["line", "begin", "allowed"]) fun _ _ _ _ _ _ us hl => match us, hl with | [_, _, _], _ => rfl
  have bC := FC.binds (ps := ["script", "k"]) fun _ _ _ _ _ _ us hl => match us, hl with | [_, _], _ => rfl
  have bR := FR.binds (ps := ["cell", "count", "bound"]) fun _ _ _ _ _ _ us hl => match us, hl with | [_, _, _], _ => rfl
  have bT := FT.binds (ps := ["cell", "size"]) fun _ _ _ _ _ _ us hl => match us, hl with | [_, _], _ => rfl
  have bN := FN.binds (ps := ["cell"]) fun _ _ _ _ _ _ us hl => match us, hl with | [_], _ => rfl
  have bD := FD.binds (ps := ["text", "cell"]) fun _ _ _ _ _ _ us hl => match us, hl with | [_, _], _ => rfl
  have gN : mg "NAME_CHARACTERS" = some (.str (T ncl) tNC) := (PySem.W.mg_of X G nNC).trans (by rw [← ncl_text])
  have gE : mg "LETTERS" = some (.str (T lets) tLE) := (PySem.W.mg_of X G nLE).trans (by rw [show Str.ofString "ACGTN" = T lets by decide +kernel])
  have fin : ∀ base : Heap, FnOk l.prog w K mg base CX0 7 fa _ ["script"] (spLaw K) := fun base => by
    have hA : HasX l.prog w K mg base 3 "_line_at" ["lines", "at"] (spLineAt K C) := ⟨fLA, _, ok_lineAt FLA IE B.len, PySem.W.mg_of X G aLA, kLA, bLA⟩
    have hF : Has l.prog w K mg base 1 "_first_other" ["line", "begin", "allowed"] spFirst := ⟨fFO, _, ok_first FFO B.len B.range, PySem.W.mg_of X G aFO, kFO, bFO⟩
    have hNL : HasX l.prog w K mg base 4 "_name_line" ["lines", "at", "sign"] (spName K C) := ⟨fNL, _, ok_name FNL IE B.len (PySem.W.mg_none_of X G zmin) gN (PySem.W.mg_of X G nLN) hA hF, PySem.W.mg_of X G aNL, kNL, bNL⟩
    have hTL : HasX l.prog w K mg base 4 "_text_line" ["lines", "at", "room"] (spTextLine K C) := ⟨fTL, _, ok_textLine FTL IE B.len (PySem.W.mg_none_of X G zmin) gE hA hF, PySem.W.mg_of X G aTL, kTL, bTL⟩
    have hDT : HasX l.prog w K mg base 5 "_divided_text" ["lines", "at"] (spDiv K C) := ⟨fDT, _, ok_div FDT B.len (PySem.W.mg_of X G nLR) hTL, PySem.W.mg_of X G aDT, kDT, bDT⟩
    have hRR : HasX l.prog w K mg base 6 "read_references" ["lines"] (spReadRefs K C) := ⟨fRR, _, ok_readRefs FRR B.len hNL hDT, PySem.W.mg_of X G aRR, kRR, bRR⟩
    have hRow : Has l.prog w K mg base 1 "_law_row" ["cell", "count", "bound"] (spRow K) := ⟨fR, _, ok_row FR B, PySem.W.mg_of X G aR, kR, bR⟩
    exact ok_law FL B (PySem.W.mg_none_of X G zlist) (PySem.W.mg_none_of X G ztuple) (PySem.W.mg_none_of X G zall) ⟨fC, _, ok_cell FC B, PySem.W.mg_of X G aC, kC, bC⟩ ⟨fT, _, ok_text FT B (ok_row FR B) (PySem.W.mg_of X G aR) kR bR, PySem.W.mg_of X G aT, kT, bT⟩
      ⟨fN, _, ok_lname FN B hRow, PySem.W.mg_of X G aN, kN, bN⟩ ⟨fD, _, ok_ldiv FD B hRow, PySem.W.mg_of X G aD, kD, bD⟩ ⟨fWR, _, ok_write FWR B.len B.range (PySem.W.mg_of X G nLL), PySem.W.mg_of X G aWR, kWR, bWR⟩ hRR
  exact ⟨PySem.W.fnOf "law" "law" (defArgs sLaw) (defBody sLaw) (defScope sLaw) .none kVL dcL pmL anL cdL ctL, fun s v => .of_eq rfl, fun base _ _ => fin base⟩
end Hr
open PySem PySem.W PyProof.Rows
set_option maxHeartbeats 0 in
theorem PySem.Challenge.cw_homereads_k02_lines_of_references_holds : PySem.Challenge.rw_homereads_k02_lines_of_references.Holds := by
  w_on; o_law; k_head; (case hw => w_witness2)
  k_fill
  refine L2.walk_of (l := PySem.Challenge.rw_homereads_k02_lines_of_references) (n := 63) (k := 7) (x := "script") (CX := fun _ => L2.CX0) (sp := fun w => Hr.spLaw _) rfl (by decide) rfl ⟨rfl, by decide, by decide⟩ (fun w h Y => PySem.W.kIn_of Y) ?F (fun _ _ a ns hl _ hS => ⟨a, ns, rfl, hS, fun _ => rfl⟩) (fun _ _ _ _ _ h => h)
  case F =>
    intro w mg fa h KX G hmg
    refine' Hr.all_mk KX G hmg ?aRR ?lRR ?cRR ?kRR ?aWR ?lWR ?cWR ?kWR ?aDT ?lDT ?cDT ?kDT ?aNL ?lNL ?cNL ?kNL ?aTL ?lTL ?cTL ?kTL ?aLA ?lLA ?cLA ?kLA ?aFO ?lFO ?cFO ?kFO ?aC ?lC ?cC ?kC ?aR ?lR ?cR ?kR ?aT ?lT ?cT ?kT ?aN ?lN ?cN ?kN ?aD ?lD ?cD ?kD ?aL ?lL ?cL ?kL ?iA ?iX ?iS ?iE ?iY ?iK ?iF ?iT ?iL ?iC ?lI0 ?cI0 ?kI0 ?nNC ?nLN ?nLR ?nLL ?nLE ?zlen ?zint ?zabs ?zrange ?zisinstance ?zbool ?zstr ?zmin ?zlist ?ztuple ?zall
    (case aRR => k_is)
    (case lRR => k_is)
    (case cRR => k_is)
    (case kRR => k_is)
    (case aWR => k_is)
    (case lWR => k_is)
    (case cWR => k_is)
    (case kWR => k_is)
    (case aDT => k_is)
    (case lDT => k_is)
    (case cDT => k_is)
    (case kDT => k_is)
    (case aNL => k_is)
    (case lNL => k_is)
    (case cNL => k_is)
    (case kNL => k_is)
    (case aTL => k_is)
    (case lTL => k_is)
    (case cTL => k_is)
    (case kTL => k_is)
    (case aLA => k_is)
    (case lLA => k_is)
    (case cLA => k_is)
    (case kLA => k_is)
    (case aFO => k_is)
    (case lFO => k_is)
    (case cFO => k_is)
    (case kFO => k_is)
    (case aC => k_is)
    (case lC => k_is)
    (case cC => k_is)
    (case kC => k_is)
    (case aR => k_is)
    (case lR => k_is)
    (case cR => k_is)
    (case kR => k_is)
    (case aT => k_is)
    (case lT => k_is)
    (case cT => k_is)
    (case kT => k_is)
    (case aN => k_is)
    (case lN => k_is)
    (case cN => k_is)
    (case kN => k_is)
    (case aD => k_is)
    (case lD => k_is)
    (case cD => k_is)
    (case kD => k_is)
    (case aL => k_is)
    (case lL => k_is)
    (case cL => k_is)
    (case kL => k_is)
    (case iA => k_is)
    (case iX => k_is)
    (case iS => k_is)
    (case iE => k_is)
    (case iY => k_is)
    (case iK => k_is)
    (case iF => k_is)
    (case iT => k_is)
    (case iL => k_is)
    (case iC => k_is)
    (case lI0 => k_is)
    (case cI0 => k_is)
    (case kI0 => k_is)
    (case nNC => k_is)
    (case nLN => k_is)
    (case nLR => k_is)
    (case nLL => k_is)
    (case nLE => k_is)
    (case zlen => k_is)
    (case zint => k_is)
    (case zabs => k_is)
    (case zrange => k_is)
    (case zisinstance => k_is)
    (case zbool => k_is)
    (case zstr => k_is)
    (case zmin => k_is)
    (case zlist => k_is)
    (case ztuple => k_is)
    (case zall => k_is)
