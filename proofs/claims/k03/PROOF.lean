import PyProof.Rows.All
import Wide.All
import OpenK.AllK
import Wide.FinOn
import HandS.Base
import HandS.Call
import HandS.List
import HandS.Comp
import HandS.Ends
import HandS.Dict
import HandS.Iter
import HandS.Text
import HandS.Words
import HandS.WordsList
import HandS.More
import HandS.Codes
import HandS.Replace
import HandS.IsInst
import HandS.ExcInit
import HandS.WordsExc
import HandS.Exc
import HandS.TryOnly
import HandS.ExcOwn
import HandS.ExcIs
import HandS.ExcField
import KE.KExcIs
import PySem.Challenge.RW_homereads_k03_faults_of_reference_lines
set_option Elab.async false
set_option linter.all false
set_option maxRecDepth 100000
set_option maxHeartbeats 4000000
namespace Hr
open PySem PySem.Spec PyProof.Rows L2
/-! ### the text -/
def topS (i : Nat) : Stmt := PySem.Challenge.pw_homereads_k03_faults_of_reference_lines.main.body.getD i (.Pass ⟨0, 0, 0, 0⟩)
abbrev sInit : Stmt := inClass (topS 2) 0
abbrev sReadRefs : Stmt := topS 12
abbrev sDivText : Stmt := topS 13
abbrev sNameLine : Stmt := topS 14
abbrev sTextLine : Stmt := topS 15
abbrev sLineAt : Stmt := topS 16
abbrev sFirstOther : Stmt := topS 17
abbrev sCell : Stmt := topS 19
abbrev sRow : Stmt := topS 20
abbrev sInteger : Stmt := topS 21
abbrev sText : Stmt := topS 22
abbrev sLTurned : Stmt := topS 23
abbrev sLRefs : Stmt := topS 25
abbrev sLFirst : Stmt := topS 26
abbrev sLNameF : Stmt := topS 27
abbrev sLTextF : Stmt := topS 28
abbrev sSpoilt : Stmt := topS 29
abbrev sDue : Stmt := topS 30
abbrev sLaw : Stmt := topS 31
theorem scDue : FnScope ["lines", "found", "at", "turn", "column", "text", "name", "k"] ["lines"] (defScope sDue) := ⟨rfl, rfl, rfl, by decide +kernel, rfl, by decide +kernel, by decide +kernel⟩
theorem scCell : FnScope ["script", "k"] ["script", "k"] (defScope sCell) := ⟨rfl, rfl, rfl, by decide +kernel, rfl, by decide +kernel, by decide +kernel⟩
theorem scRow : FnScope ["cell", "count", "bound", "rest", "mixed", "row", "k"] ["cell", "count", "bound"] (defScope sRow) := ⟨rfl, rfl, rfl, by decide +kernel, rfl, by decide +kernel, by decide +kernel⟩
theorem scInteger : FnScope ["value"] ["value"] (defScope sInteger) := ⟨rfl, rfl, rfl, by decide +kernel, rfl, by decide +kernel, by decide +kernel⟩
theorem scText : FnScope ["cell", "size", "drawn", "kind", "text", "k", "letter"] ["cell", "size"] (defScope sText) := ⟨rfl, rfl, rfl, by decide +kernel, rfl, by decide +kernel, by decide +kernel⟩
theorem scLTurned : FnScope ["text", "news", "letter"] ["text"] (defScope sLTurned) := ⟨rfl, rfl, rfl, by decide +kernel, rfl, by decide +kernel, by decide +kernel⟩
theorem scInit : FnScope ["self", "line", "column"] ["self", "line", "column"] (defScope sInit) := ⟨rfl, rfl, rfl, by decide +kernel, rfl, by decide +kernel, by decide +kernel⟩
theorem scLineAt : FnScope ["lines", "at"] ["lines", "at"] (defScope sLineAt) := ⟨rfl, rfl, rfl, by decide +kernel, rfl, by decide +kernel, by decide +kernel⟩
theorem scFirstOther : FnScope ["line", "begin", "allowed", "column"] ["line", "begin", "allowed"] (defScope sFirstOther) := ⟨rfl, rfl, rfl, by decide +kernel, rfl, by decide +kernel, by decide +kernel⟩
theorem scNameLine : FnScope ["lines", "at", "sign", "line", "column"] ["lines", "at", "sign"] (defScope sNameLine) := ⟨rfl, rfl, rfl, by decide +kernel, rfl, by decide +kernel, by decide +kernel⟩
theorem scTextLine : FnScope ["lines", "at", "room", "line", "column"] ["lines", "at", "room"] (defScope sTextLine) := ⟨rfl, rfl, rfl, by decide +kernel, rfl, by decide +kernel, by decide +kernel⟩
theorem scReadRefs : FnScope ["lines", "references", "at", "name", "text"] ["lines"] (defScope sReadRefs) := ⟨rfl, rfl, rfl, by decide +kernel, rfl, by decide +kernel, by decide +kernel⟩
theorem scDivText : FnScope ["lines", "at", "parts", "room", "part"] ["lines", "at"] (defScope sDivText) := ⟨rfl, rfl, rfl, by decide +kernel, rfl, by decide +kernel, by decide +kernel⟩
theorem scLRefs : FnScope ["script", "at", "count", "found", "k", "cell", "text"] ["script", "at", "count"] (defScope sLRefs) := ⟨rfl, rfl, rfl, by decide +kernel, rfl, by decide +kernel, by decide +kernel⟩
theorem scLFirst : FnScope ["line", "start", "signs", "k"] ["line", "start", "signs"] (defScope sLFirst) := ⟨rfl, rfl, rfl, by decide +kernel, rfl, by decide +kernel, by decide +kernel⟩
theorem scLNameF : FnScope ["line", "head", "signs", "at"] ["line", "head"] (defScope sLNameF) := ⟨rfl, rfl, rfl, by decide +kernel, rfl, by decide +kernel, by decide +kernel⟩
theorem scLTextF : FnScope ["line", "room", "at"] ["line", "room"] (defScope sLTextF) := ⟨rfl, rfl, rfl, by decide +kernel, rfl, by decide +kernel, by decide +kernel⟩
theorem scSpoilt : FnScope ["lines", "cell", "x", "strange", "at", "line", "place", "kind", "news"] ["lines", "cell"] (defScope sSpoilt) := ⟨rfl, rfl, rfl, by decide +kernel, rfl, by decide +kernel, by decide +kernel⟩
/-! ### walks of a known number of turns -/
theorem for_gen {J : It} {n : Nat} {g : TG} {tb : TS} {D : Ends} {σ : L2.St} {H : Hp} (Pv : Nat → L2.St → Hp → Prop) (h0 : Pv 0 σ H) (hgo : ∀ i σ H, i < n → Pv i σ H → J.go i H) (hstop : ∀ σ H, Pv n σ H → J.stop n H)
    (hs : ∀ i σ H x H', i < n → Pv i σ H → J.yld i H x H' → g x σ H' fun σ2 H2 => tb { D with nx := Pv (i + 1), ct := Pv (i + 1), bk := D.nx } σ2 H2) (hd : ∀ σ H, Pv n σ H → D.nx σ H) :
    ∃ W : Nat → Nat → L2.St → Hp → Prop, (∃ m, W 0 m σ H) ∧ ∀ i m σ H, W i m σ H →
      (J.stop i H ∧ D.nx σ H) ∨ (J.go i H ∧ ∃ N : L2.St → Hp → Prop, (∀ σ' H', N σ' H' → ∃ m', m' < m ∧ W (i + 1) m' σ' H') ∧ ∀ x H', J.yld i H x H' → g x σ H' fun σ2 H2 => tb { D with nx := N, ct := N, bk := D.nx } σ2 H2) := by
  refine ⟨fun i m σ H => i + m = n ∧ Pv i σ H, ⟨n, Nat.zero_add n, h0⟩, fun i m σ H hw => ?_⟩
  obtain ⟨em, p⟩ := hw
  cases m with
  | zero =>
    obtain rfl : i = n := em
    exact .inl ⟨hstop σ H p, hd σ H p⟩
  | succ m =>
    have lt : i < n := by omega
    exact .inr ⟨hgo i σ H lt p, Pv (i + 1), fun σ' H' p' => ⟨m, Nat.lt_succ_self m, by omega, p'⟩, fun x H' y => hs i σ H x H' lt p y⟩
theorem lc_gen {J : It} {n : Nat} {g : TG} {tt : TT} {te : TE} {vs : List Nat} {σ : L2.St} {H1 : Hp} {D : Addr} {Qd : Hp → Prop} (Pv : Nat → Hp → Prop) (h0 : Pv 0 (upd H1 D (.lst []))) (hgo : ∀ i H, i < n → Pv i H → J.go i H) (hstop : ∀ H, Pv n H → J.stop n H)
    (hs : ∀ i H x H', i < n → Pv i H → J.yld i H x H' → g x (wipe σ vs) H' fun σ2 H2 => wipe σ2 vs = wipe σ vs ∧ tt σ2 H2 fun b H3 =>
      if b = true then te σ2 H3 fun y H4 => ∃ acc, H4 D = some (.lst acc) ∧ acc.length < sizeLine ∧ Pv (i + 1) (upd H4 D (.lst (acc ++ [y]))) else Pv (i + 1) H3) (hd : ∀ H, Pv n H → Qd H) :
    ∃ W : Nat → Nat → Hp → Prop, (∃ m, W 0 m (upd H1 D (.lst []))) ∧ ∀ i m H, W i m H →
      (J.stop i H ∧ Qd H) ∨ (J.go i H ∧ ∃ Nx : Hp → Prop, (∀ H', Nx H' → ∃ m', m' < m ∧ W (i + 1) m' H') ∧ ∀ x H', J.yld i H x H' → g x (wipe σ vs) H' fun σ2 H2 => wipe σ2 vs = wipe σ vs ∧ tt σ2 H2 fun b H3 =>
        if b = true then te σ2 H3 fun y H4 => ∃ acc, H4 D = some (.lst acc) ∧ acc.length < sizeLine ∧ Nx (upd H4 D (.lst (acc ++ [y]))) else Nx H3) := by
  refine ⟨fun i m H => i + m = n ∧ Pv i H, ⟨n, Nat.zero_add n, h0⟩, fun i m H hw => ?_⟩
  obtain ⟨em, p⟩ := hw
  cases m with
  | zero =>
    obtain rfl : i = n := em
    exact .inl ⟨hstop H p, hd H p⟩
  | succ m =>
    have lt : i < n := by omega
    exact .inr ⟨hgo i H lt p, Pv (i + 1), fun H' p' => ⟨m, Nat.lt_succ_self m, by omega, p'⟩, fun x H' y => hs i H x H' lt p y⟩
/-- a loop over a text's signs -/
theorem for_str {z : Str} {g : TG} {tb : TS} {D : Ends} {σ : L2.St} {H : Hp} (Pv : Nat → L2.St → Hp → Prop) (h0 : Pv 0 σ H)
    (hs : ∀ i c σ H, z.cps[i]? = some c → Pv i σ H → g (.str ⟨#[c]⟩) σ H fun σ2 H2 => tb { D with nx := Pv (i + 1), ct := Pv (i + 1), bk := D.nx } σ2 H2) (hd : ∀ σ H, Pv z.cps.size σ H → D.nx σ H) :
    ∃ W : Nat → Nat → L2.St → Hp → Prop, (∃ m, W 0 m σ H) ∧ ∀ i m σ H, W i m σ H →
      ((Its z).stop i H ∧ D.nx σ H) ∨ ((Its z).go i H ∧ ∃ N : L2.St → Hp → Prop, (∀ σ' H', N σ' H' → ∃ m', m' < m ∧ W (i + 1) m' σ' H') ∧ ∀ x H', (Its z).yld i H x H' → g x σ H' fun σ2 H2 => tb { D with nx := N, ct := N, bk := D.nx } σ2 H2) :=
  for_gen (J := Its z) (n := z.cps.size) Pv h0 (fun i σ H hi _ => hi) (fun σ H _ => Nat.le_refl _) (fun i σ H x H' hi p y => by
    obtain ⟨e, c, hc, ex⟩ := y
    subst e
    subst ex
    exact hs i c σ _ hc p) hd
/-! ### texts by lists -/
def T (l : List Nat) : Str := ⟨l.toArray⟩
theorem T_len (l : List Nat) : (T l).length = l.length := by
  show l.toArray.size = l.length
  simp
theorem T_size (l : List Nat) : (T l).cps.size = l.length := by
  show l.toArray.size = l.length
  simp
theorem T_list (l : List Nat) : (T l).cps.toList = l := rfl
theorem T_at (l : List Nat) (i : Nat) : (T l).cps[i]? = l[i]? := by
  show l.toArray[i]? = l[i]?
  simp
theorem T_app (a b : List Nat) : T a ++ T b = T (a ++ b) := by
  show Str.mk (a.toArray ++ b.toArray) = Str.mk (a ++ b).toArray
  simp
theorem T_inj {a b : List Nat} (h : T a = T b) : a = b := by
  have e : (T a).cps.toList = (T b).cps.toList := by rw [h]
  exact e
theorem T_nil : (Str.ofString "" : Str) = T [] := by decide +kernel
def Sg (c : Nat) : Prop := c = 65 ∨ c = 67 ∨ c = 71 ∨ c = 84 ∨ c = 78
def Dna (l : List Nat) : Prop := ∀ c ∈ l, Sg c
theorem Dna.app {a b : List Nat} (h : Dna a) (k : Dna b) : Dna (a ++ b) := fun c hc => by
  rcases List.mem_append.mp hc with q | q
  · exact h c q
  · exact k c q
theorem Dna.one {c : Nat} (h : Sg c) : Dna [c] := fun d hd => by
  obtain rfl : d = c := by simpa using hd
  exact h
theorem line_ok {n : Nat} (h : n ≤ 100000) : n ≤ sizeLine := by
  rw [sizeLine_eq]
  omega
theorem line_lt {n : Nat} (h : n ≤ 100000) : n < sizeLine := by
  rw [sizeLine_eq]
  omega
theorem same_upd {H : Hp} {p : Addr} {o : HO} (h : H p = none) : Same H (upd H p o) := fun b x e => by
  rw [upd_ne (ne_of_none e h)]
  exact e
theorem upd_upd {H : Hp} {p : Addr} {o o' : HO} : upd (upd H p o) p o' = upd H p o' := by
  funext b
  by_cases e : b = p
  · rw [e, upd_same, upd_same]
  · rw [upd_ne e, upd_ne e, upd_ne e]
/-! ### names that are still the built-in ones -/
structure Bl (mg : Str → Option Value) : Prop where
  len : mg "len" = none
  int : mg "int" = none
  abs : mg "abs" = none
  range : mg "range" = none
  isin : mg "isinstance" = none
  bool : mg "bool" = none
  str : mg "str" = none
section
variable {P : Program} {w : World} {K : PySem.W.Frag} {mg : Str → Option Value} {base : Heap}
/-! ### _law_cell -/
def spCell (K : PySem.W.Frag) : Sp := fun vs H Q _ => ∃ (a : Addr) (ns : List Int) (k : Nat), vs = [.ref a, .int (k : Int)] ∧ SqL K H a (ns.map V.int) ∧ ∀ x : Int, Q (.int x) H
theorem ok_cell {f : Addr} {fd : FuncData} {k : Nat} (F : Fun K "_law_cell" "_law_cell" sCell f fd) (B : Bl mg) : FnOk P w K mg base CX0 (k + 1) f fd ["script", "k"] (spCell K) := by
  refine F.ok scCell (fun vs H Q E h => ?_) (fun cdv A outer s H vs Q E hr h => ?_)
  · obtain ⟨a, ns, j, rfl, _⟩ := h
    rfl
  · obtain ⟨a, ns, j, rfl, hS, q⟩ := h
    refine ⟨_, pss_cons (ps_if (pt_cmpR op_lt (pv 1) (pe_callB call_len_seq (by rfl) B.len PySem.boot_len (pa_cons (pv 0) pa_nil)) (nomark _))
        (pss_one (ps_ret (pe_callTy call_int1 (by rfl) B.int (by decide +kernel) (pa_cons (pe_ix ix_list (pv 0) (pv 1) (fun _ _ => rfl)) pa_nil)))) pss_nil)
      (pss_one (ps_ret pe_int)), ?_⟩
    refine ⟨.int j, rfl, .ref a, rfl, a, ns.map V.int, rfl, .inl hS, j, _, rfl, rfl, _, rfl, ite2 (fun e => ?_) (fun e => q 0)⟩
    have h1 : (j : Int) < ((ns.map V.int).length : Int) := of_decide_eq_true e
    have h2 : j < ns.length := by
      rw [List.length_map] at h1
      omega
    have g1 : (ns.map V.int)[j]? = some (.int ns[j]) := by
      rw [List.getElem?_map, List.getElem?_eq_getElem h2]
      rfl
    exact ⟨.ref a, rfl, .int j, rfl, a, _, j, .int ns[j], rfl, rfl, hS, atI_nat g1, .inl ⟨_, rfl, q _⟩⟩
/-! ### _law_row -/
def spRow (K : PySem.W.Frag) : Sp := fun vs H Q _ => ∃ (c n b : Int), vs = [.int c, .int n, .int b] ∧ 0 ≤ n ∧ n ≤ 100000 ∧ 1 < b ∧ b < 1000 ∧
  ∀ (H' : Hp) (p : Addr) (xs : List Int), Same H H' → H p = none → H' p = some (.lst (xs.map V.int)) → xs.length = n.toNat → (∀ x ∈ xs, 0 ≤ x ∧ x < b) → Q (.ref p) H'
theorem ok_row {f : Addr} {fd : FuncData} {k : Nat} (F : Fun K "_law_row" "_law_row" sRow f fd) (B : Bl mg) : FnOk P w K mg base CX0 (k + 1) f fd ["cell", "count", "bound"] (spRow K) := by
  refine F.ok scRow (fun vs H Q E h => ?_) (fun cdv A outer s H vs Q E hr h => ?_)
  · obtain ⟨c, n, b, rfl, _⟩ := h
    rfl
  · obtain ⟨c, n, b, rfl, hn0, hn, hb1, hb2, q⟩ := h
    refine ⟨_, pss_cons (ps_set (i := 3) scRow.nd rfl (.inl rfl) (pe_callB call_abs (by rfl) B.abs (by decide +kernel) (pa_cons (pe_callTy call_int1 (by rfl) B.int (by decide +kernel) (pa_cons (pv 0) pa_nil)) pa_nil)))
      (pss_cons (ps_set (i := 4) scRow.nd rfl (.inl rfl) (pe_op op_add (pe_op op_mod (pe_callTy call_int1 (by rfl) B.int (by decide +kernel) (pa_cons (pv 0) pa_nil)) pe_int) pe_int))
      (pss_cons (ps_set (i := 5) scRow.nd rfl (.inl rfl) (pe_lst pa_nil))
      (pss_cons (ps_for PassesOwn.never rfl (pi_range1 rfl B.range (pa_cons (pv 1) pa_nil)) (pg_name (i := 6) scRow.nd rfl (.inl rfl))
        (pss_one (ps_if (pt_cmpR op_ge (pv 3) (pv 2) (nomark _))
          (pss_cons (ps_expr (pe_bm PySem.F.plainAttrs_list PySem.F.slot_list_append PySem.F.type_list_append mt_append (pv 5) (pa_cons (pe_op op_mod (pe_callTy call_int1 (by rfl) B.int (by decide +kernel) (pa_cons (pv 3) pa_nil)) (pv 2)) pa_nil)))
            (pss_one (ps_set (i := 3) scRow.nd rfl (.inl rfl) (pe_op op_fdiv (pv 3) (pv 2)))))
          (pss_cons (ps_set (i := 4) scRow.nd rfl (.inl rfl) (pe_op op_mod (pe_callTy call_int1 (by rfl) B.int (by decide +kernel) (pa_cons (pe_op op_add (pe_op op_add (pe_op op_mul (pv 4) pe_int) (pe_op op_mul pe_int (pv 6))) pe_int) pa_nil)) pe_int))
            (pss_one (ps_expr (pe_bm PySem.F.plainAttrs_list PySem.F.slot_list_append PySem.F.type_list_append mt_append (pv 5) (pa_cons (pe_op op_mod (pe_callTy call_int1 (by rfl) B.int (by decide +kernel) (pa_cons (pe_op op_fdiv (pe_op op_mul (pv 4) pe_int) pe_int) pa_nil)) (pv 2)) pa_nil))))))))
      (pss_one (ps_ret (pv 5)))))), ?_⟩
    refine ⟨.int c, rfl, .inl ⟨c, rfl, c, rfl, ?_⟩⟩
    refine ⟨.int c, rfl, .inl ⟨c, rfl, c, 1000003, rfl, rfl, (show (0 : Int) < 1000003 by decide), _, _, rfl, rfl, ?_⟩⟩
    refine ⟨Nat.zero_le _, fun p hp => ?_⟩
    refine ⟨.int n, rfl, n, rfl, by omega, by omega, ?_⟩
    refine for_range (lo := 0) (n := n.toNat) (fun i σ H' => ∃ (r m : Int) (kv : Option V) (xs : List Int), σ = [some (.int c), some (.int n), some (.int b), some (.int r), some (.int m), some (.ref p), kv] ∧ 0 ≤ m ∧ m < 4294967296 ∧ Same H H' ∧
      H' p = some (.lst (xs.map V.int)) ∧ xs.length = i ∧ ∀ x ∈ xs, 0 ≤ x ∧ x < b) ?_ ?_ ?_
    · refine ⟨_, _, none, [], rfl, ?_, ?_, same_upd hp, upd_same, rfl, fun x hx => by cases hx⟩
      · have := Int.emod_nonneg c (show (1000003 : Int) ≠ 0 by decide)
        omega
      · have := Int.emod_lt_of_pos c (show (0 : Int) < 1000003 by decide)
        omega
    · rintro i σ H' hi ⟨r, m, kv, xs, rfl, hm0, hm1, sm, hx, hl, hall⟩
      have grow : ∀ (y : Int) (τ : L2.St) (r' m' : Int), 0 ≤ y → y < b → 0 ≤ m' → m' < 4294967296 → τ = [some (.int c), some (.int n), some (.int b), some (.int r'), some (.int m'), some (.ref p), some (.int (0 + (i : Nat)))] →
          ∃ (r m : Int) (kv : Option V) (zs : List Int), τ = [some (.int c), some (.int n), some (.int b), some (.int r), some (.int m), some (.ref p), kv] ∧ 0 ≤ m ∧ m < 4294967296 ∧ Same H (upd H' p (.lst (xs.map V.int ++ [.int y]))) ∧
          (upd H' p (.lst (xs.map V.int ++ [.int y]))) p = some (.lst (zs.map V.int)) ∧ zs.length = i + 1 ∧ ∀ x ∈ zs, 0 ≤ x ∧ x < b := by
        intro y τ r' m' y0 y1 h0 h1 e
        refine ⟨r', m', _, xs ++ [y], e, h0, h1, fun q o k => ?_, ?_, ?_, ?_⟩
        · rw [upd_ne (ne_of_none k hp)]
          exact sm q o k
        · rw [upd_same, List.map_append]
          rfl
        · rw [List.length_append, hl]
          rfl
        · intro x hxm
          rcases List.mem_append.mp hxm with z | z
          · exact hall x z
          · obtain rfl : x = y := by simpa using z
            exact ⟨y0, y1⟩
      have hsz : (xs.map V.int).length < sizeLine := line_lt (by rw [List.length_map]; omega)
      refine ⟨.int r, rfl, .int b, rfl, r, b, rfl, rfl, _, rfl, ite2 (fun e => ?_) (fun e => ?_)⟩
      · refine ⟨.ref p, rfl, .inl ⟨rfl, _, .inl (.inl hx)⟩, .int r, rfl, .inl ⟨r, rfl, .int b, rfl, r, b, rfl, rfl, (show 0 < b by omega), p, _, _, rfl, rfl, hx, hsz, ?_⟩⟩
        refine ⟨.int r, rfl, .int b, rfl, r, b, rfl, rfl, ⟨by omega, by omega⟩, ?_⟩
        exact grow _ _ (r / b) m (Int.emod_nonneg r (by omega)) (Int.emod_lt_of_pos r (by omega)) hm0 hm1 rfl
      · refine ⟨.int m, rfl, m, 48271, rfl, rfl, .inl ⟨by omega, by omega⟩, .int (0 + (i : Nat)), rfl, 11, _, rfl, rfl, .inl ⟨by decide, by decide⟩, _, _, rfl, rfl, _, _, rfl, rfl, .inl ⟨_, rfl, _, 2147483647, rfl, rfl, (show (0 : Int) < 2147483647 by decide), ?_⟩⟩
        have b0 : 0 ≤ (m * 48271 + 11 * (0 + ((i : Nat) : Int)) + 7) % 2147483647 := Int.emod_nonneg _ (by decide)
        have b1 : (m * 48271 + 11 * (0 + ((i : Nat) : Int)) + 7) % 2147483647 < 2147483647 := Int.emod_lt_of_pos _ (by decide)
        refine ⟨.ref p, rfl, .inl ⟨rfl, _, .inl (.inl hx)⟩, _, rfl, (m * 48271 + 11 * (0 + ((i : Nat) : Int)) + 7) % 2147483647, 2862933555777941757, rfl, rfl, .inl ⟨by omega, by omega⟩, _, 1024, rfl, rfl, ⟨by decide, by decide⟩, .inl ⟨_, rfl, .int b, rfl, _, b, rfl, rfl, (show 0 < b by omega), p, _, _, rfl, rfl, hx, hsz, ?_⟩⟩
        exact grow _ _ r ((m * 48271 + 11 * (0 + ((i : Nat) : Int)) + 7) % 2147483647) (Int.emod_nonneg _ (by omega)) (Int.emod_lt_of_pos _ (by omega)) b0 (by omega) rfl
    · rintro σ H' ⟨r, m, kv, xs, rfl, hm0, hm1, sm, hx, hl, hall⟩
      exact ⟨.ref p, rfl, q H' p xs sm hp hx hl hall⟩
/-! ### _law_integer -/
def spInteger : Sp := fun vs H Q _ => ∃ i : Int, vs = [.int i] ∧ Q (.bl true) H
theorem ok_integer {f : Addr} {fd : FuncData} {k : Nat} (F : Fun K "_law_integer" "_law_integer" sInteger f fd) (B : Bl mg) : FnOk P w K mg base CX0 (k + 1) f fd ["value"] spInteger := by
  refine F.ok scInteger (fun vs H Q E h => ?_) (fun cdv A outer s H vs Q E hr h => ?_)
  · obtain ⟨i, rfl, _⟩ := h
    rfl
  · obtain ⟨i, rfl, q⟩ := h
    refine ⟨_, pss_one (ps_ret (pe_and (pe_callB call_isi (by rfl) B.isin (by decide +kernel) (pa_cons (pv 0) (pa_cons (pe_bltn (v := .ty "int") (by rfl) B.int (by decide +kernel) rfl) pa_nil)))
      (pe_one (pe_not (pe_callB call_isi (by rfl) B.isin (by decide +kernel) (pa_cons (pv 0) (pa_cons (pe_bltn (v := .ty "bool") (by rfl) B.bool (by decide +kernel) rfl) pa_nil))))))), ?_⟩
    refine ⟨.int i, rfl, .int i, .ty "int", _, _, true, rfl, .ty _, .base (.int i), kit_ty (by decide +kernel), true, rfl, iteT ?_⟩
    exact ⟨.int i, rfl, .int i, .ty "bool", _, _, false, rfl, .ty _, .base (.int i), kit_ty (by decide +kernel), false, rfl, q⟩
/-! ### _law_text -/
theorem sg_four (x : Int) : ∃ c, Sg c ∧ atI (Str.ofString "ACGT").cps.toList (x % 4) = some c := by
  have h : x % 4 = 0 ∨ x % 4 = 1 ∨ x % 4 = 2 ∨ x % 4 = 3 := by omega
  rcases h with h | h | h | h <;> rw [h]
  · exact ⟨65, .inl rfl, by decide +kernel⟩
  · exact ⟨67, .inr (.inl rfl), by decide +kernel⟩
  · exact ⟨71, .inr (.inr (.inl rfl)), by decide +kernel⟩
  · exact ⟨84, .inr (.inr (.inr (.inl rfl))), by decide +kernel⟩
theorem sg_two (x : Int) : ∃ c, Sg c ∧ atI (Str.ofString "AC").cps.toList (x % 2) = some c := by
  have h : x % 2 = 0 ∨ x % 2 = 1 := by omega
  rcases h with h | h <;> rw [h]
  · exact ⟨65, .inl rfl, by decide +kernel⟩
  · exact ⟨67, .inr (.inl rfl), by decide +kernel⟩
def spText (K : PySem.W.Frag) : Sp := fun vs H Q _ => ∃ (c n : Int), vs = [.int c, .int n] ∧ 0 ≤ n ∧ n ≤ 100000 ∧ ∀ (H' : Hp) (l : List Nat), Same H H' → Dna l → l.length = n.toNat → Q (.str (T l)) H'
theorem ok_text {f fR : Addr} {fd fdR : FuncData} {k : Nat} (F : Fun K "_law_text" "_law_text" sText f fd) (B : Bl mg) (GR : FnOk P w K mg base CX0 (k + 1) fR fdR ["cell", "count", "bound"] (spRow K)) (gR : mg "_law_row" = some (.ref fR)) (kR : PySem.W.keepIn K (.ref fR) = true) (bR : Binds K fdR ["cell", "count", "bound"] []) :
    FnOk P w K mg base CX0 (k + 1 + 1) f fd ["cell", "size"] (spText K) := by
  refine F.ok scText (fun vs H Q E h => ?_) (fun cdv A outer s H vs Q E hr h => ?_)
  · obtain ⟨c, n, rfl, _⟩ := h
    rfl
  · obtain ⟨c, n, rfl, hn0, hn, q⟩ := h
    refine ⟨_, pss_cons (ps_set (i := 2) scText.nd rfl (.inl rfl) (pe_call GR hr (by rfl) gR kR bR .nil pass0 (pa_cons (pv 0) (pa_cons (pv 1) (pa_cons pe_int pa_nil)))))
      (pss_cons (ps_set (i := 3) scText.nd rfl (.inl rfl) (pe_op op_mod (pe_op op_fdiv (pe_callB call_abs (by rfl) B.abs (by decide +kernel) (pa_cons (pe_callTy call_int1 (by rfl) B.int (by decide +kernel) (pa_cons (pv 0) pa_nil)) pa_nil)) pe_int) pe_int))
      (pss_cons (ps_set (i := 4) scText.nd rfl (.inl rfl) pe_str)
      (pss_cons (ps_for PassesOwn.never rfl (pi_range1 rfl B.range (pa_cons (pv 1) pa_nil)) (pg_name (i := 5) scText.nd rfl (.inl rfl))
        (C8.pss_cut (ps_set (i := 6) scText.nd rfl (.inl rfl) (pe_ix ix_str pe_str (pe_op op_mod (pe_ix ix_list (pv 2) (pv 5) (fun _ _ => rfl)) pe_int) (fun _ _ => rfl)))
        (C8.pss_cut (ps_if (PW.pt (pw_and (pt_cmpR op_eq (pv 3) pe_int (nomark _)) (pw_and (pt_cmpR op_gt (pv 5) pe_int (nomark _)) (pw_and1 (pt_cmpR op_gt (pe_op op_mod (pe_ix ix_list (pv 2) (pv 5) (fun _ _ => rfl)) pe_int) pe_int (nomark _))))))
            (pss_one (ps_set (i := 6) scText.nd rfl (.inl rfl) (pe_ix ix_str (pv 4) (pe_op op_sub (pv 5) pe_int) (fun _ _ => rfl)))) pss_nil)
        (C8.pss_cut (ps_if (pt_cmpR op_eq (pv 3) pe_int (nomark _)) (pss_one (ps_set (i := 6) scText.nd rfl (.inl rfl) (pe_ix ix_str pe_str (pe_op op_mod (pe_ix ix_list (pv 2) (pv 5) (fun _ _ => rfl)) pe_int) (fun _ _ => rfl)))) pss_nil)
        (C8.pss_cut (ps_if (PW.pt (pw_and (pt_cmpR op_eq (pv 3) pe_int (nomark _)) (pw_and1 (pt_cmpR op_gt (pe_ix ix_list (pv 2) (pv 5) (fun _ _ => rfl)) pe_int (nomark _)))))
            (pss_one (ps_set (i := 6) scText.nd rfl (.inl rfl) pe_str)) pss_nil)
        (pss_one (ps_set (i := 4) scText.nd rfl (.inl rfl) (pe_op op_add_str (pv 4) (pv 6)))))))))
      (pss_one (ps_ret (pv 4)))))), ?_⟩
    refine ⟨.int c, rfl, .int n, rfl, c, n, 97, rfl, hn0, hn, by decide, by decide, fun H1 p xs sm hp hx hl hall => ?_⟩
    refine ⟨.int c, rfl, .inl ⟨c, rfl, c, rfl, _, 7, rfl, rfl, ⟨by decide, by decide⟩, _, 4, rfl, rfl, (show (0 : Int) < 4 by decide), ?_⟩⟩
    refine ⟨.int n, rfl, n, rfl, by omega, by omega, ?_⟩
    obtain ⟨kd, hkd⟩ : ∃ kd : Int, kd = (if c < 0 then -c else c) / 7 % 4 := ⟨_, rfl⟩
    have hS : SqL K H1 p (xs.map V.int) := .inl (.inl hx)
    refine for_range (lo := 0) (n := n.toNat) (fun i σ H' => H' = H1 ∧ ∃ (l : List Nat) (kv lv : Option V), σ = [some (.int c), some (.int n), some (.ref p), some (.int kd), some (.str (T l)), kv, lv] ∧ l.length = i ∧ Dna l) ?_ ?_ ?_
    · exact ⟨rfl, [], none, none, by rw [← T_nil, hkd]; rfl, rfl, fun c hc => by cases hc⟩
    · rintro i σ H' hi ⟨rfl, l, kv, lv, rfl, hli, hd⟩
      have hix : i < xs.length := by omega
      have at1 : atI (xs.map V.int) (0 + (i : Nat)) = some (.int xs[i]) := by
        rw [Int.zero_add]
        refine atI_nat ?_
        rw [List.getElem?_map, List.getElem?_eq_getElem hix]
        rfl
      have done : ∀ d : Nat, Sg d → ∃ e, Sg e ∧ [some (.int c), some (.int n), some (.ref p), some (.int kd), some (.str (T l)), some (V.int (0 + (i : Nat))), some (.str (T [d]))] = [some (.int c), some (.int n), some (.ref p), some (.int kd), some (.str (T l)), some (V.int (0 + (i : Nat))), some (.str (T [e]))] := fun d hd => ⟨d, hd, rfl⟩
      refine ⟨fun σ H2 => H2 = H' ∧ ∃ d, Sg d ∧ σ = [some (.int c), some (.int n), some (.ref p), some (.int kd), some (.str (T l)), some (V.int (0 + (i : Nat))), some (.str (T [d]))], ?_, ?_⟩
      · obtain ⟨d, hsd, hat⟩ := sg_four xs[i]
        exact ⟨.ref p, rfl, .int (0 + (i : Nat)), rfl, p, _, _, _, rfl, rfl, hS, at1, _, 4, rfl, rfl, (show (0 : Int) < 4 by decide), _, _, d, rfl, rfl, by decide, hat, rfl, d, hsd, rfl⟩
      rintro σ H2 ⟨rfl, d, hsd, rfl⟩
      refine ⟨fun σ H3 => H3 = H2 ∧ ∃ d, Sg d ∧ σ = [some (.int c), some (.int n), some (.ref p), some (.int kd), some (.str (T l)), some (V.int (0 + (i : Nat))), some (.str (T [d]))], ?_, ?_⟩
      · refine ⟨.int kd, rfl, rfl, _, rfl, ite2 (fun _ => ?_) (fun _ => iteF ⟨rfl, d, hsd, rfl⟩)⟩
        refine ⟨.int (0 + (i : Nat)), rfl, _, 4, rfl, rfl, _, rfl, ite2 (fun e4 => ?_) (fun _ => iteF ⟨rfl, d, hsd, rfl⟩)⟩
        refine ⟨.ref p, rfl, .int (0 + (i : Nat)), rfl, p, _, _, _, rfl, rfl, hS, at1, _, 11, rfl, rfl, (show (0 : Int) < 11 by decide), _, 0, rfl, rfl, _, rfl, ite2 (fun _ => ?_) (fun _ => ⟨rfl, d, hsd, rfl⟩)⟩
        have h4 : (4 : Int) < 0 + (i : Nat) := of_decide_eq_true e4
        have hlt : i - 5 < l.length := by omega
        refine ⟨.str (T l), rfl, .int (0 + (i : Nat)), rfl, _, 5, rfl, rfl, T l, _, l[i - 5], rfl, rfl, line_ok (by rw [T_len]; omega), ?_, rfl, _, hd _ (List.getElem_mem hlt), rfl⟩
        rw [show (0 + ((i : Nat) : Int)) - 5 = ((i - 5 : Nat) : Int) by omega]
        refine atI_nat ?_
        exact List.getElem?_eq_getElem hlt
      rintro σ H3 ⟨rfl, d, hsd, rfl⟩
      refine ⟨fun σ H4 => H4 = H3 ∧ ∃ d, Sg d ∧ σ = [some (.int c), some (.int n), some (.ref p), some (.int kd), some (.str (T l)), some (V.int (0 + (i : Nat))), some (.str (T [d]))], ?_, ?_⟩
      · refine ⟨.int kd, rfl, rfl, _, rfl, ite2 (fun _ => ?_) (fun _ => ⟨rfl, d, hsd, rfl⟩)⟩
        obtain ⟨d, hsd, hat⟩ := sg_two xs[i]
        exact ⟨.ref p, rfl, .int (0 + (i : Nat)), rfl, p, _, _, _, rfl, rfl, hS, at1, _, 2, rfl, rfl, (show (0 : Int) < 2 by decide), _, _, d, rfl, rfl, by decide, hat, rfl, d, hsd, rfl⟩
      rintro σ H4 ⟨rfl, d, hsd, rfl⟩
      refine ⟨fun σ H5 => H5 = H4 ∧ ∃ d, Sg d ∧ σ = [some (.int c), some (.int n), some (.ref p), some (.int kd), some (.str (T l)), some (V.int (0 + (i : Nat))), some (.str (T [d]))], ?_, ?_⟩
      · refine ⟨.int kd, rfl, rfl, _, rfl, ite2 (fun _ => ?_) (fun _ => iteF ⟨rfl, d, hsd, rfl⟩)⟩
        refine ⟨.ref p, rfl, .int (0 + (i : Nat)), rfl, p, _, _, _, rfl, rfl, hS, at1, _, 88, rfl, rfl, _, rfl, ite2 (fun _ => ?_) (fun _ => ⟨rfl, d, hsd, rfl⟩)⟩
        exact ⟨rfl, 78, .inr (.inr (.inr (.inr rfl))), rfl⟩
      rintro σ H5 ⟨rfl, d, hsd, rfl⟩
      refine ⟨.str (T l), rfl, .str (T [d]), rfl, T l, T [d], rfl, rfl, line_ok (by rw [T_len, T_len, List.length_singleton]; omega), rfl, l ++ [d], some (.int (0 + (i : Nat))), some (.str (T [d])), ?_, ?_, hd.app (.one hsd)⟩
      · rw [T_app]
        rfl
      · rw [List.length_append, hli]
        rfl
    · rintro σ H' ⟨rfl, l, kv, lv, rfl, hli, hd⟩
      exact ⟨.str (T l), rfl, q H' l sm hd hli⟩
/-! ### _law_turned -/
def opp (c : Nat) : Nat := if c = 65 then 84 else if c = 67 then 71 else if c = 71 then 67 else if c = 84 then 65 else c
def turn (l : List Nat) : List Nat := (l.map opp).reverse
theorem opp_sg {c : Nat} (h : Sg c) : Sg (opp c) := by
  rcases h with h | h | h | h | h <;> subst h
  · exact .inr (.inr (.inr (.inl rfl)))
  · exact .inr (.inr (.inl rfl))
  · exact .inr (.inl rfl)
  · exact .inl rfl
  · exact .inr (.inr (.inr (.inr rfl)))
theorem opp_opp {c : Nat} (h : Sg c) : opp (opp c) = c := by
  rcases h with h | h | h | h | h <;> subst h <;> rfl
theorem turn_dna {l : List Nat} (h : Dna l) : Dna (turn l) := fun c hc => by
  obtain ⟨d, hd, e⟩ := List.mem_map.mp (List.mem_reverse.mp hc)
  rw [← e]
  exact opp_sg (h d hd)
theorem turn_len (l : List Nat) : (turn l).length = l.length := by
  unfold turn
  rw [List.length_reverse, List.length_map]
theorem turn_turn {l : List Nat} (h : Dna l) : turn (turn l) = l := by
  unfold turn
  rw [List.map_reverse, List.reverse_reverse, List.map_map]
  conv => rhs; rw [← List.map_id l]
  exact List.map_congr_left fun c hc => opp_opp (h c hc)
theorem turn_app (a b : List Nat) : turn (a ++ b) = turn b ++ turn a := by
  unfold turn
  rw [List.map_append, List.reverse_append]
theorem turn_snoc (a : List Nat) (c : Nat) : turn (a ++ [c]) = opp c :: turn a := by
  rw [turn_app]
  rfl
theorem sign_ix {c : Nat} (h : Sg c) : ∃ (i : Nat) (r : List Nat), Builtin.Str.occurrences (Str.ofString "ACGTN") ⟨#[c]⟩ 0 (Str.ofString "ACGTN").length 1 = i :: r ∧ atI (Str.ofString "TGCAN").cps.toList (i : Int) = some (opp c) ∧ (i : Int) + 2 = (if c = 65 then 2 else if c = 67 then 3 else if c = 71 then 4 else if c = 84 then 5 else 6) := by
  rcases h with h | h | h | h | h <;> subst h
  · exact ⟨0, [], by decide +kernel, by decide +kernel, by decide⟩
  · exact ⟨1, [], by decide +kernel, by decide +kernel, by decide⟩
  · exact ⟨2, [], by decide +kernel, by decide +kernel, by decide⟩
  · exact ⟨3, [], by decide +kernel, by decide +kernel, by decide⟩
  · exact ⟨4, [], by decide +kernel, by decide +kernel, by decide⟩
def spLTurned : Sp := fun vs H Q _ => ∃ l : List Nat, vs = [.str (T l)] ∧ Dna l ∧ l.length ≤ 100000 ∧ Q (.str (T (turn l))) H
theorem ok_lturned {f : Addr} {fd : FuncData} {k : Nat} (F : Fun K "_law_turned" "_law_turned" sLTurned f fd) : FnOk P w K mg base CX0 (k + 1) f fd ["text"] spLTurned := by
  refine F.ok scLTurned (fun vs H Q E h => ?_) (fun cdv A outer s H vs Q E hr h => ?_)
  · obtain ⟨l, rfl, _⟩ := h
    rfl
  · obtain ⟨l, rfl, hd, hl, q⟩ := h
    refine ⟨_, pss_cons (ps_set (i := 1) scLTurned.nd rfl (.inl rfl) pe_str)
      (pss_cons (ps_for PassesOwn.never rfl (pi_str (pv 0)) (pg_name (i := 2) scLTurned.nd rfl (.inl rfl))
        (pss_one (ps_set (i := 1) scLTurned.nd rfl (.inl rfl) (pe_op op_add_str (pe_ix ix_str pe_str (pe_bm PySem.F.plainAttrs_str PySem.F.slot_str_index PySem.F.type_str_index mt_sindex pe_str (pa_cons (pv 2) pa_nil)) (fun _ _ => rfl)) (pv 1)))))
      (pss_one (ps_ret (pv 1)))), ?_⟩
    refine ⟨.str (T l), rfl, T l, rfl, ?_⟩
    refine for_str (z := T l) (fun i σ H' => H' = H ∧ i ≤ l.length ∧ ∃ lv, σ = [some (.str (T l)), some (.str (T (turn (l.take i)))), lv]) ?_ ?_ ?_
    · exact ⟨rfl, Nat.zero_le _, none, by
        show [some (V.str (T l)), some (V.str (Str.ofString "")), none] = _
        rw [T_nil]
        rfl⟩
    · rintro i c σ H' hc ⟨rfl, _, lv, rfl⟩
      rw [T_at] at hc
      obtain ⟨hlt, hce⟩ := List.getElem?_eq_some_iff.mp hc
      have hsc : Sg c := by
        rw [← hce]
        exact hd _ (List.getElem_mem hlt)
      obtain ⟨j, r, ho, ha, _⟩ := sign_ix hsc
      have et : turn (l.take (i + 1)) = opp c :: turn (l.take i) := by
        rw [List.take_add_one, hc]
        exact turn_snoc _ c
      refine ⟨rfl, .str ⟨#[c]⟩, rfl, _, _, j, r, rfl, rfl, ho, _, _, _, rfl, rfl, by decide, ha, .str (T (turn (l.take i))), rfl, T [opp c], _, rfl, rfl, line_ok ?_, rfl, hlt, some (.str ⟨#[c]⟩), ?_⟩
      · rw [T_len, T_len, turn_len, List.length_take, List.length_singleton]
        omega
      · rw [T_app, et]
        rfl
    · rintro σ H' ⟨rfl, _, lv, rfl⟩
      rw [T_size, List.take_length]
      exact ⟨_, rfl, q⟩
end
/-! ### the errors of a line, and what reads one line -/
section
variable {P : Program} {w : World} {K : PySem.W.Frag} {mg : Str → Option Value} {base : Heap}
def spInit (C : Addr) : Sp := fun vs H Q _ => ∃ (a : Addr) (l c : Int), vs = [.ref a, .int l, .int c] ∧ H a = some (exo a C none) ∧
  ∀ dx, H dx = none → dx ≠ a → Q .non (upd (upd (upd H dx (exd dx [("line", .int l)])) a (exo a C (some dx))) dx (exd dx [("column", .int c), ("line", .int l)]))
/-- what stands behind the top of InvalidLine -/
structure IL (K : PySem.W.Frag) (mg : Str → Option Value) (C fI : Addr) (fd : FuncData) : Prop where
  gC : mg "InvalidLine" = some (.ref C)
  T : OexC K C
  iC : PySem.W.findIn K (.ref C) "__init__" = some (some (.ref fI))
  tI : PySem.W.typeIn K (.ref fI) = some (.type "function")
  F : Fun K "__init__" "InvalidLine.__init__" sInit fI fd
  b : Binds K fd ["self", "line", "column"] []
  nl : PySem.W.findIn K (.ref C) "line" = some none
  nc : PySem.W.findIn K (.ref C) "column" = some none
theorem ok_init {C fI : Addr} {fd : FuncData} (D : IL K mg C fI fd) : FnOk P w K mg base CX0 1 fI fd ["self", "line", "column"] (spInit C) := by
  refine D.F.ok scInit (fun vs H Q E h => ?_) (fun cdv A outer s H vs Q E hr h => ?_)
  · obtain ⟨a, l, c, rfl, _⟩ := h
    rfl
  · obtain ⟨a, l, c, rfl, ha, q⟩ := h
    refine ⟨_, pss_cons (ps_ost (pv 0) (pv 1)) (pss_one (ps_ost (pv 0) (pv 2))), ?_⟩
    refine ⟨.int l, rfl, .ref a, rfl, a, C, rfl, D.T, D.nl, .inl ⟨ha, fun dx hdx hne => ?_⟩⟩
    refine ⟨.int c, rfl, .ref a, rfl, a, C, rfl, D.T, D.nc, .inr ⟨dx, [("line", .int l)], ?_, ?_, by show 1 ≤ 900; decide, ?_⟩⟩
    · exact upd_same
    · rw [upd_ne hne, upd_same]
    · exact q dx hdx hne
/-- what a def wishes for if InvalidLine(l, c) leaves it -/
def Bad (E : XK) (C : Addr) (H : Hp) (l c : Int) : Prop := ∀ (H' : Hp) (d : Addr), Same H H' → H d = none → H' d = some (.xd [("column", .int c), ("line", .int l)]) → E (.ref C) (some d) H'
theorem Bad.same {E : XK} {C : Addr} {H H1 : Hp} {l c : Int} (b : Bad E C H l c) (s : Same H H1) : Bad E C H1 l c := fun H' d s' hd e => b H' d (s.trans s') (s.free hd) e
theorem bad_read {E : XK} {C : Addr} {H : Hp} {l c : Int} (b : Bad E C H l c) (a : Addr) (ha : H a = none) : spInit C [.ref a, .int l, .int c] (upd H a (exo a C none))
    (fun v H2 => v = .non ∧ ∃ (d : Addr) (fs : List (Str × V)), H2 a = some (exo a C (some d)) ∧ H2 d = some (exd d fs) ∧ H d = none ∧ E (.ref C) (some d) (upd (del H2 a) d (.xd fs))) (fun _ _ _ => False) := by
  refine ⟨a, l, c, rfl, upd_same, fun dx hdx hne => ⟨rfl, dx, _, ?_, upd_same, ?_, ?_⟩⟩
  · rw [upd_ne hne.symm, upd_same]
  · rw [upd_ne hne] at hdx
    exact hdx
  · rw [upd_ne hne] at hdx
    refine b _ dx (fun x o e => ?_) hdx upd_same
    have n1 : x ≠ dx := ne_of_none e hdx
    have n2 : x ≠ a := ne_of_none e ha
    rw [upd_ne n1, del_ne n2, upd_ne n1, upd_ne n2, upd_ne n1, upd_ne n2]
    exact e
/-! ### texts as lists -/
abbrev SqS (K : PySem.W.Frag) (H : Hp) (a : Addr) (ls : List (List Nat)) : Prop := SqL K H a (ls.map fun l => V.str (T l))
def spLineAt (K : PySem.W.Frag) (C : Addr) : Sp := fun vs H Q E => ∃ (a : Addr) (ls : List (List Nat)) (j : Nat), vs = [.ref a, .int (j : Int)] ∧ SqS K H a ls ∧
  (∀ l, ls[j]? = some l → Q (.str (T l)) H) ∧ (ls.length ≤ j → Bad E C H ls.length 0)
theorem ok_lineAt {f C fI : Addr} {fd fdI : FuncData} {k : Nat} (F : Fun K "_line_at" "_line_at" sLineAt f fd) (D : IL K mg C fI fdI) (ml : mg "len" = none) : FnOk P w K mg base (L2.CX P w) (k + 3) f fd ["lines", "at"] (spLineAt K C) := by
  refine F.okX scLineAt (fun vs H Q E h => ?_) (fun cdv A outer s H vs Q E hr h => ?_)
  · obtain ⟨a, ls, j, rfl, _⟩ := h
    rfl
  · obtain ⟨a, ls, j, rfl, hS, q, qb⟩ := h
    refine ⟨_, pss_cons (ps_if (pt_cmpR op_ge (pv 1) (pe_callB call_len_seq (by rfl) ml PySem.boot_len (pa_cons (pv 0) pa_nil)) (nomark _))
        (pss_one (ps_raise rfl (takes_of rfl rfl rfl rfl) (pmk_oex D.T D.iC D.tI (ok_init D) (hr.mono (by omega)) D.b .nil pass0 (by rfl) D.gC (pa_cons (pe_callB call_len_seq (by rfl) ml PySem.boot_len (pa_cons (pv 0) pa_nil)) (pa_cons pe_int pa_nil))))) pss_nil)
      (pss_one (ps_ret (pe_ix ix_list (pv 0) (pv 1) (fun _ _ => rfl)))), ?_⟩
    refine ⟨.int j, rfl, .ref a, rfl, a, _, rfl, .inl hS, j, _, rfl, rfl, _, rfl, ite2 (fun e => ?_) (fun e => ?_)⟩
    · have e1 : ((ls.map fun l => V.str (T l)).length : Int) ≤ (j : Int) := of_decide_eq_true e
      rw [List.length_map] at e1
      refine ⟨.ref a, rfl, a, _, rfl, .inl hS, by show 2 ≤ 1000; decide, fun x hx => ?_⟩
      rw [List.length_map]
      exact bad_read (qb (by omega)) x hx
    · have e1 : ¬ ((ls.map fun l => V.str (T l)).length : Int) ≤ (j : Int) := fun z => e (decide_eq_true z)
      rw [List.length_map] at e1
      have hj : j < ls.length := by omega
      refine ⟨.ref a, rfl, .int j, rfl, a, _, j, .str (T ls[j]), rfl, rfl, hS, atI_nat ?_, q _ (List.getElem?_eq_getElem hj)⟩
      rw [List.getElem?_map, List.getElem?_eq_getElem hj]
      rfl
end
/-! ### the first sign that is not allowed -/
def fo (l al : List Nat) (b : Nat) : Nat := b + (l.drop b).findIdx fun c => decide (c ∉ al)
theorem fo_le {l al : List Nat} {b : Nat} (h : b ≤ l.length) : fo l al b ≤ l.length := by
  have := List.findIdx_le_length (xs := l.drop b) (p := fun c => decide (c ∉ al))
  rw [List.length_drop] at this
  unfold fo
  omega
/-- walking on -/
theorem fo_step {l al : List Nat} {b i c : Nat} (hc : l[b + i]? = some c) (hin : c ∈ al) (hi : i ≤ (l.drop b).findIdx fun c => decide (c ∉ al)) : i + 1 ≤ (l.drop b).findIdx fun c => decide (c ∉ al) := by
  refine Nat.lt_of_le_of_ne hi fun e => ?_
  have hd : (l.drop b)[i]? = some c := by
    rw [List.getElem?_drop]
    exact hc
  obtain ⟨hlt, he⟩ := List.getElem?_eq_some_iff.mp hd
  have hp := List.findIdx_getElem (xs := l.drop b) (p := fun c => decide (c ∉ al)) (w := e ▸ hlt)
  have e2 : (l.drop b)[(l.drop b).findIdx fun c => decide (c ∉ al)]? = some c := by
    rw [← e]
    exact hd
  have e3 := (List.getElem?_eq_some_iff.mp e2).2
  rw [e3] at hp
  exact (of_decide_eq_true hp) hin
theorem fo_here {l al : List Nat} {b i c : Nat} (hc : l[b + i]? = some c) (hout : c ∉ al) (hi : i ≤ (l.drop b).findIdx fun c => decide (c ∉ al)) : fo l al b = b + i := by
  have hd : (l.drop b)[i]? = some c := by
    rw [List.getElem?_drop]
    exact hc
  obtain ⟨hlt, he⟩ := List.getElem?_eq_some_iff.mp hd
  have : (l.drop b).findIdx (fun c => decide (c ∉ al)) ≤ i := by
    refine Nat.le_of_not_lt fun z => ?_
    have hn := List.not_of_lt_findIdx z
    have e3 := (List.getElem?_eq_some_iff.mp hd).2
    rw [e3] at hn
    exact absurd (decide_eq_true hout) (by simpa using hn)
  unfold fo
  omega
theorem fo_end {l al : List Nat} {b : Nat} (hb : b ≤ l.length) (hi : l.length - b ≤ (l.drop b).findIdx fun c => decide (c ∉ al)) : fo l al b = l.length := by
  have := fo_le (al := al) hb
  unfold fo at *
  omega
section
variable {P : Program} {w : World} {K : PySem.W.Frag} {mg : Str → Option Value} {base : Heap}
def spFirst : Sp := fun vs H Q _ => ∃ (l al : List Nat) (b : Nat), vs = [.str (T l), .int (b : Int), .str (T al)] ∧ b ≤ l.length ∧ l.length ≤ 1000000 ∧ Q (.int (fo l al b : Nat)) H
theorem line_ok6 {n : Nat} (h : n ≤ 1000000) : n ≤ sizeLine := by
  rw [sizeLine_eq]
  omega
theorem ok_first {f : Addr} {fd : FuncData} {k : Nat} (F : Fun K "_first_other" "_first_other" sFirstOther f fd) (ml : mg "len" = none) (mr : mg "range" = none) : FnOk P w K mg base CX0 (k + 1) f fd ["line", "begin", "allowed"] spFirst := by
  refine F.ok scFirstOther (fun vs H Q E h => ?_) (fun cdv A outer s H vs Q E hr h => ?_)
  · obtain ⟨l, al, b, rfl, _⟩ := h
    rfl
  · obtain ⟨l, al, b, rfl, hb, hl, q⟩ := h
    refine ⟨_, pss_cons (ps_for PassesOwn.never rfl (pi_range2 rfl mr (pa_cons (pv 1) (pa_cons (pe_callB call_len_str (by rfl) ml PySem.boot_len (pa_cons (pv 0) pa_nil)) pa_nil))) (pg_name (i := 3) scFirstOther.nd rfl (.inl rfl))
        (pss_one (ps_if (pt_cmpR op_notIn_sign (pe_ix ix_str (pv 0) (pv 3) (fun _ _ => rfl)) (pv 2) rfl) (pss_one (ps_ret (pv 3))) pss_nil)))
      (pss_one (ps_ret (pe_callB call_len_str (by rfl) ml PySem.boot_len (pa_cons (pv 0) pa_nil)))), ?_⟩
    have hz : (T l).length ≤ sizeLine := line_ok6 (by rw [T_len]; exact hl)
    refine ⟨.int b, rfl, .str (T l), rfl, T l, rfl, hz, b, (T l).length, rfl, ⟨by omega, by omega, by omega, by rw [T_len]; omega⟩, ?_⟩
    rw [show (((T l).length : Nat) : Int) = ((l.length : Nat) : Int) by rw [T_len], show (((l.length : Nat) : Int) - ((b : Nat) : Int)).toNat = l.length - b by omega]
    refine for_range (lo := b) (n := l.length - b) (fun i σ H' => H' = H ∧ i ≤ ((l.drop b).findIdx fun c => decide (c ∉ al)) ∧ ∃ cv, σ = [some (.str (T l)), some (.int b), some (.str (T al)), cv]) ?_ ?_ ?_
    · exact ⟨rfl, Nat.zero_le _, none, rfl⟩
    · rintro i σ H' hi ⟨rfl, hle, cv, rfl⟩
      have hlt : b + i < l.length := by omega
      have hc : l[b + i]? = some l[b + i] := List.getElem?_eq_getElem hlt
      refine ⟨.str (T l), rfl, .int ((b : Int) + (i : Nat)), rfl, T l, _, l[b + i], rfl, rfl, hz, ?_, .str (T al), rfl, l[b + i], T al, rfl, rfl, _, rfl, ite2 (fun e => ?_) (fun e => ?_)⟩
      · rw [show (b : Int) + ((i : Nat) : Int) = ((b + i : Nat) : Int) by omega]
        exact atI_nat hc
      · have hout : l[b + i] ∉ al := by
          have e1 : (!decide (l[b + i] ∈ al)) = true := e
          simpa using e1
        refine ⟨.int ((b : Int) + (i : Nat)), rfl, ?_⟩
        rw [fo_here hc hout hle] at q
        rw [show (b : Int) + ((i : Nat) : Int) = ((b + i : Nat) : Int) by omega]
        exact q
      · have hin : l[b + i] ∈ al := by
          have e1 : ¬ (!decide (l[b + i] ∈ al)) = true := e
          simpa using e1
        exact ⟨rfl, fo_step hc hin hle, _, rfl⟩
    · rintro σ H' ⟨rfl, hle, cv, rfl⟩
      rw [fo_end hb hle] at q
      refine ⟨.str (T l), rfl, T l, rfl, hz, ?_⟩
      rw [T_len]
      exact q
end
/-! ### the name's line, a text's line -/
def ncl : List Nat := [48, 49, 50, 51, 52, 53, 54, 55, 56, 57, 65, 66, 67, 68, 69, 70, 71, 72, 73, 74, 75, 76, 77, 78, 79, 80, 81, 82, 83, 84, 85, 86, 87, 88, 89, 90, 97, 98, 99, 100, 101, 102, 103, 104, 105, 106, 107, 108, 109, 110, 111, 112, 113, 114, 115, 116, 117, 118, 119, 120, 121, 122]
def lets : List Nat := [65, 67, 71, 84, 78]
def nameFault (sg : Nat) (l : List Nat) : Option Nat :=
  if l.head? = some sg then (if min (fo l ncl 1) 41 < l.length ∨ l.length = 1 then some (min (fo l ncl 1) 41) else none) else some 0
def textFault (room : Nat) (l : List Nat) : Option Nat :=
  if min (fo l lets 0) room < l.length ∨ l = [] then some (min (fo l lets 0) room) else none
theorem start_one (l : List Nat) (s : Nat) : Txt.startswith (T l) (T [s]) = decide (l.head? = some s) := by
  unfold Txt.startswith Builtin.Str.subAt
  rw [T_len, T_len]
  cases l with
  | nil => rfl
  | cons c r =>
    have e1 : (T (c :: r)).cps.extract 0 (0 + [s].length) = #[c] := by
      show (c :: r).toArray.extract 0 1 = #[c]
      simp
    rw [e1]
    show (decide (0 + 1 ≤ r.length + 1) && (#[c] == #[s])) = decide (some c = some s)
    rw [decide_eq_true (by omega), Bool.true_and]
    by_cases h : c = s
    · subst h
      simp
    · have : ¬ (#[c] : Array Nat) = #[s] := fun z => h (by simpa using z)
      rw [beq_eq_false_iff_ne.mpr this]
      simp [h]
theorem cut_from (l : List Nat) (k : Nat) : cutS (T l) (some (k : Int)) none = T (l.drop k) := by
  unfold cutS
  rw [HT.sIx_nat, HT.sIx_none, T_len, T_list]
  show Str.mk _ = Str.mk _
  congr 2
  rw [List.take_of_length_le (by rw [List.length_drop]; omega)]
  by_cases h : k ≤ l.length
  · rw [Nat.min_eq_left h]
  · rw [Nat.min_eq_right (by omega), List.drop_of_length_le (Nat.le_refl _), List.drop_of_length_le (by omega)]
section
variable {P : Program} {w : World} {K : PySem.W.Frag} {mg : Str → Option Value} {base : Heap}
theorem min_int (a b : Nat) : (if ((b : Nat) : Int) < ((a : Nat) : Int) then ((b : Nat) : Int) else ((a : Nat) : Int)) = ((min a b : Nat) : Int) := by
  by_cases h : b < a
  · rw [if_pos (by omega), Nat.min_eq_right (by omega)]
  · rw [if_neg (by omega), Nat.min_eq_left (by omega)]
/-- a def of the module that may let InvalidLine out -/
def HasX (P : Program) (w : World) (K : PySem.W.Frag) (mg : Str → Option Value) (base : Heap) (k : Nat) (x : Str) (ps : List Str) (sp : Sp) : Prop :=
  ∃ f fd, FnOk P w K mg base (L2.CX P w) k f fd ps sp ∧ mg x = some (.ref f) ∧ PySem.W.keepIn K (.ref f) = true ∧ Binds K fd ps []
/-- a def of the module that keeps a promise -/
def Has (P : Program) (w : World) (K : PySem.W.Frag) (mg : Str → Option Value) (base : Heap) (k : Nat) (x : Str) (ps : List Str) (sp : Sp) : Prop :=
  ∃ f fd, FnOk P w K mg base CX0 k f fd ps sp ∧ mg x = some (.ref f) ∧ PySem.W.keepIn K (.ref f) = true ∧ Binds K fd ps []
def spName (K : PySem.W.Frag) (C : Addr) : Sp := fun vs H Q E => ∃ (a : Addr) (ls : List (List Nat)) (j sg : Nat), vs = [.ref a, .int (j : Int), .str (T [sg])] ∧ SqS K H a ls ∧ (∀ l ∈ ls, l.length ≤ 1000000) ∧
  (ls.length ≤ j → Bad E C H ls.length 0) ∧ (∀ l, ls[j]? = some l → nameFault sg l = none → Q (.str (T (l.drop 1))) H) ∧ ∀ l c, ls[j]? = some l → nameFault sg l = some c → Bad E C H j c
theorem ok_name {f C fI : Addr} {fd fdI : FuncData} {k : Nat} {t1 t2 : Tok} (F : Fun K "_name_line" "_name_line" sNameLine f fd) (D : IL K mg C fI fdI) (ml : mg "len" = none) (mm : mg "min" = none) (gN : mg "NAME_CHARACTERS" = some (.str (T ncl) t1)) (gL : mg "_LONGEST_NAME" = some (.int 40 t2))
    (hA : HasX P w K mg base 3 "_line_at" ["lines", "at"] (spLineAt K C)) (hF : Has P w K mg base 1 "_first_other" ["line", "begin", "allowed"] spFirst) : FnOk P w K mg base (L2.CX P w) (k + 4) f fd ["lines", "at", "sign"] (spName K C) := by
  obtain ⟨fA, dA, GA, gA, kA, bA⟩ := hA
  obtain ⟨fF, dF, GF, gF, kF, bF⟩ := hF
  refine F.okX scNameLine (fun vs H Q E h => ?_) (fun cdv A outer s H vs Q E hr h => ?_)
  · obtain ⟨a, ls, j, sg, rfl, _⟩ := h
    rfl
  · obtain ⟨a, ls, j, sg, rfl, hS, hlen, qe, qg, qb⟩ := h
    refine ⟨_, pss_cons (ps_set (i := 3) scNameLine.nd rfl (.inl rfl) (pe_call GA (hr.mono (by omega)) (by rfl) gA kA bA .nil (passes_call (takes_of rfl rfl rfl rfl) fun _ _ _ _ h => h) (pa_cons (pv 0) (pa_cons (pv 1) pa_nil))))
      (pss_cons (ps_if (pt_not (pt_val (pe_bm PySem.F.plainAttrs_str PySem.F.slot_str_startswith PySem.F.type_str_startswith mt_startswith (pv 3) (pa_cons (pv 2) pa_nil))))
        (pss_one (ps_raise rfl (takes_of rfl rfl rfl rfl) (pmk_oex D.T D.iC D.tI (ok_init D) (hr.mono (by omega)) D.b .nil pass0 (by rfl) D.gC (pa_cons (pv 1) (pa_cons pe_int pa_nil))))) pss_nil)
      (pss_cons (ps_set (i := 4) scNameLine.nd rfl (.inl rfl) (pe_callB (call_min2 rfl) (by rfl) mm (by decide +kernel)
        (pa_cons (pe_call GF (hr.mono (by omega)) (by rfl) gF kF bF .nil pass0 (pa_cons (pv 3) (pa_cons pe_int (pa_cons (pe_glob (v := .str (T ncl)) (by rfl) gN ⟨_, rfl⟩) pa_nil))))
          (pa_cons (pe_op op_add pe_int (pe_glob (v := .int 40) (by rfl) gL ⟨_, rfl⟩)) pa_nil))))
      (pss_cons (ps_if (PW.pt (pw_or (pt_cmpR op_lt (pv 4) (pe_callB call_len_str (by rfl) ml PySem.boot_len (pa_cons (pv 3) pa_nil)) (nomark _)) (pw_or1 (pt_cmpR op_eq (pe_callB call_len_str (by rfl) ml PySem.boot_len (pa_cons (pv 3) pa_nil)) pe_int (nomark _)))))
        (pss_one (ps_raise rfl (takes_of rfl rfl rfl rfl) (pmk_oex D.T D.iC D.tI (ok_init D) (hr.mono (by omega)) D.b .nil pass0 (by rfl) D.gC (pa_cons (pv 1) (pa_cons (pv 4) pa_nil))))) pss_nil)
      (pss_one (ps_ret (pe_slice sl_str (pv 3) (po_some pe_int) po_none)))))), ?_⟩
    refine ⟨.ref a, rfl, .int j, rfl, a, ls, j, rfl, hS, fun l hl => ?_, qe⟩
    have hz0 : l.length ≤ 1000000 := hlen l (List.mem_of_getElem? hl)
    have hz : (T l).length ≤ sizeLine := line_ok6 (by rw [T_len]; exact hz0)
    refine ⟨.str (T l), rfl, rfl, .str (T [sg]), rfl, _, _, rfl, rfl, _, rfl, ?_⟩
    rw [start_one]
    by_cases hh : l.head? = some sg
    · rw [decide_eq_true hh]
      refine iteF ?_
      have h1 : 1 ≤ l.length := by
        cases l with
        | nil => cases hh
        | cons c r => simp
      refine ⟨.str (T l), rfl, l, ncl, 1, rfl, h1, hz0, _, 40, rfl, rfl, _, _, rfl, ?_⟩
      rw [show (1 + 40 : Int) = ((41 : Nat) : Int) by decide, min_int]
      have hfl : (min (fo l ncl 1) 41 < l.length ∨ l.length = 1) → nameFault sg l = some (min (fo l ncl 1) 41) := fun z => by
        unfold nameFault
        rw [if_pos hh, if_pos z]
      refine ⟨_, rfl, .str (T l), rfl, T l, rfl, hz, _, _, rfl, rfl, _, rfl, ite2 (fun e => ?_) (fun e => ?_)⟩
      · have e1 : ((min (fo l ncl 1) 41 : Nat) : Int) < (((T l).length : Nat) : Int) := of_decide_eq_true e
        rw [T_len] at e1
        refine iteT ⟨.int j, rfl, _, rfl, by show 2 ≤ 1000; decide, fun x hx => ?_⟩
        exact bad_read (qb l _ hl (hfl (.inl (by omega)))) x hx
      · have e1 : ¬ ((min (fo l ncl 1) 41 : Nat) : Int) < (((T l).length : Nat) : Int) := fun z => e (decide_eq_true z)
        rw [T_len] at e1
        refine ⟨.str (T l), rfl, T l, rfl, hz, rfl, _, rfl, ite2 (fun e2 => ?_) (fun e2 => ?_)⟩
        · have e3 : (V.int ((T l).length : Nat)) = V.int 1 := of_decide_eq_true e2
          rw [T_len] at e3
          have e4 : ((l.length : Nat) : Int) = 1 := V.int.inj e3
          refine ⟨.int j, rfl, _, rfl, by show 2 ≤ 1000; decide, fun x hx => ?_⟩
          exact bad_read (qb l _ hl (hfl (.inr (by omega)))) x hx
        · have e3 : ¬ (V.int ((T l).length : Nat)) = V.int 1 := fun z => e2 (decide_eq_true z)
          rw [T_len] at e3
          have e4 : ¬ l.length = 1 := fun z => e3 (by rw [z]; rfl)
          refine ⟨.str (T l), rfl, 1, rfl, T l, rfl, hz, ?_⟩
          rw [show ((1 : Int)) = ((1 : Nat) : Int) by rfl, cut_from]
          refine qg l hl ?_
          unfold nameFault
          rw [if_pos hh, if_neg (by omega)]
    · rw [decide_eq_false hh]
      refine iteT ⟨.int j, rfl, by show 2 ≤ 1000; decide, fun x hx => ?_⟩
      exact bad_read (qb l 0 hl (by unfold nameFault; rw [if_neg hh])) x hx
end
section
variable {P : Program} {w : World} {K : PySem.W.Frag} {mg : Str → Option Value} {base : Heap}
def spTextLine (K : PySem.W.Frag) (C : Addr) : Sp := fun vs H Q E => ∃ (a : Addr) (ls : List (List Nat)) (j room : Nat), vs = [.ref a, .int (j : Int), .int (room : Int)] ∧ SqS K H a ls ∧ (∀ l ∈ ls, l.length ≤ 1000000) ∧
  (ls.length ≤ j → Bad E C H ls.length 0) ∧ (∀ l, ls[j]? = some l → textFault room l = none → Q (.str (T l)) H) ∧ ∀ l c, ls[j]? = some l → textFault room l = some c → Bad E C H j c
theorem ok_textLine {f C fI : Addr} {fd fdI : FuncData} {k : Nat} {t1 : Tok} (F : Fun K "_text_line" "_text_line" sTextLine f fd) (D : IL K mg C fI fdI) (ml : mg "len" = none) (mm : mg "min" = none) (gN : mg "LETTERS" = some (.str (T lets) t1))
    (hA : HasX P w K mg base 3 "_line_at" ["lines", "at"] (spLineAt K C)) (hF : Has P w K mg base 1 "_first_other" ["line", "begin", "allowed"] spFirst) : FnOk P w K mg base (L2.CX P w) (k + 4) f fd ["lines", "at", "room"] (spTextLine K C) := by
  obtain ⟨fA, dA, GA, gA, kA, bA⟩ := hA
  obtain ⟨fF, dF, GF, gF, kF, bF⟩ := hF
  refine F.okX scTextLine (fun vs H Q E h => ?_) (fun cdv A outer s H vs Q E hr h => ?_)
  · obtain ⟨a, ls, j, sg, rfl, _⟩ := h
    rfl
  · obtain ⟨a, ls, j, room, rfl, hS, hlen, qe, qg, qb⟩ := h
    refine ⟨_, pss_cons (ps_set (i := 3) scTextLine.nd rfl (.inl rfl) (pe_call GA (hr.mono (by omega)) (by rfl) gA kA bA .nil (passes_call (takes_of rfl rfl rfl rfl) fun _ _ _ _ h => h) (pa_cons (pv 0) (pa_cons (pv 1) pa_nil))))
      (pss_cons (ps_set (i := 4) scTextLine.nd rfl (.inl rfl) (pe_callB (call_min2 rfl) (by rfl) mm (by decide +kernel)
        (pa_cons (pe_call GF (hr.mono (by omega)) (by rfl) gF kF bF .nil pass0 (pa_cons (pv 3) (pa_cons pe_int (pa_cons (pe_glob (v := .str (T lets)) (by rfl) gN ⟨_, rfl⟩) pa_nil)))) (pa_cons (pv 2) pa_nil))))
      (pss_cons (ps_if (PW.pt (pw_or (pt_cmpR op_lt (pv 4) (pe_callB call_len_str (by rfl) ml PySem.boot_len (pa_cons (pv 3) pa_nil)) (nomark _)) (pw_or1 (pt_cmpR op_eq (pv 3) pe_str (nomark _)))))
        (pss_one (ps_raise rfl (takes_of rfl rfl rfl rfl) (pmk_oex D.T D.iC D.tI (ok_init D) (hr.mono (by omega)) D.b .nil pass0 (by rfl) D.gC (pa_cons (pv 1) (pa_cons (pv 4) pa_nil))))) pss_nil)
      (pss_one (ps_ret (pv 3))))), ?_⟩
    refine ⟨.ref a, rfl, .int j, rfl, a, ls, j, rfl, hS, fun l hl => ?_, qe⟩
    have hz0 : l.length ≤ 1000000 := hlen l (List.mem_of_getElem? hl)
    have hz : (T l).length ≤ sizeLine := line_ok6 (by rw [T_len]; exact hz0)
    refine ⟨.str (T l), rfl, l, lets, 0, rfl, Nat.zero_le _, hz0, .int room, rfl, _, _, rfl, ?_⟩
    rw [min_int]
    have hfl : (min (fo l lets 0) room < l.length ∨ l = []) → textFault room l = some (min (fo l lets 0) room) := fun z => by
      unfold textFault
      rw [if_pos z]
    refine ⟨_, rfl, .str (T l), rfl, T l, rfl, hz, _, _, rfl, rfl, _, rfl, ite2 (fun e => ?_) (fun e => ?_)⟩
    · have e1 : ((min (fo l lets 0) room : Nat) : Int) < (((T l).length : Nat) : Int) := of_decide_eq_true e
      rw [T_len] at e1
      refine iteT ⟨.int j, rfl, _, rfl, by show 2 ≤ 1000; decide, fun x hx => ?_⟩
      exact bad_read (qb l _ hl (hfl (.inl (by omega)))) x hx
    · have e1 : ¬ ((min (fo l lets 0) room : Nat) : Int) < (((T l).length : Nat) : Int) := fun z => e (decide_eq_true z)
      rw [T_len] at e1
      refine ⟨.str (T l), rfl, rfl, _, rfl, ite2 (fun e2 => ?_) (fun e2 => ?_)⟩
      · have e3 : V.str (T l) = V.str (Str.ofString "") := of_decide_eq_true e2
        have e4 : l = [] := T_inj ((V.str.inj e3).trans T_nil)
        refine ⟨.int j, rfl, _, rfl, by show 2 ≤ 1000; decide, fun x hx => ?_⟩
        exact bad_read (qb l _ hl (hfl (.inr e4))) x hx
      · have e4 : ¬ l = [] := fun z => e2 (decide_eq_true (by rw [z, T_nil]))
        refine ⟨.str (T l), rfl, qg l hl ?_⟩
        unfold textFault
        refine if_neg fun z => ?_
        rcases z with z | z
        · omega
        · exact e4 z
/-! ### a divided text -/
def dv : List (List Nat) → Nat → Nat → List Nat → Bool → Except (Nat × Nat) (List Nat × Nat)
  | [], i, _, acc, e => if e = true then .error (i, 0) else .ok (acc, i)
  | l :: r, i, room, acc, e =>
    if e = false ∧ l.head? = some 62 then .ok (acc, i) else
      match textFault room l with
      | some c => .error (i, c)
      | none => dv r (i + 1) (room - l.length) (acc ++ l) false
theorem dv_cons (l : List Nat) (r : List (List Nat)) (i room : Nat) (acc : List Nat) (e : Bool) : dv (l :: r) i room acc e = if e = false ∧ l.head? = some 62 then .ok (acc, i) else
    match textFault room l with
    | some c => .error (i, c)
    | none => dv r (i + 1) (room - l.length) (acc ++ l) false := by rw [dv]
theorem join_flat : ∀ ps : List (List Nat), Str.join (T []) (ps.map T) = T ps.flatten
  | [] => rfl
  | [c] => by
    show T c = _
    rw [List.flatten_cons, List.flatten_nil, List.append_nil]
  | c :: e :: r => by
    have ih := join_flat (e :: r)
    show T c ++ T [] ++ Str.join (T []) ((e :: r).map T) = _
    rw [ih, T_app, T_app, List.append_nil]
    rfl
theorem sum_flat (ps : List (List Nat)) : ((ps.map T).map (·.length)).sum = ps.flatten.length := by
  induction ps with
  | nil => rfl
  | cons c r ih => rw [List.map_cons, List.map_cons, List.sum_cons, ih, T_len, List.flatten_cons, List.length_append]
theorem textFault_room {room : Nat} {l : List Nat} (h : textFault room l = none) : l ≠ [] ∧ l.length ≤ room ∧ l.length ≤ fo l lets 0 := by
  unfold textFault at h
  by_cases c : min (fo l lets 0) room < l.length ∨ l = []
  · rw [if_pos c] at h
    cases h
  · exact ⟨fun z => c (.inr z), by omega, by omega⟩
def spDiv (K : PySem.W.Frag) (C : Addr) : Sp := fun vs H Q E => ∃ (a : Addr) (ls : List (List Nat)) (j : Nat), vs = [.ref a, .int (j : Int)] ∧ SqS K H a ls ∧ (∀ l ∈ ls, l.length ≤ 1000000) ∧ ls.length ≤ 100000 ∧ j ≤ ls.length ∧
  (∀ t i, dv (ls.drop j) j 100000 [] true = .ok (t, i) → ∀ (H' : Hp) (q : Addr), Same H H' → H q = none → H' q = some (.tup [.str (T t), .int ((i : Nat) : Int)]) → Q (.ref q) H') ∧ ∀ l c, dv (ls.drop j) j 100000 [] true = .error (l, c) → Bad E C H l c
theorem gt_text : Str.ofString ">" = T [62] := by decide +kernel
/-- between two turns -/
def DivInv (a p : Addr) (ls : List (List Nat)) (j : Nat) (H : Hp) (m : Nat) (σ : L2.St) (H' : Hp) : Prop :=
  ∃ (i r : Nat) (ps : List (List Nat)) (pv : Option V), σ = [some (.ref a), some (.int (i : Nat)), some (.ref p), some (.int (r : Nat)), pv] ∧ m + i = ls.length ∧ Same H H' ∧ H' p = some (.lst ((ps.map T).map V.str)) ∧
      ps.flatten.length + r = 100000 ∧ ps.length ≤ i ∧ dv (ls.drop i) i r ps.flatten ps.isEmpty = dv (ls.drop j) j 100000 [] true
theorem ok_div {f C : Addr} {fd : FuncData} {k : Nat} {t1 : Tok} (F : Fun K "_divided_text" "_divided_text" sDivText f fd) (ml : mg "len" = none) (gL : mg "_LONGEST_REFERENCE" = some (.int 100000 t1))
    (hT : HasX P w K mg base 4 "_text_line" ["lines", "at", "room"] (spTextLine K C)) : FnOk P w K mg base (L2.CX P w) (k + 5) f fd ["lines", "at"] (spDiv K C) := by
  obtain ⟨fT, dT, GT, gT, kT, bT⟩ := hT
  refine F.okX scDivText (fun vs H Q E h => ?_) (fun cdv A outer s H vs Q E hr h => ?_)
  · obtain ⟨a, ls, j, rfl, _⟩ := h
    rfl
  · obtain ⟨a, ls, j, rfl, hS, hlen, hls, hj, qg, qb⟩ := h
    refine ⟨_, pss_cons (ps_set (i := 2) scDivText.nd rfl (.inl rfl) (pe_lst pa_nil))
      (pss_cons (ps_set (i := 3) scDivText.nd rfl (.inl rfl) (pe_glob (v := .int 100000) (by rfl) gL ⟨_, rfl⟩))
      (pss_cons (ps_while (passes_of rfl) (PW.pt (pw_or (pt_not (pt_truth (pv 2) (fun _ => rfl))) (pw_or1 (PW.pt (pw_and (pt_cmpR op_lt (pv 1) (pe_callB call_len_seq (by rfl) ml PySem.boot_len (pa_cons (pv 0) pa_nil)) (nomark _))
          (pw_and1 (pt_not (pt_val (pe_bm PySem.F.plainAttrs_str PySem.F.slot_str_startswith PySem.F.type_str_startswith mt_startswith (pe_ix ix_list (pv 0) (pv 1) (fun _ _ => rfl)) (pa_cons pe_str pa_nil))))))))))
        (pss_cons (ps_set (i := 4) scDivText.nd rfl (.inl rfl) (pe_call GT (hr.mono (by omega)) (by rfl) gT kT bT .nil (passes_call (takes_of rfl rfl rfl rfl) fun _ _ _ _ h => h) (pa_cons (pv 0) (pa_cons (pv 1) (pa_cons (pv 3) pa_nil)))))
        (pss_cons (ps_expr (pe_bm PySem.F.plainAttrs_list PySem.F.slot_list_append PySem.F.type_list_append mt_append (pv 2) (pa_cons (pv 4) pa_nil)))
        (pss_cons (ps_aug (i := 3) scDivText.nd rfl (.inl rfl) (pe_callB call_len_str (by rfl) ml PySem.boot_len (pa_cons (pv 4) pa_nil)) ip_sub)
        (pss_one (ps_aug (i := 1) scDivText.nd rfl (.inl rfl) pe_int ip_add))))))
      (pss_one (ps_ret (pe_tup (pa_cons (pe_join pe_str (pv 2)) (pa_cons (pv 1) pa_nil))))))), ?_⟩
    refine ⟨Nat.zero_le _, fun p hp => ?_⟩
    refine ⟨DivInv a p ls j H, ⟨ls.length - j, j, 100000, [], none, rfl, by omega, same_upd hp, upd_same, rfl, Nat.zero_le _, rfl⟩, ?_⟩
    rintro m σ H' ⟨i, r, ps, pv, rfl, em, sm, hx, hr2, hpl, hdv⟩
    have hS' : SqS K H' a ls := sm.seq hS
    have body : (ps.isEmpty = true ∨ ∃ l, ls[i]? = some l ∧ ¬ l.head? = some 62) →
        (∀ l, ls[i]? = some l → textFault r l = none → m ≠ 0 ∧ (r - l.length : Int) = ((r - l.length : Nat) : Int) ∧ (ps ++ [l]).flatten.length + (r - l.length) = 100000 ∧ dv (ls.drop (i + 1)) (i + 1) (r - l.length) (ps ++ [l]).flatten (ps ++ [l]).isEmpty = dv (ls.drop j) j 100000 [] true) ∧
        (∀ l c, ls[i]? = some l → textFault r l = some c → Bad E C H' i c) ∧ (ls.length ≤ i → Bad E C H' ls.length 0) := by
      intro hc
      refine ⟨fun l hl ht => ?_, fun l c hl ht => ?_, fun hi => ?_⟩
      · obtain ⟨hlt, hle⟩ := List.getElem?_eq_some_iff.mp hl
        obtain ⟨_, h2, _⟩ := textFault_room ht
        have ed : ls.drop i = l :: ls.drop (i + 1) := by rw [List.drop_eq_getElem_cons hlt, hle]
        have ef : (ps ++ [l]).flatten = ps.flatten ++ l := by rw [List.flatten_append, List.flatten_cons, List.flatten_nil, List.append_nil]
        have ee : (ps ++ [l]).isEmpty = false := by simp
        refine ⟨by omega, by omega, by rw [ef, List.length_append]; omega, ?_⟩
        rw [← hdv, ed, ef, ee]
        rw [dv_cons, if_neg, ht]
        · rintro ⟨z1, z2⟩
          rcases hc with z | ⟨l', z3, z4⟩
          · rw [z] at z1
            cases z1
          · rw [hl] at z3
            cases z3
            exact z4 z2
      · refine (qb i c ?_).same sm
        obtain ⟨hlt, hle⟩ := List.getElem?_eq_some_iff.mp hl
        have ed : ls.drop i = l :: ls.drop (i + 1) := by rw [List.drop_eq_getElem_cons hlt, hle]
        rw [← hdv, ed]
        rw [dv_cons, if_neg, ht]
        · rintro ⟨z1, z2⟩
          rcases hc with z | ⟨l', z3, z4⟩
          · rw [z] at z1
            cases z1
          · rw [hl] at z3
            cases z3
            exact z4 z2
      · refine (qb ls.length 0 ?_).same sm
        have ei : i = ls.length := by omega
        have e1 : ps.isEmpty = true := by
          rcases hc with z | ⟨l', z3, _⟩
          · exact z
          · rw [List.getElem?_eq_none hi] at z3
            cases z3
        rw [← hdv, List.drop_of_length_le hi, e1, ei]
        rfl
    have fin : ¬ (ps.isEmpty = true ∨ ∃ l, ls[i]? = some l ∧ ¬ l.head? = some 62) → ∀ q H'', Same H' H'' → H' q = none → H'' q = some (.tup [.str (T ps.flatten), .int ((i : Nat) : Int)]) → Q (.ref q) H'' := by
      intro hc q H'' s2 hq e
      refine qg ps.flatten i ?_ H'' q (sm.trans s2) (sm.free hq) e
      rw [← hdv]
      have e1 : ps.isEmpty = false := Bool.eq_false_iff.mpr fun z => hc (.inl z)
      by_cases hi : i < ls.length
      · have ed : ls.drop i = ls[i] :: ls.drop (i + 1) := List.drop_eq_getElem_cons hi
        have hh : ls[i].head? = some 62 := Decidable.byContradiction fun z => hc (.inr ⟨_, List.getElem?_eq_getElem hi, z⟩)
        rw [ed, e1]
        rw [dv_cons, if_pos ⟨rfl, hh⟩]
      · rw [List.drop_of_length_le (by omega), e1]
        rfl
    refine ⟨.ref p, rfl, !ps.isEmpty, .inl ⟨_, .inl (.inl hx), by cases ps <;> rfl⟩, ?_⟩
    by_cases he : ps.isEmpty = true
    · have hc : ps.isEmpty = true ∨ ∃ l, ls[i]? = some l ∧ ¬ l.head? = some 62 := .inl he
      rw [he]
      refine iteT (iteT ?_)
      refine ⟨fun σ' H'' => ∃ m', m' < m ∧ DivInv a p ls j H m' σ' H'', fun _ _ h => h, ?_⟩
      obtain ⟨bg, bb, be⟩ := body hc
      refine ⟨.ref a, rfl, .int i, rfl, .int r, rfl, a, ls, i, r, rfl, hS', hlen, be, fun l hl ht => ?_, bb⟩
      obtain ⟨n0, er, ef, ed⟩ := bg l hl ht
      have hz : (T l).length ≤ sizeLine := line_ok6 (by rw [T_len]; exact hlen l (List.mem_of_getElem? hl))
      refine ⟨.ref p, rfl, .inl ⟨rfl, _, .inl (.inl hx)⟩, .str (T l), rfl, p, _, _, rfl, rfl, hx, line_lt (by rw [List.length_map, List.length_map]; omega), ?_⟩
      refine ⟨.int r, rfl, .str (T l), rfl, T l, rfl, hz, _, _, rfl, rfl, ?_⟩
      refine ⟨.int i, rfl, _, _, rfl, rfl, ?_⟩
      refine ⟨m - 1, by omega, i + 1, r - l.length, ps ++ [l], some (.str (T l)), ?_, by omega, ?_, ?_, ef, ?_, ed⟩
      · rw [T_len, ← er]
        rfl
      · intro b o e
        rw [upd_ne (ne_of_none e hp)]
        exact sm b o e
      · rw [upd_same, List.map_append, List.map_append]
        rfl
      · rw [List.length_append, List.length_singleton]
        omega
    · rw [Bool.eq_false_iff.mpr he]
      refine iteF ⟨.int i, rfl, .ref a, rfl, a, _, rfl, .inl hS', i, _, rfl, rfl, _, rfl, ite2 (fun e => ?_) (fun e => iteF ?_)⟩
      · have e1 : ((i : Nat) : Int) < ((ls.map fun l => V.str (T l)).length : Int) := of_decide_eq_true e
        rw [List.length_map] at e1
        have hlt : i < ls.length := by omega
        have hat : (ls.map fun l => V.str (T l))[i]? = some (.str (T ls[i])) := by
          rw [List.getElem?_map, List.getElem?_eq_getElem hlt]
          rfl
        refine ⟨.ref a, rfl, .int i, rfl, a, _, i, .str (T ls[i]), rfl, rfl, hS', atI_nat hat, rfl, _, _, rfl, rfl, _, rfl, ?_⟩
        rw [gt_text, start_one]
        by_cases hh : ls[i].head? = some 62
        · have hn : ¬ (ps.isEmpty = true ∨ ∃ l, ls[i]? = some l ∧ ¬ l.head? = some 62) := by
            rintro (z | ⟨l, z1, z2⟩)
            · exact he z
            · rw [List.getElem?_eq_getElem hlt] at z1
              cases z1
              exact z2 hh
          rw [decide_eq_true hh]
          refine iteF ?_
          refine ⟨⟨_, rfl⟩, .ref p, rfl, _, p, ps.map T, rfl, rfl, .inl (.inl (.inl hx)), ?_, .int i, rfl, by show 2 ≤ sizeLine; decide, fun q hq => ?_⟩
          · rw [sum_flat, show (Str.ofString "").length = 0 by decide +kernel]
            omega
          · refine fin hn q _ (same_upd hq) hq ?_
            rw [upd_same, TL.join_eq, T_nil, join_flat]
        · have hc : ps.isEmpty = true ∨ ∃ l, ls[i]? = some l ∧ ¬ l.head? = some 62 := .inr ⟨_, List.getElem?_eq_getElem hlt, hh⟩
          rw [decide_eq_false hh]
          refine iteT ?_
          refine ⟨fun σ' H'' => ∃ m', m' < m ∧ DivInv a p ls j H m' σ' H'', fun _ _ h => h, ?_⟩
          obtain ⟨bg, bb, be⟩ := body hc
          refine ⟨.ref a, rfl, .int i, rfl, .int r, rfl, a, ls, i, r, rfl, hS', hlen, be, fun l hl ht => ?_, bb⟩
          obtain ⟨n0, er, ef, ed⟩ := bg l hl ht
          have hz : (T l).length ≤ sizeLine := line_ok6 (by rw [T_len]; exact hlen l (List.mem_of_getElem? hl))
          refine ⟨.ref p, rfl, .inl ⟨rfl, _, .inl (.inl hx)⟩, .str (T l), rfl, p, _, _, rfl, rfl, hx, line_lt (by rw [List.length_map, List.length_map]; omega), ?_⟩
          refine ⟨.int r, rfl, .str (T l), rfl, T l, rfl, hz, _, _, rfl, rfl, ?_⟩
          refine ⟨.int i, rfl, _, _, rfl, rfl, ?_⟩
          refine ⟨m - 1, by omega, i + 1, r - l.length, ps ++ [l], some (.str (T l)), ?_, by omega, ?_, ?_, ef, ?_, ed⟩
          · rw [T_len, ← er]
            rfl
          · intro b o e
            rw [upd_ne (ne_of_none e hp)]
            exact sm b o e
          · rw [upd_same, List.map_append, List.map_append]
            rfl
          · rw [List.length_append, List.length_singleton]
            omega
      · have e1 : ¬ ((i : Nat) : Int) < ((ls.map fun l => V.str (T l)).length : Int) := fun z => e (decide_eq_true z)
        rw [List.length_map] at e1
        have hn : ¬ (ps.isEmpty = true ∨ ∃ l, ls[i]? = some l ∧ ¬ l.head? = some 62) := by
          rintro (z | ⟨l, z1, z2⟩)
          · exact he z
          · rw [List.getElem?_eq_none (by omega)] at z1
            cases z1
        refine ⟨⟨_, rfl⟩, .ref p, rfl, _, p, ps.map T, rfl, rfl, .inl (.inl (.inl hx)), ?_, .int i, rfl, by show 2 ≤ sizeLine; decide, fun q hq => ?_⟩
        · rw [sum_flat, show (Str.ofString "").length = 0 by decide +kernel]
          omega
        · refine fin hn q _ (same_upd hq) hq ?_
          rw [upd_same, TL.join_eq, T_nil, join_flat]
end
/-! ### texts in lines of k letters -/
def ch (k : Nat) (t : List Nat) : List (List Nat) := (List.range ((t.length + k - 1) / k)).map fun i => (t.drop (i * k)).take k
theorem ch_part (k : Nat) (t : List Nat) : ∀ n : Nat, ((List.range n).map fun i => (t.drop (i * k)).take k).flatten = t.take (n * k)
  | 0 => by
    rw [Nat.zero_mul, List.take_zero]
    rfl
  | n + 1 => by
    rw [List.range_succ, List.map_append, List.flatten_append, ch_part k t n, Nat.succ_mul, List.take_add]
    simp
theorem ch_flat {k : Nat} (hk : 0 < k) (t : List Nat) : (ch k t).flatten = t := by
  unfold ch
  rw [ch_part]
  refine List.take_of_length_le ?_
  have h1 := Nat.div_add_mod (t.length + k - 1) k
  have h2 := Nat.mod_lt (t.length + k - 1) hk
  rw [Nat.mul_comm]
  omega
theorem ch_lt {k i : Nat} (hk : 0 < k) {t : List Nat} (hi : i < (t.length + k - 1) / k) : i * k < t.length := by
  have h1 := Nat.div_mul_le_self (t.length + k - 1) k
  have h2 : (i + 1) * k ≤ (t.length + k - 1) / k * k := Nat.mul_le_mul_right k hi
  rw [Nat.succ_mul] at h2
  omega
theorem ch_mem {k : Nat} (hk : 0 < k) {t l : List Nat} (h : l ∈ ch k t) : l ≠ [] ∧ ∀ c ∈ l, c ∈ t := by
  obtain ⟨i, hi, rfl⟩ := List.mem_map.mp h
  have hlt := ch_lt hk (List.mem_range.mp hi)
  refine ⟨fun z => ?_, fun c hc => List.mem_of_mem_drop (List.mem_of_mem_take hc)⟩
  have e := congrArg List.length z
  rw [List.length_take, List.length_drop, List.length_nil] at e
  omega
theorem ch_len (k : Nat) (t : List Nat) : (ch k t).length = (t.length + k - 1) / k := by
  unfold ch
  rw [List.length_map, List.length_range]
theorem ch_get {k i : Nat} {t : List Nat} (hi : i < (t.length + k - 1) / k) : (ch k t)[i]? = some ((t.drop (i * k)).take k) := by
  unfold ch
  rw [List.getElem?_map, List.getElem?_range hi]
  rfl
theorem rg_ch {n k : Nat} (hn : n ≤ 1000000) (h1 : 1 ≤ k) (hk : k ≤ 1000) : RgC 0 (n : Int) (k : Int) ((n + k - 1) / k) := by
  have h0 : (0 : Int) ≤ (n : Int) := by omega
  have hc : (1 : Int) ≤ (k : Int) := by omega
  have e : (((n + k - 1) / k : Nat) : Int) = ((n : Int) + (k : Int) - 1) / (k : Int) := by
    rw [Int.natCast_ediv, show ((n + k - 1 : Nat) : Int) = (n : Int) + (k : Int) - 1 by omega]
  refine ⟨by omega, by omega, ?_, ?_⟩
  · unfold Builtin.Range.small
    rw [rangeSize_pos hc h0, ← e]
    have q1 : (n + k - 1) / k ≤ n + k - 1 := Nat.div_le_self _ _
    generalize (n + k - 1) / k = qq at q1
    simp only [Builtin.Range.rangeFitsLong, Bool.and_eq_true, Bool.or_eq_true, decide_eq_true_eq, beq_iff_eq]
    refine ⟨⟨⟨⟨by omega, by omega, by omega⟩, by omega, by omega⟩, by omega, by omega⟩, .inr ?_⟩
    rw [if_pos (by omega), Bool.and_eq_true, decide_eq_true_eq, decide_eq_true_eq]
    omega
  · rw [rangeSize_pos hc h0, e]
theorem cut_mid (l : List Nat) (a b : Nat) : cutS (T l) (some (a : Int)) (some (b : Int)) = T ((l.drop a).take (b - a)) := by
  unfold cutS
  rw [HT.sIx_nat, HT.sIx_nat, T_len, T_list]
  show Str.mk _ = Str.mk _
  congr 2
  by_cases ha : a ≤ l.length
  · rw [Nat.min_eq_left ha]
    by_cases hb : b ≤ l.length
    · rw [Nat.min_eq_left hb]
    · rw [Nat.min_eq_right (by omega), List.take_of_length_le (by rw [List.length_drop]; omega), List.take_of_length_le (by rw [List.length_drop]; omega)]
  · rw [Nat.min_eq_right (a := a) (by omega), List.drop_of_length_le (Nat.le_refl _), List.drop_of_length_le (by omega), List.take_nil, List.take_nil]
/-! ### pairs of name and text -/
def Tups (H : Hp) : List V → List (List Nat × List Nat) → Prop := Paired fun v r => ∃ q, v = .ref q ∧ H q = some (.tup [.str (T r.1), .str (T r.2)])
theorem Tups.mono {H H' : Hp} {xs : List V} {rs : List (List Nat × List Nat)} (h : Tups H xs rs) (k : ∀ q ys, H q = some (.tup ys) → H' q = some (.tup ys)) : Tups H' xs rs :=
  Paired.mapP h fun _ _ ⟨q, e, t⟩ => ⟨q, e, k q _ t⟩
theorem Tups.snoc {H : Hp} {xs : List V} {rs : List (List Nat × List Nat)} {q : Addr} {r : List Nat × List Nat} (h : Tups H xs rs) (e : H q = some (.tup [.str (T r.1), .str (T r.2)])) : Tups H (xs ++ [.ref q]) (rs ++ [r]) :=
  Paired.snoc h ⟨q, rfl, e⟩
theorem paired_len {α β : Type} {F : α → β → Prop} : ∀ {xs : List α} {ys : List β}, Paired F xs ys → xs.length = ys.length
  | _, _, .nil => rfl
  | _, _, .cons _ t => congrArg (· + 1) (paired_len t)
theorem paired_get {α β : Type} {F : α → β → Prop} : ∀ {xs : List α} {ys : List β} {i : Nat} {x : α}, Paired F xs ys → xs[i]? = some x → ∃ y, ys[i]? = some y ∧ F x y
  | _, _, 0, _, .cons r _, e => ⟨_, rfl, by cases e; exact r⟩
  | _, _, i + 1, _, .cons _ t, e => paired_get (i := i) t e
def rr (ls : List (List Nat)) : Nat → Nat → List (List Nat × List Nat) → Except (Nat × Nat) (List (List Nat × List Nat))
  | 0, _, acc => .ok acc
  | n + 1, i, acc =>
    match ls[i]? with
    | none => .ok acc
    | some l =>
      match nameFault 62 l with
      | some c => .error (i, c)
      | none =>
        match dv (ls.drop (i + 1)) (i + 1) 100000 [] true with
        | .error e => .error e
        | .ok (t, i') => rr ls n i' (acc ++ [(l.drop 1, t)])
theorem dv_le : ∀ (r : List (List Nat)) (i room : Nat) (acc : List Nat) (e : Bool) {t : List Nat} {i' : Nat}, dv r i room acc e = .ok (t, i') → i ≤ i' ∧ i' ≤ i + r.length
  | [], i, room, acc, e, t, i', h => by
    cases e with
    | true => cases h
    | false =>
      cases h
      exact ⟨Nat.le_refl _, Nat.le_refl _⟩
  | l :: r, i, room, acc, e, t, i', h => by
    rw [dv_cons] at h
    by_cases c : e = false ∧ l.head? = some 62
    · rw [if_pos c] at h
      cases h
      exact ⟨Nat.le_refl _, Nat.le_add_right _ _⟩
    · rw [if_neg c] at h
      cases ht : textFault room l with
      | some d =>
        rw [ht] at h
        cases h
      | none =>
        rw [ht] at h
        have := dv_le r (i + 1) (room - l.length) (acc ++ l) false h
        rw [List.length_cons]
        omega
section
variable {P : Program} {w : World} {K : PySem.W.Frag} {mg : Str → Option Value} {base : Heap}
def spReadRefs (K : PySem.W.Frag) (C : Addr) : Sp := fun vs H Q E => ∃ (a : Addr) (ls : List (List Nat)), vs = [.ref a] ∧ SqS K H a ls ∧ (∀ l ∈ ls, l.length ≤ 1000000) ∧ ls.length ≤ 100000 ∧
  (∀ rs, rr ls ls.length 0 [] = .ok rs → ∀ (H' : Hp) (p : Addr) (xs : List V), Same H H' → H p = none → H' p = some (.lst xs) → Tups H' xs rs → Q (.ref p) H') ∧ ∀ l c, rr ls ls.length 0 [] = .error (l, c) → Bad E C H l c
/-- between two turns -/
def RefInv (a p : Addr) (ls : List (List Nat)) (H : Hp) (m : Nat) (σ : L2.St) (H' : Hp) : Prop :=
  ∃ (i n : Nat) (xs : List V) (rs : List (List Nat × List Nat)) (nv tv : Option V), σ = [some (.ref a), some (.ref p), some (.int (i : Nat)), nv, tv] ∧ m + i = ls.length ∧ ls.length ≤ i + n ∧ Same H H' ∧ H' p = some (.lst xs) ∧ Tups H' xs rs ∧ xs.length ≤ i ∧
    rr ls n i rs = rr ls ls.length 0 []
theorem ok_readRefs {f C : Addr} {fd : FuncData} {k : Nat} (F : Fun K "read_references" "read_references" sReadRefs f fd) (ml : mg "len" = none)
    (hN : HasX P w K mg base 4 "_name_line" ["lines", "at", "sign"] (spName K C)) (hD : HasX P w K mg base 5 "_divided_text" ["lines", "at"] (spDiv K C)) : FnOk P w K mg base (L2.CX P w) (k + 6) f fd ["lines"] (spReadRefs K C) := by
  obtain ⟨fN, dN, GN, gN, kN, bN⟩ := hN
  obtain ⟨fD, dD, GD, gD, kD, bD⟩ := hD
  refine F.okX scReadRefs (fun vs H Q E h => ?_) (fun cdv A outer s H vs Q E hr h => ?_)
  · obtain ⟨a, ls, rfl, _⟩ := h
    rfl
  · obtain ⟨a, ls, rfl, hS, hlen, hls, qg, qb⟩ := h
    refine ⟨_, pss_cons (ps_set (i := 1) scReadRefs.nd rfl (.inl rfl) (pe_lst pa_nil))
      (pss_cons (ps_set (i := 2) scReadRefs.nd rfl (.inl rfl) pe_int)
      (pss_cons (ps_while (passes_of rfl) (pt_cmpR op_lt (pv 2) (pe_callB call_len_seq (by rfl) ml PySem.boot_len (pa_cons (pv 0) pa_nil)) (nomark _))
        (pss_cons (ps_set (i := 3) scReadRefs.nd rfl (.inl rfl) (pe_call GN (hr.mono (by omega)) (by rfl) gN kN bN .nil (passes_call (takes_of rfl rfl rfl rfl) fun _ _ _ _ h => h) (pa_cons (pv 0) (pa_cons (pv 2) (pa_cons pe_str pa_nil)))))
        (pss_cons (ps_asg (pe_call GD (hr.mono (by omega)) (by rfl) gD kD bD .nil (passes_call (takes_of rfl rfl rfl rfl) fun _ _ _ _ h => h) (pa_cons (pv 0) (pa_cons (pe_op op_add (pv 2) pe_int) pa_nil)))
            (pg_tup rfl (pgs_cons (pg_name (i := 4) scReadRefs.nd rfl (.inl rfl)) (pgs_cons (pg_name (i := 2) scReadRefs.nd rfl (.inl rfl)) pgs_nil))))
        (pss_one (ps_expr (pe_bm PySem.F.plainAttrs_list PySem.F.slot_list_append PySem.F.type_list_append mt_append (pv 1) (pa_cons (pe_tup (pa_cons (pv 3) (pa_cons (pv 4) pa_nil))) pa_nil)))))))
      (pss_one (ps_ret (pv 1))))), ?_⟩
    refine ⟨Nat.zero_le _, fun p hp => ?_⟩
    refine ⟨RefInv a p ls H, ⟨ls.length, 0, ls.length, [], [], none, none, rfl, rfl, by omega, same_upd hp, upd_same, .nil, Nat.zero_le _, rfl⟩, ?_⟩
    rintro m σ H' ⟨i, n, xs, rs, nv, tv, rfl, em, hn, sm, hx, ht, hxl, hrr⟩
    have hS' : SqS K H' a ls := sm.seq hS
    refine ⟨.int i, rfl, .ref a, rfl, a, _, rfl, .inl hS', i, _, rfl, rfl, _, rfl, ite2 (fun e => ?_) (fun e => ?_)⟩
    · have e1 : ((i : Nat) : Int) < ((ls.map fun l => V.str (T l)).length : Int) := of_decide_eq_true e
      rw [List.length_map] at e1
      have hlt : i < ls.length := by omega
      obtain ⟨n', rfl⟩ : ∃ n', n = n' + 1 := ⟨n - 1, by omega⟩
      refine ⟨fun σ' H'' => ∃ m', m' < m ∧ RefInv a p ls H m' σ' H'', fun _ _ h => h, ?_⟩
      refine ⟨.ref a, rfl, .int i, rfl, a, ls, i, 62, by rw [gt_text]; rfl, hS', hlen, fun z => by omega, fun l hl hnf => ?_, fun l c hl hnf => ?_⟩
      · refine ⟨.ref a, rfl, .int i, rfl, i, 1, rfl, rfl, a, ls, i + 1, rfl, hS', hlen, hls, by omega, fun t i' hdv H2 q s2 hq hqe => ?_, fun l' c hdv => ?_⟩
        · have hle := dv_le _ _ _ _ _ hdv
          rw [List.length_drop] at hle
          have hx2 : H2 p = some (.lst xs) := s2 _ _ hx
          refine ⟨q, [.str (T t), .int (i' : Nat)], rfl, .inl (.inl hqe), rfl, _, _, rfl, _, _, rfl, rfl, ?_⟩
          refine ⟨.ref p, rfl, .inl ⟨rfl, _, .inl (.inl hx2)⟩, .str (T (l.drop 1)), rfl, .str (T t), rfl, by show 2 ≤ sizeLine; decide, fun q2 hq2 => ?_⟩
          have np : p ≠ q2 := ne_of_none hx2 hq2
          refine ⟨p, xs, _, rfl, rfl, by rw [upd_ne np]; exact hx2, line_lt (by omega), ?_⟩
          refine ⟨ls.length - i', by omega, i', n', xs ++ [.ref q2], rs ++ [(l.drop 1, t)], _, _, rfl, by omega, by omega, fun b o hb => ?_, upd_same, ?_, by rw [List.length_append, List.length_singleton]; omega, ?_⟩
          · rw [upd_ne (ne_of_none hb hp), upd_ne (ne_of_none (s2 _ _ (sm _ _ hb)) hq2)]
            exact s2 _ _ (sm _ _ hb)
          · refine Tups.snoc (ht.mono fun b ys hb => ?_) ?_
            · have n1 : b ≠ p := fun z => by
                rw [z, hx] at hb
                cases hb
              rw [upd_ne n1, upd_ne (ne_of_none (s2 _ _ hb) hq2)]
              exact s2 _ _ hb
            · rw [upd_ne np.symm, upd_same]
          · rw [← hrr]
            conv => rhs; unfold rr
            rw [hl]
            dsimp only
            rw [hnf]
            dsimp only
            rw [hdv]
        · refine (qb l' c ?_).same sm
          rw [← hrr]
          unfold rr
          rw [hl]
          dsimp only
          rw [hnf]
          dsimp only
          rw [hdv]
      · refine (qb i c ?_).same sm
        rw [← hrr]
        unfold rr
        rw [hl]
        dsimp only
        rw [hnf]
    · have e1 : ¬ ((i : Nat) : Int) < ((ls.map fun l => V.str (T l)).length : Int) := fun z => e (decide_eq_true z)
      rw [List.length_map] at e1
      refine ⟨.ref p, rfl, qg rs ?_ H' p xs sm hp hx ht⟩
      rw [← hrr]
      cases n with
      | zero => rfl
      | succ n =>
        unfold rr
        rw [List.getElem?_eq_none (by omega)]
end
/-! ### data as a whole -/
def Asc (l : List Nat) : Prop := ∀ c ∈ l, c < 128
def dS (l : List Nat) : PyData := .str (T l)
def dL (ls : List (List Nat)) : PyData := .list (ls.map dS)
def dR (rs : List (List Nat × List Nat)) : PyData := .list (rs.map fun r => .tuple [dS r.1, dS r.2])
theorem can_dS {l : List Nat} (h : Asc l) : (dS l).canLay0 = true := by
  show PyData.strOk (T l) = true
  unfold PyData.strOk
  rw [Array.all_eq_true]
  intro i hi
  have hi2 : i < l.length := by rw [T_size] at hi; exact hi
  have e : (T l).cps[i]? = l[i]? := T_at l i
  rw [Array.getElem?_eq_getElem hi, List.getElem?_eq_getElem hi2] at e
  rw [Option.some.inj e]
  have := h _ (List.getElem_mem hi2)
  exact decide_eq_true (by omega)
theorem can_dL {ls : List (List Nat)} (h : ∀ l ∈ ls, Asc l) : (dL ls).canLay0 = true := by
  show PyData.canLayAll0 (ls.map dS) = true
  induction ls with
  | nil => rfl
  | cons l r ih =>
    show ((dS l).canLay0 && PyData.canLayAll0 (r.map dS)) = true
    rw [can_dS (h l List.mem_cons_self), ih fun x hx => h x (List.mem_cons_of_mem _ hx)]
    rfl
theorem depth_dL (ls : List (List Nat)) : PyData.depth (dL ls) ≤ 64 := by
  have : PyData.depthAll (ls.map dS) = 0 := by
    induction ls with
    | nil => rfl
    | cons l r ih =>
      show max (PyData.depth (dS l)) (PyData.depthAll (r.map dS)) = 0
      rw [ih]
      rfl
  show PyData.depthAll (ls.map dS) + 1 ≤ 64
  omega
theorem shaped_dL {ls : List (List Nat)} (h : ∀ l ∈ ls, Asc l) : SeqAt.shaped (dL ls) = true := by
  unfold SeqAt.shaped
  rw [can_dL h, decide_eq_true (depth_dL ls)]
  rfl
theorem can_dR {rs : List (List Nat × List Nat)} (h : ∀ r ∈ rs, Asc r.1 ∧ Asc r.2) : (dR rs).canLay0 = true := by
  show PyData.canLayAll0 (rs.map fun r => .tuple [dS r.1, dS r.2]) = true
  induction rs with
  | nil => rfl
  | cons l r ih =>
    show (((dS l.1).canLay0 && ((dS l.2).canLay0 && true)) && PyData.canLayAll0 (r.map fun r => .tuple [dS r.1, dS r.2])) = true
    rw [can_dS (h l List.mem_cons_self).1, can_dS (h l List.mem_cons_self).2, ih fun x hx => h x (List.mem_cons_of_mem _ hx)]
    rfl
theorem depth_dR (rs : List (List Nat × List Nat)) : PyData.depth (dR rs) ≤ 64 := by
  have : PyData.depthAll (rs.map fun r => .tuple [dS r.1, dS r.2]) ≤ 1 := by
    induction rs with
    | nil => exact Nat.zero_le _
    | cons l r ih =>
      show max (max 0 (max 0 0) + 1) (PyData.depthAll (r.map fun r => .tuple [dS r.1, dS r.2])) ≤ 1
      omega
  show PyData.depthAll (rs.map fun r => .tuple [dS r.1, dS r.2]) + 1 ≤ 64
  omega
theorem shaped_dR {rs : List (List Nat × List Nat)} (h : ∀ r ∈ rs, Asc r.1 ∧ Asc r.2) : SeqAt.shaped (dR rs) = true := by
  unfold SeqAt.shaped
  rw [can_dR h, decide_eq_true (depth_dR rs)]
  rfl
section
variable {K : PySem.W.Frag}
theorem dp_strs {H : Hp} : ∀ ls : List (List Nat), DpAll K H (ls.map fun l => V.str (T l)) (ls.map dS)
  | [] => .nil
  | l :: r => .cons (.str _) (dp_strs r)
theorem dp_dL {H : Hp} {a : Addr} {ls : List (List Nat)} (h : SqS K H a ls) : Dp K H (.ref a) (dL ls) := .lst h (dp_strs ls)
theorem dp_tups {H : Hp} : ∀ {xs : List V} {rs : List (List Nat × List Nat)}, Tups H xs rs → DpAll K H xs (rs.map fun r => .tuple [dS r.1, dS r.2])
  | _, _, .nil => .nil
  | _, _, .cons ⟨_, e, h⟩ t => .cons (by rw [e]; exact .tup (.inl (.inl h)) (.cons (.str _) (.cons (.str _) .nil))) (dp_tups t)
theorem dp_dR {H : Hp} {a : Addr} {xs : List V} {rs : List (List Nat × List Nat)} (h : SqL K H a xs) (t : Tups H xs rs) : Dp K H (.ref a) (dR rs) := .lst h (dp_tups t)
end
theorem sg_asc {c : Nat} (h : Sg c) : c < 128 := by
  rcases h with h | h | h | h | h <;> omega
theorem dna_asc {l : List Nat} (h : Dna l) : Asc l := fun c hc => sg_asc (h c hc)
/-! ### what the law itself says of one line -/
section
variable {P : Program} {w : World} {K : PySem.W.Frag} {mg : Str → Option Value} {base : Heap}
theorem ncl_asc : ∀ c ∈ ncl, c < 128 := by decide
theorem ncl_text : Str.ofString "0123456789ABCDEFGHIJKLMNOPQRSTUVWXYZabcdefghijklmnopqrstuvwxyz" = T ncl := by decide +kernel
theorem lets_text : Str.ofString "ACGTN" = T lets := by decide +kernel
theorem ok_lfirst {f : Addr} {fd : FuncData} {k : Nat} (F : Fun K "_law_first" "_law_first" sLFirst f fd) (B : Bl mg) : FnOk P w K mg base CX0 (k + 1) f fd ["line", "start", "signs"] spFirst := by
  refine F.ok scLFirst (fun vs H Q E h => ?_) (fun cdv A outer s H vs Q E hr h => ?_)
  · obtain ⟨l, al, b, rfl, _⟩ := h
    rfl
  · obtain ⟨l, al, b, rfl, hb, hl, q⟩ := h
    refine ⟨_, pss_cons (ps_for PassesOwn.never rfl (pi_range2 rfl B.range (pa_cons (pv 1) (pa_cons (pe_callB call_len_str (by rfl) B.len PySem.boot_len (pa_cons (pv 0) pa_nil)) pa_nil))) (pg_name (i := 3) scLFirst.nd rfl (.inl rfl))
        (pss_one (ps_if (pt_cmpR op_notIn_sign (pe_ix ix_str (pv 0) (pv 3) (fun _ _ => rfl)) (pv 2) rfl) (pss_one (ps_ret (pv 3))) pss_nil)))
      (pss_one (ps_ret (pe_callB call_len_str (by rfl) B.len PySem.boot_len (pa_cons (pv 0) pa_nil)))), ?_⟩
    have hz : (T l).length ≤ sizeLine := line_ok6 (by rw [T_len]; exact hl)
    refine ⟨.int b, rfl, .str (T l), rfl, T l, rfl, hz, b, (T l).length, rfl, ⟨by omega, by omega, by omega, by rw [T_len]; omega⟩, ?_⟩
    rw [show (((T l).length : Nat) : Int) = ((l.length : Nat) : Int) by rw [T_len], show (((l.length : Nat) : Int) - ((b : Nat) : Int)).toNat = l.length - b by omega]
    refine for_range (lo := b) (n := l.length - b) (fun i σ H' => H' = H ∧ i ≤ ((l.drop b).findIdx fun c => decide (c ∉ al)) ∧ ∃ cv, σ = [some (.str (T l)), some (.int b), some (.str (T al)), cv]) ⟨rfl, Nat.zero_le _, none, rfl⟩ ?_ ?_
    · rintro i σ H' hi ⟨rfl, hle, cv, rfl⟩
      have hlt : b + i < l.length := by omega
      have hc : l[b + i]? = some l[b + i] := List.getElem?_eq_getElem hlt
      refine ⟨.str (T l), rfl, .int ((b : Int) + (i : Nat)), rfl, T l, _, l[b + i], rfl, rfl, hz, ?_, .str (T al), rfl, l[b + i], T al, rfl, rfl, _, rfl, ite2 (fun e => ?_) (fun e => ?_)⟩
      · rw [show (b : Int) + ((i : Nat) : Int) = ((b + i : Nat) : Int) by omega]
        exact atI_nat hc
      · have hout : l[b + i] ∉ al := by
          have e1 : (!decide (l[b + i] ∈ al)) = true := e
          simpa using e1
        refine ⟨.int ((b : Int) + (i : Nat)), rfl, ?_⟩
        rw [fo_here hc hout hle] at q
        rw [show (b : Int) + ((i : Nat) : Int) = ((b + i : Nat) : Int) by omega]
        exact q
      · have hin : l[b + i] ∈ al := by
          have e1 : ¬ (!decide (l[b + i] ∈ al)) = true := e
          simpa using e1
        exact ⟨rfl, fo_step hc hin hle, _, rfl⟩
    · rintro σ H' ⟨rfl, hle, cv, rfl⟩
      rw [fo_end hb hle] at q
      refine ⟨.str (T l), rfl, T l, rfl, hz, ?_⟩
      rw [T_len]
      exact q
/-- a fault's column, or -1 -/
def col : Option Nat → Int
  | some c => (c : Int)
  | none => -1
theorem cut_head (l : List Nat) (k : Nat) : cutS (T l) none (some (k : Int)) = T (l.take k) := by
  unfold cutS
  rw [HT.sIx_nat, HT.sIx_none, T_len, T_list, List.drop_zero, Nat.sub_zero]
  show Str.mk _ = Str.mk _
  congr 2
  by_cases h : k ≤ l.length
  · rw [Nat.min_eq_left h]
  · rw [Nat.min_eq_right (by omega), List.take_of_length_le (Nat.le_refl _), List.take_of_length_le (by omega)]
theorem head_one (l : List Nat) (s : Nat) : l.take 1 = [s] ↔ l.head? = some s := by
  cases l with
  | nil => simp
  | cons c r => simp
def spLNameF : Sp := fun vs H Q _ => ∃ (l : List Nat) (sg : Nat), vs = [.str (T l), .str (T [sg])] ∧ l.length ≤ 1000000 ∧ Q (.int (col (nameFault sg l))) H
theorem ok_lnameF {f : Addr} {fd : FuncData} {k : Nat} (F : Fun K "_law_name_fault" "_law_name_fault" sLNameF f fd) (B : Bl mg) (mm : mg "min" = none) (hF : Has P w K mg base (k + 1) "_law_first" ["line", "start", "signs"] spFirst) : FnOk P w K mg base CX0 (k + 1 + 1) f fd ["line", "head"] spLNameF := by
  obtain ⟨fF, dF, GF, gF, kF, bF⟩ := hF
  refine F.ok scLNameF (fun vs H Q E h => ?_) (fun cdv A outer s H vs Q E hr h => ?_)
  · obtain ⟨l, sg, rfl, _⟩ := h
    rfl
  · obtain ⟨l, sg, rfl, hl, q⟩ := h
    refine ⟨_, pss_cons (ps_if (pt_cmpR op_ne (pe_slice sl_str (pv 0) po_none (po_some pe_int)) (pv 1) (nomark _)) (pss_one (ps_ret pe_int)) pss_nil)
      (pss_cons (ps_set (i := 2) scLNameF.nd rfl (.inl rfl) pe_str)
      (pss_cons (ps_set (i := 3) scLNameF.nd rfl (.inl rfl) (pe_callB (call_min2 rfl) (by rfl) mm (by decide +kernel) (pa_cons pe_int (pa_cons (pe_call GF hr (by rfl) gF kF bF .nil pass0 (pa_cons (pv 0) (pa_cons pe_int (pa_cons (pv 2) pa_nil)))) pa_nil))))
      (pss_cons (ps_if (PW.pt (pw_or (pt_cmpR op_eq (pe_callB call_len_str (by rfl) B.len PySem.boot_len (pa_cons (pv 0) pa_nil)) pe_int (nomark _)) (pw_or1 (pt_cmpR op_lt (pv 3) (pe_callB call_len_str (by rfl) B.len PySem.boot_len (pa_cons (pv 0) pa_nil)) (nomark _)))))
        (pss_one (ps_ret (pv 3))) pss_nil)
      (pss_one (ps_ret (pe_un un_neg pe_int)))))), ?_⟩
    have hz : (T l).length ≤ sizeLine := line_ok6 (by rw [T_len]; exact hl)
    refine ⟨.str (T l), rfl, 1, rfl, T l, rfl, hz, .str (T [sg]), rfl, rfl, _, rfl, ?_⟩
    rw [show ((1 : Int)) = ((1 : Nat) : Int) from rfl, cut_head]
    by_cases hh : l.head? = some sg
    · rw [(head_one l sg).mpr hh]
      refine iteNS rfl ?_
      have h1 : 1 ≤ l.length := by
        cases l with
        | nil => cases hh
        | cons c r => simp
      refine ⟨.str (T l), rfl, .str (Str.ofString _), rfl, l, ncl, 1, by rw [← ncl_text]; rfl, h1, hl, 41, _, rfl, ?_⟩
      rw [show (41 : Int) = ((41 : Nat) : Int) from rfl, min_int, Nat.min_comm]
      have hfl : (min (fo l ncl 1) 41 < l.length ∨ l.length = 1) → nameFault sg l = some (min (fo l ncl 1) 41) := fun z => by
        unfold nameFault
        rw [if_pos hh, if_pos z]
      refine ⟨.str (T l), rfl, T l, rfl, hz, rfl, _, rfl, ite2 (fun e2 => ?_) (fun e2 => ?_)⟩
      · have e3 : (V.int ((T l).length : Nat)) = V.int 1 := of_decide_eq_true e2
        rw [T_len] at e3
        have e4 : ((l.length : Nat) : Int) = 1 := V.int.inj e3
        rw [hfl (.inr (by omega))] at q
        exact iteT ⟨_, rfl, q⟩
      · have e3 : ¬ (V.int ((T l).length : Nat)) = V.int 1 := fun z => e2 (decide_eq_true z)
        rw [T_len] at e3
        have e4 : ¬ l.length = 1 := fun z => e3 (by rw [z]; rfl)
        refine ⟨_, rfl, .str (T l), rfl, T l, rfl, hz, _, _, rfl, rfl, _, rfl, ite2 (fun e => ?_) (fun e => ?_)⟩
        · have e1 : ((min (fo l ncl 1) 41 : Nat) : Int) < (((T l).length : Nat) : Int) := of_decide_eq_true e
          rw [T_len] at e1
          rw [hfl (.inl (by omega))] at q
          exact ⟨_, rfl, q⟩
        · have e1 : ¬ ((min (fo l ncl 1) 41 : Nat) : Int) < (((T l).length : Nat) : Int) := fun z => e (decide_eq_true z)
          rw [T_len] at e1
          have en : nameFault sg l = none := by
            unfold nameFault
            rw [if_pos hh, if_neg (by omega)]
          rw [en] at q
          exact ⟨1, rfl, q⟩
    · have hne : ¬ V.str (T (l.take 1)) = V.str (T [sg]) := fun z => hh ((head_one l sg).mp (T_inj (V.str.inj z)))
      rw [decide_eq_false hne]
      have en : nameFault sg l = some 0 := by
        unfold nameFault
        rw [if_neg hh]
      rw [en] at q
      exact iteT q
def spLTextF : Sp := fun vs H Q _ => ∃ (l : List Nat) (room : Nat), vs = [.str (T l), .int (room : Int)] ∧ l.length ≤ 1000000 ∧ Q (.int (col (textFault room l))) H
theorem ok_ltextF {f : Addr} {fd : FuncData} {k : Nat} (F : Fun K "_law_text_fault" "_law_text_fault" sLTextF f fd) (B : Bl mg) (mm : mg "min" = none) (hF : Has P w K mg base (k + 1) "_law_first" ["line", "start", "signs"] spFirst) : FnOk P w K mg base CX0 (k + 1 + 1) f fd ["line", "room"] spLTextF := by
  obtain ⟨fF, dF, GF, gF, kF, bF⟩ := hF
  refine F.ok scLTextF (fun vs H Q E h => ?_) (fun cdv A outer s H vs Q E hr h => ?_)
  · obtain ⟨l, sg, rfl, _⟩ := h
    rfl
  · obtain ⟨l, room, rfl, hl, q⟩ := h
    refine ⟨_, pss_cons (ps_if (pt_cmpR op_eq (pv 0) pe_str (nomark _)) (pss_one (ps_ret pe_int)) pss_nil)
      (pss_cons (ps_set (i := 2) scLTextF.nd rfl (.inl rfl) (pe_callB (call_min2 rfl) (by rfl) mm (by decide +kernel) (pa_cons (pv 1) (pa_cons (pe_call GF hr (by rfl) gF kF bF .nil pass0 (pa_cons (pv 0) (pa_cons pe_int (pa_cons pe_str pa_nil)))) pa_nil))))
      (pss_cons (ps_if (pt_cmpR op_lt (pv 2) (pe_callB call_len_str (by rfl) B.len PySem.boot_len (pa_cons (pv 0) pa_nil)) (nomark _)) (pss_one (ps_ret (pv 2))) pss_nil)
      (pss_one (ps_ret (pe_un un_neg pe_int))))), ?_⟩
    have hz : (T l).length ≤ sizeLine := line_ok6 (by rw [T_len]; exact hl)
    refine ⟨.str (T l), rfl, rfl, _, rfl, ite2 (fun e => ?_) (fun e => ?_)⟩
    · have e3 : V.str (T l) = V.str (Str.ofString "") := of_decide_eq_true e
      have e4 : l = [] := T_inj ((V.str.inj e3).trans T_nil)
      subst e4
      have en : textFault room [] = some 0 := by
        unfold textFault
        rw [if_pos (.inr rfl)]
        show some (min 0 room) = some 0
        rw [Nat.zero_min]
      rw [en] at q
      exact q
    · have e4 : ¬ l = [] := fun z => e (decide_eq_true (by rw [z, T_nil]))
      refine ⟨.int room, rfl, .str (T l), rfl, l, lets, 0, by rw [← lets_text]; rfl, Nat.zero_le _, hl, room, _, rfl, ?_⟩
      rw [min_int, Nat.min_comm]
      refine ⟨_, rfl, .str (T l), rfl, T l, rfl, hz, _, _, rfl, rfl, _, rfl, ite2 (fun e => ?_) (fun e => ?_)⟩
      · have e1 : ((min (fo l lets 0) room : Nat) : Int) < (((T l).length : Nat) : Int) := of_decide_eq_true e
        rw [T_len] at e1
        have en : textFault room l = some (min (fo l lets 0) room) := by
          unfold textFault
          rw [if_pos (.inl (by omega))]
        rw [en] at q
        exact ⟨_, rfl, q⟩
      · have e1 : ¬ ((min (fo l lets 0) room : Nat) : Int) < (((T l).length : Nat) : Int) := fun z => e (decide_eq_true z)
        rw [T_len] at e1
        have en : textFault room l = none := by
          unfold textFault
          refine if_neg fun z => ?_
          rcases z with z | z
          · omega
          · exact e4 z
        rw [en] at q
        exact ⟨1, rfl, q⟩
end
theorem new_ne {H : Hp} {p q : Addr} {o : HO} (h : upd H p o q = none) : q ≠ p := fun e => by
  rw [e, upd_same] at h
  cases h
theorem new_old {H : Hp} {p q : Addr} {o : HO} (h : upd H p o q = none) : H q = none := by
  rw [upd_ne (new_ne h)] at h
  exact h
theorem cell_arg2 (a : Addr) (c d i : Nat) : [V.ref a, V.int ((c : Int) + (d : Int) * (0 + ((i : Nat) : Int)))] = [V.ref a, V.int ((c + d * i : Nat) : Int)] := by
  congr 2
  rw [Int.zero_add]
  simp
section
variable {P : Program} {w : World} {K : PySem.W.Frag} {mg : Str → Option Value} {base : Heap}
/-! ### _law_references -/
def rname (i : Nat) : List Nat := 114 :: (toString (i : Int) : Str).cps.toList
theorem str_T (z : Str) : T z.cps.toList = z := by
  show Str.mk z.cps.toList.toArray = z
  rw [Array.toArray_toList]
theorem rname_ok : ∀ i, i < 8 → (rname i).length ≤ 3 ∧ Asc (rname i) := by
  unfold rname Asc
  decide +kernel
def spLRefs (K : PySem.W.Frag) : Sp := fun vs H Q _ => ∃ (a : Addr) (ns : List Int) (b : Nat) (n : Int), vs = [.ref a, .int (b : Int), .int n] ∧ SqL K H a (ns.map V.int) ∧ 0 ≤ n ∧ n ≤ 6 ∧
  ∀ (H' : Hp) (p : Addr) (xs : List V) (rs : List (List Nat × List Nat)), Same H H' → H p = none → H' p = some (.lst xs) → Tups H' xs rs → rs.length = n.toNat → (∀ r ∈ rs, r.1.length ≤ 3 ∧ Asc r.1 ∧ Dna r.2 ∧ 1 ≤ r.2.length ∧ r.2.length ≤ 45) → Q (.ref p) H'
theorem ok_lrefs {f : Addr} {fd : FuncData} {k : Nat} (F : Fun K "_law_references" "_law_references" sLRefs f fd) (B : Bl mg) (hC : Has P w K mg base 2 "_law_cell" ["script", "k"] (spCell K)) (hT : Has P w K mg base 2 "_law_text" ["cell", "size"] (spText K)) : FnOk P w K mg base CX0 (k + 3) f fd ["script", "at", "count"] (spLRefs K) := by
  obtain ⟨fC, dC, GC, gC, kC, bC⟩ := hC
  obtain ⟨fT, dT, GT, gT, kT, bT⟩ := hT
  refine F.ok scLRefs (fun vs H Q E h => ?_) (fun cdv A outer s H vs Q E hr h => ?_)
  · obtain ⟨a, ns, b, n, rfl, _⟩ := h
    rfl
  · obtain ⟨a, ns, b, n, rfl, hS, hn0, hn, q⟩ := h
    refine ⟨_, pss_cons (ps_set (i := 3) scLRefs.nd rfl (.inl rfl) (pe_lst pa_nil))
      (pss_cons (ps_for PassesOwn.never rfl (pi_range1 rfl B.range (pa_cons (pv 2) pa_nil)) (pg_name (i := 4) scLRefs.nd rfl (.inl rfl))
        (pss_cons (ps_set (i := 5) scLRefs.nd rfl (.inl rfl) (pe_call GC (hr.mono (by omega)) (by rfl) gC kC bC .nil pass0 (pa_cons (pv 0) (pa_cons (pe_op op_add (pv 1) (pe_op op_mul pe_int (pv 4))) pa_nil))))
        (pss_cons (ps_set (i := 6) scLRefs.nd rfl (.inl rfl) (pe_call GT (hr.mono (by omega)) (by rfl) gT kT bT .nil pass0 (pa_cons (pe_call GC (hr.mono (by omega)) (by rfl) gC kC bC .nil pass0 (pa_cons (pv 0) (pa_cons (pe_op op_add (pe_op op_add (pv 1) pe_int) (pe_op op_mul pe_int (pv 4))) pa_nil)))
            (pa_cons (pe_op op_add pe_int (pe_op op_mod (pv 5) pe_int)) pa_nil))))
        (C8.pss_cut (ps_if (PW.pt (pw_and (pt_cmpR op_gt (pv 4) pe_int (nomark _)) (pw_and1 (pt_cmpR op_eq (pe_op op_mod (pe_op op_fdiv (pv 5) pe_int) pe_int) pe_int (nomark _)))))
          (pss_one (ps_set (i := 6) scLRefs.nd rfl (.inl rfl) (pe_ix ix_tup (pe_ix ix_list (pv 3) pe_int (fun _ _ => rfl)) pe_int (fun _ _ => rfl)))) pss_nil)
        (pss_one (ps_expr (pe_bm PySem.F.plainAttrs_list PySem.F.slot_list_append PySem.F.type_list_append mt_append (pv 3) (pa_cons (pe_tup (pa_cons (pe_op op_add_str pe_str (pe_callTy call_str_int (by rfl) B.str (by decide +kernel) (pa_cons (pv 4) pa_nil))) (pa_cons (pv 6) pa_nil))) pa_nil))))))))
      (pss_one (ps_ret (pv 3)))), ?_⟩
    refine ⟨Nat.zero_le _, fun p hp => ?_⟩
    refine ⟨.int n, rfl, n, rfl, by omega, by omega, ?_⟩
    refine for_range (lo := 0) (n := n.toNat) (fun i σ H' => ∃ (xs : List V) (rs : List (List Nat × List Nat)) (kv cv tv : Option V), σ = [some (.ref a), some (.int (b : Int)), some (.int n), some (.ref p), kv, cv, tv] ∧ Same H H' ∧ H' p = some (.lst xs) ∧ Tups H' xs rs ∧ rs.length = i ∧
      ∀ r ∈ rs, r.1.length ≤ 3 ∧ Asc r.1 ∧ Dna r.2 ∧ 1 ≤ r.2.length ∧ r.2.length ≤ 45) ⟨[], [], none, none, none, rfl, same_upd hp, upd_same, .nil, rfl, (fun r hr => by cases hr)⟩ ?_ ?_
    · rintro i σ H1 hi ⟨xs, rs, kv, cv, tv, rfl, sm, hx, ht, hl, hg⟩
      have hi6 : i < 6 := by omega
      have hxl : xs.length = i := (paired_len ht).trans hl
      refine ⟨.ref a, rfl, .int b, rfl, .int (0 + (i : Nat)), rfl, 2, _, rfl, rfl, .inl ⟨by decide, by decide⟩, _, _, rfl, rfl, a, ns, b + 2 * i, cell_arg2 a b 2 i, sm.seq hS, fun cell => ?_⟩
      have m0 : 0 ≤ cell % 45 := Int.emod_nonneg _ (by decide)
      have m1 : cell % 45 < 45 := Int.emod_lt_of_pos _ (by decide)
      refine ⟨.ref a, rfl, .int b, rfl, _, _, rfl, rfl, .int (0 + (i : Nat)), rfl, 2, _, rfl, rfl, .inl ⟨by decide, by decide⟩, _, _, rfl, rfl, a, ns, b + 1 + 2 * i, cell_arg2 a (b + 1) 2 i, sm.seq hS, fun y2 => ?_⟩
      refine ⟨.int cell, rfl, cell, 45, rfl, rfl, (show (0 : Int) < 45 by decide), 1, _, rfl, rfl, y2, 1 + cell % 45, rfl, by omega, by omega, fun H2 t s2 dt lt => ?_⟩
      have hx2 := s2 _ _ hx
      have ht2 : Tups H2 xs rs := ht.mono fun b ys e => s2 _ _ e
      refine ⟨fun σ H' => H' = H2 ∧ ∃ t : List Nat, Dna t ∧ 1 ≤ t.length ∧ t.length ≤ 45 ∧ σ = [some (.ref a), some (.int (b : Int)), some (.int n), some (.ref p), some (.int (0 + (i : Nat))), some (.int cell), some (.str (T t))], ?_, ?_⟩
      · refine ⟨.int (0 + (i : Nat)), rfl, _, 0, rfl, rfl, _, rfl, ite2 (fun e0 => ?_) (fun _ => iteF ⟨rfl, t, dt, by omega, by omega, rfl⟩)⟩
        refine ⟨.int cell, rfl, cell, 45, rfl, rfl, ⟨by decide, by decide⟩, _, 4, rfl, rfl, (show (0 : Int) < 4 by decide), rfl, _, rfl, ite2 (fun _ => ?_) (fun _ => ⟨rfl, t, dt, by omega, by omega, rfl⟩)⟩
        have h1 : (0 : Int) < 0 + (i : Nat) := of_decide_eq_true e0
        have hx0 : 0 < xs.length := by omega
        have hv : xs[0]? = some xs[0] := List.getElem?_eq_getElem hx0
        obtain ⟨r, hr0, qa, eqa, hqa⟩ := paired_get ht2 hv
        have gr := hg r (List.mem_of_getElem? hr0)
        refine ⟨.ref p, rfl, p, xs, 0, .ref qa, rfl, rfl, .inl (.inl hx2), ?_, qa, _, 1, .str (T r.2), rfl, rfl, .inl (.inl hqa), atI_nat (j := 1) rfl, rfl, r.2, gr.2.2.1, gr.2.2.2.1, gr.2.2.2.2, rfl⟩
        rw [← eqa]
        exact atI_nat (j := 0) hv
      rintro σ H3 ⟨rfl, t', dt', l1, l2, rfl⟩
      have ok := rname_ok i (by omega)
      have ern : Str.ofString "r" ++ (toString ((0 : Int) + ((i : Nat) : Int)) : Str) = T (rname i) := by
        rw [Int.zero_add]
        conv => lhs; rw [← str_T (toString ((i : Nat) : Int) : Str)]
        rw [show Str.ofString "r" = T [114] by decide +kernel, T_app]
        rfl
      have ln : (toString ((0 : Int) + ((i : Nat) : Int)) : Str).length ≤ 2 := by
        have e1 := ok.1
        unfold rname at e1
        rw [List.length_cons] at e1
        rw [Int.zero_add]
        have e2 : (toString ((i : Nat) : Int) : Str).length = (toString ((i : Nat) : Int) : Str).cps.toList.length := by simp [Str.length]
        omega
      refine ⟨.ref p, rfl, .inl ⟨rfl, _, .inl (.inl hx2)⟩, .int (0 + (i : Nat)), rfl, _, rfl, ?_, _, _, rfl, rfl, line_ok (by rw [show (Str.ofString "r").length = 1 by decide +kernel]; omega), .str (T t'), rfl, by show 2 ≤ sizeLine; decide, fun q2 hq2 => ?_⟩
      · have : ((0 : Int) + ((i : Nat) : Int)).natAbs = i := by omega
        rw [this]
        exact Nat.lt_of_le_of_lt (Nat.log2_le_self i) (by omega)
      have np : p ≠ q2 := ne_of_none hx2 hq2
      refine ⟨p, xs, _, rfl, rfl, by rw [upd_ne np]; exact hx2, line_lt (by omega), ?_⟩
      refine ⟨xs ++ [.ref q2], rs ++ [(rname i, t')], _, _, _, rfl, fun b o hb => ?_, upd_same, ?_, by rw [List.length_append, hl]; rfl, ?_⟩
      · rw [upd_ne (ne_of_none hb hp), upd_ne (ne_of_none (s2 _ _ (sm _ _ hb)) hq2)]
        exact s2 _ _ (sm _ _ hb)
      · refine Tups.snoc (ht2.mono fun b ys hb => ?_) ?_
        · have n1 : b ≠ p := fun z => by
            rw [z, hx2] at hb
            cases hb
          rw [upd_ne n1, upd_ne (ne_of_none hb hq2)]
          exact hb
        · rw [upd_ne np.symm, upd_same, ern]
      · intro r hr
        rcases List.mem_append.mp hr with z | z
        · exact hg r z
        · obtain rfl : r = (rname i, t') := by simpa using z
          exact ⟨ok.1, ok.2, dt', l1, l2⟩
    · rintro σ H' ⟨xs, rs, kv, cv, tv, rfl, sm, hx, ht, hl, hg⟩
      exact ⟨.ref p, rfl, q H' p xs rs sm hp hx ht hl hg⟩
end
section
variable {X : Cx}
theorem fold_app : ∀ (n : Nat) (z acc : Array Nat), (List.replicate n z).foldl (· ++ ·) acc = acc ++ ((List.replicate n z.toList).flatten).toArray
  | 0, z, acc => by simp
  | n + 1, z, acc => by
    rw [List.replicate_succ, List.foldl_cons, fold_app n z (acc ++ z), List.replicate_succ, List.flatten_cons]
    apply Array.toList_inj.mp
    simp
theorem mul_T (l : List Nat) (n : Int) (h0 : 0 ≤ n) : Txt.mul (T l) n = T (List.replicate n.toNat l).flatten := by
  unfold Txt.mul
  by_cases h1 : n < 1
  · rw [if_pos h1, show n.toNat = 0 by omega]
    exact T_nil
  · rw [if_neg h1]
    by_cases h2 : (n == 1 || (T l).length == 0) = true
    · rw [if_pos h2]
      rw [T_len] at h2
      rcases (Bool.or_eq_true _ _).mp h2 with z | z
      · have e : n = 1 := by simpa using z
        subst e
        show T l = T (List.replicate 1 l).flatten
        simp
      · have e : l = [] := by simpa using z
        subst e
        have : ∀ m : Nat, (List.replicate m ([] : List Nat)).flatten = [] := fun m => by simp
        rw [this]
    · rw [if_neg h2]
      show Str.mk _ = Str.mk _
      congr 1
      rw [fold_app, T_list]
      simp
/-- a text n times -/
theorem op_mulT : OpR X (binaryOp .Mult) (fun x y H Q => ∃ (l : List Nat) (n : Int), x = .str (T l) ∧ y = .int n ∧ l.length ≤ 100 ∧ 0 ≤ n ∧ n ≤ 1000 ∧ Q (.str (T (List.replicate n.toNat l).flatten)) H) := by
  intro pins s σ H x y v u Q I rx ry h
  obtain ⟨l, n, rfl, rfl, hl, h0, hn, q⟩ := h
  obtain ⟨t, rfl⟩ := rx
  obtain ⟨t', rfl⟩ := ry
  refine SB.mul (mulOk_of 100 1000 (by rw [T_len]; exact hl) hn (by omega) (by decide) (by decide)) fun t1 tk => ?_
  rw [mul_T l n h0]
  exact ⟨.str (T (List.replicate n.toNat l).flatten), H, I.tok _, ⟨_, rfl⟩, q⟩
end
section
variable {P : Program} {w : World} {K : PySem.W.Frag} {mg : Str → Option Value} {base : Heap}
/-! ### _law_spoilt -/
theorem asc_nil : Asc [] := fun c hc => by cases hc
theorem asc_one {c : Nat} (h : c < 128) : Asc [c] := fun d hd => by
  obtain rfl : d = c := by simpa using hd
  exact h
theorem asc_app {a b : List Nat} (h : Asc a) (k : Asc b) : Asc (a ++ b) := fun c hc => by
  rcases List.mem_append.mp hc with z | z
  · exact h c z
  · exact k c z
theorem asc_take {a : List Nat} (h : Asc a) (n : Nat) : Asc (a.take n) := fun c hc => h c (List.mem_of_mem_take hc)
theorem asc_drop {a : List Nat} (h : Asc a) (n : Nat) : Asc (a.drop n) := fun c hc => h c (List.mem_of_mem_drop hc)
def odd : List V := [.str (Str.ofString " "), .str (Str.ofString "n"), .str (Str.ofString "-"), .str (Str.ofString ""), .str (Str.ofString ">"), .str (Str.ofString "@"), .str (Str.ofString "+"), .str (Str.ofString "A"), .str (Str.ofString "1"), .str (Str.ofString ">A"), .str (Str.ofString "~")]
theorem odd_at (y : Int) (h0 : 0 ≤ y) (h1 : y < 11) : ∃ l : List Nat, Asc l ∧ l.length ≤ 2 ∧ atI odd y = some (.str (T l)) := by
  have h : y = 0 ∨ y = 1 ∨ y = 2 ∨ y = 3 ∨ y = 4 ∨ y = 5 ∨ y = 6 ∨ y = 7 ∨ y = 8 ∨ y = 9 ∨ y = 10 := by omega
  rcases h with h | h | h | h | h | h | h | h | h | h | h <;> rw [h]
  · exact ⟨[32], asc_one (by decide), by decide, by rw [← show Str.ofString " " = T [32] by decide +kernel]; rfl⟩
  · exact ⟨[110], asc_one (by decide), by decide, by rw [← show Str.ofString "n" = T [110] by decide +kernel]; rfl⟩
  · exact ⟨[45], asc_one (by decide), by decide, by rw [← show Str.ofString "-" = T [45] by decide +kernel]; rfl⟩
  · exact ⟨[], asc_nil, by decide, by rw [← show Str.ofString "" = T [] by decide +kernel]; rfl⟩
  · exact ⟨[62], asc_one (by decide), by decide, by rw [← show Str.ofString ">" = T [62] by decide +kernel]; rfl⟩
  · exact ⟨[64], asc_one (by decide), by decide, by rw [← show Str.ofString "@" = T [64] by decide +kernel]; rfl⟩
  · exact ⟨[43], asc_one (by decide), by decide, by rw [← show Str.ofString "+" = T [43] by decide +kernel]; rfl⟩
  · exact ⟨[65], asc_one (by decide), by decide, by rw [← show Str.ofString "A" = T [65] by decide +kernel]; rfl⟩
  · exact ⟨[49], asc_one (by decide), by decide, by rw [← show Str.ofString "1" = T [49] by decide +kernel]; rfl⟩
  · exact ⟨[62, 65], asc_app (a := [62]) (asc_one (by decide)) (asc_one (by decide)), by decide, by rw [← show Str.ofString ">A" = T [62, 65] by decide +kernel]; rfl⟩
  · exact ⟨[126], asc_one (by decide), by decide, by rw [← show Str.ofString "~" = T [126] by decide +kernel]; rfl⟩
theorem erase_map {α β : Type} (f : α → β) : ∀ (l : List α) (i : Nat), (l.map f).eraseIdx i = (l.eraseIdx i).map f
  | [], _ => rfl
  | _ :: _, 0 => rfl
  | a :: r, i + 1 => congrArg (f a :: ·) (erase_map f r i)
abbrev LS (ls : List (List Nat)) : HO := .lst (ls.map fun l => V.str (T l))
def spSpoilt (K : PySem.W.Frag) : Sp := fun vs H Q _ => ∃ (a : Addr) (ls : List (List Nat)) (c : Int) (L : Nat), vs = [.ref a, .int c] ∧ SqS K H a ls ∧ (∀ l ∈ ls, Asc l ∧ l.length ≤ L) ∧ L ≤ 5000 ∧ ls.length ≤ 1000 ∧
  ∀ (H' : Hp) (p : Addr) (ms : List (List Nat)), Same H H' → H p = none → H' p = some (LS ms) → (∀ l ∈ ms, Asc l ∧ l.length ≤ L + 60) → ms.length ≤ ls.length + 1 → Q (.ref p) H'
theorem ix_set {xs : List V} {i : Int} {j : Nat} (e : i = (j : Int)) (h : j < xs.length) : ixN xs.length i = some j := by
  rw [e]
  unfold ixN
  rw [if_pos (by omega), if_pos (by omega)]
  rfl
theorem ok_spoilt {f : Addr} {fd : FuncData} {k : Nat} (F : Fun K "_law_spoilt" "_law_spoilt" sSpoilt f fd) (B : Bl mg) (mlist : mg "list" = none) : FnOk P w K mg base CX0 (k + 1) f fd ["lines", "cell"] (spSpoilt K) := by
  refine F.ok scSpoilt (fun vs H Q E h => ?_) (fun cdv A outer s H vs Q E hr h => ?_)
  · obtain ⟨a, ls, c, L, rfl, _⟩ := h
    rfl
  · obtain ⟨a, ls, c, L, rfl, hS, hls, hL, hn, q⟩ := h
    refine ⟨_, C8.pss_cut (ps_set (i := 2) scSpoilt.nd rfl (.inl rfl) (pe_callB call_abs (by rfl) B.abs (by decide +kernel) (pa_cons (pe_callTy call_int1 (by rfl) B.int (by decide +kernel) (pa_cons (pv 1) pa_nil)) pa_nil)))
      (C8.pss_cut (ps_set (i := 3) scSpoilt.nd rfl (.inl rfl) (pe_ix ix_list (pe_lst (pa_cons pe_str (pa_cons pe_str (pa_cons pe_str (pa_cons pe_str (pa_cons pe_str (pa_cons pe_str (pa_cons pe_str (pa_cons pe_str (pa_cons pe_str (pa_cons pe_str (pa_cons pe_str pa_nil)))))))))))) (pe_op op_mod (pv 2) pe_int) (fun _ _ => rfl)))
      (pss_cons (ps_if (pt_cmpR op_eq (pe_callB call_len_seq (by rfl) B.len PySem.boot_len (pa_cons (pv 0) pa_nil)) pe_int (nomark _)) (pss_one (ps_ret (pe_lst (pa_cons (pv 3) pa_nil)))) pss_nil)
      (C8.pss_cut (ps_set (i := 4) scSpoilt.nd rfl (.inl rfl) (pe_op op_mod (pe_op op_fdiv (pv 2) pe_int) (pe_callB call_len_seq (by rfl) B.len PySem.boot_len (pa_cons (pv 0) pa_nil))))
      (C8.pss_cut (ps_set (i := 5) scSpoilt.nd rfl (.inl rfl) (pe_ix ix_list (pv 0) (pv 4) (fun _ _ => rfl)))
      (C8.pss_cut (ps_set (i := 6) scSpoilt.nd rfl (.inl rfl) (pe_op op_mod (pe_op op_fdiv (pv 2) pe_int) (pe_op op_add (pe_callB call_len_str (by rfl) B.len PySem.boot_len (pa_cons (pv 5) pa_nil)) pe_int)))
      (C8.pss_cut (ps_set (i := 7) scSpoilt.nd rfl (.inl rfl) (pe_op op_mod (pe_op op_fdiv (pv 2) pe_int) pe_int))
      (C8.pss_cut (ps_set (i := 8) scSpoilt.nd rfl (.inl rfl) (pe_callTy call_list_of (by rfl) mlist (by decide +kernel) (pa_cons (pv 0) pa_nil)))
      (pss_cons (ps_if (pt_cmpR op_eq (pv 7) pe_int (nomark _)) (pss_one (ps_expr (pe_bm PySem.F.plainAttrs_list PySem.F.slot_list_pop PySem.F.type_list_pop mt_popAt (pv 8) (pa_cons (pv 4) pa_nil))))
        (pss_one (ps_if (pt_cmpR op_eq (pv 7) pe_int (nomark _)) (pss_one (ps_expr (pe_bm PySem.F.plainAttrs_list PySem.F.slot_list_insert PySem.F.type_list_insert mt_insert (pv 8) (pa_cons (pv 4) (pa_cons (pv 3) pa_nil)))))
        (pss_one (ps_if (pt_cmpR op_eq (pv 7) pe_int (nomark _)) (pss_one (ps_set (i := 8) scSpoilt.nd rfl (.inl rfl) (pe_slice sl_list (pv 8) po_none (po_some (pv 4)))))
        (pss_one (ps_if (pt_cmpR op_eq (pv 7) pe_int (nomark _)) (pss_one (ps_asg (pe_slice sl_str (pv 5) po_none (po_some (pv 6))) (pg_sub (pv 8) (pv 4) set_list)))
        (pss_one (ps_if (pt_cmpR op_eq (pv 7) pe_int (nomark _)) (pss_one (ps_asg (pe_op op_add_str (pe_op op_add_str (pe_slice sl_str (pv 5) po_none (po_some (pv 6))) (pv 3)) (pe_slice sl_str (pv 5) (po_some (pv 6)) po_none)) (pg_sub (pv 8) (pv 4) set_list)))
        (pss_one (ps_asg (pe_op op_add_str (pv 5) (pe_op op_mulT pe_str (pe_op op_mod (pe_op op_fdiv (pv 2) pe_int) pe_int))) (pg_sub (pv 8) (pv 4) set_list))))))))))))
      (pss_one (ps_ret (pv 8))))))))))), ?_⟩
    -- x
    refine ⟨fun σ H' => H' = H ∧ ∃ x : Int, 0 ≤ x ∧ σ = [some (.ref a), some (.int c), some (.int x), none, none, none, none, none, none], ⟨.int c, rfl, .inl ⟨c, rfl, c, rfl, rfl, if c < 0 then -c else c, by split <;> omega, rfl⟩⟩, ?_⟩
    rintro σ H' ⟨rfl, x, x0, rfl⟩
    -- strange
    refine ⟨fun σ H1 => Same H' H1 ∧ ∃ st : List Nat, Asc st ∧ st.length ≤ 2 ∧ σ = [some (.ref a), some (.int c), some (.int x), some (.str (T st)), none, none, none, none, none], ?_, ?_⟩
    · refine ⟨by show 11 ≤ sizeLine; decide, fun p1 hp1 => ⟨.int x, rfl, x, 11, rfl, rfl, (show (0 : Int) < 11 by decide), ?_⟩⟩
      obtain ⟨st, h1, h2, h3⟩ := odd_at (x % 11) (Int.emod_nonneg _ (by decide)) (Int.emod_lt_of_pos _ (by decide))
      exact ⟨p1, odd, _, .str (T st), rfl, rfl, .inl (.inl upd_same), h3, same_upd hp1, st, h1, h2, rfl⟩
    rintro σ H1 ⟨s1, st, hst, lst, rfl⟩
    have hS1 : SqS K H1 a ls := s1.seq hS
    refine ⟨.ref a, rfl, a, _, rfl, .inl hS1, rfl, _, rfl, ite2 (fun e => ?_) (fun e => ?_)⟩
    · refine ⟨.str (T st), rfl, by show 1 ≤ sizeLine; decide, fun p hp => q _ p [st] (s1.trans (same_upd hp)) (s1.free hp) upd_same (fun l hl => ?_) (by simp)⟩
      obtain rfl : l = st := by simpa using hl
      exact ⟨hst, by omega⟩
    have hne : ls.length ≠ 0 := fun z => e (decide_eq_true (by rw [List.length_map, z]; rfl))
    -- at
    refine ⟨fun σ H2 => H2 = H1 ∧ ∃ j : Nat, j < ls.length ∧ σ = [some (.ref a), some (.int c), some (.int x), some (.str (T st)), some (.int (j : Int)), none, none, none, none], ?_, ?_⟩
    · have b0 : 0 ≤ x / 11 % (((ls.map fun l => V.str (T l)).length : Nat) : Int) := Int.emod_nonneg _ (by rw [List.length_map]; omega)
      have b1 : x / 11 % (((ls.map fun l => V.str (T l)).length : Nat) : Int) < (((ls.map fun l => V.str (T l)).length : Nat) : Int) := Int.emod_lt_of_pos _ (by rw [List.length_map]; omega)
      have hlm : (ls.map fun l => V.str (T l)).length = ls.length := List.length_map _
      refine ⟨.int x, rfl, x, 11, rfl, rfl, ⟨by decide, by decide⟩, .ref a, rfl, a, _, rfl, .inl hS1, _, _, rfl, rfl, (by show (0 : Int) < _; rw [List.length_map]; omega), rfl, (x / 11 % (((ls.map fun l => V.str (T l)).length : Nat) : Int)).toNat, by omega, ?_⟩
      rw [Int.toNat_of_nonneg b0]
      rfl
    rintro σ H2 ⟨rfl, j, hj, rfl⟩
    have hv : (ls.map fun l => V.str (T l))[j]? = some (.str (T ls[j])) := by
      rw [List.getElem?_map, List.getElem?_eq_getElem hj]
      rfl
    obtain ⟨hla, hll⟩ := hls ls[j] (List.getElem_mem hj)
    have hz : (T ls[j]).length ≤ sizeLine := line_ok6 (by rw [T_len]; omega)
    -- line
    refine ⟨fun σ H3 => H3 = H2 ∧ σ = [some (.ref a), some (.int c), some (.int x), some (.str (T st)), some (.int (j : Int)), some (.str (T ls[j])), none, none, none], ⟨.ref a, rfl, .int j, rfl, a, _, j, .str (T ls[j]), rfl, rfl, hS1, atI_nat hv, rfl, rfl⟩, ?_⟩
    rintro σ H3 ⟨rfl, rfl⟩
    -- place
    refine ⟨fun σ H4 => H4 = H3 ∧ ∃ m : Nat, m ≤ ls[j].length ∧ σ = [some (.ref a), some (.int c), some (.int x), some (.str (T st)), some (.int (j : Int)), some (.str (T ls[j])), some (.int (m : Int)), none, none], ?_, ?_⟩
    · have b0 : 0 ≤ x / 400 % ((((T ls[j]).length : Nat) : Int) + 1) := Int.emod_nonneg _ (by omega)
      have b1 : x / 400 % ((((T ls[j]).length : Nat) : Int) + 1) < (((T ls[j]).length : Nat) : Int) + 1 := Int.emod_lt_of_pos _ (by omega)
      have eT := T_len ls[j]
      refine ⟨.int x, rfl, x, 400, rfl, rfl, ⟨by decide, by decide⟩, .str (T ls[j]), rfl, T ls[j], rfl, hz, _, 1, rfl, rfl, _, _, rfl, rfl, (by show (0 : Int) < _; omega), rfl, (x / 400 % ((((T ls[j]).length : Nat) : Int) + 1)).toNat, by omega, ?_⟩
      rw [Int.toNat_of_nonneg b0]
      rfl
    rintro σ H4 ⟨rfl, m, hm, rfl⟩
    -- kind
    refine ⟨fun σ H5 => H5 = H4 ∧ ∃ kd : Int, σ = [some (.ref a), some (.int c), some (.int x), some (.str (T st)), some (.int (j : Int)), some (.str (T ls[j])), some (.int (m : Int)), some (.int kd), none], ⟨.int x, rfl, x, 37, rfl, rfl, ⟨by decide, by decide⟩, _, 6, rfl, rfl, (show (0 : Int) < 6 by decide), rfl, _, rfl⟩, ?_⟩
    rintro σ H5 ⟨rfl, kd, rfl⟩
    -- news
    refine ⟨fun σ H6 => ∃ p, Same H5 H6 ∧ H5 p = none ∧ H6 p = some (LS ls) ∧ σ = [some (.ref a), some (.int c), some (.int x), some (.str (T st)), some (.int (j : Int)), some (.str (T ls[j])), some (.int (m : Int)), some (.int kd), some (.ref p)], ⟨.ref a, rfl, a, _, rfl, .inl hS1, fun p hp => ⟨p, same_upd hp, hp, upd_same, rfl⟩⟩, ?_⟩
    rintro σ H6 ⟨p, s6, hp, hx, rfl⟩
    have hlen : (ls.map fun l => V.str (T l)).length = ls.length := List.length_map _
    have s06 := s1.trans s6
    have hp0 := s1.free hp
    -- one line set
    have put : ∀ (y : List Nat), Asc y → y.length ≤ L + 60 → Q (.ref p) (upd H6 p (.lst ((ls.map fun l => V.str (T l)).set j (.str (T y))))) := by
      intro y hy ly
      refine q _ p (ls.set j y) (fun b o e => ?_) hp0 ?_ (fun l hl => ?_) (by rw [List.length_set]; omega)
      · rw [upd_ne (ne_of_none e hp0)]
        exact s06 b o e
      · rw [upd_same]
        show some (HO.lst _) = some (HO.lst _)
        rw [List.map_set]
      · rcases List.mem_or_eq_of_mem_set hl with z | z
        · exact ⟨(hls l z).1, by have := (hls l z).2; omega⟩
        · subst z
          exact ⟨hy, ly⟩
    have ixj : ixN (ls.map fun l => V.str (T l)).length (j : Int) = some j := ix_set rfl (by omega)
    have ln1 : (T (ls[j].take m)).length ≤ 5000 := by rw [T_len, List.length_take]; omega
    have ln2 : (T st).length ≤ 2 := by rw [T_len]; exact lst
    refine ⟨.int kd, rfl, rfl, _, rfl, ite2 (fun _ => ?_) (fun _ => ?_)⟩
    · -- pop
      refine ⟨.ref p, rfl, .inl ⟨rfl, _, .inl (.inl hx)⟩, .int j, rfl, p, _, j, j, .str (T ls[j]), rfl, rfl, hx, by omega, by omega, seqIndex_of (by omega) (by omega), hv, ?_⟩
      refine ⟨.ref p, rfl, q _ p (ls.eraseIdx j) (fun b o e => ?_) hp0 ?_ (fun l hl => ?_) (by have := List.length_eraseIdx_le ls j; omega)⟩
      · rw [upd_ne (ne_of_none e hp0)]
        exact s06 b o e
      · rw [upd_same]
        show some (HO.lst _) = some (HO.lst _)
        rw [erase_map]
      · have := hls l (List.mem_of_mem_eraseIdx hl)
        exact ⟨this.1, by omega⟩
    refine ⟨.int kd, rfl, rfl, _, rfl, ite2 (fun _ => ?_) (fun _ => ?_)⟩
    · -- insert
      refine ⟨.ref p, rfl, .inl ⟨rfl, _, .inl (.inl hx)⟩, .int j, rfl, .str (T st), rfl, p, _, j, .str (T st), rfl, rfl, hx, line_lt (by omega), by omega, by omega, ?_⟩
      refine ⟨.ref p, rfl, q _ p (ls.take j ++ [st] ++ ls.drop j) (fun b o e => ?_) hp0 ?_ (fun l hl => ?_) (by simp; omega)⟩
      · rw [upd_ne (ne_of_none e hp0)]
        exact s06 b o e
      · rw [upd_same]
        show some (HO.lst _) = some (HO.lst _)
        rw [Int.toNat_natCast, List.map_append, List.map_append, List.map_take, List.map_drop]
        rfl
      · rcases List.mem_append.mp hl with z | z
        · rcases List.mem_append.mp z with y | y
          · have := hls l (List.mem_of_mem_take y)
            exact ⟨this.1, by omega⟩
          · obtain rfl : l = st := by simpa using y
            exact ⟨hst, by omega⟩
        · have := hls l (List.mem_of_mem_drop z)
          exact ⟨this.1, by omega⟩
    refine ⟨.int kd, rfl, rfl, _, rfl, ite2 (fun _ => ?_) (fun _ => ?_)⟩
    · -- cut
      refine ⟨.ref p, rfl, .int j, rfl, _, rfl, p, _, rfl, .inl (.inl hx), fun p2 hp2 => ?_⟩
      refine ⟨.ref p2, rfl, q _ p2 (ls.take j) (s06.trans (same_upd hp2)) (s06.free hp2) ?_ (fun l hl => ?_) (by rw [List.length_take]; omega)⟩
      · rw [upd_same]
        show some (HO.lst _) = some (HO.lst _)
        unfold cutV
        rw [HT.sIx_none, HT.sIx_nat, List.drop_zero, Nat.sub_zero, List.map_take, Nat.min_eq_left (by omega)]
      · have := hls l (List.mem_of_mem_take hl)
        exact ⟨this.1, by omega⟩
    refine ⟨.int kd, rfl, rfl, _, rfl, ite2 (fun _ => ?_) (fun _ => ?_)⟩
    · -- shortened
      refine ⟨.str (T ls[j]), rfl, .int m, rfl, _, rfl, T ls[j], rfl, hz, .ref p, rfl, .int j, rfl, p, _, j, j, rfl, rfl, hx, ixj, .ref p, rfl, ?_⟩
      rw [cut_head]
      exact put _ (asc_take hla m) (by rw [List.length_take]; omega)
    refine ⟨.int kd, rfl, rfl, _, rfl, ite2 (fun _ => ?_) (fun _ => ?_)⟩
    · -- with a strange text
      refine ⟨.str (T ls[j]), rfl, .int m, rfl, _, rfl, T ls[j], rfl, hz, ?_⟩
      rw [cut_head]
      refine ⟨.str (T st), rfl, _, _, rfl, rfl, line_ok6 (by omega), .str (T ls[j]), rfl, .int m, rfl, _, rfl, T ls[j], rfl, hz, ?_⟩
      rw [cut_from, T_app]
      refine ⟨_, _, rfl, rfl, line_ok6 (by rw [T_len, T_len, List.length_append, List.length_take, List.length_drop]; omega), .ref p, rfl, .int j, rfl, p, _, j, j, rfl, rfl, hx, ixj, .ref p, rfl, ?_⟩
      rw [T_app]
      exact put _ (asc_app (asc_app (asc_take hla m) hst) (asc_drop hla m)) (by rw [List.length_append, List.length_append, List.length_take, List.length_drop]; omega)
    · -- lengthened
      have b0 : 0 ≤ x / 400 % 50 := Int.emod_nonneg _ (by decide)
      have b1 : x / 400 % 50 < 50 := Int.emod_lt_of_pos _ (by decide)
      have er : (List.replicate (x / 400 % 50).toNat [65]).flatten.length ≤ 50 := by
        have : ∀ n : Nat, (List.replicate n [65]).flatten.length = n := fun n => by simp
        rw [this]
        omega
      refine ⟨.str (T ls[j]), rfl, .int x, rfl, x, 400, rfl, rfl, ⟨by decide, by decide⟩, _, 50, rfl, rfl, (show (0 : Int) < 50 by decide), [65], x / 400 % 50, by rw [show Str.ofString "A" = T [65] by decide +kernel], rfl, by decide, b0, by omega, ?_⟩
      refine ⟨_, _, rfl, rfl, line_ok6 (by rw [T_len, T_len]; omega), .ref p, rfl, .int j, rfl, p, _, j, j, rfl, rfl, hx, ixj, .ref p, rfl, ?_⟩
      rw [T_app]
      refine put _ (asc_app hla fun d hd => ?_) (by rw [List.length_append]; omega)
      obtain ⟨z, hz1, hz2⟩ := List.mem_flatten.mp hd
      have e1 := List.eq_of_mem_replicate hz1
      subst e1
      obtain rfl : d = 65 := by simpa using hz2
      decide
end
section
variable {P : Program} {w : World} {K : PySem.W.Frag} {mg : Str → Option Value} {base : Heap}
/-! ### _law_due -/
def spDue (K : PySem.W.Frag) : Sp := fun vs H Q _ => ∃ (a : Addr) (ls : List (List Nat)), vs = [.ref a] ∧ SqS K H a ls ∧ (∀ l ∈ ls, l.length ≤ 1000000) ∧ ls.length ≤ 100000 ∧
  (∀ rs, rr ls ls.length 0 [] = .ok rs → ∀ (H' : Hp) (q p : Addr) (xs : List V), Same H H' → H' q = some (.tup [.ref p, .non]) → H' p = some (.lst xs) → Tups H' xs rs → Q (.ref q) H') ∧
  ∀ l c, rr ls ls.length 0 [] = .error (l, c) → ∀ (H' : Hp) (q p z : Addr), Same H H' → H' q = some (.tup [.ref p, .ref z]) → H' z = some (.tup [.int ((l : Nat) : Int), .int ((c : Nat) : Int)]) → Q (.ref q) H'
/-- between two references -/
def DueInv (a p : Addr) (ls : List (List Nat)) (H : Hp) (t : Nat) (σ : L2.St) (H' : Hp) : Prop :=
  ∃ (i n : Nat) (xs : List V) (rs : List (List Nat × List Nat)) (tv cv xv nv kv : Option V), σ = [some (.ref a), some (.ref p), some (.int (i : Nat)), tv, cv, xv, nv, kv] ∧ Same H H' ∧ H' p = some (.lst xs) ∧ Tups H' xs rs ∧ (t ≤ i ∨ ls.length ≤ i) ∧ ls.length ≤ i + n ∧ i ≤ ls.length ∧ xs.length ≤ i ∧
    rr ls n i rs = rr ls ls.length 0 []
theorem rr_stop {ls : List (List Nat)} {n i : Nat} {rs : List (List Nat × List Nat)} (h : ls.length ≤ i) : rr ls n i rs = .ok rs := by
  cases n with
  | zero => rfl
  | succ n =>
    unfold rr
    rw [List.getElem?_eq_none h]
theorem ok_due {f : Addr} {fd : FuncData} {k : Nat} (F : Fun K "_law_due" "_law_due" sDue f fd) (B : Bl mg) (hN : Has P w K mg base (k + 2) "_law_name_fault" ["line", "head"] spLNameF) (hT : Has P w K mg base (k + 2) "_law_text_fault" ["line", "room"] spLTextF) : FnOk P w K mg base CX0 (k + 2 + 1) f fd ["lines"] (spDue K) := by
  obtain ⟨fN, dN, GN, gN, kN, bN⟩ := hN
  obtain ⟨fT, dT, GT, gT, kT, bT⟩ := hT
  refine F.ok scDue (fun vs H Q E h => ?_) (fun cdv A outer s H vs Q E hr h => ?_)
  · obtain ⟨a, ls, rfl, _⟩ := h
    rfl
  · obtain ⟨a, ls, rfl, hS, hlen, hls, qg, qb⟩ := h
    refine ⟨_, pss_cons (ps_set (i := 1) scDue.nd rfl (.inl rfl) (pe_lst pa_nil))
      (pss_cons (ps_set (i := 2) scDue.nd rfl (.inl rfl) pe_int)
      (pss_cons (ps_for PassesOwn.never rfl (pi_range1 rfl B.range (pa_cons (pe_callB call_len_seq (by rfl) B.len PySem.boot_len (pa_cons (pv 0) pa_nil)) pa_nil)) (pg_name (i := 3) scDue.nd rfl (.inl rfl))
        (pss_cons (ps_if (pt_cmpR op_ge (pv 2) (pe_callB call_len_seq (by rfl) B.len PySem.boot_len (pa_cons (pv 0) pa_nil)) (nomark _)) (pss_one (ps_ret (pe_tup (pa_cons (pv 1) (pa_cons pe_non pa_nil))))) pss_nil)
        (pss_cons (ps_set (i := 4) scDue.nd rfl (.inl rfl) (pe_call GN hr (by rfl) gN kN bN .nil pass0 (pa_cons (pe_ix ix_list (pv 0) (pv 2) (fun _ _ => rfl)) (pa_cons pe_str pa_nil))))
        (pss_cons (ps_if (pt_cmpR op_ge (pv 4) pe_int (nomark _)) (pss_one (ps_ret (pe_tup (pa_cons (pv 1) (pa_cons (pe_tup (pa_cons (pv 2) (pa_cons (pv 4) pa_nil))) pa_nil))))) pss_nil)
        (pss_cons (ps_if (pt_cmpR op_ge (pe_op op_add (pv 2) pe_int) (pe_callB call_len_seq (by rfl) B.len PySem.boot_len (pa_cons (pv 0) pa_nil)) (nomark _))
          (pss_one (ps_ret (pe_tup (pa_cons (pv 1) (pa_cons (pe_tup (pa_cons (pe_callB call_len_seq (by rfl) B.len PySem.boot_len (pa_cons (pv 0) pa_nil)) (pa_cons pe_int pa_nil))) pa_nil))))) pss_nil)
        (pss_cons (ps_set (i := 5) scDue.nd rfl (.inl rfl) pe_str)
        (pss_cons (ps_set (i := 6) scDue.nd rfl (.inl rfl) (pe_slice sl_str (pe_ix ix_list (pv 0) (pv 2) (fun _ _ => rfl)) (po_some pe_int) po_none))
        (pss_cons (ps_set (i := 2) scDue.nd rfl (.inl rfl) (pe_op op_add (pv 2) pe_int))
        (pss_cons (ps_for PassesOwn.never rfl (pi_range1 rfl B.range (pa_cons (pe_callB call_len_seq (by rfl) B.len PySem.boot_len (pa_cons (pv 0) pa_nil)) pa_nil)) (pg_name (i := 7) scDue.nd rfl (.inl rfl))
          (pss_one (ps_if (PW.pt (pw_and (pt_cmpR op_lt (pv 2) (pe_callB call_len_seq (by rfl) B.len PySem.boot_len (pa_cons (pv 0) pa_nil)) (nomark _)) (pw_and1 (PW.pt (pw_or (pt_cmpR op_eq (pv 5) pe_str (nomark _))
                (pw_or1 (pt_cmpR op_ne (pe_slice sl_str (pe_ix ix_list (pv 0) (pv 2) (fun _ _ => rfl)) po_none (po_some pe_int)) pe_str (nomark _))))))))
            (pss_cons (ps_set (i := 4) scDue.nd rfl (.inl rfl) (pe_call GT hr (by rfl) gT kT bT .nil pass0 (pa_cons (pe_ix ix_list (pv 0) (pv 2) (fun _ _ => rfl)) (pa_cons (pe_op op_sub pe_int (pe_callB call_len_str (by rfl) B.len PySem.boot_len (pa_cons (pv 5) pa_nil))) pa_nil))))
            (pss_cons (ps_if (pt_cmpR op_ge (pv 4) pe_int (nomark _)) (pss_one (ps_ret (pe_tup (pa_cons (pv 1) (pa_cons (pe_tup (pa_cons (pv 2) (pa_cons (pv 4) pa_nil))) pa_nil))))) pss_nil)
            (pss_cons (ps_set (i := 5) scDue.nd rfl (.inl rfl) (pe_op op_add_str (pv 5) (pe_ix ix_list (pv 0) (pv 2) (fun _ _ => rfl))))
            (pss_one (ps_set (i := 2) scDue.nd rfl (.inl rfl) (pe_op op_add (pv 2) pe_int)))))) pss_nil)))
        (pss_one (ps_expr (pe_bm PySem.F.plainAttrs_list PySem.F.slot_list_append PySem.F.type_list_append mt_append (pv 1) (pa_cons (pe_tup (pa_cons (pv 6) (pa_cons (pv 5) pa_nil))) pa_nil)))))))))))))
      (pss_one (ps_ret (pe_tup (pa_cons (pv 1) (pa_cons pe_non pa_nil))))))), ?_⟩
    have hlm : (ls.map fun l => V.str (T l)).length = ls.length := List.length_map _
    refine ⟨Nat.zero_le _, fun p hp => ?_⟩
    refine ⟨.ref a, rfl, a, _, rfl, .inl ((same_upd hp).seq hS), _, rfl, by omega, by omega, ?_⟩
    rw [Int.toNat_natCast, hlm]
    -- what is handed back
    have good : ∀ (i n : Nat) (xs : List V) (rs : List (List Nat × List Nat)) (H' : Hp), ls.length ≤ i → Same H H' → H' p = some (.lst xs) → Tups H' xs rs → rr ls n i rs = rr ls ls.length 0 [] → ∀ q, H' q = none → Q (.ref q) (upd H' q (.tup [.ref p, .non])) := by
      intro i n xs rs H' hi sm hx ht hrr q hq
      have sq := same_upd (o := .tup [.ref p, .non]) hq
      exact qg rs (by rw [← hrr, rr_stop hi]) _ q p xs (sm.trans sq) upd_same (sq _ _ hx) (ht.mono fun b ys e => sq _ _ e)
    have bad : ∀ (l c : Nat) (H' : Hp), rr ls ls.length 0 [] = .error (l, c) → Same H H' → ∀ z, H' z = none → ∀ q, (upd H' z (.tup [.int (l : Int), .int (c : Int)])) q = none → Q (.ref q) (upd (upd H' z (.tup [.int (l : Int), .int (c : Int)])) q (.tup [.ref p, .ref z])) := by
      intro l c H' hrr sm z hz q hq
      have sz := same_upd (o := .tup [.int (l : Int), .int (c : Int)]) hz
      have sq := same_upd (o := .tup [.ref p, .ref z]) hq
      exact qb l c hrr _ q p z ((sm.trans sz).trans sq) upd_same (sq _ _ upd_same)
    refine for_range (lo := 0) (n := ls.length) (DueInv a p ls H) ⟨0, ls.length, [], [], none, none, none, none, none, rfl, same_upd hp, upd_same, .nil, .inl (Nat.le_refl _), by omega, Nat.zero_le _, Nat.le_refl _, rfl⟩ ?_ ?_
    · rintro t σ H1 htl ⟨i, n, xs, rs, tv, cv, xv, nv, kv, rfl, sm, hx, ht, hti, hn, hil, hxl, hrr⟩
      have hS1 : SqS K H1 a ls := sm.seq hS
      refine ⟨.int i, rfl, .ref a, rfl, a, _, rfl, .inl hS1, i, _, rfl, rfl, _, rfl, ite2 (fun e => ?_) (fun e => ?_)⟩
      · have e1 : ((ls.map fun l => V.str (T l)).length : Int) ≤ ((i : Nat) : Int) := of_decide_eq_true e
        exact ⟨.ref p, rfl, by show 2 ≤ sizeLine; decide, good i n xs rs H1 (by omega) sm hx ht hrr⟩
      have e1 : ¬ ((ls.map fun l => V.str (T l)).length : Int) ≤ ((i : Nat) : Int) := fun z => e (decide_eq_true z)
      have hlt : i < ls.length := by omega
      obtain ⟨n', rfl⟩ : ∃ n', n = n' + 1 := ⟨n - 1, by omega⟩
      have hl : ls[i]? = some ls[i] := List.getElem?_eq_getElem hlt
      have hv : (ls.map fun l => V.str (T l))[i]? = some (.str (T ls[i])) := by
        rw [List.getElem?_map, hl]
        rfl
      have hz : (T ls[i]).length ≤ sizeLine := line_ok6 (by rw [T_len]; exact hlen _ (List.getElem_mem hlt))
      refine ⟨.ref a, rfl, .int i, rfl, a, _, i, .str (T ls[i]), rfl, rfl, hS1, atI_nat hv, ls[i], 62, by rw [gt_text]; rfl, hlen _ (List.getElem_mem hlt), ?_⟩
      cases hnf : nameFault 62 ls[i] with
      | some c =>
        have er : rr ls ls.length 0 [] = .error (i, c) := by
          rw [← hrr]
          unfold rr
          rw [hl]
          dsimp only
          rw [hnf]
        refine ⟨.int (c : Nat), rfl, _, 0, rfl, rfl, _, rfl, ite2 (fun _ => ?_) (fun e => ?_)⟩
        · exact ⟨.ref p, rfl, .int i, rfl, .int (c : Nat), rfl, by show 2 ≤ sizeLine; decide, fun z hz => ⟨by show 2 ≤ sizeLine; decide, bad i c H1 er sm z hz⟩⟩
        · exact absurd (decide_eq_true (show (0 : Int) ≤ ((c : Nat) : Int) by omega)) e
      | none =>
        refine ⟨.int (-1), rfl, _, 0, rfl, rfl, _, rfl, iteF ?_⟩
        refine ⟨.int i, rfl, _, 1, rfl, rfl, .ref a, rfl, a, _, rfl, .inl hS1, _, _, rfl, rfl, _, rfl, ite2 (fun e => ?_) (fun e => ?_)⟩
        · have e2 : ((ls.map fun l => V.str (T l)).length : Int) ≤ ((i : Nat) : Int) + 1 := of_decide_eq_true e
          have er : rr ls ls.length 0 [] = .error (ls.length, 0) := by
            rw [← hrr]
            unfold rr
            rw [hl]
            dsimp only
            rw [hnf, List.drop_of_length_le (by omega)]
            dsimp only
            rw [show i + 1 = ls.length by omega]
            rfl
          refine ⟨.ref p, rfl, .ref a, rfl, a, _, rfl, .inl hS1, by show 2 ≤ sizeLine; decide, fun z hz => ?_⟩
          rw [hlm]
          exact ⟨by show 2 ≤ sizeLine; decide, bad _ _ H1 er sm z hz⟩
        have e2 : ¬ ((ls.map fun l => V.str (T l)).length : Int) ≤ ((i : Nat) : Int) + 1 := fun z => e (decide_eq_true z)
        have hlt2 : i + 1 < ls.length := by omega
        refine ⟨.ref a, rfl, .int i, rfl, a, _, i, .str (T ls[i]), rfl, rfl, hS1, atI_nat hv, 1, rfl, T ls[i], rfl, hz, ?_⟩
        rw [show ((1 : Int)) = ((1 : Nat) : Int) from rfl, cut_from]
        refine ⟨.int i, rfl, _, _, rfl, rfl, ?_⟩
        refine ⟨.ref a, rfl, a, _, rfl, .inl hS1, _, rfl, by omega, by omega, ?_⟩
        rw [Int.toNat_natCast, hlm]
        refine for_range (lo := 0) (n := ls.length) (fun m σ H2 => H2 = H1 ∧ ∃ (i2 room : Nat) (acc : List Nat) (cv kv : Option V), σ = [some (.ref a), some (.ref p), some (.int (i2 : Nat)), some (.int (0 + (t : Nat))), cv, some (.str (T acc)), some (.str (T (ls[i].drop 1))), kv] ∧
          acc.length + room = 100000 ∧ i + 1 ≤ i2 ∧ i2 ≤ ls.length ∧ (acc = [] → i2 = i + 1) ∧ dv (ls.drop i2) i2 room acc acc.isEmpty = dv (ls.drop (i + 1)) (i + 1) 100000 [] true ∧
          (m + i + 1 ≤ i2 ∨ ls.length ≤ i2 ∨ (acc ≠ [] ∧ ∃ l, ls[i2]? = some l ∧ l.head? = some 62))) ?_ ?_ ?_
        · exact ⟨rfl, i + 1, 100000, [], _, _, by rw [← T_nil]; rfl, rfl, Nat.le_refl _, by omega, fun _ => rfl, rfl, .inl (by omega)⟩
        · rintro m σ H2 hm ⟨rfl, i2, room, acc, cv, kv, rfl, hroom, hi2, hi2l, hacc, hdv, hprog⟩
          have hza : (T acc).length ≤ sizeLine := line_ok6 (by rw [T_len]; omega)
          refine ⟨.int i2, rfl, .ref a, rfl, a, _, rfl, .inl hS1, i2, _, rfl, rfl, _, rfl, ite2 (fun e => ?_) (fun e => ?_)⟩
          · have e3 : ((i2 : Nat) : Int) < ((ls.map fun l => V.str (T l)).length : Int) := of_decide_eq_true e
            have hlt3 : i2 < ls.length := by omega
            have hl3 : ls[i2]? = some ls[i2] := List.getElem?_eq_getElem hlt3
            have hv3 : (ls.map fun l => V.str (T l))[i2]? = some (.str (T ls[i2])) := by
              rw [List.getElem?_map, hl3]
              rfl
            have hb3 : ls[i2].length ≤ 1000000 := hlen _ (List.getElem_mem hlt3)
            have hz3 : (T ls[i2]).length ≤ sizeLine := line_ok6 (by rw [T_len]; exact hb3)
            have ed : ls.drop i2 = ls[i2] :: ls.drop (i2 + 1) := List.drop_eq_getElem_cons hlt3
            -- a turn that reads a line
            have read : (acc.isEmpty = true ∨ ¬ ls[i2].head? = some 62) → (∀ c, textFault room ls[i2] = some c → rr ls ls.length 0 [] = .error (i2, c)) ∧
                (textFault room ls[i2] = none → dv (ls.drop (i2 + 1)) (i2 + 1) (room - ls[i2].length) (acc ++ ls[i2]) (acc ++ ls[i2]).isEmpty = dv (ls.drop (i + 1)) (i + 1) 100000 [] true) := by
              intro hc
              have hn : ¬ (acc.isEmpty = false ∧ ls[i2].head? = some 62) := by
                rintro ⟨z1, z2⟩
                rcases hc with y | y
                · rw [y] at z1
                  cases z1
                · exact y z2
              refine ⟨fun c hc2 => ?_, fun hc2 => ?_⟩
              · rw [← hrr]
                unfold rr
                rw [hl]
                dsimp only
                rw [hnf]
                dsimp only
                rw [← hdv, ed, dv_cons, if_neg hn, hc2]
              · rw [← hdv, ed, dv_cons, if_neg hn, hc2]
                have : (acc ++ ls[i2]).isEmpty = false := by
                  have h1 := (textFault_room hc2).1
                  cases hls2 : ls[i2] with
                  | nil => exact absurd hls2 h1
                  | cons x y => cases acc <;> rfl
                rw [this]
            have stop : ∀ c, rr ls ls.length 0 [] = .error (i2, c) → ∀ z, H2 z = none → 2 ≤ sizeLine ∧ ∀ q, (upd H2 z (.tup [.int (i2 : Nat), .int (c : Nat)])) q = none → Q (.ref q) (upd (upd H2 z (.tup [.int (i2 : Nat), .int (c : Nat)])) q (.tup [.ref p, .ref z])) := fun c er z hz => ⟨by show 2 ≤ sizeLine; decide, bad i2 c H2 er sm z hz⟩
            refine ⟨.str (T acc), rfl, rfl, _, rfl, ite2 (fun ea => ?_) (fun ea => ?_)⟩
            · have e4 : V.str (T acc) = V.str (Str.ofString "") := of_decide_eq_true ea
              have e5 : acc = [] := T_inj ((V.str.inj e4).trans T_nil)
              have hc : acc.isEmpty = true ∨ ¬ ls[i2].head? = some 62 := .inl (by rw [e5]; rfl)
              obtain ⟨rb, rg⟩ := read hc
              refine ⟨.ref a, rfl, .int i2, rfl, a, _, i2, .str (T ls[i2]), rfl, rfl, hS1, atI_nat hv3, .str (T acc), rfl, T acc, rfl, hza, _, _, rfl, rfl, ls[i2], room, ?_, hb3, ?_⟩
              · show [V.str (T ls[i2]), V.int (100000 - (((T acc).length : Nat) : Int))] = [V.str (T ls[i2]), V.int (room : Int)]
                rw [T_len, show (100000 : Int) - ((acc.length : Nat) : Int) = ((room : Nat) : Int) by omega]
              cases htf : textFault room ls[i2] with
              | some c =>
                refine ⟨.int (c : Nat), rfl, _, 0, rfl, rfl, _, rfl, ite2 (fun _ => ?_) (fun e => ?_)⟩
                · exact ⟨.ref p, rfl, .int i2, rfl, .int (c : Nat), rfl, by show 2 ≤ sizeLine; decide, stop c (rb c htf)⟩
                · exact absurd (decide_eq_true (show (0 : Int) ≤ ((c : Nat) : Int) by omega)) e
              | none =>
                obtain ⟨f1, f2, _⟩ := textFault_room htf
                refine ⟨.int (-1), rfl, _, 0, rfl, rfl, _, rfl, iteF ?_⟩
                refine ⟨.str (T acc), rfl, .ref a, rfl, .int i2, rfl, a, _, i2, .str (T ls[i2]), rfl, rfl, hS1, atI_nat hv3, _, _, rfl, rfl, line_ok6 (by rw [T_len, T_len]; omega), .int i2, rfl, _, _, rfl, rfl, ?_⟩
                refine ⟨rfl, i2 + 1, room - ls[i2].length, acc ++ ls[i2], _, _, by rw [T_app]; rfl, by rw [List.length_append]; omega, by omega, by omega, (fun z => absurd (List.append_eq_nil_iff.mp z).2 f1), rg htf, ?_⟩
                rcases hprog with y | y | ⟨y, l, y1, y2⟩
                · exact .inl (by omega)
                · exfalso
                  omega
                · exfalso
                  rw [hl3] at y1
                  cases y1
                  rcases hc with z | z
                  · exact y (List.isEmpty_iff.mp z)
                  · exact z y2
            · have e5 : ¬ acc = [] := fun z => ea (decide_eq_true (by rw [z, T_nil]))
              refine ⟨.ref a, rfl, .int i2, rfl, a, _, i2, .str (T ls[i2]), rfl, rfl, hS1, atI_nat hv3, 1, rfl, T ls[i2], rfl, hz3, rfl, _, rfl, ?_⟩
              rw [show ((1 : Int)) = ((1 : Nat) : Int) from rfl, cut_head, gt_text]
              by_cases hh : ls[i2].head? = some 62
              · rw [(head_one ls[i2] 62).mpr hh, decide_eq_true rfl]
                exact iteF ⟨rfl, i2, room, acc, cv, _, rfl, hroom, hi2, hi2l, hacc, hdv, .inr (.inr ⟨e5, _, hl3, hh⟩)⟩
              · have hne : ¬ V.str (T (ls[i2].take 1)) = V.str (T [62]) := fun z => hh ((head_one ls[i2] 62).mp (T_inj (V.str.inj z)))
                rw [decide_eq_false hne]
                refine iteT ?_
                have hc : acc.isEmpty = true ∨ ¬ ls[i2].head? = some 62 := .inr hh
                obtain ⟨rb, rg⟩ := read hc
                refine ⟨.ref a, rfl, .int i2, rfl, a, _, i2, .str (T ls[i2]), rfl, rfl, hS1, atI_nat hv3, .str (T acc), rfl, T acc, rfl, hza, _, _, rfl, rfl, ls[i2], room, ?_, hb3, ?_⟩
                · show [V.str (T ls[i2]), V.int (100000 - (((T acc).length : Nat) : Int))] = [V.str (T ls[i2]), V.int (room : Int)]
                  rw [T_len, show (100000 : Int) - ((acc.length : Nat) : Int) = ((room : Nat) : Int) by omega]
                cases htf : textFault room ls[i2] with
                | some c =>
                  refine ⟨.int (c : Nat), rfl, _, 0, rfl, rfl, _, rfl, ite2 (fun _ => ?_) (fun e => ?_)⟩
                  · exact ⟨.ref p, rfl, .int i2, rfl, .int (c : Nat), rfl, by show 2 ≤ sizeLine; decide, stop c (rb c htf)⟩
                  · exact absurd (decide_eq_true (show (0 : Int) ≤ ((c : Nat) : Int) by omega)) e
                | none =>
                  obtain ⟨f1, f2, _⟩ := textFault_room htf
                  refine ⟨.int (-1), rfl, _, 0, rfl, rfl, _, rfl, iteF ?_⟩
                  refine ⟨.str (T acc), rfl, .ref a, rfl, .int i2, rfl, a, _, i2, .str (T ls[i2]), rfl, rfl, hS1, atI_nat hv3, _, _, rfl, rfl, line_ok6 (by rw [T_len, T_len]; omega), .int i2, rfl, _, _, rfl, rfl, ?_⟩
                  refine ⟨rfl, i2 + 1, room - ls[i2].length, acc ++ ls[i2], _, _, by rw [T_app]; rfl, by rw [List.length_append]; omega, by omega, by omega, (fun z => absurd (List.append_eq_nil_iff.mp z).2 f1), rg htf, ?_⟩
                  rcases hprog with y | y | ⟨y, l, y1, y2⟩
                  · exact .inl (by omega)
                  · exfalso
                    omega
                  · exfalso
                    rw [hl3] at y1
                    cases y1
                    rcases hc with z | z
                    · exact y (List.isEmpty_iff.mp z)
                    · exact z y2
          · have e3 : ¬ ((i2 : Nat) : Int) < ((ls.map fun l => V.str (T l)).length : Int) := fun z => e (decide_eq_true z)
            exact iteF ⟨rfl, i2, room, acc, cv, _, rfl, hroom, hi2, hi2l, hacc, hdv, .inr (.inl (by omega))⟩
        · rintro σ H2 ⟨rfl, i2, room, acc, cv, kv, rfl, hroom, hi2, hi2l, hacc, hdv, hprog⟩
          have hne : acc ≠ [] := by
            intro z
            rcases hprog with y | y | ⟨y, _⟩
            · omega
            · have := hacc z
              omega
            · exact y z
          have hie : acc.isEmpty = false := by
            cases acc with
            | nil => exact absurd rfl hne
            | cons x y => rfl
          have hok : dv (ls.drop (i + 1)) (i + 1) 100000 [] true = .ok (acc, i2) := by
            rw [← hdv, hie]
            rcases hprog with y | y | ⟨_, l, y1, y2⟩
            · exfalso
              omega
            · rw [List.drop_of_length_le y]
              rfl
            · obtain ⟨hlt3, hle⟩ := List.getElem?_eq_some_iff.mp y1
              rw [List.drop_eq_getElem_cons hlt3, hle, dv_cons, if_pos ⟨rfl, y2⟩]
          refine ⟨.ref p, rfl, .inl ⟨rfl, _, .inl (.inl hx)⟩, .str (T (ls[i].drop 1)), rfl, .str (T acc), rfl, by show 2 ≤ sizeLine; decide, fun q2 hq2 => ?_⟩
          have np : p ≠ q2 := ne_of_none hx hq2
          refine ⟨p, xs, _, rfl, rfl, by rw [upd_ne np]; exact hx, line_lt (by omega), ?_⟩
          refine ⟨i2, n', xs ++ [.ref q2], rs ++ [(ls[i].drop 1, acc)], _, _, _, _, _, rfl, fun b o hb => ?_, upd_same, ?_, by omega, by omega, hi2l, by rw [List.length_append, List.length_singleton]; omega, ?_⟩
          · rw [upd_ne (ne_of_none hb hp), upd_ne (ne_of_none (sm _ _ hb) hq2)]
            exact sm _ _ hb
          · refine Tups.snoc (ht.mono fun b ys hb => ?_) ?_
            · have n1 : b ≠ p := fun z => by
                rw [z, hx] at hb
                cases hb
              rw [upd_ne n1, upd_ne (ne_of_none hb hq2)]
              exact hb
            · rw [upd_ne np.symm, upd_same]
          · rw [← hrr]
            conv => rhs; unfold rr
            rw [hl]
            dsimp only
            rw [hnf]
            dsimp only
            rw [hok]
    · rintro σ H' ⟨i, n, xs, rs, tv, cv, xv, nv, kv, rfl, sm, hx, ht, hti, hn, hil, hxl, hrr⟩
      exact ⟨.ref p, rfl, by show 2 ≤ sizeLine; decide, good i n xs rs H' (by omega) sm hx ht hrr⟩
end
/-! ### isinstance of a caught error that has fields -/
def rIsD (K : PySem.W.Frag) (C a : Addr) (cls : Value) (d : Option Addr) : List V → Hp → VK → Prop := fun xs H Q => cls = .ref C ∧ ∃ (dd : Addr) (fs : List (Str × V)) (c : V) (cv : Value) (b : Bool), d = some dd ∧ H dd = some (.xd fs) ∧ xs = [.ref a, c] ∧ (∀ u, RelV c u → u = cv) ∧ PySem.W.kitOne K (.ref C) cv = some b ∧ Q (.bl b) H
theorem call_isD {X : Cx} {a C : Addr} {oe : Obj} {cls : Value} {d : Option Addr} {pn : List (Addr × Obj)} (T : ExcC X.K C) (hz : Zc cls d oe) (hf : ∃ vs, oe.data = .fields vs) : CallR (X.suite a ((a, oe) :: pn)) (.builtin "isinstance") (rIsD X.K C a cls d) := by
  intro pins s σ H xs us Q I r h
  obtain ⟨rfl, dd, fs, c, cv, b, rfl, hd, rfl, hcv, e, q⟩ := h
  obtain ⟨u1, u2, rfl, rx, rt⟩ := vals2 r
  obtain rfl : u1 = Value.ref a := rx
  obtain rfl := hcv _ rt
  obtain ⟨hget, _⟩ := I.pin (a, oe) (List.mem_append.mpr (.inl List.mem_cons_self))
  obtain ⟨vs, hv⟩ := hf
  have hx : ObjOk X.prog X.w H s.heap dd (.xd fs) := I.hok dd _ hd
  obtain ⟨mA, hns, _⟩ := hx
  obtain ⟨od, ho, _⟩ := lookIn_ns hns
  have J : PySem.W.InstAt s.heap a oe C (some od) := ⟨hget, hz.1, by unfold PySem.W.notCls; rw [hv] <;> rfl, by rw [hz.2]; exact ho⟩
  have hcl : (PySem.W.clsIn X.K C).isSome = true := by
    obtain ⟨cd, hc, _⟩ := PySem.W.any_some T.hd
    rw [hc]
    rfl
  exact PySem.W.kia_one (PySem.W.kitx_exc hcl T.hg T.hk T.hs T.ha T.hn T.ht T.hm) I.kIn J e (fun z => nomatch z) fun tk => ⟨.bl b, H, I.kept (t' := tk) fun _ _ z => z, rfl, q⟩
theorem kit_other {K : PySem.W.Frag} {C D : Addr} {b : Bool} (hne : (C == D) = false) (hd : PySem.W.hasDictIn K D = true) (ht : PySem.W.typeIn K (.ref D) = some (.type "type")) (hs : PySem.W.subIn K (.ref C) (.ref D) = some b) : PySem.W.kitOne K (.ref C) (.ref D) = some b := by
  obtain ⟨cd, hc, _⟩ := PySem.W.any_some hd
  have n1 : ¬ (Value.ref C == Value.ref D) = true := fun z => by
    have e : C = D := Value.ref.inj (beq_iff_eq.mp z)
    rw [e] at hne
    simp at hne
  unfold PySem.W.kitOne
  rw [if_neg n1]
  have e2 : ((PySem.W.clsIn K D).isSome && PySem.W.typeIn K (.ref D) == some (.type "type")) = true := by rw [hc, ht] <;> rfl
  show (if ((PySem.W.clsIn K D).isSome && PySem.W.typeIn K (.ref D) == some (.type "type")) = true then PySem.W.subIn K (.ref C) (.ref D) else none) = some b
  rw [if_pos e2]
  exact hs
theorem kit_self {K : PySem.W.Frag} {C : Addr} : PySem.W.kitOne K (.ref C) (.ref C) = some true := by
  unfold PySem.W.kitOne
  rw [if_pos (by simp)]
theorem kit_value {K : PySem.W.Frag} {C : Addr} (hs : PySem.W.subIn K (.ref C) (.type "ValueError") = some true) : PySem.W.kitOne K (.ref C) (.type "ValueError") = some true := by
  have n1 : ¬ (Value.ref C == Value.type "ValueError") = true := fun z => by cases beq_iff_eq.mp z
  unfold PySem.W.kitOne
  rw [if_neg n1]
  have e2 : PySem.W.kitMeta "ValueError" = true := by decide +kernel
  show (if PySem.W.kitMeta "ValueError" = true then PySem.W.subIn K (.ref C) (.type "ValueError") else none) = some true
  rw [if_pos e2]
  exact hs
theorem scLaw : FnScope ["script", "references", "lines", "name", "text", "size", "found", "fault", "handed", "told", "error", "others", "at"] ["script"] (defScope sLaw) := ⟨rfl, rfl, rfl, by decide +kernel, rfl, by decide +kernel, by decide +kernel⟩
/-- what the laws of faults ask of the classes of errors -/
structure Kinds (K : PySem.W.Frag) (mg : Str → Option Value) (C hE : Addr) : Prop where
  E : ExcC K C
  F : XfC K C
  nl : PySem.W.findIn K (.ref C) "line" = some none
  nc : PySem.W.findIn K (.ref C) "column" = some none
  gH : mg "HomeError" = some (.ref hE)
  xm : PySem.W.exmOne K (.ref C) (.ref hE) = some true
  gC : mg "InvalidLine" = some (.ref C)
  kC : PySem.W.kitOne K (.ref C) (.ref C) = some true
  pP : ∃ p, mg "InvalidPack" = some (.ref p) ∧ PySem.W.kitOne K (.ref C) (.ref p) = some false
  pN : ∃ p, mg "NotAnIndex" = some (.ref p) ∧ PySem.W.kitOne K (.ref C) (.ref p) = some false
  pT : ∃ p, mg "Truncated" = some (.ref p) ∧ PySem.W.kitOne K (.ref C) (.ref p) = some false
  pD : ∃ p, mg "Damaged" = some (.ref p) ∧ PySem.W.kitOne K (.ref C) (.ref p) = some false
  mV : mg "ValueError" = none
  kV : PySem.W.kitOne K (.ref C) (.type "ValueError") = some true
section
variable {P : Program} {w : World} {K : PySem.W.Frag} {mg : Str → Option Value} {base : Heap}
/-- the reading of isinstance(error, c), error in slot i -/
def tIs (K : PySem.W.Frag) (C : Addr) (i : Nat) (a : Addr) (cls : Value) (d : Option Addr) (c : V) : TE := tCB (rIsD K C a cls d) (tCons (tVar i) (tCons (tC c) tNil))
/-- the reading of the except suite -/
def tSuite (K : PySem.W.Frag) (C p1 p2 p3 p4 : Addr) (e o l f h : Nat) (a : Addr) (cls : Value) (d : Option Addr) : TS :=
  tSeq (tAsg (tOrV (tIs K C e a cls d (.ref p1)) (tOrV (tIs K C e a cls d (.ref p2)) (tIs K C e a cls d (.ref p3)))) (gName o))
  (tSeq (tIfS (tOr (tNot (tB (tIs K C e a cls d (.ref C)))) (tOr (tB (tVar o)) (tOr (tB (tIs K C e a cls d (.ref p4))) (tNot (tB (tIs K C e a cls d (.ty "ValueError"))))))) (tRet (tC (.bl false))) tNext)
  (tRet (tAndV (tOp (rEqD K) (tTup (tCons (tXf a cls d C "line" (tVar e)) (tCons (tXf a cls d C "column" (tVar e)) tNil))) (tVar f)) (tOp (rEqD K) (tVar h) (tVar l)))))
def MI (H1 : Hp) (a pr : Addr) (i : Nat) (σ : L2.St) (H' : Hp) : Prop :=
  ∃ (pl : Addr) (ls : List (List Nat)) (nv tv sv : Option V), σ = [some (.ref a), some (.ref pr), some (.ref pl), nv, tv, sv, none, none, none, none, none, none, none] ∧ Same H1 H' ∧ H' pl = some (LS ls) ∧ ls.length ≤ i * 50 ∧ ∀ l ∈ ls, Asc l ∧ l.length ≤ 60
theorem ch_few {k : Nat} (hk : 0 < k) (t : List Nat) : (ch k t).length ≤ t.length := by
  rw [ch_len]
  generalize hn : (t.length + k - 1) / k = n
  refine Nat.le_of_not_lt fun z => ?_
  have h := ch_lt hk (t := t) (i := n - 1) (by omega)
  have h2 := Nat.le_mul_of_pos_right (n - 1) hk
  omega
theorem dv_asc : ∀ (r : List (List Nat)) (i room : Nat) (acc : List Nat) (e : Bool) {t : List Nat} {i' : Nat}, (∀ l ∈ r, Asc l) → Asc acc → dv r i room acc e = .ok (t, i') → Asc t
  | [], i, room, acc, e, t, i', _, ha, h => by
    cases e with
    | true => cases h
    | false =>
      cases h
      exact ha
  | l :: r, i, room, acc, e, t, i', hr, ha, h => by
    rw [dv_cons] at h
    by_cases c : e = false ∧ l.head? = some 62
    · rw [if_pos c] at h
      cases h
      exact ha
    · rw [if_neg c] at h
      cases ht : textFault room l with
      | some d =>
        rw [ht] at h
        cases h
      | none =>
        rw [ht] at h
        exact dv_asc r (i + 1) (room - l.length) (acc ++ l) false (fun x hx => hr x (List.mem_cons_of_mem _ hx)) (asc_app ha (hr l List.mem_cons_self)) h
theorem rr_asc {ls : List (List Nat)} (hls : ∀ l ∈ ls, Asc l) : ∀ (n i : Nat) (acc : List (List Nat × List Nat)) {rs : List (List Nat × List Nat)}, (∀ r ∈ acc, Asc r.1 ∧ Asc r.2) → rr ls n i acc = .ok rs → ∀ r ∈ rs, Asc r.1 ∧ Asc r.2
  | 0, i, acc, rs, ha, h => by
    cases h
    exact ha
  | n + 1, i, acc, rs, ha, h => by
    unfold rr at h
    cases hl : ls[i]? with
    | none =>
      rw [hl] at h
      cases h
      exact ha
    | some l =>
      rw [hl] at h
      dsimp only at h
      cases hn : nameFault 62 l with
      | some c =>
        rw [hn] at h
        cases h
      | none =>
        rw [hn] at h
        dsimp only at h
        cases hd : dv (ls.drop (i + 1)) (i + 1) 100000 [] true with
        | error e =>
          rw [hd] at h
          cases h
        | ok x =>
          obtain ⟨t, i'⟩ := x
          rw [hd] at h
          refine rr_asc hls n i' _ (fun r hr => ?_) h
          rcases List.mem_append.mp hr with z | z
          · exact ha r z
          · obtain rfl : r = (l.drop 1, t) := by simpa using z
            exact ⟨asc_drop (hls l (List.mem_of_getElem? hl)) 1, dv_asc _ _ _ _ _ (fun x hx => hls x (List.mem_of_mem_drop hx)) asc_nil hd⟩
theorem dp_pair {H : Hp} {z : Addr} {l c : Int} (h : H z = some (.tup [.int l, .int c])) : Dp K H (.ref z) (.tuple [.int l, .int c]) := .tup (.inl (.inl h)) (.cons (.int l) (.cons (.int c) .nil))
def spLaw (K : PySem.W.Frag) : Sp := fun vs H Q _ => ∃ (a : Addr) (ns : List Int), vs = [.ref a] ∧ SqL K H a (ns.map V.int) ∧ ∀ H', Q (.bl true) H'
theorem ok_law {f C hE : Addr} {fd : FuncData} (F : Fun K "law" "law" sLaw f fd) (B : Bl mg) (mlist : mg "list" = none) (KD : Kinds K mg C hE) (hC : Has P w K mg base 2 "_law_cell" ["script", "k"] (spCell K)) (hLR : Has P w K mg base 3 "_law_references" ["script", "at", "count"] (spLRefs K))
    (hSp : Has P w K mg base 1 "_law_spoilt" ["lines", "cell"] (spSpoilt K)) (hDu : Has P w K mg base 3 "_law_due" ["lines"] (spDue K)) (hR : HasX P w K mg base 6 "read_references" ["lines"] (spReadRefs K C)) : FnOk P w K mg base CX0 7 f fd ["script"] (spLaw K) := by
  obtain ⟨fC, dC, GC, gC, kC, bC⟩ := hC
  obtain ⟨fL, dL', GL, gL, kL, bL⟩ := hLR
  obtain ⟨fS, dS', GS, gS, kS, bS⟩ := hSp
  obtain ⟨fD, dD, GD, gD, kD, bD⟩ := hDu
  obtain ⟨fR, dR', GR, gR, kR, bR⟩ := hR
  obtain ⟨p1, g1, k1⟩ := KD.pP
  obtain ⟨p2, g2, k2⟩ := KD.pN
  obtain ⟨p3, g3, k3⟩ := KD.pT
  obtain ⟨p4', g4, k4⟩ := KD.pD
  refine F.ok scLaw (fun vs H Q E h => ?_) (fun cdv A outer s H vs Q E hr h => ?_)
  · obtain ⟨c, ns, rfl, _⟩ := h
    rfl
  · obtain ⟨a, ns, rfl, hsq, q⟩ := h
    have hr6 : Room 6 _ := hr.mono (by decide)
    refine ⟨_, pss_cons (ps_set (i := 1) scLaw.nd rfl (.inl rfl) (pe_call GL (hr.mono (by decide)) (by rfl) gL kL bL .nil pass0 (pa_cons (pv 0) (pa_cons pe_int (pa_cons (pe_op op_mod (pe_call GC (hr.mono (by decide)) (by rfl) gC kC bC .nil pass0 (pa_cons (pv 0) (pa_cons pe_int pa_nil))) pe_int) pa_nil)))))
      (pss_cons (ps_set (i := 2) scLaw.nd rfl (.inl rfl) (pe_lst pa_nil))
      (pss_cons (ps_for PassesOwn.never rfl (pi_list (pv 1)) (pg_tup rfl (pgs_cons (pg_name (i := 3) scLaw.nd rfl (.inl rfl)) (pgs_cons (pg_name (i := 4) scLaw.nd rfl (.inr rfl)) pgs_nil)))
        (pss_cons (ps_set (i := 5) scLaw.nd rfl (.inr rfl) (pe_op op_add pe_int (pe_op op_mod (pe_call GC (hr.mono (by decide)) (by rfl) gC kC bC .nil pass0 (pa_cons (pv 0) (pa_cons pe_int pa_nil))) pe_int)))
        (pss_one (ps_set (i := 2) scLaw.nd rfl (.inl rfl) (pe_op op_cat (pe_op op_cat (pv 2) (pe_lst (pa_cons (pe_op op_add_str pe_str (pv 3)) pa_nil)))
            (pe_lc (own := [("at", 12)]) (g := gName 12) (tt := tYes) rfl scLaw.nd (pi_range3 rfl B.range (pa_cons pe_int (pa_cons (pe_callB call_len_str (by rfl) B.len PySem.boot_len (pa_cons (pv 4) pa_nil)) (pa_cons (pv 5) pa_nil))))
              (blkOk_by (own := [("at", 12)]) (N := ["script", "references", "lines", "name", "text", "size", "found", "fault", "handed", "told", "error", "others", "at"]) (sc := defScope sLaw) (by decide +kernel))
              (fun _ _ _ _ _ => pg_name (i := 12) scLaw.nd rfl (Or.inl rfl)) (fun _ _ _ _ _ => pts_nil) (fun _ _ _ _ _ => pe_slice sl_str (pv 4) (po_some (pv 12)) (po_some (pe_op op_add (pv 12) (pv 5))))))))))
      (pss_cons (ps_set (i := 2) scLaw.nd rfl (.inl rfl) (pe_call GS (hr.mono (by decide)) (by rfl) gS kS bS .nil pass0 (pa_cons (pv 2) (pa_cons (pe_call GC (hr.mono (by decide)) (by rfl) gC kC bC .nil pass0 (pa_cons (pv 0) (pa_cons pe_int pa_nil))) pa_nil))))
      (C8.pss_cut (ps_if (pt_cmpR op_eq (pe_op op_mod (pe_call GC (hr.mono (by decide)) (by rfl) gC kC bC .nil pass0 (pa_cons (pv 0) (pa_cons pe_int pa_nil))) pe_int) pe_int (nomark _))
        (pss_one (ps_set (i := 2) scLaw.nd rfl (.inl rfl) (pe_call GS (hr.mono (by decide)) (by rfl) gS kS bS .nil pass0 (pa_cons (pv 2) (pa_cons (pe_op op_fdiv (pe_call GC (hr.mono (by decide)) (by rfl) gC kC bC .nil pass0 (pa_cons (pv 0) (pa_cons pe_int pa_nil))) pe_int) pa_nil))))) pss_nil)
      (pss_cons (ps_asg (pe_call GD (hr.mono (by decide)) (by rfl) gD kD bD .nil pass0 (pa_cons (pv 2) pa_nil)) (pg_tup rfl (pgs_cons (pg_name (i := 6) scLaw.nd rfl (.inl rfl)) (pgs_cons (pg_name (i := 7) scLaw.nd rfl (.inl rfl)) pgs_nil))))
      (pss_cons (ps_set (i := 8) scLaw.nd rfl (.inl rfl) (pe_callTy call_list_of (by rfl) mlist (by decide +kernel) (pa_cons (pv 2) pa_nil)))
      (pss_cons (ps_try_as (i := 10) (tb := fun W => tAsg (tCallS (spReadRefs K C) (WE W) (tCons (tVar 8) tNil)) (gName 9)) (ts := tSuite K C p1 p2 p3 p4' 10 11 2 7 8) (Wout := fun _ _ _ _ => False) rfl rfl scLaw.nd rfl rfl ⟨rfl, by decide, Or.inl KD.gH⟩ takes0
          (fun W pn xe tk _ => pss_one (ps_set (i := 9) scLaw.nd rfl (Or.inl rfl) (pe_callS GR hr6 (by rfl) gR kR bR (fun σ => passAt tk σ) (pa_cons (pv 8) pa_nil))))
          (fun ae oe cls d pn hz hf => pss_cons (ps_set (i := 11) scLaw.nd rfl (Or.inl rfl) (pe_or (pe_callB (call_isD KD.E hz hf) (by rfl) B.isin (by decide +kernel) (pa_cons (pv 10) (pa_cons (pe_glob (v := .ref p1) (by rfl) g1 rfl) pa_nil)))
              (pe_or (pe_callB (call_isD KD.E hz hf) (by rfl) B.isin (by decide +kernel) (pa_cons (pv 10) (pa_cons (pe_glob (v := .ref p2) (by rfl) g2 rfl) pa_nil))) (pe_one (pe_callB (call_isD KD.E hz hf) (by rfl) B.isin (by decide +kernel) (pa_cons (pv 10) (pa_cons (pe_glob (v := .ref p3) (by rfl) g3 rfl) pa_nil)))))))
            (pss_cons (ps_if (PW.pt (pw_or (pt_not (pt_val (pe_callB (call_isD KD.E hz hf) (by rfl) B.isin (by decide +kernel) (pa_cons (pv 10) (pa_cons (pe_glob (v := .ref C) (by rfl) KD.gC rfl) pa_nil)))))
                (pw_or (pt_val (pv 11)) (pw_or (pt_val (pe_callB (call_isD KD.E hz hf) (by rfl) B.isin (by decide +kernel) (pa_cons (pv 10) (pa_cons (pe_glob (v := .ref p4') (by rfl) g4 rfl) pa_nil))))
                (pw_or1 (pt_not (pt_val (pe_callB (call_isD KD.E hz hf) (by rfl) B.isin (by decide +kernel) (pa_cons (pv 10) (pa_cons (pe_bltn (v := .ty "ValueError") (by rfl) KD.mV (by decide +kernel) rfl) pa_nil))))))))))
              (pss_one (ps_ret pe_bl)) pss_nil)
            (pss_one (ps_ret (pe_and (pe_cmpR (op_eqD hr.units) (pe_tup (pa_cons (pe_xf KD.F KD.nl hz hf (pv 10)) (pa_cons (pe_xf KD.F KD.nc hz hf (pv 10)) pa_nil))) (pv 7) (nomark _)) (pe_one (pe_cmpR (op_eqD hr.units) (pv 8) (pv 2) (nomark _)))))))))
      (pss_one (ps_ret (pe_and (pe_cmp (pc_isN (pv 7))) (pe_and (pe_cmpR (op_eqD hr.units) (pv 9) (pv 6) (nomark _)) (pe_one (pe_cmpR (op_eqD hr.units) (pv 8) (pv 2) (nomark _)))))))))))))), ?_⟩
    have cellq : ∀ (j : Nat) (H' : Hp) (Z : VK), Same H H' → (∀ x : Int, Z (.int x) H') → spCell K [.ref a, .int (j : Int)] H' Z E0 := fun j H' Z sm z => ⟨a, ns, j, rfl, sm.seq hsq, z⟩
    refine ⟨.ref a, rfl, .ref a, rfl, a, ns, 0, rfl, hsq, fun x => ⟨x, 4, rfl, rfl, (show (0 : Int) < 4 by decide), ?_⟩⟩
    have x0 : 0 ≤ x % 4 := Int.emod_nonneg _ (by decide)
    have x1 : x % 4 < 4 := Int.emod_lt_of_pos _ (by decide)
    refine ⟨a, ns, 1, x % 4, rfl, hsq, x0, by omega, fun H1 pr xs rs s1 hpr hx ht hl hg => ?_⟩
    refine ⟨Nat.zero_le _, fun pl hpl => ?_⟩
    have sl := same_upd (o := .lst []) hpl
    have hxl : xs.length = rs.length := paired_len ht
    refine ⟨.ref pr, rfl, pr, rfl, ⟨xs, .inl (.inl (sl _ _ hx))⟩, ?_⟩
    refine for_list (K := K) (xs := xs) (MI H1 a pr) ⟨pl, [], none, none, none, rfl, sl, upd_same, Nat.zero_le _, (fun l hl => by cases hl)⟩ ?_ ?_ ?_
    · rintro i σ H' _ ⟨_, _, _, _, _, _, sm, _⟩
      exact .inl (.inl (sm _ _ hx))
    · rintro i v σ H2 hv ⟨pl, ls, nv, tv, sv, rfl, sm, hpl, hn, hls⟩
      obtain ⟨r, hr0, qa, rfl, hqa⟩ := paired_get ht hv
      obtain ⟨g1', g2', g3', g4', g5'⟩ := hg r (List.mem_of_getElem? hr0)
      have hi3 : i < 4 := by
        have := (List.getElem?_eq_some_iff.mp hv).1
        omega
      refine ⟨qa, _, rfl, .inl (.inl (sm _ _ hqa)), rfl, _, _, rfl, _, _, rfl, rfl, ?_⟩
      have s02 := s1.trans sm
      refine ⟨.ref a, rfl, a, ns, 9, rfl, s02.seq hsq, fun y => ⟨y, 40, rfl, rfl, (show (0 : Int) < 40 by decide), 1, _, rfl, rfl, ?_⟩⟩
      have y0 : 0 ≤ y % 40 := Int.emod_nonneg _ (by decide)
      have y1 : y % 40 < 40 := Int.emod_lt_of_pos _ (by decide)
      obtain ⟨sz, hsz, sz1, sz2⟩ : ∃ sz : Nat, 1 + y % 40 = (sz : Int) ∧ 1 ≤ sz ∧ sz ≤ 40 := ⟨(1 + y % 40).toNat, by omega, by omega, by omega⟩
      have hzt : (T r.2).length ≤ sizeLine := line_ok6 (by rw [T_len]; omega)
      have e62 : Str.ofString ">" ++ T r.1 = T (62 :: r.1) := by
        rw [gt_text, T_app]
        rfl
      have hnl : (Str.ofString ">").length + (T r.1).length ≤ sizeLine := line_ok6 (by rw [T_len, show (Str.ofString ">").length = 1 by decide +kernel]; omega)
      have lch : (ch sz r.2).length ≤ 45 := by
        have := ch_few (k := sz) sz1 r.2
        omega
      refine ⟨.ref pl, rfl, .str (T r.1), rfl, _, _, rfl, rfl, hnl, by show 1 ≤ sizeLine; decide, fun q1 hq1 => ?_⟩
      refine ⟨pl, q1, _, _, rfl, rfl, same_upd hq1 _ _ hpl, upd_same, line_ok (by rw [List.length_map, List.length_singleton]; omega), fun q2 hq2 => ?_⟩
      refine ⟨.str (T r.2), rfl, T r.2, rfl, hzt, _, rfl, 0, _, 1 + y % 40, (r.2.length + sz - 1) / sz, rfl, by rw [hsz, T_len]; exact rg_ch (by omega) sz1 (by omega), fun D hD => ?_⟩
      refine lc_gen (n := (r.2.length + sz - 1) / sz) (fun j H' => Same (upd (upd H2 q1 (.lst [.str (Str.ofString ">" ++ T r.1)])) q2 (.lst (ls.map (fun l => V.str (T l)) ++ [.str (Str.ofString ">" ++ T r.1)]))) H' ∧ H' D = some (.lst (((ch sz r.2).take j).map fun l => V.str (T l)))) ⟨same_upd hD, upd_same⟩ (fun j H' hj _ => hj) (fun H' _ => Nat.le_refl _) ?_ ?_
      · rintro j H' v H'' hj ⟨sj, hdj⟩ ⟨rfl, rfl⟩
        refine ⟨rfl, ?_⟩
        dsimp only [tYes]
        rw [if_pos rfl]
        refine ⟨.str (T r.2), rfl, _, rfl, _, rfl, _, rfl, _, rfl, _, _, rfl, rfl, _, rfl, T r.2, rfl, hzt, _, hdj, line_lt ?_, fun b o e => ?_, ?_⟩
        · rw [List.length_map, List.length_take]
          omega
        · rw [upd_ne (ne_of_none e hD)]
          exact sj b o e
        · rw [upd_same, List.take_add_one, ch_get hj]
          show some (HO.lst (_ ++ [V.str (cutS (T r.2) (some ((0 : Int) + ((j : Nat) : Int) * (1 + y % 40))) (some ((0 : Int) + ((j : Nat) : Int) * (1 + y % 40) + (1 + y % 40))))])) = _
          rw [hsz, show (0 : Int) + ((j : Nat) : Int) * ((sz : Nat) : Int) = ((j * sz : Nat) : Int) by rw [Int.zero_add, Int.natCast_mul], show ((j * sz : Nat) : Int) + ((sz : Nat) : Int) = ((j * sz + sz : Nat) : Int) by omega, cut_mid, Nat.add_sub_cancel_left]
          simp
      rintro H7 ⟨s7, hd7⟩
      rw [List.take_of_length_le (by rw [ch_len]; exact Nat.le_refl _)] at hd7
      have hq27 := s7 _ _ upd_same
      refine ⟨q2, D, _, _, rfl, rfl, hq27, hd7, line_ok (by rw [List.length_append, List.length_map, List.length_map, List.length_singleton]; omega), fun q3 hq3 => ?_⟩
      refine ⟨q3, ls ++ ((62 :: r.1) :: ch sz r.2), _, _, _, rfl, (((sm.trans (same_upd hq1)).trans (same_upd hq2)).trans s7).trans (same_upd hq3), ?_, ?_, fun l hl => ?_⟩
      · rw [upd_same]
        show some (HO.lst _) = some (HO.lst _)
        rw [List.map_append, List.map_cons, e62, List.append_assoc]
        rfl
      · rw [List.length_append, List.length_cons]
        omega
      · rcases List.mem_append.mp hl with z | z
        · exact hls l z
        · rcases List.mem_cons.mp z with y | y
          · subst y
            refine ⟨fun c hc => ?_, by rw [List.length_cons]; omega⟩
            rcases List.mem_cons.mp hc with w | w
            · subst w
              decide
            · exact g2' c w
          · have hm := (ch_mem (k := sz) sz1 y).2
            refine ⟨fun c hc => sg_asc (g3' c (hm c hc)), ?_⟩
            obtain ⟨i', _, rfl⟩ := List.mem_map.mp y
            rw [List.length_take, List.length_drop]
            omega
    · rintro σ H2 ⟨pl, ls, nv, tv, sv, rfl, sm, hpl, hn, hls⟩
      have s02 := s1.trans sm
      refine ⟨.ref pl, rfl, .ref a, rfl, a, ns, 10, rfl, s02.seq hsq, fun y1 => ⟨pl, ls, y1, 60, rfl, .inl (.inl hpl), hls, by decide, by omega, fun H3 q3 m3 s3 hq3 hx3 hm3 hl3 => ?_⟩⟩
      have s03 := s02.trans s3
      refine ⟨fun σ H' => ∃ (pl : Addr) (ls : List (List Nat)), σ = [some (.ref a), some (.ref pr), some (.ref pl), nv, tv, sv, none, none, none, none, none, none, none] ∧ Same H H' ∧ H' pl = some (LS ls) ∧ (∀ l ∈ ls, Asc l ∧ l.length ≤ 200) ∧ ls.length ≤ 300, ?_, ?_⟩
      · refine ⟨.ref a, rfl, a, ns, 11, rfl, s03.seq hsq, fun y2 => ⟨y2, 2, rfl, rfl, (show (0 : Int) < 2 by decide), rfl, _, rfl, ite2 (fun _ => ?_) (fun _ => ?_)⟩⟩
        · refine ⟨.ref q3, rfl, .ref a, rfl, a, ns, 11, rfl, s03.seq hsq, fun y3 => ⟨y3, 2, rfl, rfl, ⟨by decide, by decide⟩, q3, m3, _, 120, rfl, .inl (.inl hx3), hm3, by decide, by omega, fun H4 q4 m4 s4 hq4 hx4 hm4 hl4 => ?_⟩⟩
          exact ⟨q4, m4, rfl, s03.trans s4, hx4, fun l hl => ⟨(hm4 l hl).1, by have := (hm4 l hl).2; omega⟩, by omega⟩
        · exact ⟨q3, m3, rfl, s03, hx3, fun l hl => ⟨(hm3 l hl).1, by have := (hm3 l hl).2; omega⟩, by omega⟩
      rintro σ H3 ⟨pl, ls, rfl, s03, hpl, hls, hn⟩
      have hlen : ∀ l ∈ ls, l.length ≤ 1000000 := fun l hl => by have := (hls l hl).2; omega
      have hasc : ∀ l ∈ ls, Asc l := fun l hl => (hls l hl).1
      have shF := shaped_dL hasc
      have eqF := SeqAt.eqv_refl _ (can_dL hasc)
      refine ⟨.ref pl, rfl, pl, ls, rfl, .inl (.inl hpl), hlen, by omega, fun rs' hrr H4 q4 p4 xs4 s4 hq4 hp4 ht4 => ?_, fun l c hrr H4 q4 p4 z4 s4 hq4 hz4 => ?_⟩
      · -- no fault
        have hra := rr_asc hasc _ _ _ (fun r hr => by cases hr) hrr
        have shR := shaped_dR hra
        have eqR := SeqAt.eqv_refl _ (can_dR hra)
        refine ⟨q4, _, rfl, .inl (.inl hq4), rfl, _, _, rfl, _, _, rfl, rfl, ?_⟩
        refine ⟨.ref pl, rfl, pl, _, rfl, .inl (.inl (.inl (s4 _ _ hpl))), fun ph hph => ?_⟩
        have sh := same_upd (o := LS ls) hph
        refine ⟨.ref ph, rfl, ph, ls, rfl, .inl (.inl upd_same), hlen, by omega, fun rs2 hrr2 H5 p5 xs5 s5 hp5 hx5 ht5 => ?_, fun l c hbad => by rw [hrr] at hbad; cases hbad⟩
        obtain rfl : rs2 = rs' := by
          rw [hrr] at hrr2
          cases hrr2
          rfl
        have s45 := sh.trans s5
        refine ⟨.non, rfl, _, rfl, ?_⟩
        rw [decide_eq_true rfl]
        refine iteT ⟨.ref p5, rfl, .ref p4, rfl, dR rs2, dR rs2, dp_dR (.inl (.inl hx5)) ht5, dp_dR (.inl (.inl (s45 _ _ hp4))) (ht4.mono fun b ys e => s45 _ _ e), shR, shR, _, rfl, ?_⟩
        rw [eqR]
        refine iteT ⟨.ref ph, rfl, .ref pl, rfl, dL ls, dL ls, dp_dL (.inl (.inl (s5 _ _ upd_same))), dp_dL (.inl (.inl (s45 _ _ (s4 _ _ hpl)))), shF, shF, ?_⟩
        rw [eqF]
        exact q _
      · -- a fault
        refine ⟨q4, _, rfl, .inl (.inl hq4), rfl, _, _, rfl, _, _, rfl, rfl, ?_⟩
        refine ⟨.ref pl, rfl, pl, _, rfl, .inl (.inl (.inl (s4 _ _ hpl))), fun ph hph => ?_⟩
        have sh := same_upd (o := LS ls) hph
        refine ⟨.ref ph, rfl, ph, ls, rfl, .inl (.inl upd_same), hlen, by omega, (fun rs2 hrr2 => by rw [hrr] at hrr2; cases hrr2), fun l2 c2 hbad => ?_⟩
        obtain ⟨rfl, rfl⟩ : l2 = l ∧ c2 = c := by
          rw [hrr] at hbad
          cases hbad
          exact ⟨rfl, rfl⟩
        intro H5 d5 s5 hd5 hx5
        have s45 := sh.trans s5
        refine ⟨true, KD.xm, fun _ ae hae => ?_, fun z => nomatch z⟩
        refine ⟨.ref ae, rfl, rfl, d5, _, .ref p1, _, false, rfl, hx5, rfl, (fun u h => h), k1, false, rfl, iteF ?_⟩
        refine ⟨.ref ae, rfl, rfl, d5, _, .ref p2, _, false, rfl, hx5, rfl, (fun u h => h), k2, false, rfl, iteF ?_⟩
        refine ⟨.ref ae, rfl, rfl, d5, _, .ref p3, _, false, rfl, hx5, rfl, (fun u h => h), k3, ?_⟩
        refine ⟨.ref ae, rfl, rfl, d5, _, .ref C, _, true, rfl, hx5, rfl, (fun u h => h), KD.kC, true, rfl, iteF ?_⟩
        refine ⟨.bl false, rfl, false, rfl, iteF ?_⟩
        refine ⟨.ref ae, rfl, rfl, d5, _, .ref p4', _, false, rfl, hx5, rfl, (fun u h => h), k4, false, rfl, iteF ?_⟩
        refine ⟨.ref ae, rfl, rfl, d5, _, .ty "ValueError", _, true, rfl, hx5, rfl, (fun u h => h), KD.kV, true, rfl, iteF ?_⟩
        refine ⟨.ref ae, rfl, rfl, rfl, d5, _, .int l2, rfl, hx5, rfl, .ref ae, rfl, rfl, rfl, d5, _, .int c2, rfl, hx5, rfl, by show 2 ≤ sizeLine; decide, fun q6 hq6 => ?_⟩
        have s6 := same_upd (o := .tup [.int (l2 : Nat), .int (c2 : Nat)]) hq6
        have s46 := s45.trans s6
        refine ⟨.ref z4, rfl, .tuple [.int l2, .int c2], .tuple [.int l2, .int c2], dp_pair upd_same, dp_pair (s46 _ _ hz4), rfl, rfl, _, rfl, ?_⟩
        rw [SeqAt.eqv_refl _ rfl]
        refine iteT ⟨.ref ph, rfl, .ref pl, rfl, dL ls, dL ls, dp_dL (.inl (.inl (s6 _ _ (s5 _ _ upd_same)))), dp_dL (.inl (.inl (s46 _ _ (s4 _ _ hpl)))), shF, shF, ?_⟩
        rw [eqF]
        exact q _
end
theorem all_mk {l : PySem.W.OpenLaw} {w : World} {K : PySem.W.Frag} {h : Heap} {mg : Str → Option Value} {fa fRR fDT fNL fTL fLA fFO fC fR fT fLR fLF fNF fTF fSP fDU fL C fI hE : Addr} (X : K.In h) (G : h.Ns mainGlobals mg) (hfa : mg "law" = some (.ref fa))
    {odRR anRR : Option Addr} {slRR : Array (Option Value)} {ocRR kVRR dcRR pmRR cdRR ctRR : Value}
    {odDT anDT : Option Addr} {slDT : Array (Option Value)} {ocDT kVDT dcDT pmDT cdDT ctDT : Value}
    {odNL anNL : Option Addr} {slNL : Array (Option Value)} {ocNL kVNL dcNL pmNL cdNL ctNL : Value}
    {odTL anTL : Option Addr} {slTL : Array (Option Value)} {ocTL kVTL dcTL pmTL cdTL ctTL : Value}
    {odLA anLA : Option Addr} {slLA : Array (Option Value)} {ocLA kVLA dcLA pmLA cdLA ctLA : Value}
    {odFO anFO : Option Addr} {slFO : Array (Option Value)} {ocFO kVFO dcFO pmFO cdFO ctFO : Value}
    {odC anC : Option Addr} {slC : Array (Option Value)} {ocC kVC dcC pmC cdC ctC : Value}
    {odR anR : Option Addr} {slR : Array (Option Value)} {ocR kVR dcR pmR cdR ctR : Value}
    {odT anT : Option Addr} {slT : Array (Option Value)} {ocT kVT dcT pmT cdT ctT : Value}
    {odLR anLR : Option Addr} {slLR : Array (Option Value)} {ocLR kVLR dcLR pmLR cdLR ctLR : Value}
    {odLF anLF : Option Addr} {slLF : Array (Option Value)} {ocLF kVLF dcLF pmLF cdLF ctLF : Value}
    {odNF anNF : Option Addr} {slNF : Array (Option Value)} {ocNF kVNF dcNF pmNF cdNF ctNF : Value}
    {odTF anTF : Option Addr} {slTF : Array (Option Value)} {ocTF kVTF dcTF pmTF cdTF ctTF : Value}
    {odSP anSP : Option Addr} {slSP : Array (Option Value)} {ocSP kVSP dcSP pmSP cdSP ctSP : Value}
    {odDU anDU : Option Addr} {slDU : Array (Option Value)} {ocDU kVDU dcDU pmDU cdDU ctDU : Value}
    {odL anL : Option Addr} {slL : Array (Option Value)} {ocL kVL dcL pmL cdL ctL : Value}
    {odI0 anI0 : Option Addr} {slI0 : Array (Option Value)} {ocI0 kVI0 dcI0 pmI0 cdI0 ctI0 : Value}
    (aRR : PySem.W.nsIn K mainGlobals "read_references" = some (some (.ref fRR))) (lRR : K.lookup fRR = some ⟨ocRR, odRR, .func (PySem.W.fnOf "read_references" "read_references" (defArgs sReadRefs) (defBody sReadRefs) (defScope sReadRefs) .none kVRR dcRR pmRR anRR cdRR ctRR), slRR⟩) (cRR : PySem.W.codeIn K cdRR "read_references" = true) (kRR : PySem.W.keepIn K (.ref fRR) = true)
    (aDT : PySem.W.nsIn K mainGlobals "_divided_text" = some (some (.ref fDT))) (lDT : K.lookup fDT = some ⟨ocDT, odDT, .func (PySem.W.fnOf "_divided_text" "_divided_text" (defArgs sDivText) (defBody sDivText) (defScope sDivText) .none kVDT dcDT pmDT anDT cdDT ctDT), slDT⟩) (cDT : PySem.W.codeIn K cdDT "_divided_text" = true) (kDT : PySem.W.keepIn K (.ref fDT) = true)
    (aNL : PySem.W.nsIn K mainGlobals "_name_line" = some (some (.ref fNL))) (lNL : K.lookup fNL = some ⟨ocNL, odNL, .func (PySem.W.fnOf "_name_line" "_name_line" (defArgs sNameLine) (defBody sNameLine) (defScope sNameLine) .none kVNL dcNL pmNL anNL cdNL ctNL), slNL⟩) (cNL : PySem.W.codeIn K cdNL "_name_line" = true) (kNL : PySem.W.keepIn K (.ref fNL) = true)
    (aTL : PySem.W.nsIn K mainGlobals "_text_line" = some (some (.ref fTL))) (lTL : K.lookup fTL = some ⟨ocTL, odTL, .func (PySem.W.fnOf "_text_line" "_text_line" (defArgs sTextLine) (defBody sTextLine) (defScope sTextLine) .none kVTL dcTL pmTL anTL cdTL ctTL), slTL⟩) (cTL : PySem.W.codeIn K cdTL "_text_line" = true) (kTL : PySem.W.keepIn K (.ref fTL) = true)
    (aLA : PySem.W.nsIn K mainGlobals "_line_at" = some (some (.ref fLA))) (lLA : K.lookup fLA = some ⟨ocLA, odLA, .func (PySem.W.fnOf "_line_at" "_line_at" (defArgs sLineAt) (defBody sLineAt) (defScope sLineAt) .none kVLA dcLA pmLA anLA cdLA ctLA), slLA⟩) (cLA : PySem.W.codeIn K cdLA "_line_at" = true) (kLA : PySem.W.keepIn K (.ref fLA) = true)
    (aFO : PySem.W.nsIn K mainGlobals "_first_other" = some (some (.ref fFO))) (lFO : K.lookup fFO = some ⟨ocFO, odFO, .func (PySem.W.fnOf "_first_other" "_first_other" (defArgs sFirstOther) (defBody sFirstOther) (defScope sFirstOther) .none kVFO dcFO pmFO anFO cdFO ctFO), slFO⟩) (cFO : PySem.W.codeIn K cdFO "_first_other" = true) (kFO : PySem.W.keepIn K (.ref fFO) = true)
    (aC : PySem.W.nsIn K mainGlobals "_law_cell" = some (some (.ref fC))) (lC : K.lookup fC = some ⟨ocC, odC, .func (PySem.W.fnOf "_law_cell" "_law_cell" (defArgs sCell) (defBody sCell) (defScope sCell) .none kVC dcC pmC anC cdC ctC), slC⟩) (cC : PySem.W.codeIn K cdC "_law_cell" = true) (kC : PySem.W.keepIn K (.ref fC) = true)
    (aR : PySem.W.nsIn K mainGlobals "_law_row" = some (some (.ref fR))) (lR : K.lookup fR = some ⟨ocR, odR, .func (PySem.W.fnOf "_law_row" "_law_row" (defArgs sRow) (defBody sRow) (defScope sRow) .none kVR dcR pmR anR cdR ctR), slR⟩) (cR : PySem.W.codeIn K cdR "_law_row" = true) (kR : PySem.W.keepIn K (.ref fR) = true)
    (aT : PySem.W.nsIn K mainGlobals "_law_text" = some (some (.ref fT))) (lT : K.lookup fT = some ⟨ocT, odT, .func (PySem.W.fnOf "_law_text" "_law_text" (defArgs sText) (defBody sText) (defScope sText) .none kVT dcT pmT anT cdT ctT), slT⟩) (cT : PySem.W.codeIn K cdT "_law_text" = true) (kT : PySem.W.keepIn K (.ref fT) = true)
    (aLR : PySem.W.nsIn K mainGlobals "_law_references" = some (some (.ref fLR))) (lLR : K.lookup fLR = some ⟨ocLR, odLR, .func (PySem.W.fnOf "_law_references" "_law_references" (defArgs sLRefs) (defBody sLRefs) (defScope sLRefs) .none kVLR dcLR pmLR anLR cdLR ctLR), slLR⟩) (cLR : PySem.W.codeIn K cdLR "_law_references" = true) (kLR : PySem.W.keepIn K (.ref fLR) = true)
    (aLF : PySem.W.nsIn K mainGlobals "_law_first" = some (some (.ref fLF))) (lLF : K.lookup fLF = some ⟨ocLF, odLF, .func (PySem.W.fnOf "_law_first" "_law_first" (defArgs sLFirst) (defBody sLFirst) (defScope sLFirst) .none kVLF dcLF pmLF anLF cdLF ctLF), slLF⟩) (cLF : PySem.W.codeIn K cdLF "_law_first" = true) (kLF : PySem.W.keepIn K (.ref fLF) = true)
    (aNF : PySem.W.nsIn K mainGlobals "_law_name_fault" = some (some (.ref fNF))) (lNF : K.lookup fNF = some ⟨ocNF, odNF, .func (PySem.W.fnOf "_law_name_fault" "_law_name_fault" (defArgs sLNameF) (defBody sLNameF) (defScope sLNameF) .none kVNF dcNF pmNF anNF cdNF ctNF), slNF⟩) (cNF : PySem.W.codeIn K cdNF "_law_name_fault" = true) (kNF : PySem.W.keepIn K (.ref fNF) = true)
    (aTF : PySem.W.nsIn K mainGlobals "_law_text_fault" = some (some (.ref fTF))) (lTF : K.lookup fTF = some ⟨ocTF, odTF, .func (PySem.W.fnOf "_law_text_fault" "_law_text_fault" (defArgs sLTextF) (defBody sLTextF) (defScope sLTextF) .none kVTF dcTF pmTF anTF cdTF ctTF), slTF⟩) (cTF : PySem.W.codeIn K cdTF "_law_text_fault" = true) (kTF : PySem.W.keepIn K (.ref fTF) = true)
    (aSP : PySem.W.nsIn K mainGlobals "_law_spoilt" = some (some (.ref fSP))) (lSP : K.lookup fSP = some ⟨ocSP, odSP, .func (PySem.W.fnOf "_law_spoilt" "_law_spoilt" (defArgs sSpoilt) (defBody sSpoilt) (defScope sSpoilt) .none kVSP dcSP pmSP anSP cdSP ctSP), slSP⟩) (cSP : PySem.W.codeIn K cdSP "_law_spoilt" = true) (kSP : PySem.W.keepIn K (.ref fSP) = true)
    (aDU : PySem.W.nsIn K mainGlobals "_law_due" = some (some (.ref fDU))) (lDU : K.lookup fDU = some ⟨ocDU, odDU, .func (PySem.W.fnOf "_law_due" "_law_due" (defArgs sDue) (defBody sDue) (defScope sDue) .none kVDU dcDU pmDU anDU cdDU ctDU), slDU⟩) (cDU : PySem.W.codeIn K cdDU "_law_due" = true) (kDU : PySem.W.keepIn K (.ref fDU) = true)
    (aL : PySem.W.nsIn K mainGlobals "law" = some (some (.ref fL))) (lL : K.lookup fL = some ⟨ocL, odL, .func (PySem.W.fnOf "law" "law" (defArgs sLaw) (defBody sLaw) (defScope sLaw) .none kVL dcL pmL anL cdL ctL), slL⟩) (cL : PySem.W.codeIn K cdL "law" = true) (kL : PySem.W.keepIn K (.ref fL) = true)
    {xnm xq : Str} {xN : Addr} {xbs : List Value} {xsn : List Str} {xsub : List Value} {xab : Bool} {xcol : Option Bool} {xdd : Option Addr} {xm0 xm1 xm2 xm3 xm5 : Option Value}
    (iA : PySem.W.nsIn K mainGlobals "InvalidLine" = some (some (.ref C))) (iX : K.lookup C = some (excClassObj xnm xq C xN xbs [.ref hE, .type "ValueError", .type "Exception", .type "BaseException", .type "object"] true xsn xsub xab xcol xdd xm0 xm1 xm2 xm3 xm5 "ValueError.__new__"))
    (iS : PySem.W.findIn K (.ref C) "__setattr__" = some (some (.builtin "object.__setattr__"))) (iE : PySem.W.subIn K (.ref C) (.type "BaseException") = some true) (iY : PySem.W.typeIn K (.ref C) = some (.type "type")) (iK : PySem.W.keepIn K (.ref C) = true)
    (iF : PySem.W.findIn K (.ref C) "__init__" = some (some (.ref fI))) (iT : PySem.W.typeIn K (.ref fI) = some (.type "function")) (iL : PySem.W.findIn K (.ref C) "line" = some none) (iC : PySem.W.findIn K (.ref C) "column" = some none)
    (lI0 : K.lookup fI = some ⟨ocI0, odI0, .func (PySem.W.fnOf "__init__" "InvalidLine.__init__" (defArgs sInit) (defBody sInit) (defScope sInit) .none kVI0 dcI0 pmI0 anI0 cdI0 ctI0), slI0⟩) (cI0 : PySem.W.codeIn K cdI0 "InvalidLine.__init__" = true) (kI0 : PySem.W.keepIn K (.ref fI) = true)
    {tNC : Tok} (nNC : PySem.W.nsIn K mainGlobals "NAME_CHARACTERS" = some (some (.str "0123456789ABCDEFGHIJKLMNOPQRSTUVWXYZabcdefghijklmnopqrstuvwxyz" tNC)))
    {tLN : Tok} (nLN : PySem.W.nsIn K mainGlobals "_LONGEST_NAME" = some (some (.int 40 tLN)))
    {tLRF : Tok} (nLRF : PySem.W.nsIn K mainGlobals "_LONGEST_REFERENCE" = some (some (.int 100000 tLRF)))
    {tLE : Tok} (nLE : PySem.W.nsIn K mainGlobals "LETTERS" = some (some (.str "ACGTN" tLE)))
    {hP hN hT hD : Addr}
    (xA1 : PySem.W.findIn K (.ref C) "__getattribute__" = some (some (.builtin "BaseException.__getattribute__")))
    (xA2 : PySem.W.findIn K (.ref C) "__getattr__" = some none)
    (xA3 : PySem.W.hasDictIn K C = true)
    (xA4 : PySem.W.findIn K (.ref C) "__class__" = some (some (.builtin "object.__class__")))
    (xA5 : PySem.W.specialIn K (.builtin "object.__class__") "__get__" = some (some (.builtin "getset_descriptor.__get__")))
    (xA6 : PySem.W.takesIn K (.builtin "object.__class__") = some true)
    (xA7 : PySem.W.mroIn K C (.type "object") = some true)
    (xH : PySem.W.nsIn K mainGlobals "HomeError" = some (some (.ref hE)))
    (xH1 : PySem.W.subIn K (.ref hE) (.type "BaseException") = some true)
    (xH2 : PySem.W.hasDictIn K hE = true)
    (xH3 : PySem.W.typeIn K (.ref hE) = some (.type "type"))
    (xH4 : PySem.W.subIn K (.ref C) (.ref hE) = some true)
    (xV : PySem.W.subIn K (.ref C) (.type "ValueError") = some true)
    (xP : PySem.W.nsIn K mainGlobals "InvalidPack" = some (some (.ref hP)))
    (xP1 : PySem.W.hasDictIn K hP = true)
    (xP2 : PySem.W.typeIn K (.ref hP) = some (.type "type"))
    (xP3 : PySem.W.subIn K (.ref C) (.ref hP) = some false)
    (qP : (C == hP) = false)
    (xN : PySem.W.nsIn K mainGlobals "NotAnIndex" = some (some (.ref hN)))
    (xN1 : PySem.W.hasDictIn K hN = true)
    (xN2 : PySem.W.typeIn K (.ref hN) = some (.type "type"))
    (xN3 : PySem.W.subIn K (.ref C) (.ref hN) = some false)
    (qN : (C == hN) = false)
    (xT : PySem.W.nsIn K mainGlobals "Truncated" = some (some (.ref hT)))
    (xT1 : PySem.W.hasDictIn K hT = true)
    (xT2 : PySem.W.typeIn K (.ref hT) = some (.type "type"))
    (xT3 : PySem.W.subIn K (.ref C) (.ref hT) = some false)
    (qT : (C == hT) = false)
    (xD : PySem.W.nsIn K mainGlobals "Damaged" = some (some (.ref hD)))
    (xD1 : PySem.W.hasDictIn K hD = true)
    (xD2 : PySem.W.typeIn K (.ref hD) = some (.type "type"))
    (xD3 : PySem.W.subIn K (.ref C) (.ref hD) = some false)
    (qD : (C == hD) = false)
    (zlen : PySem.W.nsIn K mainGlobals "len" = some none) (zint : PySem.W.nsIn K mainGlobals "int" = some none) (zabs : PySem.W.nsIn K mainGlobals "abs" = some none) (zrange : PySem.W.nsIn K mainGlobals "range" = some none) (zisinstance : PySem.W.nsIn K mainGlobals "isinstance" = some none) (zbool : PySem.W.nsIn K mainGlobals "bool" = some none) (zstr : PySem.W.nsIn K mainGlobals "str" = some none) (zmin : PySem.W.nsIn K mainGlobals "min" = some none) (zlist : PySem.W.nsIn K mainGlobals "list" = some none) (zValueError : PySem.W.nsIn K mainGlobals "ValueError" = some none) :
    ∃ fd : FuncData, (∀ (s : Shared) (v : Value), BindsTo s fd ⟨[v], []⟩ [("script", v)]) ∧ ∀ base : Heap, K.In base → base.Ns mainGlobals mg → FnOk l.prog w K mg base CX0 7 fa fd ["script"] (spLaw K) := by
  have e := hfa.symm.trans (PySem.W.mg_of X G aL)
  cases e
  have FRR := fun_mk (st := sReadRefs) lRR cRR kRR
  have FDT := fun_mk (st := sDivText) lDT cDT kDT
  have FNL := fun_mk (st := sNameLine) lNL cNL kNL
  have FTL := fun_mk (st := sTextLine) lTL cTL kTL
  have FLA := fun_mk (st := sLineAt) lLA cLA kLA
  have FFO := fun_mk (st := sFirstOther) lFO cFO kFO
  have FC := fun_mk (st := sCell) lC cC kC
  have FR := fun_mk (st := sRow) lR cR kR
  have FT := fun_mk (st := sText) lT cT kT
  have FLR := fun_mk (st := sLRefs) lLR cLR kLR
  have FLF := fun_mk (st := sLFirst) lLF cLF kLF
  have FNF := fun_mk (st := sLNameF) lNF cNF kNF
  have FTF := fun_mk (st := sLTextF) lTF cTF kTF
  have FSP := fun_mk (st := sSpoilt) lSP cSP kSP
  have FDU := fun_mk (st := sDue) lDU cDU kDU
  have FL := fun_mk (st := sLaw) lL cL kL
  have FI0 := fun_mk (st := sInit) lI0 cI0 kI0
  have bI0 := FI0.binds (ps := ["self", "line", "column"]) fun _ _ _ _ _ _ us hl => match us, hl with | [_, _, _], _ => rfl
  have IE : IL K mg C fI _ := ⟨PySem.W.mg_of X G iA, ⟨⟨_, _, _, _, _, _, _, _, _, _, _, _, _, _, _, iX, rfl⟩, iS, iE, iY, iK⟩, iF, iT, FI0, bI0, iL, iC⟩
  have B : Bl mg := ⟨PySem.W.mg_none_of X G zlen, PySem.W.mg_none_of X G zint, PySem.W.mg_none_of X G zabs, PySem.W.mg_none_of X G zrange, PySem.W.mg_none_of X G zisinstance, PySem.W.mg_none_of X G zbool, PySem.W.mg_none_of X G zstr⟩
  have bRR := FRR.binds (ps := ["lines"]) fun _ _ _ _ _ _ us hl => match us, hl with | [_], _ => rfl
  have bDT := FDT.binds (ps := ["lines", "at"]) fun _ _ _ _ _ _ us hl => match us, hl with | [_, _], _ => rfl
  have bNL := FNL.binds (ps := ["lines", "at", "sign"]) fun _ _ _ _ _ _ us hl => match us, hl with | [_, _, _], _ => rfl
  have bTL := FTL.binds (ps := ["lines", "at", "room"]) fun _ _ _ _ _ _ us hl => match us, hl with | [_, _, _], _ => rfl
  have bLA := FLA.binds (ps := ["lines", "at"]) fun _ _ _ _ _ _ us hl => match us, hl with | [_, _], _ => rfl
  have bFO := FFO.binds (ps := ["line", "begin", "allowed"]) fun _ _ _ _ _ _ us hl => match us, hl with | [_, _, _], _ => rfl
  have bC := FC.binds (ps := ["script", "k"]) fun _ _ _ _ _ _ us hl => match us, hl with | [_, _], _ => rfl
  have bR := FR.binds (ps := ["cell", "count", "bound"]) fun _ _ _ _ _ _ us hl => match us, hl with | [_, _, _], _ => rfl
  have bT := FT.binds (ps := ["cell", "size"]) fun _ _ _ _ _ _ us hl => match us, hl with | [_, _], _ => rfl
  have bLR := FLR.binds (ps := ["script", "at", "count"]) fun _ _ _ _ _ _ us hl => match us, hl with | [_, _, _], _ => rfl
  have bLF := FLF.binds (ps := ["line", "start", "signs"]) fun _ _ _ _ _ _ us hl => match us, hl with | [_, _, _], _ => rfl
  have bNF := FNF.binds (ps := ["line", "head"]) fun _ _ _ _ _ _ us hl => match us, hl with | [_, _], _ => rfl
  have bTF := FTF.binds (ps := ["line", "room"]) fun _ _ _ _ _ _ us hl => match us, hl with | [_, _], _ => rfl
  have bSP := FSP.binds (ps := ["lines", "cell"]) fun _ _ _ _ _ _ us hl => match us, hl with | [_, _], _ => rfl
  have bDU := FDU.binds (ps := ["lines"]) fun _ _ _ _ _ _ us hl => match us, hl with | [_], _ => rfl
  have KD : Kinds K mg C hE := ⟨⟨xA1, xA2, iE, xA3, xA4, xA5, xA6, xA7⟩, ⟨xA1, xA2, iE, xA3⟩, iL, iC, PySem.W.mg_of X G xH, PySem.W.exm_ref xH1 xH2 xH3 xH4, PySem.W.mg_of X G iA, kit_self, ⟨hP, PySem.W.mg_of X G xP, kit_other qP xP1 xP2 xP3⟩, ⟨hN, PySem.W.mg_of X G xN, kit_other qN xN1 xN2 xN3⟩, ⟨hT, PySem.W.mg_of X G xT, kit_other qT xT1 xT2 xT3⟩, ⟨hD, PySem.W.mg_of X G xD, kit_other qD xD1 xD2 xD3⟩, PySem.W.mg_none_of X G zValueError, kit_value xV⟩
  have gN : mg "NAME_CHARACTERS" = some (.str (T ncl) tNC) := (PySem.W.mg_of X G nNC).trans (by rw [← ncl_text])
  have gE : mg "LETTERS" = some (.str (T lets) tLE) := (PySem.W.mg_of X G nLE).trans (by rw [← lets_text])
  have zm := PySem.W.mg_none_of X G zmin
  have fin : ∀ base : Heap, FnOk l.prog w K mg base CX0 7 fa _ ["script"] (spLaw K) := fun base => by
    have hA : HasX l.prog w K mg base 3 "_line_at" ["lines", "at"] (spLineAt K C) := ⟨fLA, _, ok_lineAt FLA IE B.len, PySem.W.mg_of X G aLA, kLA, bLA⟩
    have hF : Has l.prog w K mg base 1 "_first_other" ["line", "begin", "allowed"] spFirst := ⟨fFO, _, ok_first FFO B.len B.range, PySem.W.mg_of X G aFO, kFO, bFO⟩
    have hNL : HasX l.prog w K mg base 4 "_name_line" ["lines", "at", "sign"] (spName K C) := ⟨fNL, _, ok_name FNL IE B.len zm gN (PySem.W.mg_of X G nLN) hA hF, PySem.W.mg_of X G aNL, kNL, bNL⟩
    have hTL : HasX l.prog w K mg base 4 "_text_line" ["lines", "at", "room"] (spTextLine K C) := ⟨fTL, _, ok_textLine FTL IE B.len zm gE hA hF, PySem.W.mg_of X G aTL, kTL, bTL⟩
    have hDT : HasX l.prog w K mg base 5 "_divided_text" ["lines", "at"] (spDiv K C) := ⟨fDT, _, ok_div FDT B.len (PySem.W.mg_of X G nLRF) hTL, PySem.W.mg_of X G aDT, kDT, bDT⟩
    have hRR : HasX l.prog w K mg base 6 "read_references" ["lines"] (spReadRefs K C) := ⟨fRR, _, ok_readRefs FRR B.len hNL hDT, PySem.W.mg_of X G aRR, kRR, bRR⟩
    have hC : Has l.prog w K mg base 2 "_law_cell" ["script", "k"] (spCell K) := ⟨fC, _, ok_cell FC B, PySem.W.mg_of X G aC, kC, bC⟩
    have hT : Has l.prog w K mg base 2 "_law_text" ["cell", "size"] (spText K) := ⟨fT, _, ok_text FT B (ok_row FR B) (PySem.W.mg_of X G aR) kR bR, PySem.W.mg_of X G aT, kT, bT⟩
    have hLF : Has l.prog w K mg base 1 "_law_first" ["line", "start", "signs"] spFirst := ⟨fLF, _, ok_lfirst FLF B, PySem.W.mg_of X G aLF, kLF, bLF⟩
    have hNF : Has l.prog w K mg base 2 "_law_name_fault" ["line", "head"] spLNameF := ⟨fNF, _, ok_lnameF FNF B zm hLF, PySem.W.mg_of X G aNF, kNF, bNF⟩
    have hTF : Has l.prog w K mg base 2 "_law_text_fault" ["line", "room"] spLTextF := ⟨fTF, _, ok_ltextF FTF B zm hLF, PySem.W.mg_of X G aTF, kTF, bTF⟩
    exact ok_law FL B (PySem.W.mg_none_of X G zlist) KD hC ⟨fLR, _, ok_lrefs FLR B hC hT, PySem.W.mg_of X G aLR, kLR, bLR⟩ ⟨fSP, _, ok_spoilt FSP B (PySem.W.mg_none_of X G zlist), PySem.W.mg_of X G aSP, kSP, bSP⟩ ⟨fDU, _, ok_due FDU B hNF hTF, PySem.W.mg_of X G aDU, kDU, bDU⟩ hRR
  exact ⟨PySem.W.fnOf "law" "law" (defArgs sLaw) (defBody sLaw) (defScope sLaw) .none kVL dcL pmL anL cdL ctL, fun s v => .of_eq rfl, fun base _ _ => fin base⟩
end Hr
open PySem PySem.W PyProof.Rows
set_option maxHeartbeats 0 in
theorem PySem.Challenge.cw_homereads_k03_faults_of_reference_lines_holds : PySem.Challenge.rw_homereads_k03_faults_of_reference_lines.Holds := by
  w_on; o_law; k_head; (case hw => w_witness2)
  k_fill
  refine L2.walk_of (l := PySem.Challenge.rw_homereads_k03_faults_of_reference_lines) (n := 63) (k := 7) (x := "script") (CX := fun _ => L2.CX0) (sp := fun w => Hr.spLaw _) rfl (by decide) rfl ⟨rfl, by decide, by decide⟩ (fun w h Y => PySem.W.kIn_of Y) ?F (fun _ _ a ns hl _ hS => ⟨a, ns, rfl, hS, fun _ => rfl⟩) (fun _ _ _ _ _ h => h)
  case F =>
    intro w mg fa h KX G hmg
    refine' Hr.all_mk KX G hmg ?aRR ?lRR ?cRR ?kRR ?aDT ?lDT ?cDT ?kDT ?aNL ?lNL ?cNL ?kNL ?aTL ?lTL ?cTL ?kTL ?aLA ?lLA ?cLA ?kLA ?aFO ?lFO ?cFO ?kFO ?aC ?lC ?cC ?kC ?aR ?lR ?cR ?kR ?aT ?lT ?cT ?kT ?aLR ?lLR ?cLR ?kLR ?aLF ?lLF ?cLF ?kLF ?aNF ?lNF ?cNF ?kNF ?aTF ?lTF ?cTF ?kTF ?aSP ?lSP ?cSP ?kSP ?aDU ?lDU ?cDU ?kDU ?aL ?lL ?cL ?kL ?iA ?iX ?iS ?iE ?iY ?iK ?iF ?iT ?iL ?iC ?lI0 ?cI0 ?kI0 ?nNC ?nLN ?nLRF ?nLE ?xA1 ?xA2 ?xA3 ?xA4 ?xA5 ?xA6 ?xA7 ?xH ?xH1 ?xH2 ?xH3 ?xH4 ?xV ?xP ?xP1 ?xP2 ?xP3 ?qP ?xN ?xN1 ?xN2 ?xN3 ?qN ?xT ?xT1 ?xT2 ?xT3 ?qT ?xD ?xD1 ?xD2 ?xD3 ?qD ?zlen ?zint ?zabs ?zrange ?zisinstance ?zbool ?zstr ?zmin ?zlist ?zValueError
    (case aRR => k_is)
    (case lRR => k_is)
    (case cRR => k_is)
    (case kRR => k_is)
    (case aDT => k_is)
    (case lDT => k_is)
    (case cDT => k_is)
    (case kDT => k_is)
    (case aNL => k_is)
    (case lNL => k_is)
    (case cNL => k_is)
    (case kNL => k_is)
    (case aTL => k_is)
    (case lTL => k_is)
    (case cTL => k_is)
    (case kTL => k_is)
    (case aLA => k_is)
    (case lLA => k_is)
    (case cLA => k_is)
    (case kLA => k_is)
    (case aFO => k_is)
    (case lFO => k_is)
    (case cFO => k_is)
    (case kFO => k_is)
    (case aC => k_is)
    (case lC => k_is)
    (case cC => k_is)
    (case kC => k_is)
    (case aR => k_is)
    (case lR => k_is)
    (case cR => k_is)
    (case kR => k_is)
    (case aT => k_is)
    (case lT => k_is)
    (case cT => k_is)
    (case kT => k_is)
    (case aLR => k_is)
    (case lLR => k_is)
    (case cLR => k_is)
    (case kLR => k_is)
    (case aLF => k_is)
    (case lLF => k_is)
    (case cLF => k_is)
    (case kLF => k_is)
    (case aNF => k_is)
    (case lNF => k_is)
    (case cNF => k_is)
    (case kNF => k_is)
    (case aTF => k_is)
    (case lTF => k_is)
    (case cTF => k_is)
    (case kTF => k_is)
    (case aSP => k_is)
    (case lSP => k_is)
    (case cSP => k_is)
    (case kSP => k_is)
    (case aDU => k_is)
    (case lDU => k_is)
    (case cDU => k_is)
    (case kDU => k_is)
    (case aL => k_is)
    (case lL => k_is)
    (case cL => k_is)
    (case kL => k_is)
    (case iA => k_is)
    (case iX => k_is)
    (case iS => k_is)
    (case iE => k_is)
    (case iY => k_is)
    (case iK => k_is)
    (case iF => k_is)
    (case iT => k_is)
    (case iL => k_is)
    (case iC => k_is)
    (case lI0 => k_is)
    (case cI0 => k_is)
    (case kI0 => k_is)
    (case nNC => k_is)
    (case nLN => k_is)
    (case nLRF => k_is)
    (case nLE => k_is)
    (case xA1 => k_is)
    (case xA2 => k_is)
    (case xA3 => k_is)
    (case xA4 => k_is)
    (case xA5 => k_is)
    (case xA6 => k_is)
    (case xA7 => k_is)
    (case xH => k_is)
    (case xH1 => k_is)
    (case xH2 => k_is)
    (case xH3 => k_is)
    (case xH4 => k_is)
    (case xV => k_is)
    (case xP => k_is)
    (case xP1 => k_is)
    (case xP2 => k_is)
    (case xP3 => k_is)
    (case qP => first | rfl | decide)
    (case xN => k_is)
    (case xN1 => k_is)
    (case xN2 => k_is)
    (case xN3 => k_is)
    (case qN => first | rfl | decide)
    (case xT => k_is)
    (case xT1 => k_is)
    (case xT2 => k_is)
    (case xT3 => k_is)
    (case qT => first | rfl | decide)
    (case xD => k_is)
    (case xD1 => k_is)
    (case xD2 => k_is)
    (case xD3 => k_is)
    (case qD => first | rfl | decide)
    (case zlen => k_is)
    (case zint => k_is)
    (case zabs => k_is)
    (case zrange => k_is)
    (case zisinstance => k_is)
    (case zbool => k_is)
    (case zstr => k_is)
    (case zmin => k_is)
    (case zlist => k_is)
    (case zValueError => k_is)
