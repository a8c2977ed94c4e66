import PyProof.Rows.All
import Wide.All
import OpenK.AllK
import Wide.FinOn
import HandS.Base
import HandS.Call
import HandS.List
import HandS.Comp
import HandS.Ends
import HandS.Dict
import HandS.Iter
import HandS.Text
import HandS.Words
import HandS.WordsList
import HandS.More
import HandS.Codes
import HandS.Replace
import HandS.IsInst
import HandS.ExcInit
import HandS.WordsExc
import HandS.Exc
import HandS.TryOnly
import HandS.ExcOwn
import KE.SortKeyHeap
import HandS.Lambda
import HandS.Nested
import HandS.SortKw
import HandS.EndTab
import HandS.SetFor
import HandS.Strs
import HandS.SortInts
import HandS.Zip
import HandS.DictComp
import KE.GoesEnumKw
import KE.OsSetLaws
import HandS.MakeKwOnly
import HandS.Defaults
import HandS.RevRange
import HandS.WideBits
import HandS.Conv
import KE.KDictList
import HandS.Rev
import HandS.ReplaceLit
import HandS.RaiseMore
import PySem.Challenge.RW_homereads_k32_lines_of_records
set_option Elab.async false
set_option linter.all false
set_option maxRecDepth 100000
set_option maxHeartbeats 4000000
namespace Hr
open PySem PySem.Spec PyProof.Rows L2
/-! ### the text -/
def topS (i : Nat) : Stmt := PySem.Challenge.pw_homereads_k32_lines_of_records.main.body.getD i (.Pass ⟨0, 0, 0, 0⟩)
abbrev sWRec : Stmt := topS 1
abbrev sRRec : Stmt := topS 2
abbrev sCell : Stmt := topS 4
abbrev sRow : Stmt := topS 5
abbrev sInteger : Stmt := topS 6
abbrev sLCut : Stmt := topS 7
abbrev sLaw : Stmt := topS 8
theorem scCell : FnScope ["script", "k"] ["script", "k"] (defScope sCell) := ⟨rfl, rfl, rfl, by decide +kernel, rfl, by decide +kernel, by decide +kernel⟩
theorem scRow : FnScope ["cell", "count", "bound", "rest", "mixed", "row", "k"] ["cell", "count", "bound"] (defScope sRow) := ⟨rfl, rfl, rfl, by decide +kernel, rfl, by decide +kernel, by decide +kernel⟩
theorem scInteger : FnScope ["value"] ["value"] (defScope sInteger) := ⟨rfl, rfl, rfl, by decide +kernel, rfl, by decide +kernel, by decide +kernel⟩
/-! ### walks of a known number of turns -/
theorem for_gen {J : It} {n : Nat} {g : TG} {tb : TS} {D : Ends} {σ : L2.St} {H : Hp} (Pv : Nat → L2.St → Hp → Prop) (h0 : Pv 0 σ H) (hgo : ∀ i σ H, i < n → Pv i σ H → J.go i H) (hstop : ∀ σ H, Pv n σ H → J.stop n H)
    (hs : ∀ i σ H x H', i < n → Pv i σ H → J.yld i H x H' → g x σ H' fun σ2 H2 => tb { D with nx := Pv (i + 1), ct := Pv (i + 1), bk := D.nx } σ2 H2) (hd : ∀ σ H, Pv n σ H → D.nx σ H) :
    ∃ W : Nat → Nat → L2.St → Hp → Prop, (∃ m, W 0 m σ H) ∧ ∀ i m σ H, W i m σ H →
      (J.stop i H ∧ D.nx σ H) ∨ (J.go i H ∧ ∃ N : L2.St → Hp → Prop, (∀ σ' H', N σ' H' → ∃ m', m' < m ∧ W (i + 1) m' σ' H') ∧ ∀ x H', J.yld i H x H' → g x σ H' fun σ2 H2 => tb { D with nx := N, ct := N, bk := D.nx } σ2 H2) := by
  refine ⟨fun i m σ H => i + m = n ∧ Pv i σ H, ⟨n, Nat.zero_add n, h0⟩, fun i m σ H hw => ?_⟩
  obtain ⟨em, p⟩ := hw
  cases m with
  | zero =>
    obtain rfl : i = n := em
    exact .inl ⟨hstop σ H p, hd σ H p⟩
  | succ m =>
    have lt : i < n := by omega
    exact .inr ⟨hgo i σ H lt p, Pv (i + 1), fun σ' H' p' => ⟨m, Nat.lt_succ_self m, by omega, p'⟩, fun x H' y => hs i σ H x H' lt p y⟩
theorem lc_gen {J : It} {n : Nat} {g : TG} {tt : TT} {te : TE} {vs : List Nat} {σ : L2.St} {H1 : Hp} {D : Addr} {Qd : Hp → Prop} (Pv : Nat → Hp → Prop) (h0 : Pv 0 (upd H1 D (.lst []))) (hgo : ∀ i H, i < n → Pv i H → J.go i H) (hstop : ∀ H, Pv n H → J.stop n H)
    (hs : ∀ i H x H', i < n → Pv i H → J.yld i H x H' → g x (wipe σ vs) H' fun σ2 H2 => wipe σ2 vs = wipe σ vs ∧ tt σ2 H2 fun b H3 =>
      if b = true then te σ2 H3 fun y H4 => ∃ acc, H4 D = some (.lst acc) ∧ acc.length < sizeLine ∧ Pv (i + 1) (upd H4 D (.lst (acc ++ [y]))) else Pv (i + 1) H3) (hd : ∀ H, Pv n H → Qd H) :
    ∃ W : Nat → Nat → Hp → Prop, (∃ m, W 0 m (upd H1 D (.lst []))) ∧ ∀ i m H, W i m H →
      (J.stop i H ∧ Qd H) ∨ (J.go i H ∧ ∃ Nx : Hp → Prop, (∀ H', Nx H' → ∃ m', m' < m ∧ W (i + 1) m' H') ∧ ∀ x H', J.yld i H x H' → g x (wipe σ vs) H' fun σ2 H2 => wipe σ2 vs = wipe σ vs ∧ tt σ2 H2 fun b H3 =>
        if b = true then te σ2 H3 fun y H4 => ∃ acc, H4 D = some (.lst acc) ∧ acc.length < sizeLine ∧ Nx (upd H4 D (.lst (acc ++ [y]))) else Nx H3) := by
  refine ⟨fun i m H => i + m = n ∧ Pv i H, ⟨n, Nat.zero_add n, h0⟩, fun i m H hw => ?_⟩
  obtain ⟨em, p⟩ := hw
  cases m with
  | zero =>
    obtain rfl : i = n := em
    exact .inl ⟨hstop H p, hd H p⟩
  | succ m =>
    have lt : i < n := by omega
    exact .inr ⟨hgo i H lt p, Pv (i + 1), fun H' p' => ⟨m, Nat.lt_succ_self m, by omega, p'⟩, fun x H' y => hs i H x H' lt p y⟩
/-- a loop over a text's signs -/
theorem for_str {z : Str} {g : TG} {tb : TS} {D : Ends} {σ : L2.St} {H : Hp} (Pv : Nat → L2.St → Hp → Prop) (h0 : Pv 0 σ H)
    (hs : ∀ i c σ H, z.cps[i]? = some c → Pv i σ H → g (.str ⟨#[c]⟩) σ H fun σ2 H2 => tb { D with nx := Pv (i + 1), ct := Pv (i + 1), bk := D.nx } σ2 H2) (hd : ∀ σ H, Pv z.cps.size σ H → D.nx σ H) :
    ∃ W : Nat → Nat → L2.St → Hp → Prop, (∃ m, W 0 m σ H) ∧ ∀ i m σ H, W i m σ H →
      ((Its z).stop i H ∧ D.nx σ H) ∨ ((Its z).go i H ∧ ∃ N : L2.St → Hp → Prop, (∀ σ' H', N σ' H' → ∃ m', m' < m ∧ W (i + 1) m' σ' H') ∧ ∀ x H', (Its z).yld i H x H' → g x σ H' fun σ2 H2 => tb { D with nx := N, ct := N, bk := D.nx } σ2 H2) :=
  for_gen (J := Its z) (n := z.cps.size) Pv h0 (fun i σ H hi _ => hi) (fun σ H _ => Nat.le_refl _) (fun i σ H x H' hi p y => by
    obtain ⟨e, c, hc, ex⟩ := y
    subst e
    subst ex
    exact hs i c σ _ hc p) hd
/-! ### texts by lists -/
def T (l : List Nat) : Str := ⟨l.toArray⟩
theorem T_len (l : List Nat) : (T l).length = l.length := by
  show l.toArray.size = l.length
  simp
theorem T_size (l : List Nat) : (T l).cps.size = l.length := by
  show l.toArray.size = l.length
  simp
theorem T_list (l : List Nat) : (T l).cps.toList = l := rfl
theorem T_at (l : List Nat) (i : Nat) : (T l).cps[i]? = l[i]? := by
  show l.toArray[i]? = l[i]?
  simp
theorem T_app (a b : List Nat) : T a ++ T b = T (a ++ b) := by
  show Str.mk (a.toArray ++ b.toArray) = Str.mk (a ++ b).toArray
  simp
theorem T_inj {a b : List Nat} (h : T a = T b) : a = b := by
  have e : (T a).cps.toList = (T b).cps.toList := by rw [h]
  exact e
theorem T_nil : (Str.ofString "" : Str) = T [] := by decide +kernel
def Sg (c : Nat) : Prop := c = 65 ∨ c = 67 ∨ c = 71 ∨ c = 84 ∨ c = 78
def Dna (l : List Nat) : Prop := ∀ c ∈ l, Sg c
theorem Dna.app {a b : List Nat} (h : Dna a) (k : Dna b) : Dna (a ++ b) := fun c hc => by
  rcases List.mem_append.mp hc with q | q
  · exact h c q
  · exact k c q
theorem Dna.one {c : Nat} (h : Sg c) : Dna [c] := fun d hd => by
  obtain rfl : d = c := by simpa using hd
  exact h
theorem line_ok {n : Nat} (h : n ≤ 100000) : n ≤ sizeLine := by
  rw [sizeLine_eq]
  omega
theorem line_lt {n : Nat} (h : n ≤ 100000) : n < sizeLine := by
  rw [sizeLine_eq]
  omega
theorem same_upd {H : Hp} {p : Addr} {o : HO} (h : H p = none) : Same H (upd H p o) := fun b x e => by
  rw [upd_ne (ne_of_none e h)]
  exact e
theorem upd_upd {H : Hp} {p : Addr} {o o' : HO} : upd (upd H p o) p o' = upd H p o' := by
  funext b
  by_cases e : b = p
  · rw [e, upd_same, upd_same]
  · rw [upd_ne e, upd_ne e, upd_ne e]
/-! ### names that are still the built-in ones -/
structure Bl (mg : Str → Option Value) : Prop where
  len : mg "len" = none
  int : mg "int" = none
  abs : mg "abs" = none
  range : mg "range" = none
  isin : mg "isinstance" = none
  bool : mg "bool" = none
  str : mg "str" = none
section
variable {P : Program} {w : World} {K : PySem.W.Frag} {mg : Str → Option Value} {base : Heap}
/-! ### _law_cell -/
def spCell (K : PySem.W.Frag) : Sp := fun vs H Q _ => ∃ (a : Addr) (ns : List Int) (k : Nat), vs = [.ref a, .int (k : Int)] ∧ SqL K H a (ns.map V.int) ∧ ∀ x : Int, Q (.int x) H
theorem ok_cell {f : Addr} {fd : FuncData} {k : Nat} (F : Fun K "_law_cell" "_law_cell" sCell f fd) (B : Bl mg) : FnOk P w K mg base CX0 (k + 1) f fd ["script", "k"] (spCell K) := by
  refine F.ok scCell (fun vs H Q E h => ?_) (fun cdv A outer s H vs Q E hr h => ?_)
  · obtain ⟨a, ns, j, rfl, _⟩ := h
    rfl
  · obtain ⟨a, ns, j, rfl, hS, q⟩ := h
    refine ⟨_, pss_cons (ps_if (pt_cmpR op_lt (pv 1) (pe_callB call_len_seq (by rfl) B.len PySem.boot_len (pa_cons (pv 0) pa_nil)) (nomark _))
        (pss_one (ps_ret (pe_callTy call_int1 (by rfl) B.int (by decide +kernel) (pa_cons (pe_ix ix_list (pv 0) (pv 1) (fun _ _ => rfl)) pa_nil)))) pss_nil)
      (pss_one (ps_ret pe_int)), ?_⟩
    refine ⟨.int j, rfl, .ref a, rfl, a, ns.map V.int, rfl, .inl hS, j, _, rfl, rfl, _, rfl, ite2 (fun e => ?_) (fun e => q 0)⟩
    have h1 : (j : Int) < ((ns.map V.int).length : Int) := of_decide_eq_true e
    have h2 : j < ns.length := by
      rw [List.length_map] at h1
      omega
    have g1 : (ns.map V.int)[j]? = some (.int ns[j]) := by
      rw [List.getElem?_map, List.getElem?_eq_getElem h2]
      rfl
    exact ⟨.ref a, rfl, .int j, rfl, a, _, j, .int ns[j], rfl, rfl, hS, atI_nat g1, .inl ⟨_, rfl, q _⟩⟩
/-! ### _law_row -/
def spRow (K : PySem.W.Frag) : Sp := fun vs H Q _ => ∃ (c n b : Int), vs = [.int c, .int n, .int b] ∧ 0 ≤ n ∧ n ≤ 100000 ∧ 1 < b ∧ b ≤ 1000000001 ∧
  ∀ (H' : Hp) (p : Addr) (xs : List Int), Same H H' → H p = none → H' p = some (.lst (xs.map V.int)) → xs.length = n.toNat → (∀ x ∈ xs, 0 ≤ x ∧ x < b) → Q (.ref p) H'
theorem ok_row {f : Addr} {fd : FuncData} {k : Nat} (F : Fun K "_law_row" "_law_row" sRow f fd) (B : Bl mg) : FnOk P w K mg base CX0 (k + 1) f fd ["cell", "count", "bound"] (spRow K) := by
  refine F.ok scRow (fun vs H Q E h => ?_) (fun cdv A outer s H vs Q E hr h => ?_)
  · obtain ⟨c, n, b, rfl, _⟩ := h
    rfl
  · obtain ⟨c, n, b, rfl, hn0, hn, hb1, hb2, q⟩ := h
    refine ⟨_, pss_cons (ps_set (i := 3) scRow.nd rfl (.inl rfl) (pe_callB call_abs (by rfl) B.abs (by decide +kernel) (pa_cons (pe_callTy call_int1 (by rfl) B.int (by decide +kernel) (pa_cons (pv 0) pa_nil)) pa_nil)))
      (pss_cons (ps_set (i := 4) scRow.nd rfl (.inl rfl) (pe_op op_add (pe_op op_mod (pe_callTy call_int1 (by rfl) B.int (by decide +kernel) (pa_cons (pv 0) pa_nil)) pe_int) pe_int))
      (pss_cons (ps_set (i := 5) scRow.nd rfl (.inl rfl) (pe_lst pa_nil))
      (pss_cons (ps_for PassesOwn.never rfl (pi_range1 rfl B.range (pa_cons (pv 1) pa_nil)) (pg_name (i := 6) scRow.nd rfl (.inl rfl))
        (pss_one (ps_if (pt_cmpR op_ge (pv 3) (pv 2) (nomark _))
          (pss_cons (ps_expr (pe_bm PySem.F.plainAttrs_list PySem.F.slot_list_append PySem.F.type_list_append mt_append (pv 5) (pa_cons (pe_op op_mod (pe_callTy call_int1 (by rfl) B.int (by decide +kernel) (pa_cons (pv 3) pa_nil)) (pv 2)) pa_nil)))
            (pss_one (ps_set (i := 3) scRow.nd rfl (.inl rfl) (pe_op op_fdiv (pv 3) (pv 2)))))
          (pss_cons (ps_set (i := 4) scRow.nd rfl (.inl rfl) (pe_op op_mod (pe_callTy call_int1 (by rfl) B.int (by decide +kernel) (pa_cons (pe_op op_add (pe_op op_add (pe_op op_mul (pv 4) pe_int) (pe_op op_mul pe_int (pv 6))) pe_int) pa_nil)) pe_int))
            (pss_one (ps_expr (pe_bm PySem.F.plainAttrs_list PySem.F.slot_list_append PySem.F.type_list_append mt_append (pv 5) (pa_cons (pe_op op_mod (pe_callTy call_int1 (by rfl) B.int (by decide +kernel) (pa_cons (pe_op op_fdiv (pe_op op_mul (pv 4) pe_int) pe_int) pa_nil)) (pv 2)) pa_nil))))))))
      (pss_one (ps_ret (pv 5)))))), ?_⟩
    refine ⟨.int c, rfl, .inl ⟨c, rfl, c, rfl, ?_⟩⟩
    refine ⟨.int c, rfl, .inl ⟨c, rfl, c, 1000003, rfl, rfl, (show (0 : Int) < 1000003 by decide), _, _, rfl, rfl, ?_⟩⟩
    refine ⟨Nat.zero_le _, fun p hp => ?_⟩
    refine ⟨.int n, rfl, n, rfl, by omega, by omega, ?_⟩
    refine for_range (lo := 0) (n := n.toNat) (fun i σ H' => ∃ (r m : Int) (kv : Option V) (xs : List Int), σ = [some (.int c), some (.int n), some (.int b), some (.int r), some (.int m), some (.ref p), kv] ∧ 0 ≤ m ∧ m < 4294967296 ∧ Same H H' ∧
      H' p = some (.lst (xs.map V.int)) ∧ xs.length = i ∧ ∀ x ∈ xs, 0 ≤ x ∧ x < b) ?_ ?_ ?_
    · refine ⟨_, _, none, [], rfl, ?_, ?_, same_upd hp, upd_same, rfl, fun x hx => by cases hx⟩
      · have := Int.emod_nonneg c (show (1000003 : Int) ≠ 0 by decide)
        omega
      · have := Int.emod_lt_of_pos c (show (0 : Int) < 1000003 by decide)
        omega
    · rintro i σ H' hi ⟨r, m, kv, xs, rfl, hm0, hm1, sm, hx, hl, hall⟩
      have grow : ∀ (y : Int) (τ : L2.St) (r' m' : Int), 0 ≤ y → y < b → 0 ≤ m' → m' < 4294967296 → τ = [some (.int c), some (.int n), some (.int b), some (.int r'), some (.int m'), some (.ref p), some (.int (0 + (i : Nat)))] →
          ∃ (r m : Int) (kv : Option V) (zs : List Int), τ = [some (.int c), some (.int n), some (.int b), some (.int r), some (.int m), some (.ref p), kv] ∧ 0 ≤ m ∧ m < 4294967296 ∧ Same H (upd H' p (.lst (xs.map V.int ++ [.int y]))) ∧
          (upd H' p (.lst (xs.map V.int ++ [.int y]))) p = some (.lst (zs.map V.int)) ∧ zs.length = i + 1 ∧ ∀ x ∈ zs, 0 ≤ x ∧ x < b := by
        intro y τ r' m' y0 y1 h0 h1 e
        refine ⟨r', m', _, xs ++ [y], e, h0, h1, fun q o k => ?_, ?_, ?_, ?_⟩
        · rw [upd_ne (ne_of_none k hp)]
          exact sm q o k
        · rw [upd_same, List.map_append]
          rfl
        · rw [List.length_append, hl]
          rfl
        · intro x hxm
          rcases List.mem_append.mp hxm with z | z
          · exact hall x z
          · obtain rfl : x = y := by simpa using z
            exact ⟨y0, y1⟩
      have hsz : (xs.map V.int).length < sizeLine := line_lt (by rw [List.length_map]; omega)
      refine ⟨.int r, rfl, .int b, rfl, r, b, rfl, rfl, _, rfl, ite2 (fun e => ?_) (fun e => ?_)⟩
      · refine ⟨.ref p, rfl, .inl ⟨rfl, _, .inl (.inl hx)⟩, .int r, rfl, .inl ⟨r, rfl, .int b, rfl, r, b, rfl, rfl, (show 0 < b by omega), p, _, _, rfl, rfl, hx, hsz, ?_⟩⟩
        refine ⟨.int r, rfl, .int b, rfl, r, b, rfl, rfl, ⟨by omega, by omega⟩, ?_⟩
        exact grow _ _ (r / b) m (Int.emod_nonneg r (by omega)) (Int.emod_lt_of_pos r (by omega)) hm0 hm1 rfl
      · refine ⟨.int m, rfl, m, 48271, rfl, rfl, .inl ⟨by omega, by omega⟩, .int (0 + (i : Nat)), rfl, 11, _, rfl, rfl, .inl ⟨by decide, by decide⟩, _, _, rfl, rfl, _, _, rfl, rfl, .inl ⟨_, rfl, _, 2147483647, rfl, rfl, (show (0 : Int) < 2147483647 by decide), ?_⟩⟩
        have b0 : 0 ≤ (m * 48271 + 11 * (0 + ((i : Nat) : Int)) + 7) % 2147483647 := Int.emod_nonneg _ (by decide)
        have b1 : (m * 48271 + 11 * (0 + ((i : Nat) : Int)) + 7) % 2147483647 < 2147483647 := Int.emod_lt_of_pos _ (by decide)
        refine ⟨.ref p, rfl, .inl ⟨rfl, _, .inl (.inl hx)⟩, _, rfl, (m * 48271 + 11 * (0 + ((i : Nat) : Int)) + 7) % 2147483647, 2862933555777941757, rfl, rfl, .inl ⟨by omega, by omega⟩, _, 1024, rfl, rfl, ⟨by decide, by decide⟩, .inl ⟨_, rfl, .int b, rfl, _, b, rfl, rfl, (show 0 < b by omega), p, _, _, rfl, rfl, hx, hsz, ?_⟩⟩
        exact grow _ _ r ((m * 48271 + 11 * (0 + ((i : Nat) : Int)) + 7) % 2147483647) (Int.emod_nonneg _ (by omega)) (Int.emod_lt_of_pos _ (by omega)) b0 (by omega) rfl
    · rintro σ H' ⟨r, m, kv, xs, rfl, hm0, hm1, sm, hx, hl, hall⟩
      exact ⟨.ref p, rfl, q H' p xs sm hp hx hl hall⟩
/-! ### _law_integer -/
def spInteger : Sp := fun vs H Q _ => ∃ i : Int, vs = [.int i] ∧ Q (.bl true) H
theorem ok_integer {f : Addr} {fd : FuncData} {k : Nat} (F : Fun K "_law_integer" "_law_integer" sInteger f fd) (B : Bl mg) : FnOk P w K mg base CX0 (k + 1) f fd ["value"] spInteger := by
  refine F.ok scInteger (fun vs H Q E h => ?_) (fun cdv A outer s H vs Q E hr h => ?_)
  · obtain ⟨i, rfl, _⟩ := h
    rfl
  · obtain ⟨i, rfl, q⟩ := h
    refine ⟨_, pss_one (ps_ret (pe_and (pe_callB call_isi (by rfl) B.isin (by decide +kernel) (pa_cons (pv 0) (pa_cons (pe_bltn (v := .ty "int") (by rfl) B.int (by decide +kernel) rfl) pa_nil)))
      (pe_one (pe_not (pe_callB call_isi (by rfl) B.isin (by decide +kernel) (pa_cons (pv 0) (pa_cons (pe_bltn (v := .ty "bool") (by rfl) B.bool (by decide +kernel) rfl) pa_nil))))))), ?_⟩
    refine ⟨.int i, rfl, .int i, .ty "int", _, _, true, rfl, .ty _, .base (.int i), kit_ty (by decide +kernel), true, rfl, iteT ?_⟩
    exact ⟨.int i, rfl, .int i, .ty "bool", _, _, false, rfl, .ty _, .base (.int i), kit_ty (by decide +kernel), false, rfl, q⟩
end
theorem line_ok6 {n : Nat} (h : n ≤ 1000000) : n ≤ sizeLine := by
  rw [sizeLine_eq]
  omega
theorem line_ok7 {n : Nat} (h : n ≤ 10000000) : n ≤ sizeLine := by
  rw [sizeLine_eq]
  omega
theorem new_ne {H : Hp} {p q : Addr} {o : HO} (h : upd H p o q = none) : q ≠ p := fun e => by
  rw [e, upd_same] at h
  cases h
theorem new_old {H : Hp} {p q : Addr} {o : HO} (h : upd H p o q = none) : H q = none := by
  rw [upd_ne (new_ne h)] at h
  exact h
theorem cell_arg2 (a : Addr) (c d i : Nat) : [V.ref a, V.int ((c : Int) + (d : Int) * (0 + ((i : Nat) : Int)))] = [V.ref a, V.int ((c + d * i : Nat) : Int)] := by
  congr 2
  rw [Int.zero_add]
  simp
theorem cell_arg3 (a : Addr) (d i : Nat) : [V.ref a, V.int ((d : Int) * (0 + ((i : Nat) : Int)))] = [V.ref a, V.int ((d * i : Nat) : Int)] := by
  congr 2
  rw [Int.zero_add]
  simp
theorem cell_arg4 (a : Addr) (c d i : Nat) : [V.ref a, V.int ((d : Int) * (0 + ((i : Nat) : Int)) + (c : Int))] = [V.ref a, V.int ((d * i + c : Nat) : Int)] := by
  congr 2
  rw [Int.zero_add]
  simp
theorem map_int_at {ns : List Int} {i : Nat} (h : i < ns.length) : (ns.map V.int)[i]? = some (.int ns[i]) := by
  rw [List.getElem?_map, List.getElem?_eq_getElem h]
  rfl
def rFind : V → List V → Hp → VK → Prop := fun x xs H Q => ∃ a b, x = .str a ∧ xs = [.str b] ∧ Q (.int (Txt.find a b)) H
def rMaxP : List V → Hp → VK → Prop := fun xs H Q => ∃ i j, xs = [.int i, .int j] ∧ Q (.int (if j > i then j else i)) H
/-! ### lists of ints as data -/
abbrev LI (ns : List Int) : HO := .lst (ns.map V.int)
theorem LI_snoc (l : List Int) (x : Int) : LI (l ++ [x]) = .lst (l.map V.int ++ [.int x]) := by
  show HO.lst ((l ++ [x]).map V.int) = _
  rw [List.map_append]
  rfl
def dI (ns : List Int) : PyData := .list (ns.map .int)
theorem can_ints (ns : List Int) : PyData.canLayAll0 (ns.map .int) = true := by
  induction ns with
  | nil => rfl
  | cons n r ih => exact ih
theorem depth_intsD (ns : List Int) : PyData.depthAll (ns.map .int) = 0 := by
  induction ns with
  | nil => rfl
  | cons n r ih =>
    show max 0 (PyData.depthAll (r.map .int)) = 0
    rw [ih]
    rfl
theorem shaped_dI (ns : List Int) : SeqAt.shaped (dI ns) = true := by
  unfold SeqAt.shaped
  have e1 : (dI ns).canLay0 = true := can_ints ns
  have e2 : PyData.depth (dI ns) ≤ 64 := by
    show PyData.depthAll (ns.map .int) + 1 ≤ 64
    rw [depth_intsD]
    decide
  rw [e1, decide_eq_true e2]
  rfl
theorem dp_ints {K : PySem.W.Frag} {H : Hp} : ∀ ns : List Int, DpAll K H (ns.map V.int) (ns.map .int)
  | [] => .nil
  | n :: r => .cons (.int n) (dp_ints r)
theorem dp_dI {K : PySem.W.Frag} {H : Hp} {a : Addr} {ns : List Int} (h : SqL K H a (ns.map V.int)) : Dp K H (.ref a) (dI ns) := .lst h (dp_ints ns)
theorem eqv_ints (ns : List Int) : PyData.eqv (dI ns) (dI ns) = true := SeqAt.eqv_refl _ (can_ints ns)
theorem cutV_to (xs : List V) (k : Nat) : L2.cutV xs none (some (k : Int)) = xs.take k := by
  unfold L2.cutV
  rw [HT.sIx_none, HT.sIx_nat, List.drop_zero, Nat.sub_zero]
  by_cases h : k ≤ xs.length
  · rw [Nat.min_eq_left h]
  · rw [Nat.min_eq_right (by omega), List.take_of_length_le (Nat.le_refl _), List.take_of_length_le (by omega)]
theorem cutV_from (xs : List V) (k : Nat) : L2.cutV xs (some (k : Int)) none = xs.drop k := by
  unfold L2.cutV
  rw [HT.sIx_none, HT.sIx_nat]
  by_cases h : k ≤ xs.length
  · rw [Nat.min_eq_left h, List.take_of_length_le (by rw [List.length_drop]; omega)]
  · rw [Nat.min_eq_right (by omega), List.drop_of_length_le (Nat.le_refl _), List.drop_of_length_le (by omega), List.take_nil]
theorem ix_set {xs : List V} {i : Int} {j : Nat} (e : i = (j : Int)) (h : j < xs.length) : ixN xs.length i = some j := by
  rw [e]
  unfold ixN
  rw [if_pos (by omega), if_pos (by omega)]
  rfl
/-- a def of the module that keeps a promise -/
def Has (P : Program) (w : World) (K : PySem.W.Frag) (mg : Str → Option Value) (base : Heap) (k : Nat) (x : Str) (ps : List Str) (sp : Sp) : Prop :=
  ∃ f fd, FnOk P w K mg base CX0 k f fd ps sp ∧ mg x = some (.ref f) ∧ PySem.W.keepIn K (.ref f) = true ∧ Binds K fd ps []
/-- lists of bytes -/
def Byt (l : List Int) : Prop := ∀ x ∈ l, 0 ≤ x ∧ x < 256
theorem Byt.app {a b : List Int} (h : Byt a) (k : Byt b) : Byt (a ++ b) := fun x hx => by
  rcases List.mem_append.mp hx with z | z
  · exact h x z
  · exact k x z
theorem Byt.take {a : List Int} (h : Byt a) (n : Nat) : Byt (a.take n) := fun x hx => h x (List.mem_of_mem_take hx)
theorem Byt.rep {a : List Int} (h : Byt a) (n : Nat) : Byt (List.replicate n a).flatten := fun x hx => by
  obtain ⟨z, hz1, hz2⟩ := List.mem_flatten.mp hx
  rw [List.eq_of_mem_replicate hz1] at hz2
  exact h x hz2
theorem rep_map {α β : Type} (f : α → β) (n : Nat) (l : List α) : (List.replicate n (l.map f)).flatten = (List.replicate n l).flatten.map f := by
  rw [List.map_flatten, List.map_replicate]
theorem rep_len {α : Type} (n : Nat) (l : List α) : (List.replicate n l).flatten.length = n * l.length := by simp
theorem join_ones : ∀ l : List Nat, Str.join (T []) (l.map fun c => T [c]) = T l
  | [] => rfl
  | [c] => rfl
  | c :: e :: r => by
    have ih := join_ones (e :: r)
    show T [c] ++ T [] ++ Str.join (T []) ((e :: r).map fun c => T [c]) = _
    rw [ih, T_app, T_app]
    rfl
theorem sum_ones (l : List Nat) : ((l.map fun c => T [c]).map (·.length)).sum = l.length := by
  induction l with
  | nil => rfl
  | cons c r ih =>
    rw [List.map_cons, List.map_cons, List.sum_cons, ih, T_len, List.length_cons]
    show 1 + r.length = r.length + 1
    omega
theorem paired_len {α β : Type} {F : α → β → Prop} : ∀ {xs : List α} {ys : List β}, Paired F xs ys → xs.length = ys.length
  | _, _, .nil => rfl
  | _, _, .cons _ t => congrArg (· + 1) (paired_len t)
theorem paired_get {α β : Type} {F : α → β → Prop} : ∀ {xs : List α} {ys : List β} {i : Nat} {x : α}, Paired F xs ys → xs[i]? = some x → ∃ y, ys[i]? = some y ∧ F x y
  | _, _, 0, _, .cons r _, e => ⟨_, rfl, by cases e; exact r⟩
  | _, _, i + 1, _, .cons _ t, e => paired_get (i := i) t e
/-! ### data as a whole -/
def Asc (l : List Nat) : Prop := ∀ c ∈ l, c < 128
def dS (l : List Nat) : PyData := .str (T l)
def dL (ls : List (List Nat)) : PyData := .list (ls.map dS)
def dR (rs : List (List Nat × List Nat)) : PyData := .list (rs.map fun r => .tuple [dS r.1, dS r.2])
theorem can_dS {l : List Nat} (h : Asc l) : (dS l).canLay0 = true := by
  show PyData.strOk (T l) = true
  unfold PyData.strOk
  rw [Array.all_eq_true]
  intro i hi
  have hi2 : i < l.length := by rw [T_size] at hi; exact hi
  have e : (T l).cps[i]? = l[i]? := T_at l i
  rw [Array.getElem?_eq_getElem hi, List.getElem?_eq_getElem hi2] at e
  rw [Option.some.inj e]
  have := h _ (List.getElem_mem hi2)
  exact decide_eq_true (by omega)
theorem can_dL {ls : List (List Nat)} (h : ∀ l ∈ ls, Asc l) : (dL ls).canLay0 = true := by
  show PyData.canLayAll0 (ls.map dS) = true
  induction ls with
  | nil => rfl
  | cons l r ih =>
    show ((dS l).canLay0 && PyData.canLayAll0 (r.map dS)) = true
    rw [can_dS (h l List.mem_cons_self), ih fun x hx => h x (List.mem_cons_of_mem _ hx)]
    rfl
theorem depth_dL (ls : List (List Nat)) : PyData.depth (dL ls) ≤ 64 := by
  have : PyData.depthAll (ls.map dS) = 0 := by
    induction ls with
    | nil => rfl
    | cons l r ih =>
      show max (PyData.depth (dS l)) (PyData.depthAll (r.map dS)) = 0
      rw [ih]
      rfl
  show PyData.depthAll (ls.map dS) + 1 ≤ 64
  omega
theorem shaped_dL {ls : List (List Nat)} (h : ∀ l ∈ ls, Asc l) : SeqAt.shaped (dL ls) = true := by
  unfold SeqAt.shaped
  rw [can_dL h, decide_eq_true (depth_dL ls)]
  rfl
theorem can_dR {rs : List (List Nat × List Nat)} (h : ∀ r ∈ rs, Asc r.1 ∧ Asc r.2) : (dR rs).canLay0 = true := by
  show PyData.canLayAll0 (rs.map fun r => .tuple [dS r.1, dS r.2]) = true
  induction rs with
  | nil => rfl
  | cons l r ih =>
    show (((dS l.1).canLay0 && ((dS l.2).canLay0 && true)) && PyData.canLayAll0 (r.map fun r => .tuple [dS r.1, dS r.2])) = true
    rw [can_dS (h l List.mem_cons_self).1, can_dS (h l List.mem_cons_self).2, ih fun x hx => h x (List.mem_cons_of_mem _ hx)]
    rfl
theorem depth_dR (rs : List (List Nat × List Nat)) : PyData.depth (dR rs) ≤ 64 := by
  have : PyData.depthAll (rs.map fun r => .tuple [dS r.1, dS r.2]) ≤ 1 := by
    induction rs with
    | nil => exact Nat.zero_le _
    | cons l r ih =>
      show max (max 0 (max 0 0) + 1) (PyData.depthAll (r.map fun r => .tuple [dS r.1, dS r.2])) ≤ 1
      omega
  show PyData.depthAll (rs.map fun r => .tuple [dS r.1, dS r.2]) + 1 ≤ 64
  omega
theorem shaped_dR {rs : List (List Nat × List Nat)} (h : ∀ r ∈ rs, Asc r.1 ∧ Asc r.2) : SeqAt.shaped (dR rs) = true := by
  unfold SeqAt.shaped
  rw [can_dR h, decide_eq_true (depth_dR rs)]
  rfl
/-! ### numbers as texts -/
open TL in
theorem num_T (n : Nat) : (Str.ofString (toString ((n : Nat) : Int)) : Str) = T (numL n) := by
  have e : (Str.ofString (toString ((n : Nat) : Int))).cps.toList = numL n := tl_num n
  rw [← e]
  show _ = Str.mk _
  rw [Array.toArray_toList]
theorem log_ok {n : Nat} (h : n < 10 ^ 9) : n.log2 < 1920 := by
  by_cases h0 : n = 0
  · subst h0
    decide
  · exact Nat.lt_of_lt_of_le ((Nat.log2_lt h0).mpr (Nat.lt_of_lt_of_le h (show 10 ^ 9 ≤ 2 ^ 30 by decide))) (by decide)
def rStr : List V → Hp → VK → Prop := fun xs H Q => (∃ n : Nat, xs = [.int (n : Int)] ∧ n < 10 ^ 9 ∧ Q (.str (T (TL.numL n))) H) ∨ ∃ a, xs = [.str a] ∧ Q (.str a) H
theorem call_strA {X : Cx} : CallR X (.type "str") rStr := by
  intro pins s σ H xs us Q I r h
  rcases h with ⟨n, e, hn, q⟩ | ⟨a, e, q⟩
  · exact call_str_int pins s σ H xs us Q I r ⟨n, e, log_ok hn, by rw [← num_T] at q; exact q⟩
  · exact SkE.call_str_str pins s σ H xs us Q I r ⟨a, e, q⟩
/-! ### records -/
abbrev tab : Str := Str.ofString "\t"
structure Rc where
  nm : List Nat
  a : Nat
  b : Nat
  c : Nat
  d : Nat
  e : Nat
  f : Nat
  ct : List Nat
def Rc.vs (r : Rc) : List V := [.str (T r.nm), .int r.a, .int r.b, .int r.c, .int r.d, .int r.e, .int r.f, .str (T r.ct)]
def Rc.ps (r : Rc) : List (List Nat) := [r.nm, TL.numL r.a, TL.numL r.b, TL.numL r.c, TL.numL r.d, TL.numL r.e, TL.numL r.f, r.ct]
def Rc.st (r : Rc) : List Str := r.ps.map T
def Rc.line (r : Rc) : Str := Txt.join tab r.st
def Rc.dt (r : Rc) : PyData := .tuple [dS r.nm, .int r.a, .int r.b, .int r.c, .int r.d, .int r.e, .int r.f, dS r.ct]
structure Rc.Ok (r : Rc) : Prop where
  n1 : r.nm.length ≤ 1000
  n2 : ∀ x ∈ r.nm, x < 128 ∧ x ≠ 9
  c1 : r.ct.length ≤ 1000
  c2 : ∀ x ∈ r.ct, x < 128 ∧ x ≠ 9
  a : r.a < 10 ^ 9
  b : r.b < 10 ^ 9
  c : r.c < 10 ^ 9
  d : r.d < 10 ^ 9
  e : r.e < 10 ^ 9
  f : r.f < 10 ^ 9
theorem num_asc (n : Nat) : ∀ x ∈ TL.numL n, x < 128 ∧ x ≠ 9 := fun x hx => by
  have := TL.numL_digits n x hx
  omega
theorem num_len {n : Nat} (h : n < 10 ^ 9) : (TL.numL n).length ≤ 9 := TL.numL_len (by decide) h
theorem ps_asc {r : Rc} (h : r.Ok) : ∀ l ∈ r.ps, ∀ x ∈ l, x < 128 ∧ x ≠ 9 := fun l hl => by
  simp only [Rc.ps, List.mem_cons, List.not_mem_nil, or_false] at hl
  rcases hl with e | e | e | e | e | e | e | e <;> subst e
  · exact h.n2
  · exact num_asc _
  · exact num_asc _
  · exact num_asc _
  · exact num_asc _
  · exact num_asc _
  · exact num_asc _
  · exact h.c2
theorem st_sum {r : Rc} (h : r.Ok) : (r.st.map (·.length)).sum + r.st.length * tab.length ≤ 100000 := by
  have e : tab.length = 1 := by decide +kernel
  have n1 := h.n1
  have c1 := h.c1
  have ha := num_len h.a
  have hb := num_len h.b
  have hc := num_len h.c
  have hd := num_len h.d
  have he := num_len h.e
  have hf := num_len h.f
  rw [e]
  show (T r.nm).length + ((T (TL.numL r.a)).length + ((T (TL.numL r.b)).length + ((T (TL.numL r.c)).length + ((T (TL.numL r.d)).length + ((T (TL.numL r.e)).length + ((T (TL.numL r.f)).length + ((T r.ct).length + 0))))))) + 8 * 1 ≤ 100000
  simp only [T_len]
  omega
open TL in
theorem line_split {r : Rc} (h : r.Ok) : Txt.split r.line tab = r.st := by
  refine split_join (s := 9) (S := []) (by decide +kernel) (by decide +kernel) (fun z => by cases z) fun p hp => ?_
  obtain ⟨l, hl, rfl⟩ := List.mem_map.mp hp
  exact fun hm => (ps_asc h l hl 9 hm).2 rfl
theorem joinL_len (s : Nat) : ∀ l : List (List Nat), (TL.joinL [s] l).length ≤ (l.map List.length).sum + l.length
  | [] => Nat.zero_le _
  | [p] => by
    show p.length ≤ p.length + 0 + 1
    omega
  | p :: q :: r => by
    have h := joinL_len s (q :: r)
    show (p ++ ([s] ++ TL.joinL [s] (q :: r))).length ≤ p.length + ((q :: r).map List.length).sum + ((q :: r).length + 1)
    rw [List.length_append, List.length_append, List.length_singleton]
    omega
open TL in
theorem line_len {r : Rc} (h : r.Ok) : r.line.length ≤ 100000 := by
  have e1 : tl tab = [9] := by decide +kernel
  have hs := st_sum h
  have h2 := joinL_len 9 (r.st.map tl)
  have e3 : r.line.length = (joinL [9] (r.st.map tl)).length := by
    show (Txt.join tab r.st).length = _
    rw [len_tl, join_eq, tl_join, e1]
  have e4 : ((r.st.map tl).map List.length).sum = (r.st.map (·.length)).sum := by
    rw [List.map_map]
    rfl
  have e5 : (r.st.map tl).length = 8 := rfl
  have e6 : r.st.length = 8 := rfl
  have e7 : tab.length = 1 := by decide +kernel
  rw [e7, e6] at hs
  omega
theorem dp_rc {K : PySem.W.Frag} {H : Hp} {a : Addr} {r : Rc} (h : SqT K H a r.vs) : Dp K H (.ref a) r.dt :=
  .tup h (.cons (.str _) (.cons (.int _) (.cons (.int _) (.cons (.int _) (.cons (.int _) (.cons (.int _) (.cons (.int _) (.cons (.str _) .nil))))))))
theorem can_rc {r : Rc} (h : r.Ok) : r.dt.canLay0 = true := by
  show ((dS r.nm).canLay0 && (true && (true && (true && (true && (true && (true && ((dS r.ct).canLay0 && true)))))))) = true
  rw [can_dS fun c hc => (h.n2 c hc).1, can_dS fun c hc => (h.c2 c hc).1]
  rfl
theorem shaped_rc {r : Rc} (h : r.Ok) : SeqAt.shaped r.dt = true := by
  unfold SeqAt.shaped
  rw [can_rc h]
  rfl
theorem eqv_rc {r : Rc} (h : r.Ok) : PyData.eqv r.dt r.dt = true := SeqAt.eqv_refl _ (can_rc h)
theorem dp_ps {K : PySem.W.Frag} {H : Hp} : ∀ ls : List (List Nat), DpAll K H ((ls.map T).map V.str) (ls.map dS)
  | [] => .nil
  | l :: r => .cons (.str _) (dp_ps r)
theorem eqv_ps {r : Rc} (h : r.Ok) : PyData.eqv (dL r.ps) (dL r.ps) = true := SeqAt.eqv_refl _ (can_dL fun l hl c hc => (ps_asc h l hl c hc).1)
theorem seqT {K : PySem.W.Frag} {H H' : Hp} {a : Addr} {xs : List V} (e : Same H H') (h : SqT K H a xs) : SqT K H' a xs := by
  rcases h with (h | ⟨o, h⟩) | h
  · exact .inl (.inl (e _ _ h))
  · exact .inl (.inr ⟨o, e _ _ h⟩)
  · exact .inr h
/-! ### write_record, read_record -/
theorem scWRec : FnScope ["record", "part"] ["record"] (defScope sWRec) := ⟨rfl, rfl, rfl, by decide +kernel, rfl, by decide +kernel, by decide +kernel⟩
def NRR : List Str := ["line", "name", "reference", "strand", "begin", "end", "changes", "cost", "cut_path"]
theorem scRRec : FnScope NRR ["line"] (defScope sRRec) := ⟨rfl, rfl, rfl, by decide +kernel, rfl, by decide +kernel, by decide +kernel⟩
section
variable {P : Program} {w : World} {K : PySem.W.Frag} {mg : Str → Option Value} {base : Heap}
def spWRec (K : PySem.W.Frag) : Sp := fun vs H Q _ => ∃ (a : Addr) (r : Rc), vs = [.ref a] ∧ r.Ok ∧ SqT K H a r.vs ∧ ∀ H', Same H H' → Q (.str r.line) H'
theorem ok_wrec {f : Addr} {fd : FuncData} {m : Nat} (F : Fun K "write_record" "write_record" sWRec f fd) (B : Bl mg) : FnOk P w K mg base CX0 (m + 1) f fd ["record"] (spWRec K) := by
  refine F.ok scWRec (fun vs H Q E h => ?_) (fun cdv A outer s H vs Q E hr h => ?_)
  · obtain ⟨a, r, rfl, _⟩ := h
    rfl
  · obtain ⟨a, r, rfl, ok, hS, q⟩ := h
    refine ⟨_, pss_one (ps_ret (pe_join pe_str (pe_lc (own := [("part", 1)]) (g := gName 1) (tt := tYes) (te := tCB rStr (tCons (tVar 1) tNil)) rfl scWRec.nd (pi_tup (pv 0))
        (blkOk_by (own := [("part", 1)]) (N := ["record", "part"]) (sc := defScope sWRec) (by decide +kernel))
        (fun _ _ _ _ _ => pg_name (i := 1) scWRec.nd rfl (Or.inl rfl)) (fun _ _ _ _ _ => pts_nil) (fun _ _ _ _ _ => pe_callTy (r := rStr) call_strA (by rfl) B.str (by decide +kernel) (pa_cons (pv 1) pa_nil))))), ?_⟩
    refine ⟨⟨_, rfl⟩, .ref a, rfl, a, rfl, ⟨_, hS⟩, fun D hD => ?_⟩
    refine lc_tup (K := K) (xs := r.vs) (fun j H1 => Same H H1 ∧ H1 D = some (.lst ((r.st.take j).map V.str))) ⟨same_upd hD, upd_same⟩ (fun j H1 _ h => seqT h.1 hS) ?_ ?_
    · rintro j y H1 hjy ⟨s1, hd⟩
      refine ⟨rfl, ?_⟩
      dsimp only [tYes]
      rw [if_pos rfl]
      have go : ∀ z : Str, r.st[j]? = some z → rStr [y] H1 fun y H4 => ∃ acc, H4 D = some (.lst acc) ∧ acc.length < sizeLine ∧ (Same H (upd H4 D (.lst (acc ++ [y]))) ∧ (upd H4 D (.lst (acc ++ [y]))) D = some (.lst ((r.st.take (j + 1)).map V.str))) := by
        intro z hz
        have fin : ∃ acc, H1 D = some (.lst acc) ∧ acc.length < sizeLine ∧ (Same H (upd H1 D (.lst (acc ++ [V.str z]))) ∧ (upd H1 D (.lst (acc ++ [V.str z]))) D = some (.lst ((r.st.take (j + 1)).map V.str))) := by
          refine ⟨_, hd, line_lt ?_, fun b o e => ?_, ?_⟩
          · rw [List.length_map, List.length_take]
            have : r.st.length = 8 := rfl
            omega
          · rw [upd_ne (ne_of_none e hD)]
            exact s1 b o e
          · rw [upd_same, List.take_add_one, hz, List.map_append]
            rfl
        match j, hjy, hz with
        | 0, hjy, hz => cases hjy; cases hz; exact .inr ⟨_, rfl, fin⟩
        | 1, hjy, hz => cases hjy; cases hz; exact .inl ⟨_, rfl, ok.a, fin⟩
        | 2, hjy, hz => cases hjy; cases hz; exact .inl ⟨_, rfl, ok.b, fin⟩
        | 3, hjy, hz => cases hjy; cases hz; exact .inl ⟨_, rfl, ok.c, fin⟩
        | 4, hjy, hz => cases hjy; cases hz; exact .inl ⟨_, rfl, ok.d, fin⟩
        | 5, hjy, hz => cases hjy; cases hz; exact .inl ⟨_, rfl, ok.e, fin⟩
        | 6, hjy, hz => cases hjy; cases hz; exact .inl ⟨_, rfl, ok.f, fin⟩
        | 7, hjy, hz => cases hjy; cases hz; exact .inr ⟨_, rfl, fin⟩
        | j + 8, hjy, hz => cases hjy
      have hj : j < 8 := (List.getElem?_eq_some_iff.mp hjy).1
      have hj2 : j < r.st.length := hj
      exact ⟨y, rfl, go _ (List.getElem?_eq_getElem hj2)⟩
    · rintro H1 ⟨s1, hd⟩
      rw [List.take_of_length_le (show r.st.length ≤ r.vs.length by exact Nat.le_refl 8)] at hd
      exact ⟨tab, D, r.st, rfl, rfl, .inl (.inl (.inl hd)), Nat.le_trans (st_sum ok) (by decide), q H1 s1⟩
def spRRec : Sp := fun vs H Q _ => ∃ r : Rc, vs = [.str r.line] ∧ r.Ok ∧ ∀ (H' : Hp) (p : Addr), Same H H' → H p = none → H' p = some (.tup r.vs) → Q (.ref p) H'
theorem int_back {n : Nat} (h : n < 10 ^ 9) : PySem.intText? (T (TL.numL n)) = some (n : Int) ∧ (T (TL.numL n)).length ≤ 640 := by
  have h1 := num_len h
  refine ⟨?_, ?_⟩
  · rw [← num_T]
    exact TL.int_num (by omega)
  · rw [T_len]
    omega
theorem ok_rrec {f : Addr} {fd : FuncData} {m : Nat} (F : Fun K "read_record" "read_record" sRRec f fd) (B : Bl mg) : FnOk P w K mg base CX0 (m + 1) f fd ["line"] spRRec := by
  refine F.ok scRRec (fun vs H Q E h => ?_) (fun cdv A outer s H vs Q E hr h => ?_)
  · obtain ⟨r, rfl, _⟩ := h
    rfl
  · obtain ⟨r, rfl, ok, q⟩ := h
    refine ⟨_, pss_cons (ps_asg (pe_split (pv 0) pe_str) (pg_lst rfl (pgs_cons (pg_name (i := 1) scRRec.nd rfl (.inl rfl)) (pgs_cons (pg_name (i := 2) scRRec.nd rfl (.inl rfl)) (pgs_cons (pg_name (i := 3) scRRec.nd rfl (.inl rfl))
        (pgs_cons (pg_name (i := 4) scRRec.nd rfl (.inl rfl)) (pgs_cons (pg_name (i := 5) scRRec.nd rfl (.inl rfl)) (pgs_cons (pg_name (i := 6) scRRec.nd rfl (.inl rfl)) (pgs_cons (pg_name (i := 7) scRRec.nd rfl (.inl rfl)) (pgs_cons (pg_name (i := 8) scRRec.nd rfl (.inl rfl)) pgs_nil))))))))))
      (pss_one (ps_ret (pe_tup (pa_cons (pv 1) (pa_cons (pe_callTy call_int_str (by rfl) B.int (by decide +kernel) (pa_cons (pv 2) pa_nil)) (pa_cons (pe_callTy call_int_str (by rfl) B.int (by decide +kernel) (pa_cons (pv 3) pa_nil)) (pa_cons (pe_callTy call_int_str (by rfl) B.int (by decide +kernel) (pa_cons (pv 4) pa_nil))
        (pa_cons (pe_callTy call_int_str (by rfl) B.int (by decide +kernel) (pa_cons (pv 5) pa_nil)) (pa_cons (pe_callTy call_int_str (by rfl) B.int (by decide +kernel) (pa_cons (pv 6) pa_nil)) (pa_cons (pe_callTy call_int_str (by rfl) B.int (by decide +kernel) (pa_cons (pv 7) pa_nil)) (pa_cons (pv 8) pa_nil))))))))))), ?_⟩
    refine ⟨.str r.line, rfl, ⟨_, rfl⟩, r.line, tab, rfl, rfl, by decide +kernel, Nat.le_trans (Nat.add_le_add_right (line_len ok) 2) (by decide +kernel), fun p hp => ?_⟩
    rw [line_split ok]
    refine ⟨p, _, rfl, .inl (.inl upd_same), rfl, ?_⟩
    refine ⟨_, _, rfl, _, _, rfl, _, _, rfl, _, _, rfl, _, _, rfl, _, _, rfl, _, _, rfl, _, _, rfl, rfl, ?_⟩
    have sm := same_upd (o := .lst (r.st.map V.str)) hp
    refine ⟨_, rfl, _, rfl, _, _, rfl, (int_back ok.a).1, (int_back ok.a).2, _, rfl, _, _, rfl, (int_back ok.b).1, (int_back ok.b).2, _, rfl, _, _, rfl, (int_back ok.c).1, (int_back ok.c).2, _, rfl, _, _, rfl, (int_back ok.d).1, (int_back ok.d).2, _, rfl, _, _, rfl, (int_back ok.e).1, (int_back ok.e).2, _, rfl, _, _, rfl, (int_back ok.f).1, (int_back ok.f).2, _, rfl, by show 8 ≤ sizeLine; decide, fun p2 hp2 => ?_⟩
    exact q _ p2 (sm.trans (same_upd hp2)) (new_old hp2) upd_same
end
/-! ### _law_cut, the law -/
theorem scLCut : FnScope ["cell", "cut", "before", "x", "step"] ["cell"] (defScope sLCut) := ⟨rfl, rfl, rfl, by decide +kernel, rfl, by decide +kernel, by decide +kernel⟩
def NL : List Str := ["script", "k", "cell", "signs", "name", "row", "record", "line", "told", "x"]
theorem scLaw : FnScope NL ["script"] (defScope sLaw) := ⟨rfl, rfl, rfl, by decide +kernel, rfl, by decide +kernel, by decide +kernel⟩
theorem xid (x : Int) (h0 : 0 ≤ x) (h4 : x < 4) : ∃ c, (c < 128 ∧ c ≠ 9) ∧ atI (Str.ofString "=XID").cps.toList x = some c := by
  have h : x = 0 ∨ x = 1 ∨ x = 2 ∨ x = 3 := by omega
  rcases h with h | h | h | h <;> rw [h]
  · exact ⟨61, by decide, by decide +kernel⟩
  · exact ⟨88, by decide, by decide +kernel⟩
  · exact ⟨73, by decide, by decide +kernel⟩
  · exact ⟨68, by decide, by decide +kernel⟩
section
variable {P : Program} {w : World} {K : PySem.W.Frag} {mg : Str → Option Value} {base : Heap}
def spLCut : Sp := fun vs H Q _ => ∃ c : Int, vs = [.int c] ∧ ∀ (H' : Hp) (l : List Nat), Same H H' → l.length ≤ 1000 → (∀ x ∈ l, x < 128 ∧ x ≠ 9) → Q (.str (T l)) H'
theorem ok_lcut {f : Addr} {fd : FuncData} (F : Fun K "_law_cut" "_law_cut" sLCut f fd) (B : Bl mg) (hO : Has P w K mg base 2 "_law_row" ["cell", "count", "bound"] (spRow K)) : FnOk P w K mg base CX0 3 f fd ["cell"] spLCut := by
  obtain ⟨fO, dO, GO, gO, kO, bO⟩ := hO
  refine F.ok scLCut (fun vs H Q E h => ?_) (fun cdv A outer s H vs Q E hr h => ?_)
  · obtain ⟨c, rfl, _⟩ := h
    rfl
  · obtain ⟨c, rfl, q⟩ := h
    refine ⟨_, pss_cons (ps_set (i := 1) scLCut.nd rfl (.inl rfl) pe_str)
      (pss_cons (ps_set (i := 2) scLCut.nd rfl (.inl rfl) pe_int)
      (pss_cons (ps_for PassesOwn.never rfl (pi_list (pe_call GO hr (by rfl) gO kO bO .nil pass0 (pa_cons (pv 0) (pa_cons (pe_op op_add pe_int (pe_op op_mod (pe_callB call_abs (by rfl) B.abs (by decide +kernel) (pa_cons (pe_callTy call_int1 (by rfl) B.int (by decide +kernel) (pa_cons (pv 0) pa_nil)) pa_nil)) pe_int)) (pa_cons pe_int pa_nil))))) (pg_name (i := 3) scLCut.nd rfl (.inl rfl))
        (C8.pss_cut (ps_set (i := 4) scLCut.nd rfl (.inl rfl) (pe_op op_mod (pv 3) pe_int))
        (C8.pss_cut (ps_if (pt_cmpR op_eq (pv 4) (pv 2) (nomark _)) (pss_one (ps_set (i := 4) scLCut.nd rfl (.inl rfl) (pe_op op_mod (pe_op op_add (pv 4) pe_int) pe_int))) pss_nil)
        (pss_cons (ps_set (i := 2) scLCut.nd rfl (.inl rfl) (pv 4))
        (pss_one (ps_set (i := 1) scLCut.nd rfl (.inl rfl) (pe_op op_add_str (pe_op op_add_str (pv 1) (pe_callTy (r := rStr) call_strA (by rfl) B.str (by decide +kernel) (pa_cons (pe_op op_add pe_int (pe_op op_fdiv (pv 3) pe_int)) pa_nil))) (pe_ix ix_str pe_str (pv 4) (fun _ _ => rfl)))))))))
      (pss_one (ps_ret (pv 1))))), ?_⟩
    refine ⟨.int c, rfl, .int c, rfl, .inl ⟨c, rfl, c, rfl, _, 9, rfl, rfl, (show (0 : Int) < 9 by decide), 1, _, rfl, rfl, ?_⟩⟩
    have b0 := Int.emod_nonneg (if c < 0 then -c else c) (show (9 : Int) ≠ 0 by decide)
    have b1 := Int.emod_lt_of_pos (if c < 0 then -c else c) (show (0 : Int) < 9 by decide)
    refine ⟨c, 1 + (if c < 0 then -c else c) % 9, 400, rfl, by omega, by omega, by decide, by decide, fun H1 p ns s1 hp hx hl hb => ?_⟩
    refine ⟨p, rfl, ⟨_, .inl (.inl hx)⟩, ?_⟩
    have hnl : ns.length ≤ 9 := by omega
    have hlm : (ns.map V.int).length = ns.length := List.length_map _
    refine for_list (K := K) (xs := ns.map V.int) (fun i σ H' => H' = H1 ∧ ∃ (l : List Nat) (b : Int) (v3 v4 : Option V), l.length ≤ 20 * i ∧ (∀ x ∈ l, x < 128 ∧ x ≠ 9) ∧ σ = [some (.int c), some (.str (T l)), some (.int b), v3, v4]) ⟨rfl, [], 4, none, none, Nat.le_refl _, (fun x hx => by cases hx), by rw [← T_nil]; rfl⟩ (fun i σ H' _ h => by rw [h.1]; exact .inl (.inl hx)) ?_ ?_
    · rintro i v σ H' hv ⟨rfl, l, b, v3, v4, ll, lok, rfl⟩
      rw [List.getElem?_map] at hv
      obtain ⟨n, hn, rfl⟩ := Option.map_eq_some_iff.mp hv
      obtain ⟨n0, n1⟩ := hb n (List.mem_of_getElem? hn)
      have hi : i < 9 := by
        have := (List.getElem?_eq_some_iff.mp hn).1
        omega
      refine ⟨fun σ H2 => H2 = H' ∧ ∃ st : Int, (0 ≤ st ∧ st < 4) ∧ σ = [some (.int c), some (.str (T l)), some (.int b), some (.int n), some (.int st)], ⟨.int n, rfl, n, 4, rfl, rfl, (show (0 : Int) < 4 by decide), rfl, _, ⟨Int.emod_nonneg _ (by decide), Int.emod_lt_of_pos _ (by decide)⟩, rfl⟩, ?_⟩
      rintro σ H2 ⟨rfl, st, hst, rfl⟩
      refine ⟨fun σ H3 => H3 = H2 ∧ ∃ st : Int, (0 ≤ st ∧ st < 4) ∧ σ = [some (.int c), some (.str (T l)), some (.int b), some (.int n), some (.int st)], ?_, ?_⟩
      · refine ⟨.int st, rfl, .int b, rfl, rfl, _, rfl, ite2 (fun _ => ?_) (fun _ => ⟨rfl, st, hst, rfl⟩)⟩
        exact ⟨.int st, rfl, st, 1, rfl, rfl, _, 4, rfl, rfl, (show (0 : Int) < 4 by decide), rfl, _, ⟨Int.emod_nonneg _ (by decide), Int.emod_lt_of_pos _ (by decide)⟩, rfl⟩
      rintro σ H3 ⟨rfl, st, ⟨st0, st4⟩, rfl⟩
      obtain ⟨ch, hch, hat⟩ := xid st st0 st4
      obtain ⟨m, hm⟩ : ∃ m : Nat, 1 + n / 4 = (m : Int) := ⟨(1 + n / 4).toNat, by omega⟩
      have hm9 : m < 10 ^ 9 := by
        have : m ≤ 101 := by omega
        exact Nat.lt_of_le_of_lt this (by decide)
      have hml := num_len hm9
      refine ⟨.int st, rfl, .str (T l), rfl, .int n, rfl, n, 4, rfl, rfl, ⟨by decide, by decide⟩, 1, _, rfl, rfl, .inl ⟨m, by show [V.int (1 + n / 4)] = _; rw [hm], hm9, ?_⟩⟩
      refine ⟨_, _, rfl, rfl, line_ok6 (by rw [T_len, T_len]; omega), .int st, rfl, _, _, ch, rfl, rfl, by decide, hat, _, _, rfl, rfl, line_ok6 ?_, rfl, l ++ TL.numL m ++ [ch], st, some (.int n), some (.int st), ?_, ?_, ?_⟩
      · rw [T_app, T_len, List.length_append]
        show l.length + (TL.numL m).length + 1 ≤ 1000000
        omega
      · rw [List.length_append, List.length_append, List.length_singleton]
        omega
      · intro x hx
        rcases List.mem_append.mp hx with z | z
        · rcases List.mem_append.mp z with z | z
          · exact lok x z
          · exact num_asc m x z
        · obtain rfl : x = ch := by simpa using z
          exact hch
      · rw [← T_app (l ++ TL.numL m), ← T_app l]
        rfl
    · rintro σ H' ⟨rfl, l, b, v3, v4, ll, lok, rfl⟩
      rw [hlm] at ll
      exact ⟨.str (T l), rfl, q H' l s1 (by omega) lok⟩
def sgn : List Nat := [97, 98, 122, 65, 90, 48, 57, 113]
theorem sgn_text : Str.ofString "abzAZ09q" = T sgn := by decide +kernel
theorem sgn_ok : ∀ c ∈ sgn, c < 128 ∧ c ≠ 9 := by decide
def Rc.mid (r : Rc) : List Nat := [r.a, r.b, r.c, r.d, r.e, r.f]
theorem mid_ok {r : Rc} (h : r.Ok) {n : Nat} (hn : n ∈ r.mid) : n < 10 ^ 9 := by
  simp only [Rc.mid, List.mem_cons, List.not_mem_nil, or_false] at hn
  rcases hn with e | e | e | e | e | e <;> subst e
  · exact h.a
  · exact h.b
  · exact h.c
  · exact h.d
  · exact h.e
  · exact h.f
def spLaw (K : PySem.W.Frag) : Sp := fun vs H Q _ => ∃ (a : Addr) (ns : List Int), vs = [.ref a] ∧ SqL K H a (ns.map V.int) ∧ ∀ H', Q (.bl true) H'
theorem ok_law {f : Addr} {fd : FuncData} (F : Fun K "law" "law" sLaw f fd) (B : Bl mg) (mtup : mg "tuple" = none) (mall : mg "all" = none)
    (hC : Has P w K mg base 3 "_law_cell" ["script", "k"] (spCell K)) (hO : Has P w K mg base 3 "_law_row" ["cell", "count", "bound"] (spRow K)) (hI : Has P w K mg base 3 "_law_integer" ["value"] spInteger) (hU : Has P w K mg base 3 "_law_cut" ["cell"] spLCut)
    (hW : Has P w K mg base 3 "write_record" ["record"] (spWRec K)) (hR : Has P w K mg base 3 "read_record" ["line"] spRRec) : FnOk P w K mg base CX0 4 f fd ["script"] (spLaw K) := by
  obtain ⟨fC, dC, GC, gC, kC, bC⟩ := hC
  obtain ⟨fO, dO, GO, gO, kO, bO⟩ := hO
  obtain ⟨fI, dI', GI, gI, kI, bI⟩ := hI
  obtain ⟨fU, dU, GU, gU, kU, bU⟩ := hU
  obtain ⟨fW, dW, GW, gW, kW, bW⟩ := hW
  obtain ⟨fR, dR', GR, gR, kR, bR⟩ := hR
  refine F.ok scLaw (fun vs H Q E h => ?_) (fun cdv A outer s H vs Q E hr h => ?_)
  · obtain ⟨c, ns, rfl, _⟩ := h
    rfl
  · obtain ⟨a, ns, rfl, hsq, q⟩ := h
    refine ⟨_, pss_cons (ps_for PassesOwn.never rfl (pi_range1 rfl B.range (pa_cons pe_int pa_nil)) (pg_name (i := 1) scLaw.nd rfl (.inl rfl))
        (C8.pss_cut (ps_set (i := 2) scLaw.nd rfl (.inl rfl) (pe_call GC hr (by rfl) gC kC bC .nil pass0 (pa_cons (pv 0) (pa_cons (pe_op op_mul pe_int (pv 1)) pa_nil))))
        (pss_cons (ps_set (i := 3) scLaw.nd rfl (.inr rfl) pe_str)
        (C8.pss_cut (ps_set (i := 4) scLaw.nd rfl (.inl rfl) (pe_join pe_str (pe_lc (own := [("x", 9)]) (g := gName 9) (tt := tYes) (te := tOp rIxS (tVar 3) (tVar 9)) rfl scLaw.nd
            (pi_list (pe_call GO hr (by rfl) gO kO bO .nil pass0 (pa_cons (pv 2) (pa_cons (pe_op op_add pe_int (pe_op op_mod (pe_callB call_abs (by rfl) B.abs (by decide +kernel) (pa_cons (pv 2) pa_nil)) pe_int)) (pa_cons pe_int pa_nil)))))
            (blkOk_by (own := [("x", 9)]) (N := NL) (sc := defScope sLaw) (by decide +kernel))
            (fun _ _ _ _ _ => pg_name (i := 9) scLaw.nd rfl (Or.inl rfl)) (fun _ _ _ _ _ => pts_nil) (fun _ _ _ _ _ => pe_ix (r := rIxS) ix_str (pv 3) (pv 9) (fun _ _ => rfl)))))
        (C8.pss_cut (ps_set (i := 5) scLaw.nd rfl (.inl rfl) (pe_call GO hr (by rfl) gO kO bO .nil pass0 (pa_cons (pe_call GC hr (by rfl) gC kC bC .nil pass0 (pa_cons (pv 0) (pa_cons (pe_op op_add (pe_op op_mul pe_int (pv 1)) pe_int) pa_nil))) (pa_cons pe_int (pa_cons pe_int pa_nil)))))
        (C8.pss_cut (ps_set (i := 6) scLaw.nd rfl (.inl rfl) (pe_tup (pa_cons (pv 4) (pa_cons (pe_ix ix_list (pv 5) pe_int (fun _ _ => rfl)) (pa_cons (pe_op op_mod (pe_ix ix_list (pv 5) pe_int (fun _ _ => rfl)) pe_int) (pa_cons (pe_ix ix_list (pv 5) pe_int (fun _ _ => rfl)) (pa_cons (pe_ix ix_list (pv 5) pe_int (fun _ _ => rfl))
            (pa_cons (pe_op op_mod (pe_ix ix_list (pv 5) pe_int (fun _ _ => rfl)) pe_int) (pa_cons (pe_ix ix_list (pv 5) pe_int (fun _ _ => rfl)) (pa_cons (pe_call GU hr (by rfl) gU kU bU .nil pass0 (pa_cons (pv 2) pa_nil)) pa_nil))))))))))
        (pss_cons (ps_set (i := 7) scLaw.nd rfl (.inl rfl) (pe_call GW hr (by rfl) gW kW bW .nil pass0 (pa_cons (pv 6) pa_nil)))
        (C8.pss_cut (ps_if (PW.pt (pw_or (pt_not (pt_val (pe_callB call_isi (by rfl) B.isin (by decide +kernel) (pa_cons (pv 7) (pa_cons (pe_bltn (v := .ty "str") (by rfl) B.str (by decide +kernel) rfl) pa_nil)))))
            (pw_or1 (pt_cmpR (op_neD hr.units) (pe_split (pv 7) pe_str) (pe_op op_cat (pe_op op_cat (pe_lst (pa_cons (pv 4) pa_nil)) (pe_lc (own := [("x", 9)]) (g := gName 9) (tt := tYes) (te := tCB rStr (tCons (tVar 9) tNil)) rfl scLaw.nd (pi_tup (pe_slice sl_tup (pv 6) (po_some pe_int) (po_some pe_int)))
              (blkOk_by (own := [("x", 9)]) (N := NL) (sc := defScope sLaw) (by decide +kernel)) (fun _ _ _ _ _ => pg_name (i := 9) scLaw.nd rfl (Or.inl rfl)) (fun _ _ _ _ _ => pts_nil) (fun _ _ _ _ _ => pe_callTy (r := rStr) call_strA (by rfl) B.str (by decide +kernel) (pa_cons (pv 9) pa_nil))))
              (pe_lst (pa_cons (pe_ix ix_tup (pv 6) pe_int (fun _ _ => rfl)) pa_nil))) (nomark _))))) (pss_one (ps_ret pe_bl)) pss_nil)
        (pss_cons (ps_set (i := 8) scLaw.nd rfl (.inl rfl) (pe_call GR hr (by rfl) gR kR bR .nil pass0 (pa_cons (pv 7) pa_nil)))
        (pss_one (ps_if (PW.pt (pw_or (pt_not (pt_val (pe_callB call_isi (by rfl) B.isin (by decide +kernel) (pa_cons (pv 8) (pa_cons (pe_bltn (v := .ty "tuple") (by rfl) mtup (by decide +kernel) rfl) pa_nil)))))
            (pw_or (pt_cmpR (op_neD hr.units) (pv 8) (pv 6) (nomark _))
            (pw_or1 (pt_not (pt_val (pe_callB (cr_all rfl) (by rfl) mall (by decide +kernel) (pa_cons (pe_lc (own := [("x", 9)]) (g := gName 9) (tt := tYes) (te := tCall spInteger [] E0 (tCons (tVar 9) tNil)) rfl scLaw.nd (pi_tup (pe_slice sl_tup (pv 8) (po_some pe_int) (po_some pe_int)))
              (blkOk_by (own := [("x", 9)]) (N := NL) (sc := defScope sLaw) (by decide +kernel)) (fun _ _ _ _ _ => pg_name (i := 9) scLaw.nd rfl (Or.inl rfl)) (fun _ _ _ _ _ => pts_nil) (fun _ _ _ _ _ => pe_call GI (hr.mono (by decide)) (by rfl) gI kI bI .nil pass0 (pa_cons (pv 9) pa_nil))) pa_nil))))))))
            (pss_one (ps_ret pe_bl)) pss_nil)))))))))))
      (pss_one (ps_ret pe_bl)), ?_⟩
    refine ⟨8, rfl, by decide, by decide, ?_⟩
    refine for_range (lo := 0) (n := 8) (fun i σ H' => Same H H' ∧ ∃ v1 v2 v3 v4 v5 v6 v7 v8 : Option V, σ = [some (.ref a), v1, v2, v3, v4, v5, v6, v7, v8, none]) ⟨Same.refl _, none, none, none, none, none, none, none, none, rfl⟩ ?_ fun σ H' _ => q _
    rintro i σ H1 hi ⟨s1, v1, v2, v3, v4, v5, v6, v7, v8, rfl⟩
    -- cell
    refine ⟨fun σ H' => H' = H1 ∧ ∃ c : Int, σ = [some (.ref a), some (.int (0 + (i : Nat))), some (.int c), v3, v4, v5, v6, v7, v8, none], ⟨.ref a, rfl, .int (0 + (i : Nat)), rfl, 2, _, rfl, rfl, .inl ⟨by decide, by decide⟩, a, ns, 2 * i, cell_arg3 a 2 i, s1.seq hsq, fun c => ⟨rfl, c, rfl⟩⟩, ?_⟩
    rintro σ H2 ⟨rfl, c, rfl⟩
    -- name
    refine ⟨fun σ H' => Same H2 H' ∧ ∃ l : List Nat, l.length ≤ 1000 ∧ (∀ x ∈ l, x < 128 ∧ x ≠ 9) ∧ σ = [some (.ref a), some (.int (0 + (i : Nat))), some (.int c), some (.str (T sgn)), some (.str (T l)), v5, v6, v7, v8, none], ?_, ?_⟩
    · have b0 := Int.emod_nonneg (if c < 0 then -c else c) (show (8 : Int) ≠ 0 by decide)
      have b1 := Int.emod_lt_of_pos (if c < 0 then -c else c) (show (0 : Int) < 8 by decide)
      refine ⟨⟨_, rfl⟩, .int c, rfl, .int c, rfl, c, rfl, _, 8, rfl, rfl, (show (0 : Int) < 8 by decide), 1, _, rfl, rfl, c, 1 + (if c < 0 then -c else c) % 8, 8, rfl, by omega, by omega, by decide, by decide, fun H3 p xs s3 hp hx hl hb => ?_⟩
      refine ⟨p, rfl, ⟨_, .inl (.inl hx)⟩, fun D hD => ?_⟩
      refine lc_list (K := K) (xs := xs.map V.int) (fun j H4 => Same H3 H4 ∧ ∃ l : List Nat, l.length = j ∧ (∀ c ∈ l, c ∈ sgn) ∧ H4 D = some (.lst ((l.map fun c => T [c]).map V.str))) ⟨same_upd hD, [], rfl, (fun c hc => by cases hc), upd_same⟩ (fun j H4 _ h => h.1.seq (.inl (.inl hx))) ?_ ?_
      · rintro j y H4 hjy ⟨s4, l, hll, hal, hd⟩
        rw [List.getElem?_map] at hjy
        obtain ⟨n1, hn1, rfl⟩ := Option.map_eq_some_iff.mp hjy
        obtain ⟨g0, g1⟩ := hb n1 (List.mem_of_getElem? hn1)
        obtain ⟨m, rfl⟩ : ∃ m : Nat, n1 = (m : Int) := ⟨n1.toNat, by omega⟩
        have g2 : m < sgn.length := by show m < 8; omega
        have hj : j < xs.length := (List.getElem?_eq_some_iff.mp hn1).1
        refine ⟨rfl, ?_⟩
        dsimp only [tYes]
        rw [if_pos rfl]
        have hat : atI (T sgn).cps.toList (m : Int) = some sgn[m] := atI_nat (List.getElem?_eq_getElem g2)
        refine ⟨.str (T sgn), by rw [← sgn_text]; rfl, .int m, rfl, T sgn, _, sgn[m], rfl, rfl, line_ok6 (by rw [T_len]; decide), hat, _, hd, line_ok6 (by rw [List.length_map, List.length_map]; omega), fun b o e => ?_, l ++ [sgn[m]], by rw [List.length_append, hll]; rfl, fun c hc => ?_, ?_⟩
        · rw [upd_ne (ne_of_none e hD)]
          exact s4 b o e
        · rcases List.mem_append.mp hc with z | z
          · exact hal c z
          · obtain rfl : c = sgn[m] := by simpa using z
            exact List.getElem_mem g2
        · rw [upd_same, List.map_append, List.map_append]
          rfl
      · rintro H4 ⟨s4, l, hll, hal, hd⟩
        rw [List.length_map] at hll
        refine ⟨Str.ofString "", D, l.map fun c => T [c], rfl, rfl, .inl (.inl (.inl hd)), ?_, ?_⟩
        · rw [sum_ones, show (Str.ofString "").length = 0 by decide +kernel]
          omega
        · rw [TL.join_eq, T_nil, join_ones]
          refine ⟨s3.trans s4, l, by omega, fun x hx => sgn_ok x (hal x hx), ?_⟩
          rw [← sgn_text]
          rfl
    rintro σ H3 ⟨s23, l, ll, lok, rfl⟩
    have s03 := s1.trans s23
    -- row
    refine ⟨fun σ H' => Same H3 H' ∧ ∃ (p : Addr) (n0 n1 n2 n3 n4 n5 : Nat), (n0 ≤ 100000 ∧ n1 ≤ 100000 ∧ n2 ≤ 100000 ∧ n3 ≤ 100000 ∧ n4 ≤ 100000 ∧ n5 ≤ 100000) ∧ H' p = some (.lst [.int n0, .int n1, .int n2, .int n3, .int n4, .int n5]) ∧ σ = [some (.ref a), some (.int (0 + (i : Nat))), some (.int c), some (.str (T sgn)), some (.str (T l)), some (.ref p), v6, v7, v8, none], ?_, ?_⟩
    · refine ⟨.ref a, rfl, .int (0 + (i : Nat)), rfl, 2, _, rfl, rfl, .inl ⟨by decide, by decide⟩, _, 1, rfl, rfl, a, ns, 2 * i + 1, cell_arg4 a 1 2 i, s03.seq hsq, fun c2 => ?_⟩
      refine ⟨c2, 6, 100001, rfl, by decide, by decide, by decide, by decide, fun H4 p xs s4 hp hx hl hb => ⟨s4, ?_⟩⟩
      match xs, hl, hb, hx with
      | [x0, x1, x2, x3, x4, x5], _, hb, hx =>
        have q0 := hb x0 (by simp)
        have q1 := hb x1 (by simp)
        have q2 := hb x2 (by simp)
        have q3 := hb x3 (by simp)
        have q4 := hb x4 (by simp)
        have q5 := hb x5 (by simp)
        refine ⟨p, x0.toNat, x1.toNat, x2.toNat, x3.toNat, x4.toNat, x5.toNat, by omega, ?_, rfl⟩
        rw [Int.toNat_of_nonneg q0.1, Int.toNat_of_nonneg q1.1, Int.toNat_of_nonneg q2.1, Int.toNat_of_nonneg q3.1, Int.toNat_of_nonneg q4.1, Int.toNat_of_nonneg q5.1]
        exact hx
    rintro σ H4 ⟨s34, p, n0, n1, n2, n3, n4, n5, hn, hp, rfl⟩
    -- record
    refine ⟨fun σ H' => Same H4 H' ∧ ∃ (z : Addr) (r : Rc), r.Ok ∧ r.nm = l ∧ H' z = some (.tup r.vs) ∧ σ = [some (.ref a), some (.int (0 + (i : Nat))), some (.int c), some (.str (T sgn)), some (.str (T l)), some (.ref p), some (.ref z), v7, v8, none], ?_, ?_⟩
    · have pS : SqL K H4 p [.int n0, .int n1, .int n2, .int n3, .int n4, .int n5] := .inl (.inl hp)
      have small : ∀ {m : Nat}, m ≤ 100000 → m < 10 ^ 9 := fun h => Nat.lt_of_le_of_lt h (by decide)
      refine ⟨_, rfl, .ref p, rfl, p, _, 0, .int n0, rfl, rfl, pS, rfl, .ref p, rfl, p, _, 1, .int n1, rfl, rfl, pS, rfl, _, 2, rfl, rfl, (show (0 : Int) < 2 by decide), .ref p, rfl, p, _, 2, .int n2, rfl, rfl, pS, rfl, .ref p, rfl, p, _, 3, .int n3, rfl, rfl, pS, rfl, .ref p, rfl, p, _, 4, .int n4, rfl, rfl, pS, rfl, _, 51, rfl, rfl, (show (0 : Int) < 51 by decide), .ref p, rfl, p, _, 5, .int n5, rfl, rfl, pS, rfl, _, rfl, c, rfl, fun H5 ct s5 cl cok => ?_⟩
      refine ⟨by show 8 ≤ sizeLine; decide, fun z hz => ⟨s5.trans (same_upd hz), z, ⟨l, n0, n1 % 2, n2, n3, n4 % 51, n5, ct⟩, ⟨ll, lok, cl, cok, small hn.1, small (by show n1 % 2 ≤ 100000; omega), small hn.2.2.1, small hn.2.2.2.1, small (by show n4 % 51 ≤ 100000; omega), small hn.2.2.2.2.2⟩, rfl, ?_, rfl⟩⟩
      rw [upd_same]
      rfl
    rintro σ H5 ⟨s45, z, r, ok, rfl, hz, rfl⟩
    refine ⟨.ref z, rfl, z, r, rfl, ok, .inl (.inl hz), fun H6 s56 => ?_⟩
    have s06 := (s03.trans s34).trans (s45.trans s56)
    have hz6 := s56 _ _ hz
    -- the line
    refine ⟨fun σ H' => Same H6 H' ∧ σ = [some (.ref a), some (.int (0 + (i : Nat))), some (.int c), some (.str (T sgn)), some (.str (T r.nm)), some (.ref p), some (.ref z), some (.str r.line), v8, none], ?_, ?_⟩
    · refine ⟨.str r.line, rfl, _, .ty "str", _, _, true, rfl, .ty _, .base (.str _), kit_ty (by decide +kernel), true, rfl, iteF ?_⟩
      refine ⟨.str r.line, rfl, ⟨_, rfl⟩, r.line, tab, rfl, rfl, by decide +kernel, Nat.le_trans (Nat.add_le_add_right (line_len ok) 2) (by decide +kernel), fun p1 hp1 => ?_⟩
      rw [line_split ok]
      have s7 := same_upd (o := .lst (r.st.map V.str)) hp1
      have h71 : (upd H6 p1 (.lst (r.st.map V.str))) p1 = some (.lst (r.st.map V.str)) := upd_same
      generalize upd H6 p1 (.lst (r.st.map V.str)) = H7 at s7 h71 ⊢
      have hz7 := s7 _ _ hz6
      refine ⟨_, rfl, line_ok6 (show 1 ≤ 1000000 by decide), fun p2 hp2 => ?_⟩
      have s8 := same_upd (o := .lst [.str (T r.nm)]) hp2
      have h82 : (upd H7 p2 (.lst [.str (T r.nm)])) p2 = some (.lst [.str (T r.nm)]) := upd_same
      generalize upd H7 p2 (.lst [.str (T r.nm)]) = H8 at s8 h82 ⊢
      have hz8 := s8 _ _ hz7
      refine ⟨.ref z, rfl, 1, rfl, 7, rfl, z, r.vs, rfl, .inl (.inl hz8), (show ¬(HT.sIx 8 0 (some 1) = 0 ∧ HT.sIx 8 8 (some 7) = 8) by decide), fun p3 hp3 => ⟨_, rfl, ⟨_, .inl (.inl upd_same)⟩, fun D hD => ?_⟩⟩
      have s9 := same_upd (o := .tup (L2.cutV r.vs (some 1) (some 7))) hp3
      have h93 : (upd H8 p3 (.tup (L2.cutV r.vs (some 1) (some 7)))) p3 = some (.tup (r.mid.map fun n : Nat => V.int (n : Int))) := upd_same
      generalize upd H8 p3 (.tup (L2.cutV r.vs (some 1) (some 7))) = H9 at s9 h93 hD ⊢
      have h92 := s9 _ _ h82
      refine lc_tup (K := K) (xs := r.mid.map fun n : Nat => V.int (n : Int)) (fun j H1 => Same H9 H1 ∧ H1 D = some (.lst (((r.mid.take j).map fun n => T (TL.numL n)).map V.str))) ⟨same_upd hD, upd_same⟩ (fun j H1 _ h => seqT h.1 (.inl (.inl h93))) ?_ ?_
      · rintro j y H10 hjy ⟨s10, hd⟩
        rw [List.getElem?_map] at hjy
        obtain ⟨n1, hn1, rfl⟩ := Option.map_eq_some_iff.mp hjy
        refine ⟨rfl, ?_⟩
        dsimp only [tYes]
        rw [if_pos rfl]
        refine ⟨.int n1, rfl, .inl ⟨n1, rfl, mid_ok ok (List.mem_of_getElem? hn1), _, hd, line_ok7 ?_, fun b o e => ?_, ?_⟩⟩
        · rw [List.length_map, List.length_map, List.length_take]
          have : r.mid.length = 6 := rfl
          omega
        · rw [upd_ne (ne_of_none e hD)]
          exact s10 b o e
        · rw [upd_same, List.take_add_one, hn1, List.map_append, List.map_append]
          rfl
      · rintro H10 ⟨s10, hd⟩
        have e1 : ((r.mid.take (r.mid.map fun n : Nat => V.int (n : Int)).length).map fun n => T (TL.numL n)).map V.str = r.mid.map fun n => V.str (T (TL.numL n)) := rfl
        rw [e1] at hd
        refine ⟨p2, D, _, _, rfl, rfl, s10 _ _ h92, hd, line_ok6 (show 7 ≤ 1000000 by decide), fun p4 hp4 => ?_⟩
        have s11 := same_upd (o := .lst ([V.str (T r.nm)] ++ r.mid.map fun n => V.str (T (TL.numL n)))) hp4
        have h114 : (upd H10 p4 (.lst ([V.str (T r.nm)] ++ r.mid.map fun n => V.str (T (TL.numL n))))) p4 = some (.lst ([V.str (T r.nm)] ++ r.mid.map fun n => V.str (T (TL.numL n)))) := upd_same
        generalize upd H10 p4 (.lst ([V.str (T r.nm)] ++ r.mid.map fun n => V.str (T (TL.numL n)))) = H11 at s11 h114 ⊢
        have hz11 := s11 _ _ (s10 _ _ (s9 _ _ hz8))
        refine ⟨.ref z, rfl, z, _, 7, .str (T r.ct), rfl, rfl, .inl (.inl hz11), rfl, line_ok6 (show 1 ≤ 1000000 by decide), fun p5 hp5 => ?_⟩
        have n45 : p4 ≠ p5 := ne_of_none h114 hp5
        refine ⟨p4, p5, [V.str (T r.nm)] ++ (r.mid.map fun n => V.str (T (TL.numL n))), [V.str (T r.ct)], rfl, rfl, by rw [upd_ne n45]; exact h114, upd_same, line_ok6 (show 8 ≤ 1000000 by decide), fun p6 hp6 => ?_⟩
        have s13 := (same_upd (o := .lst [V.str (T r.ct)]) hp5).trans (same_upd (o := .lst ([V.str (T r.nm)] ++ (r.mid.map fun n => V.str (T (TL.numL n))) ++ [V.str (T r.ct)])) hp6)
        have sall := ((s7.trans s8).trans (s9.trans s10)).trans (s11.trans s13)
        have h1 := s13 _ _ (s11 _ _ (s10 _ _ (s9 _ _ (s8 _ _ h71))))
        refine ⟨dL r.ps, dL r.ps, .lst (.inl (.inl h1)) (dp_ps r.ps), .lst (.inl (.inl upd_same)) (dp_ps r.ps), shaped_dL (fun l hl c hc => (ps_asc ok l hl c hc).1), shaped_dL (fun l hl c hc => (ps_asc ok l hl c hc).1), _, rfl, ?_⟩
        rw [eqv_ps ok]
        exact iteF ⟨sall, rfl⟩
    rintro σ H7 ⟨s67, rfl⟩
    have s07 := s06.trans s67
    have hz7 := s67 _ _ hz6
    refine ⟨.str r.line, rfl, r, rfl, ok, fun H8 t s78 ht0 ht => ?_⟩
    have hz8 := s78 _ _ hz7
    refine ⟨.ref t, rfl, .ref t, .ty "tuple", _, _, true, rfl, .ty _, .base (.tup ht), kit_ty (by decide +kernel), true, rfl, iteF ?_⟩
    refine ⟨.ref t, rfl, .ref z, rfl, r.dt, r.dt, dp_rc (.inl (.inl ht)), dp_rc (.inl (.inl hz8)), shaped_rc ok, shaped_rc ok, _, rfl, ?_⟩
    rw [eqv_rc ok]
    refine iteF ?_
    refine ⟨.ref t, rfl, 1, rfl, 7, rfl, t, r.vs, rfl, .inl (.inl ht), (show ¬(HT.sIx 8 0 (some 1) = 0 ∧ HT.sIx 8 8 (some 7) = 8) by decide), fun p3 hp3 => ⟨_, rfl, ⟨_, .inl (.inl upd_same)⟩, fun D hD => ?_⟩⟩
    have s9 := same_upd (o := .tup (L2.cutV r.vs (some 1) (some 7))) hp3
    have h93 : (upd H8 p3 (.tup (L2.cutV r.vs (some 1) (some 7)))) p3 = some (.tup (r.mid.map fun n : Nat => V.int (n : Int))) := upd_same
    generalize upd H8 p3 (.tup (L2.cutV r.vs (some 1) (some 7))) = H9 at s9 h93 hD ⊢
    refine lc_tup (K := K) (xs := r.mid.map fun n : Nat => V.int (n : Int)) (fun j H1 => Same H9 H1 ∧ j ≤ 6 ∧ H1 D = some (.lst ((List.replicate j true).map V.bl))) ⟨same_upd hD, Nat.zero_le _, upd_same⟩ (fun j H1 _ h => seqT h.1 (.inl (.inl h93))) ?_ ?_
    · rintro j y H10 hjy ⟨s10, hj6, hd⟩
      rw [List.getElem?_map] at hjy
      obtain ⟨n1, hn1, rfl⟩ := Option.map_eq_some_iff.mp hjy
      have hj : j < 6 := (List.getElem?_eq_some_iff.mp hn1).1
      refine ⟨rfl, ?_⟩
      dsimp only [tYes]
      rw [if_pos rfl]
      refine ⟨.int n1, rfl, n1, rfl, _, hd, line_ok7 (by rw [List.length_map, List.length_replicate]; omega), fun b o e => ?_, hj, ?_⟩
      · rw [upd_ne (ne_of_none e hD)]
        exact s10 b o e
      · rw [upd_same, List.replicate_succ', List.map_append]
        rfl
    · rintro H10 ⟨s10, _, hd⟩
      refine ⟨D, _, rfl, .inl (.inl hd), true, rfl, iteF ⟨((s07.trans s78).trans s9).trans s10, _, _, _, _, _, _, _, _, rfl⟩⟩
end
theorem all_mk {l : PySem.W.OpenLaw} {w : World} {K : PySem.W.Frag} {h : Heap} {mg : Str → Option Value} {fa fW fRR fC fR fI fU fL : Addr} (X : K.In h) (G : h.Ns mainGlobals mg) (hfa : mg "law" = some (.ref fa))
    {odW anW : Option Addr} {slW : Array (Option Value)} {ocW kVW dcW pmW cdW ctW : Value}
    {odRR anRR : Option Addr} {slRR : Array (Option Value)} {ocRR kVRR dcRR pmRR cdRR ctRR : Value}
    {odC anC : Option Addr} {slC : Array (Option Value)} {ocC kVC dcC pmC cdC ctC : Value}
    {odR anR : Option Addr} {slR : Array (Option Value)} {ocR kVR dcR pmR cdR ctR : Value}
    {odI anI : Option Addr} {slI : Array (Option Value)} {ocI kVI dcI pmI cdI ctI : Value}
    {odU anU : Option Addr} {slU : Array (Option Value)} {ocU kVU dcU pmU cdU ctU : Value}
    {odL anL : Option Addr} {slL : Array (Option Value)} {ocL kVL dcL pmL cdL ctL : Value}
    (aW : PySem.W.nsIn K mainGlobals "write_record" = some (some (.ref fW))) (lW : K.lookup fW = some ⟨ocW, odW, .func (PySem.W.fnOf "write_record" "write_record" (defArgs sWRec) (defBody sWRec) (defScope sWRec) .none kVW dcW pmW anW cdW ctW), slW⟩) (cW : PySem.W.codeIn K cdW "write_record" = true) (kW : PySem.W.keepIn K (.ref fW) = true)
    (aRR : PySem.W.nsIn K mainGlobals "read_record" = some (some (.ref fRR))) (lRR : K.lookup fRR = some ⟨ocRR, odRR, .func (PySem.W.fnOf "read_record" "read_record" (defArgs sRRec) (defBody sRRec) (defScope sRRec) .none kVRR dcRR pmRR anRR cdRR ctRR), slRR⟩) (cRR : PySem.W.codeIn K cdRR "read_record" = true) (kRR : PySem.W.keepIn K (.ref fRR) = true)
    (aC : PySem.W.nsIn K mainGlobals "_law_cell" = some (some (.ref fC))) (lC : K.lookup fC = some ⟨ocC, odC, .func (PySem.W.fnOf "_law_cell" "_law_cell" (defArgs sCell) (defBody sCell) (defScope sCell) .none kVC dcC pmC anC cdC ctC), slC⟩) (cC : PySem.W.codeIn K cdC "_law_cell" = true) (kC : PySem.W.keepIn K (.ref fC) = true)
    (aR : PySem.W.nsIn K mainGlobals "_law_row" = some (some (.ref fR))) (lR : K.lookup fR = some ⟨ocR, odR, .func (PySem.W.fnOf "_law_row" "_law_row" (defArgs sRow) (defBody sRow) (defScope sRow) .none kVR dcR pmR anR cdR ctR), slR⟩) (cR : PySem.W.codeIn K cdR "_law_row" = true) (kR : PySem.W.keepIn K (.ref fR) = true)
    (aI : PySem.W.nsIn K mainGlobals "_law_integer" = some (some (.ref fI))) (lI : K.lookup fI = some ⟨ocI, odI, .func (PySem.W.fnOf "_law_integer" "_law_integer" (defArgs sInteger) (defBody sInteger) (defScope sInteger) .none kVI dcI pmI anI cdI ctI), slI⟩) (cI : PySem.W.codeIn K cdI "_law_integer" = true) (kI : PySem.W.keepIn K (.ref fI) = true)
    (aU : PySem.W.nsIn K mainGlobals "_law_cut" = some (some (.ref fU))) (lU : K.lookup fU = some ⟨ocU, odU, .func (PySem.W.fnOf "_law_cut" "_law_cut" (defArgs sLCut) (defBody sLCut) (defScope sLCut) .none kVU dcU pmU anU cdU ctU), slU⟩) (cU : PySem.W.codeIn K cdU "_law_cut" = true) (kU : PySem.W.keepIn K (.ref fU) = true)
    (aL : PySem.W.nsIn K mainGlobals "law" = some (some (.ref fL))) (lL : K.lookup fL = some ⟨ocL, odL, .func (PySem.W.fnOf "law" "law" (defArgs sLaw) (defBody sLaw) (defScope sLaw) .none kVL dcL pmL anL cdL ctL), slL⟩) (cL : PySem.W.codeIn K cdL "law" = true) (kL : PySem.W.keepIn K (.ref fL) = true)
    (zlen : PySem.W.nsIn K mainGlobals "len" = some none) (zint : PySem.W.nsIn K mainGlobals "int" = some none) (zabs : PySem.W.nsIn K mainGlobals "abs" = some none) (zrange : PySem.W.nsIn K mainGlobals "range" = some none) (zisinstance : PySem.W.nsIn K mainGlobals "isinstance" = some none) (zbool : PySem.W.nsIn K mainGlobals "bool" = some none) (zstr : PySem.W.nsIn K mainGlobals "str" = some none) (ztuple : PySem.W.nsIn K mainGlobals "tuple" = some none) (zall : PySem.W.nsIn K mainGlobals "all" = some none) :
    ∃ fd : FuncData, (∀ (s : Shared) (v : Value), BindsTo s fd ⟨[v], []⟩ [("script", v)]) ∧ ∀ base : Heap, K.In base → base.Ns mainGlobals mg → FnOk l.prog w K mg base CX0 4 fa fd ["script"] (spLaw K) := by
  have e := hfa.symm.trans (PySem.W.mg_of X G aL)
  cases e
  have FW := fun_mk (st := sWRec) lW cW kW
  have FRR := fun_mk (st := sRRec) lRR cRR kRR
  have FC := fun_mk (st := sCell) lC cC kC
  have FR := fun_mk (st := sRow) lR cR kR
  have FI := fun_mk (st := sInteger) lI cI kI
  have FU := fun_mk (st := sLCut) lU cU kU
  have FL := fun_mk (st := sLaw) lL cL kL
  have B : Bl mg := ⟨PySem.W.mg_none_of X G zlen, PySem.W.mg_none_of X G zint, PySem.W.mg_none_of X G zabs, PySem.W.mg_none_of X G zrange, PySem.W.mg_none_of X G zisinstance, PySem.W.mg_none_of X G zbool, PySem.W.mg_none_of X G zstr⟩
  have bW := FW.binds (ps := ["record"]) fun _ _ _ _ _ _ us hl => match us, hl with | [_], _ => rfl
  have bRR := FRR.binds (ps := ["line"]) fun _ _ _ _ _ _ us hl => match us, hl with | [_], _ => rfl
  have bC := FC.binds (ps := ["script", "k"]) fun _ _ _ _ _ _ us hl => match us, hl with | [_, _], _ => rfl
  have bR := FR.binds (ps := ["cell", "count", "bound"]) fun _ _ _ _ _ _ us hl => match us, hl with | [_, _, _], _ => rfl
  have bI := FI.binds (ps := ["value"]) fun _ _ _ _ _ _ us hl => match us, hl with | [_], _ => rfl
  have bU := FU.binds (ps := ["cell"]) fun _ _ _ _ _ _ us hl => match us, hl with | [_], _ => rfl
  have fin : ∀ base : Heap, FnOk l.prog w K mg base CX0 4 fa _ ["script"] (spLaw K) := fun base =>
    have hO : Has l.prog w K mg base 2 "_law_row" ["cell", "count", "bound"] (spRow K) := ⟨fR, _, ok_row FR B, PySem.W.mg_of X G aR, kR, bR⟩
    ok_law FL B (PySem.W.mg_none_of X G ztuple) (PySem.W.mg_none_of X G zall) ⟨fC, _, ok_cell FC B, PySem.W.mg_of X G aC, kC, bC⟩ ⟨fR, _, ok_row FR B, PySem.W.mg_of X G aR, kR, bR⟩ ⟨fI, _, ok_integer FI B, PySem.W.mg_of X G aI, kI, bI⟩
      ⟨fU, _, ok_lcut FU B hO, PySem.W.mg_of X G aU, kU, bU⟩ ⟨fW, _, ok_wrec FW B, PySem.W.mg_of X G aW, kW, bW⟩ ⟨fRR, _, ok_rrec FRR B, PySem.W.mg_of X G aRR, kRR, bRR⟩
  exact ⟨PySem.W.fnOf "law" "law" (defArgs sLaw) (defBody sLaw) (defScope sLaw) .none kVL dcL pmL anL cdL ctL, fun s v => .of_eq rfl, fun base _ _ => fin base⟩
end Hr
open PySem PySem.W PyProof.Rows
set_option maxHeartbeats 0 in
theorem PySem.Challenge.cw_homereads_k32_lines_of_records_holds : PySem.Challenge.rw_homereads_k32_lines_of_records.Holds := by
  w_on; o_law; k_head; (case hw => w_witness2)
  k_fill
  refine L2.walk_of (l := PySem.Challenge.rw_homereads_k32_lines_of_records) (n := 63) (k := 4) (x := "script") (CX := fun _ => L2.CX0) (sp := fun w => Hr.spLaw _) rfl (by decide) rfl ⟨rfl, by decide, by decide⟩ (fun w h Y => PySem.W.kIn_of Y) ?F (fun _ _ a ns hl _ hS => ⟨a, ns, rfl, hS, fun _ => rfl⟩) (fun _ _ _ _ _ h => h)
  case F =>
    intro w mg fa h KX G hmg
    refine' Hr.all_mk KX G hmg ?aW ?lW ?cW ?kW ?aRR ?lRR ?cRR ?kRR ?aC ?lC ?cC ?kC ?aR ?lR ?cR ?kR ?aI ?lI ?cI ?kI ?aU ?lU ?cU ?kU ?aL ?lL ?cL ?kL ?zlen ?zint ?zabs ?zrange ?zisinstance ?zbool ?zstr ?ztuple ?zall
    (case aW => k_is)
    (case lW => k_is)
    (case cW => k_is)
    (case kW => k_is)
    (case aRR => k_is)
    (case lRR => k_is)
    (case cRR => k_is)
    (case kRR => k_is)
    (case aC => k_is)
    (case lC => k_is)
    (case cC => k_is)
    (case kC => k_is)
    (case aR => k_is)
    (case lR => k_is)
    (case cR => k_is)
    (case kR => k_is)
    (case aI => k_is)
    (case lI => k_is)
    (case cI => k_is)
    (case kI => k_is)
    (case aU => k_is)
    (case lU => k_is)
    (case cU => k_is)
    (case kU => k_is)
    (case aL => k_is)
    (case lL => k_is)
    (case cL => k_is)
    (case kL => k_is)
    (case zlen => k_is)
    (case zint => k_is)
    (case zabs => k_is)
    (case zrange => k_is)
    (case zisinstance => k_is)
    (case zbool => k_is)
    (case zstr => k_is)
    (case ztuple => k_is)
    (case zall => k_is)
