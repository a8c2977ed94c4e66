import PyProof.Rows.All
import Wide.All
import OpenK.AllK
import Wide.FinOn
import HandS.Base
import HandS.Call
import HandS.List
import HandS.Comp
import HandS.Ends
import HandS.Dict
import HandS.Iter
import HandS.Text
import HandS.Words
import HandS.WordsList
import HandS.More
import HandS.Codes
import HandS.Replace
import HandS.IsInst
import HandS.ExcInit
import HandS.WordsExc
import HandS.Exc
import HandS.TryOnly
import HandS.ExcOwn
import KE.SortKeyHeap
import HandS.Lambda
import HandS.Nested
import HandS.SortKw
import HandS.EndTab
import HandS.SetFor
import HandS.Strs
import HandS.SortInts
import HandS.Zip
import HandS.DictComp
import KE.GoesEnumKw
import KE.OsSetLaws
import HandS.MakeKwOnly
import HandS.Defaults
import HandS.RevRange
import HandS.WideBits
import HandS.Conv
import KE.KDictList
import HandS.Rev
import HandS.ReplaceLit
import HandS.RaiseMore
import KE.GoesMore
import HandS.FStr
import PySem.Challenge.RW_homereads_k27_paths_and_their_costs
set_option Elab.async false
set_option linter.all false
set_option maxRecDepth 100000
set_option maxHeartbeats 4000000
namespace Hr
open PySem PySem.Spec PyProof.Rows L2
/-! ### the text -/
def topS (i : Nat) : Stmt := PySem.Challenge.pw_homereads_k27_paths_and_their_costs.main.body.getD i (.Pass ⟨0, 0, 0, 0⟩)
abbrev sAgree : Stmt := topS 1
abbrev sPCost : Stmt := topS 3
abbrev sFits : Stmt := topS 4
abbrev sCut : Stmt := topS 5
abbrev sJPath : Stmt := topS 6
abbrev sRuns : Stmt := topS 7
abbrev sPStep : Stmt := topS 8
abbrev sCell : Stmt := topS 10
abbrev sRow : Stmt := topS 11
abbrev sInteger : Stmt := topS 12
abbrev sText : Stmt := topS 13
abbrev sLTurned : Stmt := topS 14
abbrev sLRead : Stmt := topS 15
abbrev sLRefs : Stmt := topS 16
abbrev sLAgree : Stmt := topS 17
abbrev sPriced : Stmt := topS 18
abbrev sWalks : Stmt := topS 19
abbrev sLCosts : Stmt := topS 20
abbrev sLPath : Stmt := topS 21
abbrev sLTexts : Stmt := topS 22
abbrev sLCut : Stmt := topS 23
abbrev sLaw : Stmt := topS 24
theorem scCell : FnScope ["script", "k"] ["script", "k"] (defScope sCell) := ⟨rfl, rfl, rfl, by decide +kernel, rfl, by decide +kernel, by decide +kernel⟩
theorem scRow : FnScope ["cell", "count", "bound", "rest", "mixed", "row", "k"] ["cell", "count", "bound"] (defScope sRow) := ⟨rfl, rfl, rfl, by decide +kernel, rfl, by decide +kernel, by decide +kernel⟩
theorem scInteger : FnScope ["value"] ["value"] (defScope sInteger) := ⟨rfl, rfl, rfl, by decide +kernel, rfl, by decide +kernel, by decide +kernel⟩
/-! ### walks of a known number of turns -/
theorem for_gen {J : It} {n : Nat} {g : TG} {tb : TS} {D : Ends} {σ : L2.St} {H : Hp} (Pv : Nat → L2.St → Hp → Prop) (h0 : Pv 0 σ H) (hgo : ∀ i σ H, i < n → Pv i σ H → J.go i H) (hstop : ∀ σ H, Pv n σ H → J.stop n H)
    (hs : ∀ i σ H x H', i < n → Pv i σ H → J.yld i H x H' → g x σ H' fun σ2 H2 => tb { D with nx := Pv (i + 1), ct := Pv (i + 1), bk := D.nx } σ2 H2) (hd : ∀ σ H, Pv n σ H → D.nx σ H) :
    ∃ W : Nat → Nat → L2.St → Hp → Prop, (∃ m, W 0 m σ H) ∧ ∀ i m σ H, W i m σ H →
      (J.stop i H ∧ D.nx σ H) ∨ (J.go i H ∧ ∃ N : L2.St → Hp → Prop, (∀ σ' H', N σ' H' → ∃ m', m' < m ∧ W (i + 1) m' σ' H') ∧ ∀ x H', J.yld i H x H' → g x σ H' fun σ2 H2 => tb { D with nx := N, ct := N, bk := D.nx } σ2 H2) := by
  refine ⟨fun i m σ H => i + m = n ∧ Pv i σ H, ⟨n, Nat.zero_add n, h0⟩, fun i m σ H hw => ?_⟩
  obtain ⟨em, p⟩ := hw
  cases m with
  | zero =>
    obtain rfl : i = n := em
    exact .inl ⟨hstop σ H p, hd σ H p⟩
  | succ m =>
    have lt : i < n := by omega
    exact .inr ⟨hgo i σ H lt p, Pv (i + 1), fun σ' H' p' => ⟨m, Nat.lt_succ_self m, by omega, p'⟩, fun x H' y => hs i σ H x H' lt p y⟩
theorem lc_gen {J : It} {n : Nat} {g : TG} {tt : TT} {te : TE} {vs : List Nat} {σ : L2.St} {H1 : Hp} {D : Addr} {Qd : Hp → Prop} (Pv : Nat → Hp → Prop) (h0 : Pv 0 (upd H1 D (.lst []))) (hgo : ∀ i H, i < n → Pv i H → J.go i H) (hstop : ∀ H, Pv n H → J.stop n H)
    (hs : ∀ i H x H', i < n → Pv i H → J.yld i H x H' → g x (wipe σ vs) H' fun σ2 H2 => wipe σ2 vs = wipe σ vs ∧ tt σ2 H2 fun b H3 =>
      if b = true then te σ2 H3 fun y H4 => ∃ acc, H4 D = some (.lst acc) ∧ acc.length < sizeLine ∧ Pv (i + 1) (upd H4 D (.lst (acc ++ [y]))) else Pv (i + 1) H3) (hd : ∀ H, Pv n H → Qd H) :
    ∃ W : Nat → Nat → Hp → Prop, (∃ m, W 0 m (upd H1 D (.lst []))) ∧ ∀ i m H, W i m H →
      (J.stop i H ∧ Qd H) ∨ (J.go i H ∧ ∃ Nx : Hp → Prop, (∀ H', Nx H' → ∃ m', m' < m ∧ W (i + 1) m' H') ∧ ∀ x H', J.yld i H x H' → g x (wipe σ vs) H' fun σ2 H2 => wipe σ2 vs = wipe σ vs ∧ tt σ2 H2 fun b H3 =>
        if b = true then te σ2 H3 fun y H4 => ∃ acc, H4 D = some (.lst acc) ∧ acc.length < sizeLine ∧ Nx (upd H4 D (.lst (acc ++ [y]))) else Nx H3) := by
  refine ⟨fun i m H => i + m = n ∧ Pv i H, ⟨n, Nat.zero_add n, h0⟩, fun i m H hw => ?_⟩
  obtain ⟨em, p⟩ := hw
  cases m with
  | zero =>
    obtain rfl : i = n := em
    exact .inl ⟨hstop H p, hd H p⟩
  | succ m =>
    have lt : i < n := by omega
    exact .inr ⟨hgo i H lt p, Pv (i + 1), fun H' p' => ⟨m, Nat.lt_succ_self m, by omega, p'⟩, fun x H' y => hs i H x H' lt p y⟩
/-- a loop over a text's signs -/
theorem for_str {z : Str} {g : TG} {tb : TS} {D : Ends} {σ : L2.St} {H : Hp} (Pv : Nat → L2.St → Hp → Prop) (h0 : Pv 0 σ H)
    (hs : ∀ i c σ H, z.cps[i]? = some c → Pv i σ H → g (.str ⟨#[c]⟩) σ H fun σ2 H2 => tb { D with nx := Pv (i + 1), ct := Pv (i + 1), bk := D.nx } σ2 H2) (hd : ∀ σ H, Pv z.cps.size σ H → D.nx σ H) :
    ∃ W : Nat → Nat → L2.St → Hp → Prop, (∃ m, W 0 m σ H) ∧ ∀ i m σ H, W i m σ H →
      ((Its z).stop i H ∧ D.nx σ H) ∨ ((Its z).go i H ∧ ∃ N : L2.St → Hp → Prop, (∀ σ' H', N σ' H' → ∃ m', m' < m ∧ W (i + 1) m' σ' H') ∧ ∀ x H', (Its z).yld i H x H' → g x σ H' fun σ2 H2 => tb { D with nx := N, ct := N, bk := D.nx } σ2 H2) :=
  for_gen (J := Its z) (n := z.cps.size) Pv h0 (fun i σ H hi _ => hi) (fun σ H _ => Nat.le_refl _) (fun i σ H x H' hi p y => by
    obtain ⟨e, c, hc, ex⟩ := y
    subst e
    subst ex
    exact hs i c σ _ hc p) hd
/-! ### texts by lists -/
def T (l : List Nat) : Str := ⟨l.toArray⟩
theorem T_len (l : List Nat) : (T l).length = l.length := by
  show l.toArray.size = l.length
  simp
theorem T_size (l : List Nat) : (T l).cps.size = l.length := by
  show l.toArray.size = l.length
  simp
theorem T_list (l : List Nat) : (T l).cps.toList = l := rfl
theorem T_at (l : List Nat) (i : Nat) : (T l).cps[i]? = l[i]? := by
  show l.toArray[i]? = l[i]?
  simp
theorem T_app (a b : List Nat) : T a ++ T b = T (a ++ b) := by
  show Str.mk (a.toArray ++ b.toArray) = Str.mk (a ++ b).toArray
  simp
theorem T_inj {a b : List Nat} (h : T a = T b) : a = b := by
  have e : (T a).cps.toList = (T b).cps.toList := by rw [h]
  exact e
theorem T_nil : (Str.ofString "" : Str) = T [] := by decide +kernel
def Sg (c : Nat) : Prop := c = 65 ∨ c = 67 ∨ c = 71 ∨ c = 84 ∨ c = 78
def Dna (l : List Nat) : Prop := ∀ c ∈ l, Sg c
theorem Dna.app {a b : List Nat} (h : Dna a) (k : Dna b) : Dna (a ++ b) := fun c hc => by
  rcases List.mem_append.mp hc with q | q
  · exact h c q
  · exact k c q
theorem Dna.one {c : Nat} (h : Sg c) : Dna [c] := fun d hd => by
  obtain rfl : d = c := by simpa using hd
  exact h
theorem line_ok {n : Nat} (h : n ≤ 100000) : n ≤ sizeLine := by
  rw [sizeLine_eq]
  omega
theorem line_lt {n : Nat} (h : n ≤ 100000) : n < sizeLine := by
  rw [sizeLine_eq]
  omega
theorem same_upd {H : Hp} {p : Addr} {o : HO} (h : H p = none) : Same H (upd H p o) := fun b x e => by
  rw [upd_ne (ne_of_none e h)]
  exact e
theorem upd_upd {H : Hp} {p : Addr} {o o' : HO} : upd (upd H p o) p o' = upd H p o' := by
  funext b
  by_cases e : b = p
  · rw [e, upd_same, upd_same]
  · rw [upd_ne e, upd_ne e, upd_ne e]
/-! ### names that are still the built-in ones -/
structure Bl (mg : Str → Option Value) : Prop where
  len : mg "len" = none
  int : mg "int" = none
  abs : mg "abs" = none
  range : mg "range" = none
  isin : mg "isinstance" = none
  bool : mg "bool" = none
  str : mg "str" = none
section
variable {P : Program} {w : World} {K : PySem.W.Frag} {mg : Str → Option Value} {base : Heap}
/-! ### _law_cell -/
def spCell (K : PySem.W.Frag) : Sp := fun vs H Q _ => ∃ (a : Addr) (ns : List Int) (k : Nat), vs = [.ref a, .int (k : Int)] ∧ SqL K H a (ns.map V.int) ∧ ∀ x : Int, Q (.int x) H
theorem ok_cell {f : Addr} {fd : FuncData} {k : Nat} (F : Fun K "_law_cell" "_law_cell" sCell f fd) (B : Bl mg) : FnOk P w K mg base CX0 (k + 1) f fd ["script", "k"] (spCell K) := by
  refine F.ok scCell (fun vs H Q E h => ?_) (fun cdv A outer s H vs Q E hr h => ?_)
  · obtain ⟨a, ns, j, rfl, _⟩ := h
    rfl
  · obtain ⟨a, ns, j, rfl, hS, q⟩ := h
    refine ⟨_, pss_cons (ps_if (pt_cmpR op_lt (pv 1) (pe_callB call_len_seq (by rfl) B.len PySem.boot_len (pa_cons (pv 0) pa_nil)) (nomark _))
        (pss_one (ps_ret (pe_callTy call_int1 (by rfl) B.int (by decide +kernel) (pa_cons (pe_ix ix_list (pv 0) (pv 1) (fun _ _ => rfl)) pa_nil)))) pss_nil)
      (pss_one (ps_ret pe_int)), ?_⟩
    refine ⟨.int j, rfl, .ref a, rfl, a, ns.map V.int, rfl, .inl hS, j, _, rfl, rfl, _, rfl, ite2 (fun e => ?_) (fun e => q 0)⟩
    have h1 : (j : Int) < ((ns.map V.int).length : Int) := of_decide_eq_true e
    have h2 : j < ns.length := by
      rw [List.length_map] at h1
      omega
    have g1 : (ns.map V.int)[j]? = some (.int ns[j]) := by
      rw [List.getElem?_map, List.getElem?_eq_getElem h2]
      rfl
    exact ⟨.ref a, rfl, .int j, rfl, a, _, j, .int ns[j], rfl, rfl, hS, atI_nat g1, .inl ⟨_, rfl, q _⟩⟩
/-! ### _law_row -/
def spRow (K : PySem.W.Frag) : Sp := fun vs H Q _ => ∃ (c n b : Int), vs = [.int c, .int n, .int b] ∧ 0 ≤ n ∧ n ≤ 100000 ∧ 1 < b ∧ b ≤ 1000000001 ∧
  ∀ (H' : Hp) (p : Addr) (xs : List Int), Same H H' → H p = none → H' p = some (.lst (xs.map V.int)) → xs.length = n.toNat → (∀ x ∈ xs, 0 ≤ x ∧ x < b) → Q (.ref p) H'
theorem ok_row {f : Addr} {fd : FuncData} {k : Nat} (F : Fun K "_law_row" "_law_row" sRow f fd) (B : Bl mg) : FnOk P w K mg base CX0 (k + 1) f fd ["cell", "count", "bound"] (spRow K) := by
  refine F.ok scRow (fun vs H Q E h => ?_) (fun cdv A outer s H vs Q E hr h => ?_)
  · obtain ⟨c, n, b, rfl, _⟩ := h
    rfl
  · obtain ⟨c, n, b, rfl, hn0, hn, hb1, hb2, q⟩ := h
    refine ⟨_, pss_cons (ps_set (i := 3) scRow.nd rfl (.inl rfl) (pe_callB call_abs (by rfl) B.abs (by decide +kernel) (pa_cons (pe_callTy call_int1 (by rfl) B.int (by decide +kernel) (pa_cons (pv 0) pa_nil)) pa_nil)))
      (pss_cons (ps_set (i := 4) scRow.nd rfl (.inl rfl) (pe_op op_add (pe_op op_mod (pe_callTy call_int1 (by rfl) B.int (by decide +kernel) (pa_cons (pv 0) pa_nil)) pe_int) pe_int))
      (pss_cons (ps_set (i := 5) scRow.nd rfl (.inl rfl) (pe_lst pa_nil))
      (pss_cons (ps_for PassesOwn.never rfl (pi_range1 rfl B.range (pa_cons (pv 1) pa_nil)) (pg_name (i := 6) scRow.nd rfl (.inl rfl))
        (pss_one (ps_if (pt_cmpR op_ge (pv 3) (pv 2) (nomark _))
          (pss_cons (ps_expr (pe_bm PySem.F.plainAttrs_list PySem.F.slot_list_append PySem.F.type_list_append mt_append (pv 5) (pa_cons (pe_op op_mod (pe_callTy call_int1 (by rfl) B.int (by decide +kernel) (pa_cons (pv 3) pa_nil)) (pv 2)) pa_nil)))
            (pss_one (ps_set (i := 3) scRow.nd rfl (.inl rfl) (pe_op op_fdiv (pv 3) (pv 2)))))
          (pss_cons (ps_set (i := 4) scRow.nd rfl (.inl rfl) (pe_op op_mod (pe_callTy call_int1 (by rfl) B.int (by decide +kernel) (pa_cons (pe_op op_add (pe_op op_add (pe_op op_mul (pv 4) pe_int) (pe_op op_mul pe_int (pv 6))) pe_int) pa_nil)) pe_int))
            (pss_one (ps_expr (pe_bm PySem.F.plainAttrs_list PySem.F.slot_list_append PySem.F.type_list_append mt_append (pv 5) (pa_cons (pe_op op_mod (pe_callTy call_int1 (by rfl) B.int (by decide +kernel) (pa_cons (pe_op op_fdiv (pe_op op_mul (pv 4) pe_int) pe_int) pa_nil)) (pv 2)) pa_nil))))))))
      (pss_one (ps_ret (pv 5)))))), ?_⟩
    refine ⟨.int c, rfl, .inl ⟨c, rfl, c, rfl, ?_⟩⟩
    refine ⟨.int c, rfl, .inl ⟨c, rfl, c, 1000003, rfl, rfl, (show (0 : Int) < 1000003 by decide), _, _, rfl, rfl, ?_⟩⟩
    refine ⟨Nat.zero_le _, fun p hp => ?_⟩
    refine ⟨.int n, rfl, n, rfl, by omega, by omega, ?_⟩
    refine for_range (lo := 0) (n := n.toNat) (fun i σ H' => ∃ (r m : Int) (kv : Option V) (xs : List Int), σ = [some (.int c), some (.int n), some (.int b), some (.int r), some (.int m), some (.ref p), kv] ∧ 0 ≤ m ∧ m < 4294967296 ∧ Same H H' ∧
      H' p = some (.lst (xs.map V.int)) ∧ xs.length = i ∧ ∀ x ∈ xs, 0 ≤ x ∧ x < b) ?_ ?_ ?_
    · refine ⟨_, _, none, [], rfl, ?_, ?_, same_upd hp, upd_same, rfl, fun x hx => by cases hx⟩
      · have := Int.emod_nonneg c (show (1000003 : Int) ≠ 0 by decide)
        omega
      · have := Int.emod_lt_of_pos c (show (0 : Int) < 1000003 by decide)
        omega
    · rintro i σ H' hi ⟨r, m, kv, xs, rfl, hm0, hm1, sm, hx, hl, hall⟩
      have grow : ∀ (y : Int) (τ : L2.St) (r' m' : Int), 0 ≤ y → y < b → 0 ≤ m' → m' < 4294967296 → τ = [some (.int c), some (.int n), some (.int b), some (.int r'), some (.int m'), some (.ref p), some (.int (0 + (i : Nat)))] →
          ∃ (r m : Int) (kv : Option V) (zs : List Int), τ = [some (.int c), some (.int n), some (.int b), some (.int r), some (.int m), some (.ref p), kv] ∧ 0 ≤ m ∧ m < 4294967296 ∧ Same H (upd H' p (.lst (xs.map V.int ++ [.int y]))) ∧
          (upd H' p (.lst (xs.map V.int ++ [.int y]))) p = some (.lst (zs.map V.int)) ∧ zs.length = i + 1 ∧ ∀ x ∈ zs, 0 ≤ x ∧ x < b := by
        intro y τ r' m' y0 y1 h0 h1 e
        refine ⟨r', m', _, xs ++ [y], e, h0, h1, fun q o k => ?_, ?_, ?_, ?_⟩
        · rw [upd_ne (ne_of_none k hp)]
          exact sm q o k
        · rw [upd_same, List.map_append]
          rfl
        · rw [List.length_append, hl]
          rfl
        · intro x hxm
          rcases List.mem_append.mp hxm with z | z
          · exact hall x z
          · obtain rfl : x = y := by simpa using z
            exact ⟨y0, y1⟩
      have hsz : (xs.map V.int).length < sizeLine := line_lt (by rw [List.length_map]; omega)
      refine ⟨.int r, rfl, .int b, rfl, r, b, rfl, rfl, _, rfl, ite2 (fun e => ?_) (fun e => ?_)⟩
      · refine ⟨.ref p, rfl, .inl ⟨rfl, _, .inl (.inl hx)⟩, .int r, rfl, .inl ⟨r, rfl, .int b, rfl, r, b, rfl, rfl, (show 0 < b by omega), p, _, _, rfl, rfl, hx, hsz, ?_⟩⟩
        refine ⟨.int r, rfl, .int b, rfl, r, b, rfl, rfl, ⟨by omega, by omega⟩, ?_⟩
        exact grow _ _ (r / b) m (Int.emod_nonneg r (by omega)) (Int.emod_lt_of_pos r (by omega)) hm0 hm1 rfl
      · refine ⟨.int m, rfl, m, 48271, rfl, rfl, .inl ⟨by omega, by omega⟩, .int (0 + (i : Nat)), rfl, 11, _, rfl, rfl, .inl ⟨by decide, by decide⟩, _, _, rfl, rfl, _, _, rfl, rfl, .inl ⟨_, rfl, _, 2147483647, rfl, rfl, (show (0 : Int) < 2147483647 by decide), ?_⟩⟩
        have b0 : 0 ≤ (m * 48271 + 11 * (0 + ((i : Nat) : Int)) + 7) % 2147483647 := Int.emod_nonneg _ (by decide)
        have b1 : (m * 48271 + 11 * (0 + ((i : Nat) : Int)) + 7) % 2147483647 < 2147483647 := Int.emod_lt_of_pos _ (by decide)
        refine ⟨.ref p, rfl, .inl ⟨rfl, _, .inl (.inl hx)⟩, _, rfl, (m * 48271 + 11 * (0 + ((i : Nat) : Int)) + 7) % 2147483647, 2862933555777941757, rfl, rfl, .inl ⟨by omega, by omega⟩, _, 1024, rfl, rfl, ⟨by decide, by decide⟩, .inl ⟨_, rfl, .int b, rfl, _, b, rfl, rfl, (show 0 < b by omega), p, _, _, rfl, rfl, hx, hsz, ?_⟩⟩
        exact grow _ _ r ((m * 48271 + 11 * (0 + ((i : Nat) : Int)) + 7) % 2147483647) (Int.emod_nonneg _ (by omega)) (Int.emod_lt_of_pos _ (by omega)) b0 (by omega) rfl
    · rintro σ H' ⟨r, m, kv, xs, rfl, hm0, hm1, sm, hx, hl, hall⟩
      exact ⟨.ref p, rfl, q H' p xs sm hp hx hl hall⟩
/-! ### _law_integer -/
def spInteger : Sp := fun vs H Q _ => ∃ i : Int, vs = [.int i] ∧ Q (.bl true) H
theorem ok_integer {f : Addr} {fd : FuncData} {k : Nat} (F : Fun K "_law_integer" "_law_integer" sInteger f fd) (B : Bl mg) : FnOk P w K mg base CX0 (k + 1) f fd ["value"] spInteger := by
  refine F.ok scInteger (fun vs H Q E h => ?_) (fun cdv A outer s H vs Q E hr h => ?_)
  · obtain ⟨i, rfl, _⟩ := h
    rfl
  · obtain ⟨i, rfl, q⟩ := h
    refine ⟨_, pss_one (ps_ret (pe_and (pe_callB call_isi (by rfl) B.isin (by decide +kernel) (pa_cons (pv 0) (pa_cons (pe_bltn (v := .ty "int") (by rfl) B.int (by decide +kernel) rfl) pa_nil)))
      (pe_one (pe_not (pe_callB call_isi (by rfl) B.isin (by decide +kernel) (pa_cons (pv 0) (pa_cons (pe_bltn (v := .ty "bool") (by rfl) B.bool (by decide +kernel) rfl) pa_nil))))))), ?_⟩
    refine ⟨.int i, rfl, .int i, .ty "int", _, _, true, rfl, .ty _, .base (.int i), kit_ty (by decide +kernel), true, rfl, iteT ?_⟩
    exact ⟨.int i, rfl, .int i, .ty "bool", _, _, false, rfl, .ty _, .base (.int i), kit_ty (by decide +kernel), false, rfl, q⟩
end
theorem line_ok6 {n : Nat} (h : n ≤ 1000000) : n ≤ sizeLine := by
  rw [sizeLine_eq]
  omega
theorem line_ok7 {n : Nat} (h : n ≤ 10000000) : n ≤ sizeLine := by
  rw [sizeLine_eq]
  omega
theorem new_ne {H : Hp} {p q : Addr} {o : HO} (h : upd H p o q = none) : q ≠ p := fun e => by
  rw [e, upd_same] at h
  cases h
theorem new_old {H : Hp} {p q : Addr} {o : HO} (h : upd H p o q = none) : H q = none := by
  rw [upd_ne (new_ne h)] at h
  exact h
theorem cell_arg2 (a : Addr) (c d i : Nat) : [V.ref a, V.int ((c : Int) + (d : Int) * (0 + ((i : Nat) : Int)))] = [V.ref a, V.int ((c + d * i : Nat) : Int)] := by
  congr 2
  rw [Int.zero_add]
  simp
theorem cell_arg3 (a : Addr) (d i : Nat) : [V.ref a, V.int ((d : Int) * (0 + ((i : Nat) : Int)))] = [V.ref a, V.int ((d * i : Nat) : Int)] := by
  congr 2
  rw [Int.zero_add]
  simp
theorem cell_arg4 (a : Addr) (c d i : Nat) : [V.ref a, V.int ((d : Int) * (0 + ((i : Nat) : Int)) + (c : Int))] = [V.ref a, V.int ((d * i + c : Nat) : Int)] := by
  congr 2
  rw [Int.zero_add]
  simp
theorem map_int_at {ns : List Int} {i : Nat} (h : i < ns.length) : (ns.map V.int)[i]? = some (.int ns[i]) := by
  rw [List.getElem?_map, List.getElem?_eq_getElem h]
  rfl
def rFind : V → List V → Hp → VK → Prop := fun x xs H Q => ∃ a b, x = .str a ∧ xs = [.str b] ∧ Q (.int (Txt.find a b)) H
def rMaxP : List V → Hp → VK → Prop := fun xs H Q => ∃ i j, xs = [.int i, .int j] ∧ Q (.int (if j > i then j else i)) H
/-! ### lists of ints as data -/
abbrev LI (ns : List Int) : HO := .lst (ns.map V.int)
theorem LI_snoc (l : List Int) (x : Int) : LI (l ++ [x]) = .lst (l.map V.int ++ [.int x]) := by
  show HO.lst ((l ++ [x]).map V.int) = _
  rw [List.map_append]
  rfl
def dI (ns : List Int) : PyData := .list (ns.map .int)
theorem can_ints (ns : List Int) : PyData.canLayAll0 (ns.map .int) = true := by
  induction ns with
  | nil => rfl
  | cons n r ih => exact ih
theorem depth_intsD (ns : List Int) : PyData.depthAll (ns.map .int) = 0 := by
  induction ns with
  | nil => rfl
  | cons n r ih =>
    show max 0 (PyData.depthAll (r.map .int)) = 0
    rw [ih]
    rfl
theorem shaped_dI (ns : List Int) : SeqAt.shaped (dI ns) = true := by
  unfold SeqAt.shaped
  have e1 : (dI ns).canLay0 = true := can_ints ns
  have e2 : PyData.depth (dI ns) ≤ 64 := by
    show PyData.depthAll (ns.map .int) + 1 ≤ 64
    rw [depth_intsD]
    decide
  rw [e1, decide_eq_true e2]
  rfl
theorem dp_ints {K : PySem.W.Frag} {H : Hp} : ∀ ns : List Int, DpAll K H (ns.map V.int) (ns.map .int)
  | [] => .nil
  | n :: r => .cons (.int n) (dp_ints r)
theorem dp_dI {K : PySem.W.Frag} {H : Hp} {a : Addr} {ns : List Int} (h : SqL K H a (ns.map V.int)) : Dp K H (.ref a) (dI ns) := .lst h (dp_ints ns)
theorem eqv_ints (ns : List Int) : PyData.eqv (dI ns) (dI ns) = true := SeqAt.eqv_refl _ (can_ints ns)
theorem cutV_to (xs : List V) (k : Nat) : L2.cutV xs none (some (k : Int)) = xs.take k := by
  unfold L2.cutV
  rw [HT.sIx_none, HT.sIx_nat, List.drop_zero, Nat.sub_zero]
  by_cases h : k ≤ xs.length
  · rw [Nat.min_eq_left h]
  · rw [Nat.min_eq_right (by omega), List.take_of_length_le (Nat.le_refl _), List.take_of_length_le (by omega)]
theorem cutV_from (xs : List V) (k : Nat) : L2.cutV xs (some (k : Int)) none = xs.drop k := by
  unfold L2.cutV
  rw [HT.sIx_none, HT.sIx_nat]
  by_cases h : k ≤ xs.length
  · rw [Nat.min_eq_left h, List.take_of_length_le (by rw [List.length_drop]; omega)]
  · rw [Nat.min_eq_right (by omega), List.drop_of_length_le (Nat.le_refl _), List.drop_of_length_le (by omega), List.take_nil]
theorem ix_set {xs : List V} {i : Int} {j : Nat} (e : i = (j : Int)) (h : j < xs.length) : ixN xs.length i = some j := by
  rw [e]
  unfold ixN
  rw [if_pos (by omega), if_pos (by omega)]
  rfl
/-- a def of the module that keeps a promise -/
def Has (P : Program) (w : World) (K : PySem.W.Frag) (mg : Str → Option Value) (base : Heap) (k : Nat) (x : Str) (ps : List Str) (sp : Sp) : Prop :=
  ∃ f fd, FnOk P w K mg base CX0 k f fd ps sp ∧ mg x = some (.ref f) ∧ PySem.W.keepIn K (.ref f) = true ∧ Binds K fd ps []
/-- lists of bytes -/
def Byt (l : List Int) : Prop := ∀ x ∈ l, 0 ≤ x ∧ x < 256
theorem Byt.app {a b : List Int} (h : Byt a) (k : Byt b) : Byt (a ++ b) := fun x hx => by
  rcases List.mem_append.mp hx with z | z
  · exact h x z
  · exact k x z
theorem Byt.take {a : List Int} (h : Byt a) (n : Nat) : Byt (a.take n) := fun x hx => h x (List.mem_of_mem_take hx)
theorem Byt.rep {a : List Int} (h : Byt a) (n : Nat) : Byt (List.replicate n a).flatten := fun x hx => by
  obtain ⟨z, hz1, hz2⟩ := List.mem_flatten.mp hx
  rw [List.eq_of_mem_replicate hz1] at hz2
  exact h x hz2
theorem rep_map {α β : Type} (f : α → β) (n : Nat) (l : List α) : (List.replicate n (l.map f)).flatten = (List.replicate n l).flatten.map f := by
  rw [List.map_flatten, List.map_replicate]
theorem rep_len {α : Type} (n : Nat) (l : List α) : (List.replicate n l).flatten.length = n * l.length := by simp
theorem join_ones : ∀ l : List Nat, Str.join (T []) (l.map fun c => T [c]) = T l
  | [] => rfl
  | [c] => rfl
  | c :: e :: r => by
    have ih := join_ones (e :: r)
    show T [c] ++ T [] ++ Str.join (T []) ((e :: r).map fun c => T [c]) = _
    rw [ih, T_app, T_app]
    rfl
theorem sum_ones (l : List Nat) : ((l.map fun c => T [c]).map (·.length)).sum = l.length := by
  induction l with
  | nil => rfl
  | cons c r ih =>
    rw [List.map_cons, List.map_cons, List.sum_cons, ih, T_len, List.length_cons]
    show 1 + r.length = r.length + 1
    omega
section
variable {X : Cx}
theorem fold_app : ∀ (n : Nat) (z acc : Array Nat), (List.replicate n z).foldl (· ++ ·) acc = acc ++ ((List.replicate n z.toList).flatten).toArray
  | 0, z, acc => by simp
  | n + 1, z, acc => by
    rw [List.replicate_succ, List.foldl_cons, fold_app n z (acc ++ z), List.replicate_succ, List.flatten_cons]
    apply Array.toList_inj.mp
    simp
theorem mul_T (l : List Nat) (n : Int) (h0 : 0 ≤ n) : Txt.mul (T l) n = T (List.replicate n.toNat l).flatten := by
  unfold Txt.mul
  by_cases h1 : n < 1
  · rw [if_pos h1, show n.toNat = 0 by omega]
    exact T_nil
  · rw [if_neg h1]
    by_cases h2 : (n == 1 || (T l).length == 0) = true
    · rw [if_pos h2]
      rw [T_len] at h2
      rcases (Bool.or_eq_true _ _).mp h2 with z | z
      · have e : n = 1 := by simpa using z
        subst e
        show T l = T (List.replicate 1 l).flatten
        simp
      · have e : l = [] := by simpa using z
        subst e
        have : ∀ m : Nat, (List.replicate m ([] : List Nat)).flatten = [] := fun m => by simp
        rw [this]
    · rw [if_neg h2]
      show Str.mk _ = Str.mk _
      congr 1
      rw [fold_app, T_list]
      simp
/-- a text n times -/
theorem op_mulT : OpR X (binaryOp .Mult) (fun x y H Q => ∃ (l : List Nat) (n : Int), x = .str (T l) ∧ y = .int n ∧ l.length ≤ 100 ∧ 0 ≤ n ∧ n ≤ 1000 ∧ Q (.str (T (List.replicate n.toNat l).flatten)) H) := by
  intro pins s σ H x y v u Q I rx ry h
  obtain ⟨l, n, rfl, rfl, hl, h0, hn, q⟩ := h
  obtain ⟨t, rfl⟩ := rx
  obtain ⟨t', rfl⟩ := ry
  refine SB.mul (mulOk_of 100 1000 (by rw [T_len]; exact hl) hn (by omega) (by decide) (by decide)) fun t1 tk => ?_
  rw [mul_T l n h0]
  exact ⟨.str (T (List.replicate n.toNat l).flatten), H, I.tok _, ⟨_, rfl⟩, q⟩
end
theorem rep_mem {n : Nat} {l : List Nat} {c : Nat} (h : c ∈ (List.replicate n l).flatten) : c ∈ l := by
  obtain ⟨z, hz1, hz2⟩ := List.mem_flatten.mp h
  rw [List.eq_of_mem_replicate hz1] at hz2
  exact hz2
/-- a text n times: only how long it is and what stands in it -/
theorem op_mulM {X : Cx} : OpR X (binaryOp .Mult) (fun x y H Q => ∃ (l : List Nat) (n : Int), x = .str (T l) ∧ y = .int n ∧ l.length ≤ 100 ∧ 0 ≤ n ∧ n ≤ 1000 ∧ ∀ m : List Nat, m.length = n.toNat * l.length → (∀ c ∈ m, c ∈ l) → Q (.str (T m)) H) := by
  intro pins s σ H x y v u Q I rx ry h
  obtain ⟨l, n, e1, e2, hl, h0, hn, q⟩ := h
  exact op_mulT pins s σ H x y v u Q I rx ry ⟨l, n, e1, e2, hl, h0, hn, q _ (rep_len _ _) fun c hc => rep_mem hc⟩
theorem cut_head (l : List Nat) (k : Nat) : cutS (T l) none (some (k : Int)) = T (l.take k) := by
  unfold cutS
  rw [HT.sIx_nat, HT.sIx_none, T_len, T_list, List.drop_zero, Nat.sub_zero]
  show Str.mk _ = Str.mk _
  congr 2
  by_cases h : k ≤ l.length
  · rw [Nat.min_eq_left h]
  · rw [Nat.min_eq_right (by omega), List.take_of_length_le (Nat.le_refl _), List.take_of_length_le (by omega)]
theorem paired_len {α β : Type} {F : α → β → Prop} : ∀ {xs : List α} {ys : List β}, Paired F xs ys → xs.length = ys.length
  | _, _, .nil => rfl
  | _, _, .cons _ t => congrArg (· + 1) (paired_len t)
theorem paired_get {α β : Type} {F : α → β → Prop} : ∀ {xs : List α} {ys : List β} {i : Nat} {x : α}, Paired F xs ys → xs[i]? = some x → ∃ y, ys[i]? = some y ∧ F x y
  | _, _, 0, _, .cons r _, e => ⟨_, rfl, by cases e; exact r⟩
  | _, _, i + 1, _, .cons _ t, e => paired_get (i := i) t e
/-! ### data as a whole -/
def Asc (l : List Nat) : Prop := ∀ c ∈ l, c < 128
def dS (l : List Nat) : PyData := .str (T l)
def dL (ls : List (List Nat)) : PyData := .list (ls.map dS)
def dR (rs : List (List Nat × List Nat)) : PyData := .list (rs.map fun r => .tuple [dS r.1, dS r.2])
theorem can_dS {l : List Nat} (h : Asc l) : (dS l).canLay0 = true := by
  show PyData.strOk (T l) = true
  unfold PyData.strOk
  rw [Array.all_eq_true]
  intro i hi
  have hi2 : i < l.length := by rw [T_size] at hi; exact hi
  have e : (T l).cps[i]? = l[i]? := T_at l i
  rw [Array.getElem?_eq_getElem hi, List.getElem?_eq_getElem hi2] at e
  rw [Option.some.inj e]
  have := h _ (List.getElem_mem hi2)
  exact decide_eq_true (by omega)
theorem can_dL {ls : List (List Nat)} (h : ∀ l ∈ ls, Asc l) : (dL ls).canLay0 = true := by
  show PyData.canLayAll0 (ls.map dS) = true
  induction ls with
  | nil => rfl
  | cons l r ih =>
    show ((dS l).canLay0 && PyData.canLayAll0 (r.map dS)) = true
    rw [can_dS (h l List.mem_cons_self), ih fun x hx => h x (List.mem_cons_of_mem _ hx)]
    rfl
theorem depth_dL (ls : List (List Nat)) : PyData.depth (dL ls) ≤ 64 := by
  have : PyData.depthAll (ls.map dS) = 0 := by
    induction ls with
    | nil => rfl
    | cons l r ih =>
      show max (PyData.depth (dS l)) (PyData.depthAll (r.map dS)) = 0
      rw [ih]
      rfl
  show PyData.depthAll (ls.map dS) + 1 ≤ 64
  omega
theorem shaped_dL {ls : List (List Nat)} (h : ∀ l ∈ ls, Asc l) : SeqAt.shaped (dL ls) = true := by
  unfold SeqAt.shaped
  rw [can_dL h, decide_eq_true (depth_dL ls)]
  rfl
theorem can_dR {rs : List (List Nat × List Nat)} (h : ∀ r ∈ rs, Asc r.1 ∧ Asc r.2) : (dR rs).canLay0 = true := by
  show PyData.canLayAll0 (rs.map fun r => .tuple [dS r.1, dS r.2]) = true
  induction rs with
  | nil => rfl
  | cons l r ih =>
    show (((dS l.1).canLay0 && ((dS l.2).canLay0 && true)) && PyData.canLayAll0 (r.map fun r => .tuple [dS r.1, dS r.2])) = true
    rw [can_dS (h l List.mem_cons_self).1, can_dS (h l List.mem_cons_self).2, ih fun x hx => h x (List.mem_cons_of_mem _ hx)]
    rfl
theorem depth_dR (rs : List (List Nat × List Nat)) : PyData.depth (dR rs) ≤ 64 := by
  have : PyData.depthAll (rs.map fun r => .tuple [dS r.1, dS r.2]) ≤ 1 := by
    induction rs with
    | nil => exact Nat.zero_le _
    | cons l r ih =>
      show max (max 0 (max 0 0) + 1) (PyData.depthAll (r.map fun r => .tuple [dS r.1, dS r.2])) ≤ 1
      omega
  show PyData.depthAll (rs.map fun r => .tuple [dS r.1, dS r.2]) + 1 ≤ 64
  omega
theorem shaped_dR {rs : List (List Nat × List Nat)} (h : ∀ r ∈ rs, Asc r.1 ∧ Asc r.2) : SeqAt.shaped (dR rs) = true := by
  unfold SeqAt.shaped
  rw [can_dR h, decide_eq_true (depth_dR rs)]
  rfl
/-! ### enumerate(text), enumerate(text, start=k) -/
section
open PySem PySem.Spec PyProof.Rows L2 PySem.W
theorem callWith_kwT2 {M : Model} {A : Around} {E : Value → Shared → Prop} {s : Shared} {env : Env} {pos : Pos} {U : String} {e : Expr} {rest : List Expr} {kws : List Keyword} {Q : Value → Shared → Prop}
    (h : wpAny M A (spliced (backTo pos (starEach (e :: rest) env))) (fun vs s₁ => wpAny M A (evalAll ((backToKw pos (keywordEach kws env)).map (·.2))) (fun kvs s₂ => wpAny M A (call (.type U) vs (((backToKw pos (keywordEach kws env)).filterMap (·.1)).zip kvs)) Q E s₂) E s₁) E s)
    (he : backTo pos (starEach (e :: rest) env) = (false, eval e env) :: backTo pos (starEach rest env)) (hplain : (backTo pos (starEach (e :: rest) env)).any (·.1) = false)
    (hall : (backToKw pos (keywordEach kws env)).all (·.1.isSome) = true) (hkw : (backToKw pos (keywordEach kws env)).any (·.1.isNone) = false) :
    wpAny M A (callWith pos (.type U) [] (backTo pos (starEach (e :: rest) env)) (backToKw pos (keywordEach kws env))) Q E s := by
  have h2 : wpAny M A (evalArgs (.type U) true (backTo pos (starEach (e :: rest) env)) (backToKw pos (keywordEach kws env))) (fun a s₁ => wpAny M A (call (.type U) ([] ++ a.pos) a.kw) Q E s₁) E s := by
    rw [he] at h ⊢
    exact evalArgs_kwB hall h
  unfold callWith
  refine wpAny_bind (wpAny_holding (wpAny_mono h2 (fun a s₁ h₁ => wpAny_bind (wpAny_standAt ?_)) fun _ _ x => x))
  simp only [hplain, hkw, Bool.or_false]
  refine wpAny_bind (wpAny_pure ?_)
  exact wpAny_bind (wpAny_mono h₁ (fun r s₂ hr => wpAny_bind (wpAny_holding (wpAny_point (wpAny_pure hr)))) fun _ _ x => x)
/-- the signs of x, each in a new pair with its number from k on -/
def ItT (k : Int) (x : Str) : It :=
  ⟨fun i _ => i < x.cps.size, fun i H v H' => ∃ T c, v = .ref T ∧ H T = none ∧ H' = upd H T (.tup [.int (k + (i : Nat)), .str ⟨#[c]⟩]) ∧ x.cps[i]? = some c, fun i _ => x.cps.size ≤ i⟩
theorem turn_enumT {P : Program} {w : World} {K : PySem.W.Frag} {elts : List Expr} {kk : Nat} {tpos : Pos} (k : Int) (x : Str) (t : Tok) (e it : Addr) (hne : e ≠ it) :
    Turn P w K (.Tuple elts kk tpos) (ItT k x) [e, it] e (fun i h => (∃ old, IsEnum h e it (k + ((i : Nat) : Int)) old) ∧ h.IsStrIter it (strIterType x) x t i ∧ i ≤ x.cps.size) where
  mem := by simp
  obj := fun i h st b hb => by
    obtain ⟨⟨old, he⟩, ⟨o, ho, hc, hd⟩, _⟩ := st
    rcases (show b = e ∨ b = it by simpa using hb) with z | z
    · rw [z]
      exact ⟨_, he, fun v q => nomatch q⟩
    · rw [z]
      exact ⟨o, ho, fun v q => by rw [hd] at q; cases q⟩
  keep := fun i h h' st k => let ⟨⟨old, he⟩, ⟨o, ho, r⟩, l⟩ := st; ⟨⟨old, k e (by simp) _ he⟩, ⟨o, k it (by simp) _ ho, r⟩, l⟩
  item := by
    intro X hP hw hK hc i pins s σ H E I hf st hg
    subst hP hw hK
    obtain ⟨⟨old, he⟩, hit, hle⟩ := st
    have hel : e < s.heap.objs.size := Heap.lt_size he
    have hil : it < s.heap.objs.size := by obtain ⟨_, q, _⟩ := hit; exact Heap.lt_size q
    have hef : e ∉ [it] := by
      simp only [List.mem_cons, List.not_mem_nil, or_false]
      exact hne
    refine wpAny_pyNext_enum_itemC (Draws.text (by simpa using I.ok.hd hc) it x t) he hit hg hne hef fun x1 h' tk hx1 ho hst' hT hsz hk => ?_
    obtain ⟨c, u, hcx, rfl⟩ := hx1
    refine ⟨_, rfl, wpAny_letOwnedTupleGo_enum (s := { s with heap := h', toks := tk + 1 }) ho fun h'' he' sb => ?_⟩
    have hT2 : h''.get? s.heap.objs.size = some { cls := .type "tuple", data := .seq #[.int (k + (i : Int)) tk, .str ⟨#[c]⟩ u] } := (sb.2 _ (Nat.ne_of_gt hel)).trans hT
    have new : ObjOk X.prog X.w (upd H s.heap.objs.size (.tup [.int (k + (i : Nat)), .str ⟨#[c]⟩])) h'' s.heap.objs.size (.tup [.int (k + (i : Nat)), .str ⟨#[c]⟩]) :=
      ⟨by show 2 ≤ sizeLine; decide, [.int (k + (i : Int)) tk, .str ⟨#[c]⟩ u], .cons ⟨_, rfl⟩ (.cons ⟨_, rfl⟩ .nil), ⟨_, hT2, rfl, _, rfl⟩⟩
    have I1 : Inv X pins σ (upd H s.heap.objs.size (.tup [.int (k + (i : Nat)), .str ⟨#[c]⟩])) { s with heap := h'', toks := tk + 1 } :=
      I.turnedNew (ch := [e, it]) (fun b ob hb q => (sb.2 b (fun z => hb (by simp [z]))).trans (hk b ob (fun z => hb (by simp [z])) (fun z => hb (by simp [z])) q)) hf (Nat.le_refl _) new
    refine ⟨.ref s.heap.objs.size, _, I1, rfl, ⟨_, c, rfl, I.hok.fresh (Nat.le_refl _), rfl, hcx⟩, ⟨⟨.str ⟨#[c]⟩ u, ?_⟩, ?_, hg⟩, fun b hb => ?_⟩
    · rw [show k + ((i + 1 : Nat) : Int) = k + (i : Int) + 1 by omega]
      exact he'
    · obtain ⟨o, q, r⟩ := hst'
      exact ⟨o, (sb.2 it (Ne.symm hne)).trans q, r⟩
    · have hb' : b < s.heap.objs.size := by
        rcases (show b = e ∨ b = it by simpa using hb) with z | z
        · rw [z]; exact hel
        · rw [z]; exact hil
      rw [upd_ne (Nat.ne_of_lt hb')]
      exact (hf b hb).1
  done := by
    intro X hP hw hK hc i pins s σ H E I hf st hg
    subst hP hw hK
    obtain ⟨⟨old, he⟩, hit, hle⟩ := st
    obtain ⟨f0, f1, f2, f3, f4, f5⟩ := hf it (by simp)
    have hin : i = x.cps.size := Nat.le_antisymm hle hg
    refine wpAny_pyNext_enum_endD (Draws.text (by simpa using I.ok.hd hc) it x t) he (by rw [← hin]; exact hit) fun h' eb => ⟨rfl, I.turned (t' := s.toks) (fun b o hb q => eb b o hb q) f0 f1 f3 f4 f5⟩
  self := fun A i s Q E st h => let ⟨⟨_, he⟩, _⟩ := st; wpAny_pyIter_enum he h
def iEnumT (ta : TA) : TI := fun σ H R => ta σ H fun vs H1 => ∃ x, vs = [.str x] ∧ R (ItT 0 x) H1
theorem pi_enumT {X : Cx} {e : Expr} {ta : TA} {p pos tpos : Pos} {elts : List Expr} {kk : Nat} (hg : Gl X "enumerate") (hm : X.mg "enumerate" = none) (ha : PA X [e] ta) (hs : starEach [e] X.env = [(false, eval e X.env)] := by rfl) :
    PI X (.Tuple elts kk tpos) (.Call (.Name "enumerate" p) [e] [] pos) (iEnumT ta) := by
  refine ⟨fun pins s σ H R I h => ?_⟩
  refine Call_ (ld_blt I hg hm boot_enumerate (PyProof.Rows.callWith_type1 (thn (ha.run pos pins s σ H _ I h) fun us s1 ⟨vs, H1, I1, r1, q1⟩ => ?_) hs rfl))
  obtain ⟨x, ex, q⟩ := q1
  subst ex
  obtain ⟨u, rfl, ru⟩ := vals1 r1
  obtain ⟨t, rfl⟩ : ∃ t, u = Value.str x t := ru
  refine call_enumerate_str fun h' he hit hsz hk => wpAny_pyIter_enum he ?_
  have I3 : Inv X pins σ H1 { s1 with heap := h' } := I1.kept (t' := s1.toks) hk
  refine ⟨s1.heap.objs.size + 1, [s1.heap.objs.size + 1, s1.heap.objs.size], _, _, H1, rfl, I3, turn_enumT 0 x t (s1.heap.objs.size + 1) s1.heap.objs.size (Nat.succ_ne_self _), ⟨⟨.none, he⟩, hit, Nat.zero_le _⟩, fun b hb => ?_, q⟩
  have hle : s1.heap.objs.size ≤ b := by
    rcases (show b = s1.heap.objs.size + 1 ∨ b = s1.heap.objs.size by simpa using hb) with z | z
    · rw [z]; exact Nat.le_add_right _ _
    · rw [z]; exact Nat.le_refl _
  exact I1.fpOk hle (I1.hok.fresh hle)
def iEnumTS (ta tk : TA) : TI := fun σ H R => ta σ H fun vs H1 => tk σ H1 fun zs H2 => ∃ x k, vs = [.str x] ∧ zs = [.int k] ∧ -(2 ^ 63) ≤ k ∧ k < 2 ^ 63 ∧ R (ItT k x) H2
theorem pi_enumTS {X : Cx} {e ek : Expr} {ta tk : TA} {p pos tpos kp : Pos} {elts : List Expr} {kk : Nat} (hg : Gl X "enumerate") (hm : X.mg "enumerate" = none) (ha : PA X [e] ta) (hk : PK X [⟨some "start", ek, kp⟩] tk)
    (he1 : backTo pos (starEach [e] X.env) = (false, eval e X.env) :: backTo pos (starEach [] X.env) := by rfl) (hpl : (backTo pos (starEach [e] X.env)).any (·.1) = false := by rfl) :
    PI X (.Tuple elts kk tpos) (.Call (.Name "enumerate" p) [e] [⟨some "start", ek, kp⟩] pos) (iEnumTS ta tk) := by
  constructor
  intro pins s σ H R I h
  refine wpAny_Call_Name_kw (ld_blt I hg hm boot_enumerate ?_)
  refine callWith_kwT2 (thn (ha.run pos pins s σ H _ I h) fun us s1 ⟨vs, H1, I1, r1, q1⟩ => ?_) he1 hpl (by rfl) (by rfl)
  refine thn (hk.run pos pins s1 σ H1 _ I1 q1) fun ws s2 ⟨zs, H2, I2, r2, x, k, ev, ez, hk0, hk1, q⟩ => ?_
  subst ev ez
  obtain ⟨u, rfl, ru⟩ := vals1 r1
  obtain ⟨t, rfl⟩ : ∃ t, u = Value.str x t := ru
  obtain ⟨z, rfl, rz⟩ := vals1 r2
  obtain ⟨t2, rfl⟩ : ∃ t, z = Value.int k t := rz
  show wpAny _ _ (call (.type "enumerate") [.str x t] [(Str.ofString "start", .int k t2)]) _ _ s2
  refine enum_begins_start (begins_text x t) trivial hk0 hk1 fun h' he hit hsz hk => wpAny_pyIter_enum he ?_
  have I3 : Inv X pins σ H2 { s2 with heap := h' } := I2.kept (t' := s2.toks) hk
  refine ⟨s2.heap.objs.size + 1, [s2.heap.objs.size + 1, s2.heap.objs.size], _, _, H2, rfl, I3, turn_enumT k x t (s2.heap.objs.size + 1) s2.heap.objs.size (Nat.succ_ne_self _), ⟨⟨.none, ?_⟩, ⟨_, hit, rfl, rfl⟩, Nat.zero_le _⟩, fun b hb => ?_, q⟩
  · rw [show k + ((0 : Nat) : Int) = k by omega]
    exact he
  · have hle : s2.heap.objs.size ≤ b := by
      rcases (show b = s2.heap.objs.size + 1 ∨ b = s2.heap.objs.size by simpa using hb) with z | z
      · rw [z]; exact Nat.le_add_right _ _
      · rw [z]; exact Nat.le_refl _
    exact I2.fpOk hle (I2.hok.fresh hle)
end
/-! ### n * text -/
section
open PySem PySem.Spec PyProof.Rows L2
theorem mul_int_str {prog : Program} {w : World} {A : Around} {E : Value → Shared → Prop} {s : Shared} {x : Str} {n : Int} {t u : Tok} {Q : Value → Shared → Prop} (hok : MulOk x n) (h : ∀ t' k, Q (.str (Txt.mul x n) t') { s with toks := k }) :
    wpAny (model prog w) A (binaryOp .Mult (.int n u) (.str x t)) Q E s := by
  refine lm_binaryOp_repeat_right (T := "str") (U := "int") (by decide) (fun s' => typeIs_int s' n u) (typeIs_str s x t) F.fills_int_mul noFill_str_mul F.slot_int_mul lm_noRepeat_int repeat_str F.slot_int_index.lookup
    (call_gives F.slot_int_mul (typeIs_int s n u) F.entry_int_mul (F.args_int_mul_2 _ _) (AutoIntG3.int___mul___int_str_0 n u x t)
      ⟨rfl, typeIs_str s x t, call_gives F.slot_str_mul (typeIs_str s x t) F.entry_str_mul (F.args_str_mul_2 _ _) (gives_str_mul x n t u hok.1 hok.2.1 hok.2.2) ?_⟩)
  unfold Txt.mul at h
  by_cases h1 : n < 1
  · rw [if_pos h1]; have h' := h s.toks (s.toks + 1); rw [if_pos h1] at h'; exact ⟨by decide, h'⟩
  · rw [if_neg h1]; refine post_val_or_made (fun hc => fits_reps (hok.2.2 h1 (by simpa using hc))) fun t' k => ?_
    have h' := h t' k; rw [if_neg h1] at h'; exact h'
theorem rep_one (n c : Nat) : (List.replicate n [c]).flatten = List.replicate n c := by
  induction n with
  | zero => rfl
  | succ n ih =>
    rw [List.replicate_succ, List.flatten_cons, ih]
    rfl
/-- n times one sign -/
theorem op_imulT {X : Cx} : OpR X (binaryOp .Mult) (fun x y H Q => ∃ n c : Nat, x = .int (n : Int) ∧ y = .str (T [c]) ∧ n ≤ 100000 ∧ Q (.str (T (List.replicate n c))) H) := by
  intro pins s σ H x y v u Q I rx ry h
  obtain ⟨n, c, rfl, rfl, hn, q⟩ := h
  obtain ⟨t, rfl⟩ := rx
  obtain ⟨t', rfl⟩ := ry
  refine mul_int_str (mulOk_of 1 100000 (by rw [T_len]; exact Nat.le_refl 1) (by omega) (by omega) (by decide) (by decide)) fun t1 tk => ?_
  have e : (List.replicate (n : Int).toNat [c]).flatten = List.replicate n c := by
    rw [Int.toNat_natCast]
    exact rep_one n c
  rw [mul_T [c] n (by omega), e]
  exact ⟨.str _, H, I.tok _, ⟨_, rfl⟩, q⟩
end
/-! ### runs of a path -/
def rns : List Nat → List (Nat × Nat)
  | [] => []
  | c :: t => match rns t with
    | [] => [(c, 1)]
    | (d, n) :: r => if c = d then (c, n + 1) :: r else (c, 1) :: (d, n) :: r
theorem rns_cons (c d n : Nat) (t : List Nat) (r : List (Nat × Nat)) (h : rns t = (d, n) :: r) : rns (c :: t) = if c = d then (c, n + 1) :: r else (c, 1) :: (d, n) :: r := by
  show (match rns t with
    | [] => [(c, 1)]
    | (d, n) :: r => if c = d then (c, n + 1) :: r else (c, 1) :: (d, n) :: r) = _
  rw [h]
theorem rns_head : ∀ (c : Nat) (t : List Nat), ∃ n r, rns (c :: t) = (c, n + 1) :: r
  | c, [] => ⟨0, [], rfl⟩
  | c, d :: t => by
    obtain ⟨n, r, e⟩ := rns_head d t
    rw [rns_cons c d (n + 1) _ r e]
    by_cases h : c = d
    · rw [if_pos h]
      exact ⟨n + 1, r, rfl⟩
    · rw [if_neg h]
      exact ⟨0, _, rfl⟩
theorem rns_rep (c : Nat) : ∀ m : Nat, rns (List.replicate (m + 1) c) = [(c, m + 1)]
  | 0 => rfl
  | m + 1 => by
    rw [List.replicate_succ, rns_cons c c (m + 1) _ [] (rns_rep c m), if_pos rfl]
theorem rns_snoc {m c : Nat} (hm : 0 < m) : ∀ a : List Nat, a.getLast? ≠ some c → rns (a ++ List.replicate m c) = rns a ++ [(c, m)]
  | [], _ => by
    obtain ⟨k, rfl⟩ : ∃ k, m = k + 1 := ⟨m - 1, by omega⟩
    exact rns_rep c k
  | [x], h => by
    have hx : x ≠ c := fun e => h (by rw [e]; rfl)
    obtain ⟨k, rfl⟩ : ∃ k, m = k + 1 := ⟨m - 1, by omega⟩
    show rns (x :: List.replicate (k + 1) c) = _
    rw [rns_cons x c (k + 1) _ [] (rns_rep c k), if_neg hx]
    rfl
  | x :: y :: a, h => by
    have ih := rns_snoc hm (y :: a) (by rw [List.getLast?_cons_cons] at h; exact h)
    obtain ⟨n, r, e⟩ := rns_head y a
    rw [e] at ih
    show rns (x :: ((y :: a) ++ List.replicate m c)) = _
    rw [rns_cons x y (n + 1) _ (r ++ [(c, m)]) ih, rns_cons x y (n + 1) _ r e]
    by_cases hx : x = y
    · rw [if_pos hx, if_pos hx]
      rfl
    · rw [if_neg hx, if_neg hx]
      rfl
def unr (rs : List (Nat × Nat)) : List Nat := (rs.map fun r => List.replicate r.2 r.1).flatten
theorem unr_rns : ∀ l : List Nat, unr (rns l) = l
  | [] => rfl
  | [c] => rfl
  | c :: d :: t => by
    have ih := unr_rns (d :: t)
    obtain ⟨n, r, e⟩ := rns_head d t
    rw [rns_cons c d (n + 1) _ r e]
    rw [e] at ih
    by_cases h : c = d
    · rw [if_pos h, ← ih]
      show List.replicate (n + 1 + 1) c ++ unr r = c :: (List.replicate (n + 1) d ++ unr r)
      rw [List.replicate_succ, h]
      rfl
    · rw [if_neg h, ← ih]
      rfl
theorem rns_mem : ∀ {l : List Nat} {r : Nat × Nat}, r ∈ rns l → r.1 ∈ l ∧ 0 < r.2 ∧ r.2 ≤ l.length
  | [], _, h => nomatch h
  | [c], r, h => by
    obtain rfl : r = (c, 1) := by simpa [rns] using h
    exact ⟨List.mem_singleton.mpr rfl, Nat.one_pos, Nat.le_refl _⟩
  | c :: d :: t, r, h => by
    obtain ⟨n, q, e⟩ := rns_head d t
    have ih := fun {x : Nat × Nat} (hx : x ∈ rns (d :: t)) => rns_mem hx
    rw [rns_cons c d (n + 1) _ q e] at h
    by_cases hc : c = d
    · rw [if_pos hc] at h
      rcases List.mem_cons.mp h with z | z
      · have h2 := ih (x := (d, n + 1)) (by rw [e]; exact List.mem_cons_self)
        rw [z]
        exact ⟨List.mem_cons_self, Nat.succ_pos _, by have := h2.2.2; simp only [List.length_cons] at this ⊢; omega⟩
      · have h2 := ih (x := r) (by rw [e]; exact List.mem_cons_of_mem _ z)
        exact ⟨List.mem_cons_of_mem _ h2.1, h2.2.1, Nat.le_succ_of_le h2.2.2⟩
    · rw [if_neg hc] at h
      rcases List.mem_cons.mp h with z | z
      · rw [z]
        exact ⟨List.mem_cons_self, Nat.one_pos, by simp only [List.length_cons]; omega⟩
      · have h2 := ih (x := r) (by rw [e]; exact z)
        exact ⟨List.mem_cons_of_mem _ h2.1, h2.2.1, Nat.le_succ_of_le h2.2.2⟩
theorem unr_len (rs : List (Nat × Nat)) : (unr rs).length = (rs.map (·.2)).sum := by
  induction rs with
  | nil => rfl
  | cons r t ih =>
    show (List.replicate r.2 r.1 ++ unr t).length = r.2 + (t.map (·.2)).sum
    rw [List.length_append, List.length_replicate, ih]
theorem rns_len : ∀ l : List Nat, (rns l).length ≤ l.length
  | [] => Nat.le_refl _
  | [c] => Nat.le_refl _
  | c :: d :: t => by
    have ih := rns_len (d :: t)
    obtain ⟨n, q, e⟩ := rns_head d t
    rw [rns_cons c d (n + 1) _ q e]
    rw [e] at ih
    by_cases hc : c = d
    · rw [if_pos hc]
      simp only [List.length_cons] at ih ⊢
      omega
    · rw [if_neg hc]
      simp only [List.length_cons] at ih ⊢
      omega
/-- the cut form -/
def flat (rs : List (Nat × Nat)) : List Nat := (rs.map fun r => TL.numL r.2 ++ [r.1]).flatten
theorem join_flat : ∀ ls : List (List Nat), Str.join (T []) (ls.map T) = T ls.flatten
  | [] => rfl
  | [c] => by
    show T c = _
    simp
  | c :: e :: r => by
    have ih := join_flat (e :: r)
    show T c ++ T [] ++ Str.join (T []) ((e :: r).map T) = _
    rw [ih, T_app, T_app, List.append_nil]
    rfl
theorem sum_lens (ls : List (List Nat)) : ((ls.map T).map (·.length)).sum = ls.flatten.length := by
  induction ls with
  | nil => rfl
  | cons c r ih =>
    rw [List.map_cons, List.map_cons, List.sum_cons, ih, T_len, List.flatten_cons, List.length_append]
theorem sum_lensF {α : Type} (f : α → List Nat) (rs : List α) : ((rs.map fun r => T (f r)).map (·.length)).sum = ((rs.map f).flatten).length := by
  induction rs with
  | nil => rfl
  | cons c r ih =>
    rw [List.map_cons, List.map_cons, List.sum_cons, ih, T_len, List.map_cons, List.flatten_cons, List.length_append]
theorem join_flatF {α : Type} (f : α → List Nat) (rs : List α) : Str.join (T []) (rs.map fun r => T (f r)) = T ((rs.map f).flatten) := by
  have e := join_flat (rs.map f)
  rw [List.map_map] at e
  exact e
/-! ### costs -/
def rcost (a b c : Nat) (r : Nat × Nat) : Nat := if r.1 = 88 then r.2 * a else if r.1 = 61 then 0 else b + r.2 * c
def costR (a b c : Nat) (rs : List (Nat × Nat)) : Nat := (rs.map (rcost a b c)).sum
/-- step by step -/
def prc (a b c : Nat) : Option Nat → List Nat → Nat
  | _, [] => 0
  | pv, x :: t => (if x = 88 then a else 0) + (if x = 73 ∨ x = 68 then c + (if pv = some x then 0 else b) else 0) + prc a b c (some x) t
def PC (l : List Nat) : Prop := ∀ c ∈ l, c = 61 ∨ c = 88 ∨ c = 73 ∨ c = 68
theorem prc_rns (a b c : Nat) : ∀ (l : List Nat) (pv : Option Nat), PC l → prc a b c pv l + (match l with | [] => 0 | x :: _ => if (x = 73 ∨ x = 68) ∧ pv = some x then b else 0) = costR a b c (rns l)
  | [], _, _ => rfl
  | [x], pv, h => by
    have hx := h x (List.mem_singleton.mpr rfl)
    show (if x = 88 then a else 0) + (if x = 73 ∨ x = 68 then c + (if pv = some x then 0 else b) else 0) + 0 + (if (x = 73 ∨ x = 68) ∧ pv = some x then b else 0) = (if x = 88 then 1 * a else if x = 61 then 0 else b + 1 * c) + 0
    by_cases hp : pv = some x <;> rcases hx with e | e | e | e <;> subst e <;> simp [hp] <;> omega
  | x :: y :: t, pv, h => by
    have hx := h x List.mem_cons_self
    have ih := prc_rns a b c (y :: t) (some x) fun z hz => h z (List.mem_cons_of_mem _ hz)
    obtain ⟨n, q, e⟩ := rns_head y t
    rw [rns_cons x y (n + 1) _ q e]
    rw [e] at ih
    have e1 : prc a b c pv (x :: y :: t) = (if x = 88 then a else 0) + (if x = 73 ∨ x = 68 then c + (if pv = some x then 0 else b) else 0) + prc a b c (some x) (y :: t) := rfl
    have e2 : costR a b c ((y, n + 1) :: q) = rcost a b c (y, n + 1) + costR a b c q := rfl
    rw [e2] at ih
    rw [e1]
    by_cases hxy : x = y
    · subst hxy
      rw [if_pos rfl]
      have e3 : costR a b c ((x, n + 1 + 1) :: q) = rcost a b c (x, n + 1 + 1) + costR a b c q := rfl
      rw [e3]
      unfold rcost at ih ⊢
      have m1 : (n + 1 + 1) * a = (n + 1) * a + a := Nat.succ_mul _ _
      have m2 : (n + 1 + 1) * c = (n + 1) * c + c := Nat.succ_mul _ _
      by_cases hp : pv = some x <;> rcases hx with e | e | e | e <;> subst e <;> simp [hp] at ih ⊢ <;> omega
    · rw [if_neg hxy]
      have e3 : costR a b c ((x, 1) :: (y, n + 1) :: q) = rcost a b c (x, 1) + (rcost a b c (y, n + 1) + costR a b c q) := rfl
      have hs : ¬ (some x = some y) := fun z => hxy (Option.some.inj z)
      rw [e3]
      have ih2 : prc a b c (some x) (y :: t) = rcost a b c (y, n + 1) + costR a b c q := by
        rw [← ih]
        simp [hxy]
      rw [ih2]
      unfold rcost
      by_cases hp : pv = some x <;> rcases hx with e | e | e | e <;> subst e <;> simp [hp] <;> omega
/-! ### walks -/
def agB (a b : Nat) : Bool := decide (a = b) && decide (a ≠ 78)
def pst (a b : Nat) : Nat := if agB a b = true then 61 else 88
def wk (r t : List Nat) : List Nat → Nat → Nat → Option (Nat × Nat)
  | [], i, j => some (i, j)
  | c :: p, i, j => if c = 73 then wk r t p (i + 1) j else if c = 68 then wk r t p i (j + 1) else if i < r.length ∧ j < t.length ∧ c = pst (r.getD i 0) (t.getD j 0) then wk r t p (i + 1) (j + 1) else none
theorem wk_cons (r t : List Nat) (c : Nat) (p : List Nat) (i j : Nat) : wk r t (c :: p) i j = if c = 73 then wk r t p (i + 1) j else if c = 68 then wk r t p i (j + 1) else if i < r.length ∧ j < t.length ∧ c = pst (r.getD i 0) (t.getD j 0) then wk r t p (i + 1) (j + 1) else none := rfl
theorem wk_nil (r t : List Nat) (i j : Nat) : wk r t [] i j = some (i, j) := rfl
def fitB (r t p : List Nat) : Bool := decide (wk r t p 0 0 = some (r.length, t.length))
theorem pst_two (a b : Nat) : pst a b = 61 ∨ pst a b = 88 := by
  unfold pst
  split
  · exact .inl rfl
  · exact .inr rfl
/-! ### the program: agree, _pair_step, _runs, path_cost, cut, joined_path, fits -/
theorem one_eq {c d : Nat} {s : Str} (h : s = T [d]) : (V.str (T [c]) = V.str s) ↔ c = d := by
  rw [h]
  constructor
  · intro e
    have := T_inj (V.str.inj e)
    simpa using this
  · intro e
    rw [e]
theorem iteN {c A B : Prop} [Decidable c] (h1 : ¬ c → A) (h2 : c → B) : if (!decide c) = true then A else B := by
  by_cases h : c
  · rw [decide_eq_true h]
    exact iteF (h2 h)
  · rw [decide_eq_false h]
    exact iteT (h1 h)
theorem tX : Str.ofString "X" = T [88] := by decide +kernel
theorem tE : Str.ofString "=" = T [61] := by decide +kernel
theorem tI : Str.ofString "I" = T [73] := by decide +kernel
theorem tD : Str.ofString "D" = T [68] := by decide +kernel
theorem tN : Str.ofString "N" = T [78] := by decide +kernel
theorem scAgree : FnScope ["first", "second"] ["first", "second"] (defScope sAgree) := ⟨rfl, rfl, rfl, by decide +kernel, rfl, by decide +kernel, by decide +kernel⟩
theorem scPStep : FnScope ["first", "second"] ["first", "second"] (defScope sPStep) := ⟨rfl, rfl, rfl, by decide +kernel, rfl, by decide +kernel, by decide +kernel⟩
theorem scRuns : FnScope ["path", "runs", "begin", "behind"] ["path"] (defScope sRuns) := ⟨rfl, rfl, rfl, by decide +kernel, rfl, by decide +kernel, by decide +kernel⟩
theorem scPCost : FnScope ["path", "costs", "replace", "start", "each", "cost", "step", "many"] ["path", "costs"] (defScope sPCost) := ⟨rfl, rfl, rfl, by decide +kernel, rfl, by decide +kernel, by decide +kernel⟩
theorem scCut : FnScope ["path", "step", "many"] ["path"] (defScope sCut) := ⟨rfl, rfl, rfl, by decide +kernel, rfl, by decide +kernel, by decide +kernel⟩
theorem scJPath : FnScope ["cut_path", "parts", "begin", "at", "character"] ["cut_path"] (defScope sJPath) := ⟨rfl, rfl, rfl, by decide +kernel, rfl, by decide +kernel, by decide +kernel⟩
theorem scFits : FnScope ["read", "text", "path", "read_at", "text_at", "step"] ["read", "text", "path"] (defScope sFits) := ⟨rfl, rfl, rfl, by decide +kernel, rfl, by decide +kernel, by decide +kernel⟩
def Rnv (H : Hp) : List V → List (Nat × Nat) → Prop := Paired fun v r => ∃ q, v = .ref q ∧ H q = some (.tup [.str (T [r.1]), .int (r.2 : Int)])
theorem Rnv.mono {H H' : Hp} {xs : List V} {rs : List (Nat × Nat)} (h : Rnv H xs rs) (k : ∀ q ys, H q = some (.tup ys) → H' q = some (.tup ys)) : Rnv H' xs rs :=
  Paired.mapP h fun _ _ ⟨q, e, t⟩ => ⟨q, e, k q _ t⟩
theorem Rnv.snoc {H : Hp} {xs : List V} {rs : List (Nat × Nat)} {q : Addr} {r : Nat × Nat} (h : Rnv H xs rs) (e : H q = some (.tup [.str (T [r.1]), .int (r.2 : Int)])) : Rnv H (xs ++ [.ref q]) (rs ++ [r]) :=
  Paired.snoc h ⟨q, rfl, e⟩
theorem at_T {l : List Nat} {i : Nat} (h : i < l.length) : atI (T l).cps.toList (i : Int) = some l[i] := atI_nat (List.getElem?_eq_getElem h)
def RInv (l : List Nat) (H : Hp) (p : Addr) (i : Nat) (σ : L2.St) (H' : Hp) : Prop := ∃ (b : Nat) (xs : List V) (v3 : Option V), σ = [some (.str (T l)), some (.ref p), some (.int (b : Int)), v3] ∧ Same H H' ∧ H' p = some (.lst xs) ∧ Rnv H' xs (rns (l.take b)) ∧ b ≤ i ∧ i ≤ l.length ∧
  (i = l.length → b = l.length) ∧ (∀ j, b ≤ j → j ≤ i → l[j]? = l[b]?) ∧ (i < l.length → (l.take b).getLast? ≠ l[b]?)
section
variable {P : Program} {w : World} {K : PySem.W.Frag} {mg : Str → Option Value} {base : Heap}
def spAg : Sp := fun vs H Q _ => ∃ a b : Nat, vs = [.str (T [a]), .str (T [b])] ∧ Q (.bl (agB a b)) H
theorem ok_agree {f : Addr} {fd : FuncData} {k : Nat} (F : Fun K "agree" "agree" sAgree f fd) : FnOk P w K mg base CX0 (k + 1) f fd ["first", "second"] spAg := by
  refine F.ok scAgree (fun vs H Q E h => ?_) (fun cdv A outer s H vs Q E hr h => ?_)
  · obtain ⟨a, b, rfl, _⟩ := h
    rfl
  · obtain ⟨a, b, rfl, q⟩ := h
    refine ⟨_, pss_one (ps_ret (pe_and (pe_cmpR op_eq (pv 0) (pv 1) (nomark _)) (pe_one (pe_cmpR op_ne (pv 0) pe_str (nomark _))))), ?_⟩
    refine ⟨_, rfl, _, rfl, rfl, _, rfl, ite2 (fun e => ?_) (fun e => ?_)⟩
    · have e2 := (one_eq rfl).mp (of_decide_eq_true e)
      refine ⟨_, rfl, rfl, ?_⟩
      unfold agB at q
      rw [decide_eq_true e2, Bool.true_and] at q
      have e3 : (!decide (V.str (T [a]) = V.str (Str.ofString "N"))) = decide (a ≠ 78) := by
        by_cases h : a = 78
        · rw [decide_eq_true ((one_eq tN).mpr h), decide_eq_false (fun z => z h)]
          rfl
        · rw [decide_eq_false (fun z => h ((one_eq tN).mp z)), decide_eq_true h]
          rfl
      show Q (.bl (!decide (V.str (T [a]) = V.str (Str.ofString "N")))) H
      rw [e3]
      exact q
    · have e2 : ¬ a = b := fun z => e (decide_eq_true ((one_eq rfl).mpr z))
      unfold agB at q
      rw [decide_eq_false e2, Bool.false_and] at q
      exact q
def spPSt : Sp := fun vs H Q _ => ∃ a b : Nat, vs = [.str (T [a]), .str (T [b])] ∧ Q (.str (T [pst a b])) H
theorem ok_pstep {f : Addr} {fd : FuncData} {k : Nat} (F : Fun K "_pair_step" "_pair_step" sPStep f fd) (hA : Has P w K mg base (k + 1) "agree" ["first", "second"] spAg) : FnOk P w K mg base CX0 (k + 2) f fd ["first", "second"] spPSt := by
  obtain ⟨fA, dA, GA, gA, kA, bA⟩ := hA
  refine F.ok scPStep (fun vs H Q E h => ?_) (fun cdv A outer s H vs Q E hr h => ?_)
  · obtain ⟨a, b, rfl, _⟩ := h
    rfl
  · obtain ⟨a, b, rfl, q⟩ := h
    refine ⟨_, pss_one (ps_ret (pe_ifExp (pt_val (pe_call GA hr (by rfl) gA kA bA .nil pass0 (pa_cons (pv 0) (pa_cons (pv 1) pa_nil)))) pe_str pe_str)), ?_⟩
    refine ⟨_, rfl, _, rfl, a, b, rfl, _, rfl, ?_⟩
    unfold pst at q
    cases hb : agB a b with
    | true =>
      rw [hb, if_pos rfl, ← tE] at q
      exact q
    | false =>
      rw [hb, if_neg Bool.false_ne_true, ← tX] at q
      exact q
def spRuns : Sp := fun vs H Q _ => ∃ l : List Nat, vs = [.str (T l)] ∧ l.length ≤ 100000 ∧ ∀ (H' : Hp) (p : Addr) (xs : List V), Same H H' → H p = none → H' p = some (.lst xs) → Rnv H' xs (rns l) → Q (.ref p) H'
theorem ok_runs {f : Addr} {fd : FuncData} {k : Nat} (F : Fun K "_runs" "_runs" sRuns f fd) (mrange : mg "range" = none) (mlen : mg "len" = none) : FnOk P w K mg base CX0 (k + 1) f fd ["path"] spRuns := by
  refine F.ok scRuns (fun vs H Q E h => ?_) (fun cdv A outer s H vs Q E hr h => ?_)
  · obtain ⟨l, rfl, _⟩ := h
    rfl
  · obtain ⟨l, rfl, hl, q⟩ := h
    refine ⟨_, pss_cons (ps_set (i := 1) scRuns.nd rfl (.inl rfl) (pe_lst pa_nil))
      (pss_cons (ps_set (i := 2) scRuns.nd rfl (.inl rfl) pe_int)
      (pss_cons (ps_for PassesOwn.never rfl (pi_range2 rfl mrange (pa_cons pe_int (pa_cons (pe_op op_add (pe_callB call_len_str (by rfl) mlen PySem.boot_len (pa_cons (pv 0) pa_nil)) pe_int) pa_nil))) (pg_name (i := 3) scRuns.nd rfl (.inl rfl))
        (pss_one (ps_if (PW.pt (pw_or (pt_cmpR op_eq (pv 3) (pe_callB call_len_str (by rfl) mlen PySem.boot_len (pa_cons (pv 0) pa_nil)) (nomark _)) (pw_or1 (pt_cmpR op_ne (pe_ix ix_str (pv 0) (pv 3) (fun _ _ => rfl)) (pe_ix ix_str (pv 0) (pv 2) (fun _ _ => rfl)) (nomark _)))))
          (pss_cons (ps_expr (pe_bm PySem.F.plainAttrs_list PySem.F.slot_list_append PySem.F.type_list_append mt_append (pv 1) (pa_cons (pe_tup (pa_cons (pe_ix ix_str (pv 0) (pv 2) (fun _ _ => rfl)) (pa_cons (pe_op op_sub (pv 3) (pv 2)) pa_nil))) pa_nil)))
          (pss_one (ps_set (i := 2) scRuns.nd rfl (.inl rfl) (pv 3)))) pss_nil)))
      (pss_one (ps_ret (pv 1))))), ?_⟩
    have hz : (T l).length ≤ sizeLine := line_ok (by rw [T_len]; exact hl)
    refine ⟨Nat.zero_le _, fun p hp => ?_⟩
    refine ⟨.str (T l), rfl, T l, rfl, hz, _, 1, rfl, rfl, ?_⟩
    refine ⟨1, _, rfl, ⟨by decide, by decide, by rw [T_len]; omega, by rw [T_len]; omega⟩, ?_⟩
    have e0 : (((T l).length : Int) + 1 - 1).toNat = l.length := by
      rw [T_len]
      omega
    refine for_range (lo := 1) (n := (((T l).length : Int) + 1 - 1).toNat) (RInv l H p) ?_ ?_ ?_
    · refine ⟨0, [], none, rfl, same_upd hp, upd_same, .nil, Nat.le_refl _, Nat.zero_le _, fun e => e, fun j h1 h2 => ?_, fun h => ?_⟩
      · rw [show j = 0 by omega]
      · rw [List.take_zero, List.getElem?_eq_getElem h]
        exact fun z => nomatch z
    · rintro i σ H' hi ⟨b, xs, v3, rfl, sm, hx, ht, hbi, hil, hend, hall, hla⟩
      rw [e0] at hi
      have hb : b < l.length := by omega
      have hxl : xs.length ≤ b := by
        have h1 := paired_len ht
        have h2 := rns_len (l.take b)
        rw [List.length_take] at h2
        omega
      have ei : (1 : Int) + (i : Nat) = ((i + 1 : Nat) : Int) := by omega
      -- a run ends
      have fin : (i + 1 < l.length → l[i + 1]? ≠ l[b]?) → ∀ q2, H' q2 = none → RInv l H p (i + 1) [some (.str (T l)), some (.ref p), some (.int (1 + (i : Nat))), some (.int (1 + (i : Nat)))] (upd (upd H' q2 (.tup [.str ⟨#[l[b]]⟩, .int (1 + (i : Nat) - b)])) p (.lst (xs ++ [.ref q2]))) := by
        intro hne q2 hq2
        have npq : p ≠ q2 := ne_of_none hx hq2
        have hrep : l.take (i + 1) = l.take b ++ List.replicate (i + 1 - b) l[b] := by
          refine List.ext_getElem? fun j => ?_
          rw [List.getElem?_take]
          by_cases hj : j < b
          · rw [if_pos (by omega), List.getElem?_append_left (by rw [List.length_take]; omega), List.getElem?_take, if_pos hj]
          · rw [List.getElem?_append_right (by rw [List.length_take]; omega), List.length_take, Nat.min_eq_left (by omega), List.getElem?_replicate]
            by_cases hj2 : j < i + 1
            · rw [if_pos hj2, if_pos (by omega), hall j (by omega) (by omega), List.getElem?_eq_getElem hb]
            · rw [if_neg hj2, if_neg (by omega)]
        refine ⟨i + 1, xs ++ [.ref q2], some (.int (1 + (i : Nat))), by rw [ei], fun a o e => ?_, upd_same, ?_, Nat.le_refl _, hi, fun e => e, fun j h1 h2 => by rw [show j = i + 1 by omega], fun h => ?_⟩
        · rw [upd_ne (ne_of_none e hp)]
          exact same_upd hq2 _ _ (sm _ _ e)
        · rw [hrep, rns_snoc (by omega) _ (by rw [← List.getElem?_eq_getElem hb]; exact hla hi)]
          refine Rnv.snoc (ht.mono fun a ys ha => ?_) ?_
          · rw [upd_ne (fun z => by rw [z, hx] at ha; cases ha), upd_ne (ne_of_none ha hq2)]
            exact ha
          · rw [upd_ne npq.symm, upd_same, show ((1 : Int) + (i : Nat) - b) = ((i + 1 - b : Nat) : Int) by omega]
            rfl
        · rw [hrep]
          have e1 : (l.take b ++ List.replicate (i + 1 - b) l[b]).getLast? = some l[b] := by
            rw [show i + 1 - b = (i - b) + 1 by omega, List.replicate_succ', ← List.append_assoc, List.getLast?_append]
            rfl
          rw [e1, ← List.getElem?_eq_getElem hb]
          exact fun z => hne h z.symm
      refine ⟨.int (1 + (i : Nat)), rfl, .str (T l), rfl, T l, rfl, hz, rfl, _, rfl, ite2 (fun e => ?_) (fun e => ?_)⟩
      · have hie : i + 1 = l.length := by
          have := V.int.inj (of_decide_eq_true e)
          rw [T_len] at this
          omega
        refine ⟨.ref p, rfl, .inl ⟨rfl, _, .inl (.inl hx)⟩, .str (T l), rfl, .int b, rfl, T l, _, _, rfl, rfl, hz, at_T hb, .int (1 + (i : Nat)), rfl, .int b, rfl, _, _, rfl, rfl, by show 2 ≤ sizeLine; decide, fun q2 hq2 => ?_⟩
        refine ⟨p, xs, _, rfl, rfl, by rw [upd_ne (ne_of_none hx hq2)]; exact hx, line_lt (by omega), ?_⟩
        exact ⟨_, rfl, fin (fun h => absurd h (by omega)) q2 hq2⟩
      · have hie : i + 1 < l.length := by
          have : ¬ ((1 : Int) + (i : Nat) = ((T l).length : Nat)) := fun z => e (decide_eq_true (congrArg V.int z))
          rw [T_len] at this
          omega
        have a1 := at_T hie
        rw [← ei] at a1
        refine ⟨.str (T l), rfl, .int (1 + (i : Nat)), rfl, T l, _, _, rfl, rfl, hz, a1, .str (T l), rfl, .int b, rfl, T l, _, _, rfl, rfl, hz, at_T hb, rfl, _, rfl, iteN (fun e2 => ?_) (fun e2 => ?_)⟩
        · have e3 : l[i + 1] ≠ l[b] := fun z => e2 (by rw [z])
          refine ⟨.ref p, rfl, .inl ⟨rfl, _, .inl (.inl hx)⟩, .str (T l), rfl, .int b, rfl, T l, _, _, rfl, rfl, hz, at_T hb, .int (1 + (i : Nat)), rfl, .int b, rfl, _, _, rfl, rfl, by show 2 ≤ sizeLine; decide, fun q2 hq2 => ?_⟩
          refine ⟨p, xs, _, rfl, rfl, by rw [upd_ne (ne_of_none hx hq2)]; exact hx, line_lt (by omega), ?_⟩
          exact ⟨_, rfl, fin (fun h => by rw [List.getElem?_eq_getElem hie, List.getElem?_eq_getElem hb]; exact fun z => e3 (Option.some.inj z)) q2 hq2⟩
        · have e3 : l[i + 1] = l[b] := (one_eq rfl).mp e2
          refine ⟨b, xs, some (.int (1 + (i : Nat))), rfl, sm, hx, ht, by omega, hi, fun z => absurd z (by omega), fun j h1 h2 => ?_, fun _ => hla hi⟩
          by_cases hj : j ≤ i
          · exact hall j h1 hj
          · rw [show j = i + 1 by omega, List.getElem?_eq_getElem hie, List.getElem?_eq_getElem hb, e3]
    · rintro σ H' ⟨b, xs, v3, rfl, sm, hx, ht, hbi, hil, hend, _⟩
      rw [e0] at hend
      rw [hend rfl, List.take_length] at ht
      exact ⟨.ref p, rfl, q H' p xs sm hp hx ht⟩
end
theorem cut_mid (l : List Nat) (a b : Nat) : cutS (T l) (some (a : Int)) (some (b : Int)) = T ((l.drop a).take (b - a)) := by
  unfold cutS
  rw [HT.sIx_nat, HT.sIx_nat, T_len, T_list]
  show Str.mk _ = Str.mk _
  congr 2
  by_cases ha : a ≤ l.length
  · rw [Nat.min_eq_left ha]
    by_cases hb : b ≤ l.length
    · rw [Nat.min_eq_left hb]
    · rw [Nat.min_eq_right (a := b) (by omega), List.take_of_length_le (by rw [List.length_drop]; omega), List.take_of_length_le (by rw [List.length_drop]; omega)]
  · rw [Nat.min_eq_right (a := a) (by omega), List.drop_of_length_le (Nat.le_refl _), List.drop_of_length_le (by omega), List.take_nil, List.take_nil]
section
variable {P : Program} {w : World} {K : PySem.W.Frag} {mg : Str → Option Value} {base : Heap}
def spPCost (K : PySem.W.Frag) : Sp := fun vs H Q _ => ∃ (l : List Nat) (z : Addr) (a b c : Nat), vs = [.str (T l), .ref z] ∧ l.length ≤ 100000 ∧ SqT K H z [.int a, .int b, .int c] ∧ ∀ H', Same H H' → Q (.int (costR a b c (rns l) : Nat)) H'
theorem ok_pcost {f : Addr} {fd : FuncData} {k : Nat} (F : Fun K "path_cost" "path_cost" sPCost f fd) (hR : Has P w K mg base (k + 1) "_runs" ["path"] spRuns) : FnOk P w K mg base CX0 (k + 2) f fd ["path", "costs"] (spPCost K) := by
  obtain ⟨fR, dR, GR, gR, kR, bR⟩ := hR
  refine F.ok scPCost (fun vs H Q E h => ?_) (fun cdv A outer s H vs Q E hr h => ?_)
  · obtain ⟨l, z, a, b, c, rfl, _⟩ := h
    rfl
  · obtain ⟨l, z, a, b, c, rfl, hl, hS, q⟩ := h
    refine ⟨_, pss_cons (ps_asg (pv 1) (pg_tup rfl (pgs_cons (pg_name (i := 2) scPCost.nd rfl (.inl rfl)) (pgs_cons (pg_name (i := 3) scPCost.nd rfl (.inl rfl)) (pgs_cons (pg_name (i := 4) scPCost.nd rfl (.inl rfl)) pgs_nil)))))
      (pss_cons (ps_set (i := 5) scPCost.nd rfl (.inl rfl) pe_int)
      (pss_cons (ps_for PassesOwn.never rfl (pi_list (pe_call GR hr (by rfl) gR kR bR .nil pass0 (pa_cons (pv 0) pa_nil))) (pg_tup rfl (pgs_cons (pg_name (i := 6) scPCost.nd rfl (.inl rfl)) (pgs_cons (pg_name (i := 7) scPCost.nd rfl (.inl rfl)) pgs_nil)))
        (pss_one (ps_if (pt_cmpR op_eq (pv 6) pe_str (nomark _)) (pss_one (ps_aug (i := 5) scPCost.nd rfl (.inl rfl) (pe_op op_mulN (pv 7) (pv 2)) ip_add))
          (pss_one (ps_if (pt_cmpR op_ne (pv 6) pe_str (nomark _)) (pss_one (ps_aug (i := 5) scPCost.nd rfl (.inl rfl) (pe_op op_add (pv 3) (pe_op op_mulN (pv 7) (pv 4))) ip_add)) pss_nil)))))
      (pss_one (ps_ret (pv 5))))), ?_⟩
    refine ⟨.ref z, rfl, z, _, rfl, hS, rfl, _, _, rfl, _, _, rfl, _, _, rfl, rfl, ?_⟩
    refine ⟨.str (T l), rfl, l, rfl, hl, fun H1 p xs s1 hp hx ht => ⟨p, rfl, ⟨_, .inl (.inl hx)⟩, ?_⟩⟩
    have hxl := paired_len ht
    refine for_list (K := K) (xs := xs) (fun i σ H' => H' = H1 ∧ ∃ v6 v7 : Option V, σ = [some (.str (T l)), some (.ref z), some (.int (a : Int)), some (.int (b : Int)), some (.int (c : Int)), some (.int (costR a b c ((rns l).take i) : Nat)), v6, v7]) ⟨rfl, none, none, rfl⟩ (fun i σ H' _ h => by rw [h.1]; exact .inl (.inl hx)) ?_ ?_
    · rintro i v σ H' hv ⟨rfl, v6, v7, rfl⟩
      obtain ⟨r, hr', qa, rfl, hqa⟩ := paired_get ht hv
      have hm := rns_mem (List.mem_of_getElem? hr')
      have hsum : costR a b c ((rns l).take (i + 1)) = costR a b c ((rns l).take i) + rcost a b c r := by
        unfold costR
        rw [List.take_add_one, hr', List.map_append, List.sum_append]
        show _ = _
        simp
      refine ⟨qa, _, rfl, .inl (.inl hqa), rfl, _, _, rfl, _, _, rfl, rfl, ?_⟩
      refine ⟨_, rfl, rfl, _, rfl, ite2 (fun e => ?_) (fun e => ?_)⟩
      · have e1 : r.1 = 88 := (one_eq tX).mp (of_decide_eq_true e)
        refine ⟨_, rfl, _, rfl, _, rfl, r.2, a, rfl, rfl, by omega, _, _, rfl, rfl, rfl, some (.str (T [r.1])), some (.int (r.2 : Int)), ?_⟩
        rw [hsum, show rcost a b c r = r.2 * a by unfold rcost; rw [if_pos e1]]
        rfl
      · have n1 : ¬ r.1 = 88 := fun z => e (decide_eq_true ((one_eq tX).mpr z))
        refine ⟨_, rfl, rfl, _, rfl, iteN (fun e => ?_) (fun e => ?_)⟩
        · have n2 : ¬ r.1 = 61 := fun z => e ((one_eq tE).mpr z)
          refine ⟨_, rfl, _, rfl, _, rfl, _, rfl, r.2, c, rfl, rfl, by omega, _, _, rfl, rfl, _, _, rfl, rfl, rfl, some (.str (T [r.1])), some (.int (r.2 : Int)), ?_⟩
          rw [hsum, show rcost a b c r = b + r.2 * c by unfold rcost; rw [if_neg n1, if_neg n2]]
          rfl
        · have e2 : r.1 = 61 := (one_eq tE).mp e
          refine ⟨rfl, some (.str (T [r.1])), some (.int (r.2 : Int)), ?_⟩
          rw [hsum, show rcost a b c r = 0 by unfold rcost; rw [if_neg n1, if_pos e2]]
          rfl
    · rintro σ H' ⟨rfl, v6, v7, rfl⟩
      rw [hxl, List.take_length]
      exact ⟨_, rfl, q _ s1⟩
def teCut : TE := fun σ H Q => tJs [tFmt (tVar 2), tFmt (tVar 1)] Str.empty σ H fun out H1 => Q (.str out) H1
def spCut : Sp := fun vs H Q _ => ∃ l : List Nat, vs = [.str (T l)] ∧ l.length ≤ 10000 ∧ ∀ H', Same H H' → Q (.str (T (flat (rns l)))) H'
theorem flat_le : ∀ rs : List (Nat × Nat), (∀ r ∈ rs, r.2 < 10 ^ 9) → (flat rs).length ≤ 10 * rs.length
  | [], _ => Nat.le_refl _
  | r :: t, h => by
    have h1 := flat_le t fun x hx => h x (List.mem_cons_of_mem _ hx)
    have h2 : (TL.numL r.2).length ≤ 9 := TL.numL_len (by decide) (h r List.mem_cons_self)
    show (TL.numL r.2 ++ [r.1] ++ flat t).length ≤ 10 * (t.length + 1)
    rw [List.length_append, List.length_append, List.length_singleton]
    omega
open TL in
theorem num_T (n : Nat) : (Str.ofString (toString ((n : Nat) : Int)) : Str) = T (numL n) := by
  have e : (Str.ofString (toString ((n : Nat) : Int))).cps.toList = numL n := tl_num n
  rw [← e]
  show _ = Str.mk _
  rw [Array.toArray_toList]
theorem log_ok {n : Nat} (h : n < 10 ^ 9) : n.log2 < 1920 := by
  by_cases h0 : n = 0
  · subst h0
    decide
  · exact Nat.lt_of_lt_of_le ((Nat.log2_lt h0).mpr (Nat.lt_of_lt_of_le h (show 10 ^ 9 ≤ 2 ^ 30 by decide))) (by decide)
theorem ok_cut {f : Addr} {fd : FuncData} {k : Nat} (F : Fun K "cut" "cut" sCut f fd) (hR : Has P w K mg base (k + 1) "_runs" ["path"] spRuns) : FnOk P w K mg base CX0 (k + 2) f fd ["path"] spCut := by
  obtain ⟨fR, dR, GR, gR, kR, bR⟩ := hR
  refine F.ok scCut (fun vs H Q E h => ?_) (fun cdv A outer s H vs Q E hr h => ?_)
  · obtain ⟨l, rfl, _⟩ := h
    rfl
  · obtain ⟨l, rfl, hl, q⟩ := h
    refine ⟨_, pss_one (ps_ret (pe_join pe_str (pe_lc (own := [("step", 1), ("many", 2)]) (g := gTup K 2 (gCons (gName 1) (gCons (gName 2) gNil))) (tt := tYes) (te := teCut) rfl scCut.nd
        (pi_list (pe_call GR hr (by rfl) gR kR bR .nil pass0 (pa_cons (pv 0) pa_nil)))
        (blkOk_by (own := [("step", 1), ("many", 2)]) (N := ["path", "step", "many"]) (sc := defScope sCut) (by decide +kernel))
        (fun _ _ _ _ _ => pg_tup rfl (pgs_cons (pg_name (i := 1) scCut.nd rfl (Or.inl rfl)) (pgs_cons (pg_name (i := 2) scCut.nd rfl (Or.inl rfl)) pgs_nil))) (fun _ _ _ _ _ => pts_nil) (fun _ _ _ _ _ => pe_joined (.cons (pe_fmt (pv 2)) (.cons (pe_fmt (pv 1)) .nil)))))), ?_⟩
    refine ⟨⟨_, rfl⟩, .str (T l), rfl, l, rfl, by omega, fun H1 p xs s1 hp hx ht => ⟨p, rfl, ⟨_, .inl (.inl hx)⟩, fun D hD => ?_⟩⟩
    have hxl := paired_len ht
    have hrl := rns_len l
    have h10 : ∀ r ∈ rns l, r.2 < 10 ^ 9 := fun r hr => Nat.lt_of_le_of_lt (rns_mem hr).2.2 (Nat.lt_of_le_of_lt hl (by decide))
    refine lc_list (K := K) (xs := xs) (fun j H2 => Same H1 H2 ∧ H2 D = some (.lst ((((rns l).take j).map fun r => T (TL.numL r.2 ++ [r.1])).map V.str))) ⟨same_upd hD, upd_same⟩ (fun j H2 _ h => h.1.seq (.inl (.inl hx))) ?_ ?_
    · rintro j y H2 hjy ⟨s2, hd⟩
      obtain ⟨r, hr', qa, rfl, hqa⟩ := paired_get ht hjy
      have hm := rns_mem (List.mem_of_getElem? hr')
      have hb := h10 r (List.mem_of_getElem? hr')
      have hn : (TL.numL r.2).length ≤ 9 := TL.numL_len (by decide) hb
      refine ⟨qa, _, rfl, .inl (.inl (s2 _ _ hqa)), rfl, _, _, rfl, _, _, rfl, rfl, rfl, ?_⟩
      dsimp only [tYes]
      rw [if_pos rfl]
      refine ⟨.int (r.2 : Int), rfl, .inr ⟨_, rfl, log_ok hb, _, rfl, ?_, .str (T [r.1]), rfl, .inl ⟨T [r.1], rfl, line_ok (by rw [T_len]; show 1 ≤ 100000; decide), _, rfl, ?_, ?_⟩⟩⟩
      · rw [num_T]
        show (T [] ++ T (TL.numL r.2)).length ≤ sizeLine
        rw [T_app, T_len]
        exact line_ok (by rw [List.nil_append]; omega)
      · rw [num_T]
        show (T [] ++ T (TL.numL r.2) ++ T [r.1]).length ≤ sizeLine
        rw [T_app, T_app, T_len]
        exact line_ok (by rw [List.nil_append, List.length_append, List.length_singleton]; omega)
      · refine ⟨_, hd, line_ok6 ?_, fun b o e => ?_, ?_⟩
        · rw [List.length_map, List.length_map, List.length_take]
          omega
        · rw [upd_ne (ne_of_none e hD)]
          exact s2 b o e
        · rw [upd_same, List.take_add_one, hr', List.map_append, List.map_append, num_T]
          have e0 : Str.empty ++ T (TL.numL r.2) = T (TL.numL r.2) := by
            show T [] ++ _ = _
            rw [T_app, List.nil_append]
          rw [e0, T_app]
          rfl
    · rintro H2 ⟨s2, hd⟩
      rw [hxl, List.take_length] at hd
      refine ⟨Str.ofString "", D, _, rfl, rfl, .inl (.inl (.inl hd)), ?_, ?_⟩
      · have e := flat_le (rns l) h10
        have e2 := sum_lensF (fun r : Nat × Nat => TL.numL r.2 ++ [r.1]) (rns l)
        rw [show (Str.ofString "").length = 0 by decide +kernel, Nat.mul_zero, Nat.add_zero, e2]
        show (flat (rns l)).length ≤ 16777216
        omega
      · rw [TL.join_eq, T_nil]
        rw [join_flatF (fun r : Nat × Nat => TL.numL r.2 ++ [r.1]) (rns l)]
        exact q H2 (s1.trans s2)
theorem dig {c : Nat} (h : 48 ≤ c ∧ c ≤ 57) : Txt.isdigit ⟨#[c]⟩ = true := by
  have e : c = 48 ∨ c = 49 ∨ c = 50 ∨ c = 51 ∨ c = 52 ∨ c = 53 ∨ c = 54 ∨ c = 55 ∨ c = 56 ∨ c = 57 := by omega
  rcases e with e | e | e | e | e | e | e | e | e | e <;> subst e <;> decide +kernel
theorem nodig {c : Nat} (h : c = 61 ∨ c = 88 ∨ c = 73 ∨ c = 68) : Txt.isdigit ⟨#[c]⟩ = false := by
  rcases h with e | e | e | e <;> subst e <;> decide +kernel
theorem flat_split {rs : List (Nat × Nat)} {j : Nat} {r : Nat × Nat} (h : rs[j]? = some r) : flat rs = flat (rs.take j) ++ (TL.numL r.2 ++ r.1 :: flat (rs.drop (j + 1))) := by
  obtain ⟨hj, e⟩ := List.getElem?_eq_some_iff.mp h
  have e2 : rs = rs.take j ++ r :: rs.drop (j + 1) := by
    rw [← e, ← List.drop_eq_getElem_cons hj, List.take_append_drop]
  have e3 : flat rs = flat (rs.take j ++ r :: rs.drop (j + 1)) := congrArg flat e2
  rw [e3]
  unfold flat
  rw [List.map_append, List.flatten_append, List.map_cons, List.flatten_cons, List.append_assoc]
  rfl
theorem flat_snoc {rs : List (Nat × Nat)} {j : Nat} {r : Nat × Nat} (h : rs[j]? = some r) : (flat (rs.take (j + 1))).length = (flat (rs.take j)).length + (TL.numL r.2).length + 1 := by
  unfold flat
  rw [List.take_add_one, h, List.map_append, List.flatten_append, List.length_append]
  show _ + ((TL.numL r.2 ++ [r.1]) ++ []).length = _
  rw [List.append_nil, List.length_append, List.length_singleton]
  omega
def spJPath : Sp := fun vs H Q _ => ∃ l : List Nat, vs = [.str (T (flat (rns l)))] ∧ PC l ∧ l.length ≤ 10000 ∧ ∀ H', Same H H' → Q (.str (T l)) H'
theorem ok_jpath {f : Addr} {fd : FuncData} {k : Nat} (F : Fun K "joined_path" "joined_path" sJPath f fd) (menum : mg "enumerate" = none) (mint : mg "int" = none) : FnOk P w K mg base CX0 (k + 1) f fd ["cut_path"] spJPath := by
  refine F.ok scJPath (fun vs H Q E h => ?_) (fun cdv A outer s H vs Q E hr h => ?_)
  · obtain ⟨l, rfl, _⟩ := h
    rfl
  · obtain ⟨l, rfl, pc, hl, q⟩ := h
    refine ⟨_, pss_cons (ps_set (i := 1) scJPath.nd rfl (.inl rfl) (pe_lst pa_nil))
      (pss_cons (ps_set (i := 2) scJPath.nd rfl (.inl rfl) pe_int)
      (pss_cons (ps_for PassesOwn.never rfl (pi_enumT (by rfl) menum (pa_cons (pv 0) pa_nil)) (pg_tup rfl (pgs_cons (pg_name (i := 3) scJPath.nd rfl (.inl rfl)) (pgs_cons (pg_name (i := 4) scJPath.nd rfl (.inl rfl)) pgs_nil)))
        (pss_one (ps_if (pt_not (pt_val (pe_m0 PySem.F.slot_str_isdigit PySem.F.type_str_isdigit mt_isdigit (pv 4))))
          (pss_cons (ps_expr (pe_bm PySem.F.plainAttrs_list PySem.F.slot_list_append PySem.F.type_list_append mt_append (pv 1) (pa_cons (pe_op op_imulT (pe_callTy call_int_str (by rfl) mint (by decide +kernel) (pa_cons (pe_slice sl_str (pv 0) (po_some (pv 2)) (po_some (pv 3))) pa_nil)) (pv 4)) pa_nil)))
          (pss_one (ps_set (i := 2) scJPath.nd rfl (.inl rfl) (pe_op op_add (pv 3) pe_int)))) pss_nil)))
      (pss_one (ps_ret (pe_join pe_str (pv 1)))))), ?_⟩
    have h10 : ∀ r ∈ rns l, r.2 < 10 ^ 9 := fun r hr => Nat.lt_of_le_of_lt (rns_mem hr).2.2 (Nat.lt_of_le_of_lt hl (by decide))
    have hrl := rns_len l
    have hfl := flat_le (rns l) h10
    refine ⟨Nat.zero_le _, fun p hp => ?_⟩
    refine ⟨_, rfl, _, rfl, ?_⟩
    refine for_gen (J := ItT 0 (T (flat (rns l)))) (n := (flat (rns l)).length) (fun i σ H' => Same H H' ∧ ∃ (j d : Nat) (v3 v4 : Option V), j ≤ (rns l).length ∧ i = (flat ((rns l).take j)).length + d ∧ (∀ r, (rns l)[j]? = some r → d ≤ (TL.numL r.2).length) ∧ ((rns l)[j]? = none → d = 0) ∧
      H' p = some (.lst ((((rns l).take j).map fun r => T (List.replicate r.2 r.1)).map V.str)) ∧ σ = [some (.str (T (flat (rns l)))), some (.ref p), some (.int ((flat ((rns l).take j)).length : Nat)), v3, v4]) ?_ (fun i σ H' hi _ => by show i < (T (flat (rns l))).cps.size; rw [T_size]; exact hi) (fun σ H' _ => by show (T (flat (rns l))).cps.size ≤ (flat (rns l)).length; rw [T_size]; exact Nat.le_refl _) ?_ ?_
    · exact ⟨same_upd hp, 0, 0, none, none, Nat.zero_le _, rfl, fun _ _ => Nat.zero_le _, fun _ => rfl, upd_same, rfl⟩
    · rintro i σ H1 x H2 hi ⟨s1, j, d, v3, v4, hj, hid, hdr, hdn, hd, rfl⟩ ⟨t, c, rfl, ht, rfl, hc⟩
      rw [T_at] at hc
      have hjl : j < (rns l).length := by
        rcases Nat.lt_or_ge j (rns l).length with z | z
        · exact z
        · have e1 : (rns l).take j = rns l := List.take_of_length_le z
          have e2 := hdn (List.getElem?_eq_none z)
          rw [e1] at hid
          omega
      have hr' : (rns l)[j]? = some (rns l)[j] := List.getElem?_eq_getElem hjl
      generalize (rns l)[j] = r at hr'
      have hm := rns_mem (List.mem_of_getElem? hr')
      have hsp := flat_split hr'
      have hdl := hdr r hr'
      have hc2 : (TL.numL r.2 ++ r.1 :: flat ((rns l).drop (j + 1)))[d]? = some c := by
        rw [hsp, hid, List.getElem?_append_right (by omega), Nat.add_sub_cancel_left] at hc
        exact hc
      have npt : p ≠ t := ne_of_none hd ht
      have hd2 : (upd H1 t (.tup [.int (0 + (i : Nat)), .str ⟨#[c]⟩])) p = _ := (upd_ne npt).trans hd
      have s2 := s1.trans (same_upd (o := .tup [.int (0 + (i : Nat)), .str ⟨#[c]⟩]) ht)
      refine ⟨t, _, rfl, .inl (.inl upd_same), rfl, _, _, rfl, _, _, rfl, rfl, ?_⟩
      generalize upd H1 t (.tup [.int (0 + (i : Nat)), .str ⟨#[c]⟩]) = H3 at hd2 s2 ⊢
      refine ⟨_, rfl, ⟨_, rfl⟩, _, rfl, rfl, trivial, _, rfl, ?_⟩
      by_cases hlt : d < (TL.numL r.2).length
      · have hdig : 48 ≤ c ∧ c ≤ 57 := by
          rw [List.getElem?_append_left hlt] at hc2
          exact TL.numL_digits r.2 c (List.mem_of_getElem? hc2)
        rw [dig hdig]
        refine iteF ⟨s2, j, d + 1, some (.int (0 + (i : Nat))), some (.str ⟨#[c]⟩), hj, by omega, fun r2 h2 => ?_, fun h2 => ?_, hd2, rfl⟩
        · rw [hr'] at h2
          obtain rfl := Option.some.inj h2
          omega
        · rw [hr'] at h2
          cases h2
      · have hde : d = (TL.numL r.2).length := by omega
        have hcr : r.1 = c := by
          rw [hde, List.getElem?_append_right (Nat.le_refl _), Nat.sub_self] at hc2
          exact Option.some.inj hc2
        rw [← hcr, nodig (pc _ hm.1)]
        have hsn := flat_snoc hr'
        have e5 : T ((((flat (rns l)).drop (flat ((rns l).take j)).length).take (i - (flat ((rns l).take j)).length))) = T (TL.numL r.2) := by
          rw [hid, Nat.add_sub_cancel_left, hde, hsp, List.drop_left, List.take_left]
        have hml : (TL.numL r.2).length ≤ 9 := TL.numL_len (by decide) (h10 r (List.mem_of_getElem? hr'))
        have hzz : (T (flat (rns l))).length ≤ sizeLine := line_ok6 (by rw [T_len]; omega)
        have ei : (0 : Int) + (i : Nat) = (i : Nat) := by omega
        refine iteT ⟨.ref p, rfl, .inl ⟨rfl, _, .inl (.inl hd2)⟩, .str (T (flat (rns l))), rfl, _, rfl, _, rfl, .int (0 + (i : Nat)), rfl, _, rfl, T (flat (rns l)), rfl, hzz, ?_⟩
        rw [ei, cut_mid, e5]
        refine ⟨_, _, rfl, ?_, ?_, .str (T [r.1]), rfl, r.2, r.1, rfl, rfl, by omega, p, _, _, rfl, rfl, hd2, line_ok6 ?_, ?_⟩
        · rw [← num_T]
          exact TL.int_num (by omega)
        · rw [T_len]
          omega
        · rw [List.length_map, List.length_map, List.length_take]
          omega
        · refine ⟨_, rfl, _, 1, rfl, rfl, fun b o e => ?_, j + 1, 0, some (.int (i : Nat)), some (.str ⟨#[r.1]⟩), hjl, by omega, fun _ _ => Nat.zero_le _, fun _ => rfl, ?_, ?_⟩
          · rw [upd_ne (ne_of_none e hp)]
            exact s2 b o e
          · rw [upd_same, List.take_add_one, hr', List.map_append, List.map_append]
            rfl
          · have e6 : ((flat ((rns l).take (j + 1))).length : Int) = (i : Int) + 1 := by omega
            rw [e6]
            rfl
    · rintro σ H1 ⟨s1, j, d, v3, v4, hj, hid, hdr, hdn, hd, rfl⟩
      have hjl : j = (rns l).length := by
        rcases Nat.lt_or_ge j (rns l).length with z | z
        · have hr' : (rns l)[j]? = some (rns l)[j] := List.getElem?_eq_getElem z
          have e1 := congrArg List.length (flat_split hr')
          have e2 := hdr _ hr'
          rw [List.length_append, List.length_append, List.length_cons] at e1
          omega
        · omega
      rw [hjl, List.take_length] at hd
      refine ⟨⟨_, rfl⟩, .ref p, rfl, Str.ofString "", p, _, rfl, rfl, .inl (.inl (.inl hd)), ?_, ?_⟩
      · have e2 := sum_lensF (fun r : Nat × Nat => List.replicate r.2 r.1) (rns l)
        rw [show (Str.ofString "").length = 0 by decide +kernel, Nat.mul_zero, Nat.add_zero, e2]
        show (unr (rns l)).length ≤ 16777216
        rw [unr_rns]
        omega
      · rw [TL.join_eq, T_nil]
        rw [join_flatF (fun r : Nat × Nat => List.replicate r.2 r.1) (rns l)]
        have e4 := unr_rns l
        unfold unr at e4
        rw [e4]
        exact q H1 s1
def spFits : Sp := fun vs H Q _ => ∃ r t p : List Nat, vs = [.str (T r), .str (T t), .str (T p)] ∧ r.length ≤ 100000 ∧ t.length ≤ 100000 ∧ Q (.bl (fitB r t p)) H
theorem ok_fits {f : Addr} {fd : FuncData} {k : Nat} (F : Fun K "fits" "fits" sFits f fd) (mlen : mg "len" = none) (hS : Has P w K mg base (k + 1) "_pair_step" ["first", "second"] spPSt) : FnOk P w K mg base CX0 (k + 2) f fd ["read", "text", "path"] spFits := by
  obtain ⟨fS, dS, GS, gS, kS, bS⟩ := hS
  refine F.ok scFits (fun vs H Q E h => ?_) (fun cdv A outer s H vs Q E hr h => ?_)
  · obtain ⟨r, t, p, rfl, _⟩ := h
    rfl
  · obtain ⟨r, t, p, rfl, hrl, htl, q⟩ := h
    refine ⟨_, pss_cons (ps_set (i := 3) scFits.nd rfl (.inl rfl) pe_int)
      (pss_cons (ps_set (i := 4) scFits.nd rfl (.inl rfl) pe_int)
      (pss_cons (ps_for PassesOwn.never rfl (pi_str (pv 2)) (pg_name (i := 5) scFits.nd rfl (.inl rfl))
        (pss_one (ps_if (pt_cmpR op_eq (pv 5) pe_str (nomark _)) (pss_one (ps_aug (i := 3) scFits.nd rfl (.inl rfl) pe_int ip_add))
          (pss_one (ps_if (pt_cmpR op_eq (pv 5) pe_str (nomark _)) (pss_one (ps_aug (i := 4) scFits.nd rfl (.inl rfl) pe_int ip_add))
          (pss_one (ps_if (PW.pt (pw_and (pt_cmpR op_lt (pv 3) (pe_callB call_len_str (by rfl) mlen PySem.boot_len (pa_cons (pv 0) pa_nil)) (nomark _)) (pw_and (pt_cmpR op_lt (pv 4) (pe_callB call_len_str (by rfl) mlen PySem.boot_len (pa_cons (pv 1) pa_nil)) (nomark _))
              (pw_and1 (pt_cmpR op_eq (pv 5) (pe_call GS hr (by rfl) gS kS bS .nil pass0 (pa_cons (pe_ix ix_str (pv 0) (pv 3) (fun _ _ => rfl)) (pa_cons (pe_ix ix_str (pv 1) (pv 4) (fun _ _ => rfl)) pa_nil))) (nomark _))))))
            (pss_cons (ps_aug (i := 3) scFits.nd rfl (.inl rfl) pe_int ip_add) (pss_one (ps_aug (i := 4) scFits.nd rfl (.inl rfl) pe_int ip_add))) (pss_one (ps_ret pe_bl)))))))))
      (pss_one (ps_ret (pe_and (pe_cmpR op_eq (pv 3) (pe_callB call_len_str (by rfl) mlen PySem.boot_len (pa_cons (pv 0) pa_nil)) (nomark _)) (pe_one (pe_cmpR op_eq (pv 4) (pe_callB call_len_str (by rfl) mlen PySem.boot_len (pa_cons (pv 1) pa_nil)) (nomark _)))))))), ?_⟩
    have hzr : (T r).length ≤ sizeLine := line_ok (by rw [T_len]; exact hrl)
    have hzt : (T t).length ≤ sizeLine := line_ok (by rw [T_len]; exact htl)
    refine ⟨_, rfl, _, rfl, ?_⟩
    refine for_str (z := T p) (fun n σ H' => H' = H ∧ n ≤ p.length ∧ ∃ (i j : Nat) (v5 : Option V), wk r t p 0 0 = wk r t (p.drop n) i j ∧ σ = [some (.str (T r)), some (.str (T t)), some (.str (T p)), some (.int (i : Int)), some (.int (j : Int)), v5]) ⟨rfl, Nat.zero_le _, 0, 0, none, rfl, rfl⟩ ?_ ?_
    · rintro n c σ H' hc ⟨rfl, _, i, j, v5, hw, rfl⟩
      rw [T_at] at hc
      obtain ⟨hn, hce⟩ := List.getElem?_eq_some_iff.mp hc
      have hdr : p.drop n = c :: p.drop (n + 1) := by rw [List.drop_eq_getElem_cons hn, hce]
      rw [hdr, wk_cons] at hw
      refine ⟨_, rfl, rfl, _, rfl, ite2 (fun e => ?_) (fun e => ?_)⟩
      · have e1 : c = 73 := (one_eq tI).mp (of_decide_eq_true e)
        rw [if_pos e1] at hw
        exact ⟨_, rfl, _, 1, rfl, rfl, rfl, hn, i + 1, j, _, hw, rfl⟩
      have n1 : ¬ c = 73 := fun z => e (decide_eq_true ((one_eq tI).mpr z))
      rw [if_neg n1] at hw
      refine ⟨_, rfl, rfl, _, rfl, ite2 (fun e => ?_) (fun e => ?_)⟩
      · have e1 : c = 68 := (one_eq tD).mp (of_decide_eq_true e)
        rw [if_pos e1] at hw
        exact ⟨_, rfl, _, 1, rfl, rfl, rfl, hn, i, j + 1, _, hw, rfl⟩
      have n2 : ¬ c = 68 := fun z => e (decide_eq_true ((one_eq tD).mpr z))
      rw [if_neg n2] at hw
      have bad : ¬ (i < r.length ∧ j < t.length ∧ c = pst (r.getD i 0) (t.getD j 0)) → Q (.bl false) H' := fun z => by
        rw [if_neg z] at hw
        unfold fitB at q
        rw [hw] at q
        exact q
      refine ⟨_, rfl, _, rfl, T r, rfl, hzr, _, _, rfl, rfl, _, rfl, ite2 (fun e => ?_) (fun e => ?_)⟩
      · have hi : i < r.length := by
          have := of_decide_eq_true e
          rw [T_len] at this
          omega
        refine ⟨_, rfl, _, rfl, T t, rfl, hzt, _, _, rfl, rfl, _, rfl, ite2 (fun e => ?_) (fun e => ?_)⟩
        · have hj : j < t.length := by
            have := of_decide_eq_true e
            rw [T_len] at this
            omega
          have gr : r.getD i 0 = r[i] := by rw [List.getD_eq_getElem?_getD, List.getElem?_eq_getElem hi]; rfl
          have gt : t.getD j 0 = t[j] := by rw [List.getD_eq_getElem?_getD, List.getElem?_eq_getElem hj]; rfl
          refine ⟨_, rfl, _, rfl, _, rfl, T r, _, _, rfl, rfl, hzr, at_T hi, _, rfl, _, rfl, T t, _, _, rfl, rfl, hzt, at_T hj, r[i], t[j], rfl, rfl, _, rfl, ite2 (fun e => ?_) (fun e => ?_)⟩
          · have e1 : c = pst r[i] t[j] := (one_eq rfl).mp (of_decide_eq_true e)
            rw [if_pos ⟨hi, hj, by rw [gr, gt]; exact e1⟩] at hw
            exact ⟨_, rfl, _, 1, rfl, rfl, _, rfl, _, 1, rfl, rfl, rfl, hn, i + 1, j + 1, _, hw, rfl⟩
          · exact bad fun z => e (decide_eq_true ((one_eq rfl).mpr (by have := z.2.2; rw [gr, gt] at this; exact this)))
        · refine bad fun z => e (decide_eq_true ?_)
          rw [T_len]
          omega
      · refine bad fun z => e (decide_eq_true ?_)
        rw [T_len]
        omega
    · rintro σ H' ⟨rfl, _, i, j, v5, hw, rfl⟩
      rw [T_size, List.drop_length, wk_nil] at hw
      unfold fitB at q
      rw [hw] at q
      refine ⟨_, rfl, _, rfl, T r, rfl, hzr, rfl, _, rfl, ite2 (fun e => ?_) (fun e => ?_)⟩
      · have hi : i = r.length := by
          have := V.int.inj (of_decide_eq_true e)
          rw [T_len] at this
          omega
        refine ⟨_, rfl, _, rfl, T t, rfl, hzt, rfl, ?_⟩
        have e3 : decide (V.int (j : Int) = V.int ((T t).length : Nat)) = decide (some (i, j) = some (r.length, t.length)) := by
          rw [T_len, hi]
          by_cases hj : j = t.length
          · rw [hj, decide_eq_true rfl, decide_eq_true rfl]
          · rw [decide_eq_false (fun z => hj (by have := V.int.inj z; omega)), decide_eq_false (fun z => hj (by have := Option.some.inj z; exact congrArg (·.2) this))]
        rw [← e3] at q
        exact q
      · have hi : ¬ i = r.length := fun z => e (decide_eq_true (by rw [T_len, z]))
        rw [decide_eq_false (fun z => hi (by have := Option.some.inj z; exact congrArg (·.1) this))] at q
        exact q
end
/-! ### the law's own defs -/
theorem beqT (a b : Nat) : ((T [a] : Str) == T [b]) = decide (a = b) := by
  by_cases h : a = b
  · subst h
    rw [decide_eq_true rfl]
    exact beq_self_eq_true _
  · rw [decide_eq_false h]
    exact beq_eq_false_iff_ne.mpr fun z => h (by have := T_inj z; simpa using this)
theorem inV_ones (c : Nat) (ds : List Nat) : inV (.str (T [c])) (ds.map fun d => .str (T [d])) = decide (c ∈ ds) := by
  unfold inV
  rw [List.any_map]
  show (ds.any fun d => ((T [d] : Str) == T [c])) = _
  induction ds with
  | nil => rfl
  | cons d r ih =>
    rw [List.any_cons, ih, beqT]
    by_cases h : d = c
    · rw [decide_eq_true h, Bool.true_or, decide_eq_true (by rw [h]; exact List.mem_cons_self)]
    · rw [decide_eq_false h, Bool.false_or]
      by_cases h2 : c ∈ r
      · rw [decide_eq_true h2, decide_eq_true (List.mem_cons_of_mem _ h2)]
      · rw [decide_eq_false h2, decide_eq_false fun z => by
          rcases List.mem_cons.mp z with e | e
          · exact h e.symm
          · exact h2 e]
theorem flat_ones (ds : List Nat) : (ds.map fun d => V.str (T [d])).all flatV = true := by
  induction ds with
  | nil => rfl
  | cons d r ih => exact ih
theorem scLAgree : FnScope ["a", "b"] ["a", "b"] (defScope sLAgree) := ⟨rfl, rfl, rfl, by decide +kernel, rfl, by decide +kernel, by decide +kernel⟩
theorem scPriced : FnScope ["path", "costs", "total", "k"] ["path", "costs"] (defScope sPriced) := ⟨rfl, rfl, rfl, by decide +kernel, rfl, by decide +kernel, by decide +kernel⟩
theorem scWalks : FnScope ["read", "piece", "path", "i", "j", "step"] ["read", "piece", "path"] (defScope sWalks) := ⟨rfl, rfl, rfl, by decide +kernel, rfl, by decide +kernel, by decide +kernel⟩
theorem scLCosts : FnScope ["cell", "row"] ["cell"] (defScope sLCosts) := ⟨rfl, rfl, rfl, by decide +kernel, rfl, by decide +kernel, by decide +kernel⟩
theorem scLPath : FnScope ["cell", "size", "x", "path", "step"] ["cell", "size"] (defScope sLPath) := ⟨rfl, rfl, rfl, by decide +kernel, rfl, by decide +kernel, by decide +kernel⟩
theorem scLTexts : FnScope ["path", "cell", "read", "text", "drawn", "k", "letter", "other"] ["path", "cell"] (defScope sLTexts) := ⟨rfl, rfl, rfl, by decide +kernel, rfl, by decide +kernel, by decide +kernel⟩
theorem scLCut : FnScope ["path", "news", "count", "k"] ["path"] (defScope sLCut) := ⟨rfl, rfl, rfl, by decide +kernel, rfl, by decide +kernel, by decide +kernel⟩
section
variable {P : Program} {w : World} {K : PySem.W.Frag} {mg : Str → Option Value} {base : Heap}
theorem ok_lagree {f : Addr} {fd : FuncData} {k : Nat} (F : Fun K "_law_agree" "_law_agree" sLAgree f fd) : FnOk P w K mg base CX0 (k + 1) f fd ["a", "b"] spAg := by
  refine F.ok scLAgree (fun vs H Q E h => ?_) (fun cdv A outer s H vs Q E hr h => ?_)
  · obtain ⟨a, b, rfl, _⟩ := h
    rfl
  · obtain ⟨a, b, rfl, q⟩ := h
    refine ⟨_, pss_one (ps_ret (pe_and (pe_cmpR op_eq (pv 0) (pv 1) (nomark _)) (pe_one (pe_cmpR op_ne (pv 0) pe_str (nomark _))))), ?_⟩
    refine ⟨_, rfl, _, rfl, rfl, _, rfl, ite2 (fun e => ?_) (fun e => ?_)⟩
    · have e2 := (one_eq rfl).mp (of_decide_eq_true e)
      refine ⟨_, rfl, rfl, ?_⟩
      unfold agB at q
      rw [decide_eq_true e2, Bool.true_and] at q
      have e3 : (!decide (V.str (T [a]) = V.str (Str.ofString "N"))) = decide (a ≠ 78) := by
        by_cases h : a = 78
        · rw [decide_eq_true ((one_eq tN).mpr h), decide_eq_false (fun z => z h)]
          rfl
        · rw [decide_eq_false (fun z => h ((one_eq tN).mp z)), decide_eq_true h]
          rfl
      show Q (.bl (!decide (V.str (T [a]) = V.str (Str.ofString "N")))) H
      rw [e3]
      exact q
    · have e2 : ¬ a = b := fun z => e (decide_eq_true ((one_eq rfl).mpr z))
      unfold agB at q
      rw [decide_eq_false e2, Bool.false_and] at q
      exact q
def spPriced (K : PySem.W.Frag) : Sp := fun vs H Q _ => ∃ (l : List Nat) (z : Addr) (a b c : Nat), vs = [.str (T l), .ref z] ∧ l.length ≤ 100000 ∧ SqT K H z [.int a, .int b, .int c] ∧ ∀ H', Same H H' → Q (.int (prc a b c none l : Nat)) H'
theorem seqT {K : PySem.W.Frag} {H H' : Hp} {a : Addr} {xs : List V} (e : Same H H') (h : SqT K H a xs) : SqT K H' a xs := by
  rcases h with (h | ⟨o, h⟩) | h
  · exact .inl (.inl (e _ _ h))
  · exact .inl (.inr ⟨o, e _ _ h⟩)
  · exact .inr h
def prv (l : List Nat) (i : Nat) : Option Nat := if i = 0 then none else l[i - 1]?
theorem ok_priced {f : Addr} {fd : FuncData} {k : Nat} (F : Fun K "_law_priced" "_law_priced" sPriced f fd) (B : Bl mg) : FnOk P w K mg base CX0 (k + 1) f fd ["path", "costs"] (spPriced K) := by
  refine F.ok scPriced (fun vs H Q E h => ?_) (fun cdv A outer s H vs Q E hr h => ?_)
  · obtain ⟨l, z, a, b, c, rfl, _⟩ := h
    rfl
  · obtain ⟨l, z, a, b, c, rfl, hl, hS, q⟩ := h
    refine ⟨_, pss_cons (ps_set (i := 2) scPriced.nd rfl (.inl rfl) pe_int)
      (pss_cons (ps_for PassesOwn.never rfl (pi_range1 rfl B.range (pa_cons (pe_callB call_len_str (by rfl) B.len PySem.boot_len (pa_cons (pv 0) pa_nil)) pa_nil)) (pg_name (i := 3) scPriced.nd rfl (.inl rfl))
        (C8.pss_cut (ps_if (pt_cmpR op_eq (pe_ix ix_str (pv 0) (pv 3) (fun _ _ => rfl)) pe_str (nomark _)) (pss_one (ps_set (i := 2) scPriced.nd rfl (.inl rfl) (pe_op op_add (pv 2) (pe_ix ix_tup (pv 1) pe_int (fun _ _ => rfl))))) pss_nil)
        (pss_one (ps_if (pt_cmpR op_in_seq (pe_ix ix_str (pv 0) (pv 3) (fun _ _ => rfl)) (pe_lst (pa_cons pe_str (pa_cons pe_str pa_nil))) (by rfl))
          (C8.pss_cut (ps_set (i := 2) scPriced.nd rfl (.inl rfl) (pe_op op_add (pv 2) (pe_ix ix_tup (pv 1) pe_int (fun _ _ => rfl))))
          (pss_one (ps_if (PW.pt (pw_or (pt_cmpR op_eq (pv 3) pe_int (nomark _)) (pw_or1 (pt_cmpR op_ne (pe_ix ix_str (pv 0) (pe_op op_sub (pv 3) pe_int) (fun _ _ => rfl)) (pe_ix ix_str (pv 0) (pv 3) (fun _ _ => rfl)) (nomark _)))))
            (pss_one (ps_set (i := 2) scPriced.nd rfl (.inl rfl) (pe_op op_add (pv 2) (pe_ix ix_tup (pv 1) pe_int (fun _ _ => rfl))))) pss_nil))) pss_nil))))
      (pss_one (ps_ret (pv 2)))), ?_⟩
    have hz : (T l).length ≤ sizeLine := line_ok (by rw [T_len]; exact hl)
    refine ⟨.str (T l), rfl, T l, rfl, hz, _, rfl, by rw [T_len]; omega, by rw [T_len]; omega, ?_⟩
    rw [T_len, Int.toNat_natCast]
    refine for_range (lo := 0) (n := l.length) (fun i σ H' => Same H H' ∧ ∃ (tt : Nat) (v3 : Option V), tt + prc a b c (prv l i) (l.drop i) = prc a b c none l ∧ σ = [some (.str (T l)), some (.ref z), some (.int (tt : Int)), v3]) ⟨Same.refl _, 0, none, Nat.zero_add _, rfl⟩ ?_ ?_
    · rintro i σ H1 hi ⟨s1, tt, v3, ht, rfl⟩
      have a0 : (0 : Int) + (i : Nat) = (i : Nat) := by omega
      have ai := at_T hi
      rw [← a0] at ai
      have hS1 := seqT s1 hS
      rw [List.drop_eq_getElem_cons hi] at ht
      have e1 : prc a b c (prv l i) (l[i] :: l.drop (i + 1)) = (if l[i] = 88 then a else 0) + (if l[i] = 73 ∨ l[i] = 68 then c + (if prv l i = some l[i] then 0 else b) else 0) + prc a b c (some l[i]) (l.drop (i + 1)) := rfl
      rw [e1] at ht
      have e2 : prv l (i + 1) = some l[i] := by
        unfold prv
        rw [if_neg (by omega), Nat.add_sub_cancel, List.getElem?_eq_getElem hi]
      generalize hx : l[i] = x at *
      refine ⟨fun σ H2 => H2 = H1 ∧ σ = [some (.str (T l)), some (.ref z), some (.int ((tt + (if x = 88 then a else 0) : Nat) : Int)), some (.int (0 + (i : Nat)))], ?_, ?_⟩
      · refine ⟨.str (T l), rfl, .int (0 + (i : Nat)), rfl, T l, _, _, rfl, rfl, hz, ai, rfl, _, rfl, ite2 (fun e => ?_) (fun e => ?_)⟩
        · have e3 : x = 88 := (one_eq tX).mp (of_decide_eq_true e)
          refine ⟨_, rfl, .ref z, rfl, z, _, _, .int a, rfl, rfl, hS1, rfl, _, _, rfl, rfl, rfl, ?_⟩
          rw [if_pos e3]
          rfl
        · rw [if_neg (fun z => e (decide_eq_true ((one_eq tX).mpr z)))]
          exact ⟨rfl, rfl⟩
      rintro σ H2 ⟨rfl, rfl⟩
      refine ⟨.str (T l), rfl, .int (0 + (i : Nat)), rfl, T l, _, _, rfl, rfl, hz, ai, by show 2 ≤ sizeLine; decide, fun pl hpl => ⟨pl, _, rfl, .inl (.inl (.inl upd_same)), rfl, rfl, _, rfl, ?_⟩⟩
      have einv : inV (.str ⟨#[x]⟩) [.str (Str.ofString "I"), .str (Str.ofString "D")] = decide (x ∈ [73, 68]) := by
        rw [tI, tD]
        exact inV_ones x [73, 68]
      show if (inV (.str ⟨#[x]⟩) [.str (Str.ofString "I"), .str (Str.ofString "D")]) = true then _ else _
      rw [einv]
      have s2 := s1.trans (same_upd (o := .lst [.str (Str.ofString "I"), .str (Str.ofString "D")]) hpl)
      generalize upd H2 pl (.lst [.str (Str.ofString "I"), .str (Str.ofString "D")]) = H3 at s2 ⊢
      have hS3 := seqT s2 hS
      refine ite2 (fun e => ?_) (fun e => ?_)
      · have e3 : x = 73 ∨ x = 68 := by
          have := of_decide_eq_true e
          simpa using this
        rw [if_pos e3] at ht
        refine ⟨fun σ H4 => H4 = H3 ∧ σ = [some (.str (T l)), some (.ref z), some (.int ((tt + (if x = 88 then a else 0) + c : Nat) : Int)), some (.int (0 + (i : Nat)))], ⟨_, rfl, .ref z, rfl, z, _, _, .int c, rfl, rfl, hS3, rfl, _, _, rfl, rfl, rfl, rfl⟩, ?_⟩
        rintro σ H4 ⟨rfl, rfl⟩
        have more : prv l i ≠ some x → (∃ tt' : Nat, ((tt + (if x = 88 then a else 0) + c : Nat) : Int) + (b : Int) = (tt' : Int) ∧ tt' + prc a b c (prv l (i + 1)) (l.drop (i + 1)) = prc a b c none l) := fun hne => by
          rw [if_neg hne] at ht
          exact ⟨tt + (if x = 88 then a else 0) + c + b, by omega, by rw [e2]; omega⟩
        refine ⟨.int (0 + (i : Nat)), rfl, rfl, _, rfl, ite2 (fun e => ?_) (fun e => ?_)⟩
        · have hi0 : i = 0 := by
            have := V.int.inj (of_decide_eq_true e)
            omega
          obtain ⟨tt', e5, e6⟩ := more (by unfold prv; rw [if_pos hi0]; exact fun z => nomatch z)
          refine ⟨_, rfl, .ref z, rfl, z, _, _, .int b, rfl, rfl, hS3, rfl, _, _, rfl, rfl, s2, tt', some (.int (0 + (i : Nat))), e6, ?_⟩
          rw [← e5]
          rfl
        · have hi0 : ¬ i = 0 := fun z => e (decide_eq_true (by rw [z]; rfl))
          have him : i - 1 < l.length := by omega
          have am := at_T him
          have a1 : (0 : Int) + (i : Nat) - 1 = ((i - 1 : Nat) : Int) := by omega
          rw [← a1] at am
          have ep : prv l i = some l[i - 1] := by
            unfold prv
            rw [if_neg hi0, List.getElem?_eq_getElem him]
          refine ⟨.str (T l), rfl, .int (0 + (i : Nat)), rfl, _, 1, rfl, rfl, T l, _, _, rfl, rfl, hz, am, .str (T l), rfl, .int (0 + (i : Nat)), rfl, T l, _, _, rfl, rfl, hz, ai, rfl, _, rfl, iteN (fun e => ?_) (fun e => ?_)⟩
          · obtain ⟨tt', e5, e6⟩ := more (by rw [ep]; exact fun z => e ((one_eq rfl).mpr (Option.some.inj z)))
            refine ⟨_, rfl, .ref z, rfl, z, _, _, .int b, rfl, rfl, hS3, rfl, _, _, rfl, rfl, s2, tt', some (.int (0 + (i : Nat))), e6, ?_⟩
            rw [← e5]
            rfl
          · have e7 : l[i - 1] = x := (one_eq rfl).mp e
            rw [ep, e7, if_pos rfl] at ht
            exact ⟨s2, _, some (.int (0 + (i : Nat))), by rw [e2]; omega, rfl⟩
      · have e3 : ¬ (x = 73 ∨ x = 68) := fun z => e (decide_eq_true (by simpa using z))
        rw [if_neg e3] at ht
        exact ⟨s2, _, some (.int (0 + (i : Nat))), by rw [e2]; omega, rfl⟩
    · rintro σ H1 ⟨s1, tt, v3, ht, rfl⟩
      rw [List.drop_length] at ht
      have e : tt = prc a b c none l := by
        rw [← ht]
        rfl
      rw [e]
      exact ⟨_, rfl, q H1 s1⟩
end
section
variable {P : Program} {w : World} {K : PySem.W.Frag} {mg : Str → Option Value} {base : Heap}
def spWalks : Sp := fun vs H Q _ => ∃ r t p : List Nat, vs = [.str (T r), .str (T t), .str (T p)] ∧ r.length ≤ 100000 ∧ t.length ≤ 100000 ∧ ∀ H', Same H H' → Q (.bl (fitB r t p)) H'
theorem ok_walks {f : Addr} {fd : FuncData} {k : Nat} (F : Fun K "_law_walks" "_law_walks" sWalks f fd) (B : Bl mg) (hA : Has P w K mg base (k + 1) "_law_agree" ["a", "b"] spAg) : FnOk P w K mg base CX0 (k + 2) f fd ["read", "piece", "path"] spWalks := by
  obtain ⟨fS, dS, GS, gS, kS, bS⟩ := hA
  refine F.ok scWalks (fun vs H Q E h => ?_) (fun cdv A outer s H vs Q E hr h => ?_)
  · obtain ⟨r, t, p, rfl, _⟩ := h
    rfl
  · obtain ⟨r, t, p, rfl, hrl, htl, q⟩ := h
    refine ⟨_, pss_cons (ps_set (i := 3) scWalks.nd rfl (.inl rfl) pe_int)
      (pss_cons (ps_set (i := 4) scWalks.nd rfl (.inl rfl) pe_int)
      (pss_cons (ps_for PassesOwn.never rfl (pi_str (pv 2)) (pg_name (i := 5) scWalks.nd rfl (.inl rfl))
        (C8.pss_cut (ps_if (pt_cmpR op_in_seq (pv 5) (pe_lst (pa_cons pe_str (pa_cons pe_str pa_nil))) (by rfl))
          (pss_one (ps_if (PW.pt (pw_or (pt_cmpR op_ge (pv 3) (pe_callB call_len_str (by rfl) B.len PySem.boot_len (pa_cons (pv 0) pa_nil)) (nomark _)) (pw_or (pt_cmpR op_ge (pv 4) (pe_callB call_len_str (by rfl) B.len PySem.boot_len (pa_cons (pv 1) pa_nil)) (nomark _))
            (pw_or1 (pt_cmpR op_ne (pe_call GS hr (by rfl) gS kS bS .nil pass0 (pa_cons (pe_ix ix_str (pv 0) (pv 3) (fun _ _ => rfl)) (pa_cons (pe_ix ix_str (pv 1) (pv 4) (fun _ _ => rfl)) pa_nil))) (pe_cmpR op_eq (pv 5) pe_str (nomark _)) (nomark _)))))) (pss_one (ps_ret pe_bl)) pss_nil)) pss_nil)
        (C8.pss_cut (ps_if (pt_cmpR op_notIn_seq (pv 5) (pe_lst (pa_cons pe_str (pa_cons pe_str (pa_cons pe_str (pa_cons pe_str pa_nil))))) (by rfl)) (pss_one (ps_ret pe_bl)) pss_nil)
        (pss_cons (ps_set (i := 3) scWalks.nd rfl (.inl rfl) (pe_op op_add (pv 3) (pe_callTy call_int1 (by rfl) B.int (by decide +kernel) (pa_cons (pe_cmpR op_ne (pv 5) pe_str (nomark _)) pa_nil))))
        (pss_one (ps_set (i := 4) scWalks.nd rfl (.inl rfl) (pe_op op_add (pv 4) (pe_callTy call_int1 (by rfl) B.int (by decide +kernel) (pa_cons (pe_cmpR op_ne (pv 5) pe_str (nomark _)) pa_nil)))))))))
      (pss_one (ps_ret (pe_and (pe_cmpR op_eq (pv 3) (pe_callB call_len_str (by rfl) B.len PySem.boot_len (pa_cons (pv 0) pa_nil)) (nomark _)) (pe_one (pe_cmpR op_eq (pv 4) (pe_callB call_len_str (by rfl) B.len PySem.boot_len (pa_cons (pv 1) pa_nil)) (nomark _)))))))), ?_⟩
    have hzr : (T r).length ≤ sizeLine := line_ok (by rw [T_len]; exact hrl)
    have hzt : (T t).length ≤ sizeLine := line_ok (by rw [T_len]; exact htl)
    refine ⟨_, rfl, _, rfl, ?_⟩
    refine for_str (z := T p) (fun n σ H' => Same H H' ∧ n ≤ p.length ∧ ∃ (i j : Nat) (v5 : Option V), wk r t p 0 0 = wk r t (p.drop n) i j ∧ σ = [some (.str (T r)), some (.str (T t)), some (.str (T p)), some (.int (i : Int)), some (.int (j : Int)), v5]) ⟨Same.refl _, Nat.zero_le _, 0, 0, none, rfl, rfl⟩ ?_ ?_
    · rintro n c σ H1 hc ⟨s1, _, i, j, v5, hw, rfl⟩
      rw [T_at] at hc
      obtain ⟨hn, hce⟩ := List.getElem?_eq_some_iff.mp hc
      have hdr : p.drop n = c :: p.drop (n + 1) := by rw [List.drop_eq_getElem_cons hn, hce]
      rw [hdr, wk_cons] at hw
      have bad : c ≠ 73 → c ≠ 68 → ¬ (i < r.length ∧ j < t.length ∧ c = pst (r.getD i 0) (t.getD j 0)) → ∀ H', Same H H' → Q (.bl false) H' := fun n1 n2 z H' s' => by
        rw [if_neg n1, if_neg n2, if_neg z] at hw
        unfold fitB at q
        rw [hw] at q
        exact q H' s'
      refine ⟨fun σ H2 => Same H H2 ∧ (c = 61 ∨ c = 88 → i < r.length ∧ j < t.length ∧ c = pst (r.getD i 0) (t.getD j 0)) ∧ σ = [some (.str (T r)), some (.str (T t)), some (.str (T p)), some (.int (i : Int)), some (.int (j : Int)), some (.str (T [c]))], ?_, ?_⟩
      · refine ⟨_, rfl, by show 2 ≤ sizeLine; decide, fun pl hpl => ⟨pl, _, rfl, .inl (.inl (.inl upd_same)), rfl, rfl, _, rfl, ?_⟩⟩
        have einv : inV (.str ⟨#[c]⟩) [.str (Str.ofString "="), .str (Str.ofString "X")] = decide (c ∈ [61, 88]) := by
          rw [tE, tX]
          exact inV_ones c [61, 88]
        show if (inV (.str ⟨#[c]⟩) [.str (Str.ofString "="), .str (Str.ofString "X")]) = true then _ else _
        rw [einv]
        have s2 := s1.trans (same_upd (o := .lst [.str (Str.ofString "="), .str (Str.ofString "X")]) hpl)
        generalize upd H1 pl (.lst [.str (Str.ofString "="), .str (Str.ofString "X")]) = H3 at s2 ⊢
        refine ite2 (fun e => ?_) (fun e => ?_)
        · have ec : c = 61 ∨ c = 88 := by
            have := of_decide_eq_true e
            simpa using this
          have n1 : c ≠ 73 := by omega
          have n2 : c ≠ 68 := by omega
          refine ⟨_, rfl, _, rfl, T r, rfl, hzr, _, _, rfl, rfl, _, rfl, ite2 (fun e => ?_) (fun e => ?_)⟩
          · refine bad n1 n2 (fun z => ?_) _ s2
            have := of_decide_eq_true e
            rw [T_len] at this
            omega
          · have hi : i < r.length := by
              have : ¬ ((i : Int) ≥ ((T r).length : Nat)) := fun z => e (decide_eq_true z)
              rw [T_len] at this
              omega
            refine ⟨_, rfl, _, rfl, T t, rfl, hzt, _, _, rfl, rfl, _, rfl, ite2 (fun e => ?_) (fun e => ?_)⟩
            · refine bad n1 n2 (fun z => ?_) _ s2
              have := of_decide_eq_true e
              rw [T_len] at this
              omega
            · have hj : j < t.length := by
                have : ¬ ((j : Int) ≥ ((T t).length : Nat)) := fun z => e (decide_eq_true z)
                rw [T_len] at this
                omega
              have gr : r.getD i 0 = r[i] := by rw [List.getD_eq_getElem?_getD, List.getElem?_eq_getElem hi]; rfl
              have gt : t.getD j 0 = t[j] := by rw [List.getD_eq_getElem?_getD, List.getElem?_eq_getElem hj]; rfl
              refine ⟨_, rfl, _, rfl, T r, _, _, rfl, rfl, hzr, at_T hi, _, rfl, _, rfl, T t, _, _, rfl, rfl, hzt, at_T hj, r[i], t[j], rfl, _, rfl, rfl, rfl, _, rfl, iteN (fun e => ?_) (fun e => ?_)⟩
              · refine bad n1 n2 (fun z => e ?_) _ s2
                have e3 := z.2.2
                rw [gr, gt] at e3
                unfold pst at e3
                show V.bl (agB r[i] t[j]) = V.bl (decide (V.str (T [c]) = V.str (Str.ofString "=")))
                by_cases hb : agB r[i] t[j] = true
                · rw [if_pos hb] at e3
                  rw [hb, decide_eq_true ((one_eq tE).mpr e3)]
                · rw [if_neg hb] at e3
                  rw [Bool.eq_false_iff.mpr hb, decide_eq_false (fun z => by have := (one_eq tE).mp z; omega)]
              · refine ⟨s2, fun _ => ⟨hi, hj, ?_⟩, rfl⟩
                rw [gr, gt]
                have e3 : agB r[i] t[j] = decide (V.str (T [c]) = V.str (Str.ofString "=")) := V.bl.inj e
                unfold pst
                rw [e3]
                by_cases h61 : c = 61
                · rw [decide_eq_true ((one_eq tE).mpr h61), if_pos rfl]
                  exact h61
                · rw [decide_eq_false (fun z => h61 ((one_eq tE).mp z)), if_neg Bool.false_ne_true]
                  omega
        · have ec : ¬ (c = 61 ∨ c = 88) := fun z => e (decide_eq_true (by simpa using z))
          exact ⟨s2, fun z => absurd z ec, rfl⟩
      rintro σ H2 ⟨s2, hgood, rfl⟩
      refine ⟨fun σ H3 => Same H H3 ∧ (c = 61 ∨ c = 88 ∨ c = 73 ∨ c = 68) ∧ σ = [some (.str (T r)), some (.str (T t)), some (.str (T p)), some (.int (i : Int)), some (.int (j : Int)), some (.str (T [c]))], ?_, ?_⟩
      · refine ⟨_, rfl, by show 4 ≤ sizeLine; decide, fun pl hpl => ⟨pl, _, rfl, .inl (.inl (.inl upd_same)), rfl, rfl, _, rfl, ?_⟩⟩
        have einv : inV (.str (T [c])) [.str (Str.ofString "="), .str (Str.ofString "X"), .str (Str.ofString "I"), .str (Str.ofString "D")] = decide (c ∈ [61, 88, 73, 68]) := by
          rw [tE, tX, tI, tD]
          exact inV_ones c [61, 88, 73, 68]
        show if (!inV (.str (T [c])) [.str (Str.ofString "="), .str (Str.ofString "X"), .str (Str.ofString "I"), .str (Str.ofString "D")]) = true then _ else _
        rw [einv]
        have s3 := s2.trans (same_upd (o := .lst [.str (Str.ofString "="), .str (Str.ofString "X"), .str (Str.ofString "I"), .str (Str.ofString "D")]) hpl)
        refine iteN (fun e => ?_) (fun e => ?_)
        · have ec : ¬ (c = 61 ∨ c = 88 ∨ c = 73 ∨ c = 68) := fun z => e (by simpa using z)
          refine bad (by omega) (by omega) (fun z => ?_) _ s3
          rcases pst_two (r.getD i 0) (t.getD j 0) with e4 | e4
          · have := z.2.2
            omega
          · have := z.2.2
            omega
        · exact ⟨s3, by simpa using e, rfl⟩
      rintro σ H3 ⟨s3, hcc, rfl⟩
      have dN : ∀ {d : Nat} {s : Str}, s = T [d] → (!decide (V.str (T [c]) = V.str s)) = decide (c ≠ d) := fun {d s} hs => by
        by_cases h : c = d
        · rw [decide_eq_true ((one_eq hs).mpr h), decide_eq_false (fun z => z h)]
          rfl
        · rw [decide_eq_false (fun z => h ((one_eq hs).mp z)), decide_eq_true h]
          rfl
      refine ⟨_, rfl, _, rfl, rfl, .inr ⟨_, rfl, _, _, rfl, rfl, ?_⟩⟩
      refine ⟨_, rfl, _, rfl, rfl, .inr ⟨_, rfl, _, _, rfl, rfl, ?_⟩⟩
      refine ⟨s3, hn, if c = 68 then i else i + 1, if c = 73 then j else j + 1, some (.str (T [c])), ?_, ?_⟩
      · rw [hw]
        rcases hcc with e | e | e | e
        · rw [if_neg (by omega), if_neg (by omega), if_pos (hgood (.inl e)), if_neg (by omega), if_neg (by omega)]
        · rw [if_neg (by omega), if_neg (by omega), if_pos (hgood (.inr e)), if_neg (by omega), if_neg (by omega)]
        · rw [if_pos e, if_neg (by omega), if_pos e]
        · rw [if_neg (by omega), if_pos e, if_pos e, if_neg (by omega)]
      · have e1 : ((i : Int) + (if (!decide (V.str (T [c]) = V.str (Str.ofString "D"))) = true then 1 else 0)) = ((if c = 68 then i else i + 1 : Nat) : Int) := by
          rw [dN tD]
          by_cases h : c = 68
          · rw [decide_eq_false (fun z => z h), if_pos h, if_neg Bool.false_ne_true]
            omega
          · rw [decide_eq_true h, if_neg h, if_pos rfl]
            omega
        have e2 : ((j : Int) + (if (!decide (V.str (T [c]) = V.str (Str.ofString "I"))) = true then 1 else 0)) = ((if c = 73 then j else j + 1 : Nat) : Int) := by
          rw [dN tI]
          by_cases h : c = 73
          · rw [decide_eq_false (fun z => z h), if_pos h, if_neg Bool.false_ne_true]
            omega
          · rw [decide_eq_true h, if_neg h, if_pos rfl]
            omega
        rw [← e1, ← e2]
        rfl
    · rintro σ H' ⟨s1, _, i, j, v5, hw, rfl⟩
      rw [T_size, List.drop_length, wk_nil] at hw
      unfold fitB at q
      rw [hw] at q
      refine ⟨_, rfl, _, rfl, T r, rfl, hzr, rfl, _, rfl, ite2 (fun e => ?_) (fun e => ?_)⟩
      · have hi : i = r.length := by
          have := V.int.inj (of_decide_eq_true e)
          rw [T_len] at this
          omega
        refine ⟨_, rfl, _, rfl, T t, rfl, hzt, rfl, ?_⟩
        have e3 : decide (V.int (j : Int) = V.int ((T t).length : Nat)) = decide (some (i, j) = some (r.length, t.length)) := by
          rw [T_len, hi]
          by_cases hj : j = t.length
          · rw [hj, decide_eq_true rfl, decide_eq_true rfl]
          · rw [decide_eq_false (fun z => hj (by have := V.int.inj z; omega)), decide_eq_false (fun z => hj (by have := Option.some.inj z; exact congrArg (·.2) this))]
        rw [← e3] at q
        exact q _ s1
      · have hi : ¬ i = r.length := fun z => e (decide_eq_true (by rw [T_len, z]))
        rw [decide_eq_false (fun z => hi (by have := Option.some.inj z; exact congrArg (·.1) this))] at q
        exact q _ s1
def spLCosts : Sp := fun vs H Q _ => ∃ x : Int, vs = [.int x] ∧ ∀ (H' : Hp) (z : Addr) (a b c : Nat), Same H H' → H' z = some (.tup [.int a, .int b, .int c]) → a ≤ 100 → b ≤ 100 → c ≤ 100 → Q (.ref z) H'
theorem ok_lcosts {f : Addr} {fd : FuncData} (F : Fun K "_law_costs" "_law_costs" sLCosts f fd) (hO : Has P w K mg base 2 "_law_row" ["cell", "count", "bound"] (spRow K)) : FnOk P w K mg base CX0 3 f fd ["cell"] spLCosts := by
  obtain ⟨fO, dO, GO, gO, kO, bO⟩ := hO
  refine F.ok scLCosts (fun vs H Q E h => ?_) (fun cdv A outer s H vs Q E hr h => ?_)
  · obtain ⟨c, rfl, _⟩ := h
    rfl
  · obtain ⟨x, rfl, q⟩ := h
    refine ⟨_, pss_cons (ps_set (i := 1) scLCosts.nd rfl (.inl rfl) (pe_call GO hr (by rfl) gO kO bO .nil pass0 (pa_cons (pv 0) (pa_cons pe_int (pa_cons pe_int pa_nil)))))
      (pss_cons (ps_if (pt_cmpR op_eq (pe_op op_mod (pe_ix ix_list (pv 1) pe_int (fun _ _ => rfl)) pe_int) pe_int (nomark _))
        (pss_one (ps_ret (pe_tup (pa_cons (pe_op op_mod (pe_ix ix_list (pv 1) pe_int (fun _ _ => rfl)) pe_int) (pa_cons (pe_op op_mod (pe_ix ix_list (pv 1) pe_int (fun _ _ => rfl)) pe_int) (pa_cons (pe_op op_mod (pe_ix ix_list (pv 1) pe_int (fun _ _ => rfl)) pe_int) pa_nil)))))) pss_nil)
      (pss_one (ps_ret (pe_tup (pa_cons (pe_op op_mod (pe_ix ix_list (pv 1) pe_int (fun _ _ => rfl)) pe_int) (pa_cons (pe_op op_mod (pe_ix ix_list (pv 1) pe_int (fun _ _ => rfl)) pe_int) (pa_cons (pe_op op_mod (pe_ix ix_list (pv 1) pe_int (fun _ _ => rfl)) pe_int) pa_nil))))))), ?_⟩
    refine ⟨_, rfl, x, 4, 1000003, rfl, by decide, by decide, by decide, by decide, fun H1 p xs s1 hp hx hl hb => ?_⟩
    match xs, hl, hb, hx with
    | [x0, x1, x2, x3], _, hb, hx =>
      have pS : SqL K H1 p [.int x0, .int x1, .int x2, .int x3] := .inl (.inl hx)
      have fin : ∀ (m0 m1 m2 : Int), 0 < m0 → m0 ≤ 101 → 0 < m1 → m1 ≤ 101 → 0 < m2 → m2 ≤ 101 → ∀ z, H1 z = none → Q (.ref z) (upd H1 z (.tup [.int (x0 % m0), .int (x1 % m1), .int (x2 % m2)])) := fun m0 m1 m2 a0 b0 a1 b1 a2 b2 z hz => by
        have c0 := Int.emod_nonneg x0 (show m0 ≠ 0 by omega)
        have c1 := Int.emod_nonneg x1 (show m1 ≠ 0 by omega)
        have c2 := Int.emod_nonneg x2 (show m2 ≠ 0 by omega)
        have d0 := Int.emod_lt_of_pos x0 a0
        have d1 := Int.emod_lt_of_pos x1 a1
        have d2 := Int.emod_lt_of_pos x2 a2
        refine q _ z (x0 % m0).toNat (x1 % m1).toNat (x2 % m2).toNat (s1.trans (same_upd hz)) ?_ (by omega) (by omega) (by omega)
        rw [upd_same, Int.toNat_of_nonneg c0, Int.toNat_of_nonneg c1, Int.toNat_of_nonneg c2]
      refine ⟨_, rfl, p, _, 3, .int x3, rfl, rfl, pS, rfl, _, 4, rfl, rfl, (show (0 : Int) < 4 by decide), rfl, _, rfl, ite2 (fun _ => ?_) (fun _ => ?_)⟩
      · exact ⟨_, rfl, p, _, 0, .int x0, rfl, rfl, pS, rfl, _, 3, rfl, rfl, (show (0 : Int) < 3 by decide), _, rfl, p, _, 1, .int x1, rfl, rfl, pS, rfl, _, 3, rfl, rfl, (show (0 : Int) < 3 by decide), _, rfl, p, _, 2, .int x2, rfl, rfl, pS, rfl, _, 2, rfl, rfl, (show (0 : Int) < 2 by decide), by show 3 ≤ sizeLine; decide,
          fin 3 3 2 (by decide) (by decide) (by decide) (by decide) (by decide) (by decide)⟩
      · exact ⟨_, rfl, p, _, 0, .int x0, rfl, rfl, pS, rfl, _, 101, rfl, rfl, (show (0 : Int) < 101 by decide), _, rfl, p, _, 1, .int x1, rfl, rfl, pS, rfl, _, 101, rfl, rfl, (show (0 : Int) < 101 by decide), _, rfl, p, _, 2, .int x2, rfl, rfl, pS, rfl, _, 101, rfl, rfl, (show (0 : Int) < 101 by decide), by show 3 ≤ sizeLine; decide,
          fin 101 101 101 (by decide) (by decide) (by decide) (by decide) (by decide) (by decide)⟩
end
theorem xid (x : Int) (h0 : 0 ≤ x) (h4 : x < 4) : ∃ c, (c = 61 ∨ c = 88 ∨ c = 73 ∨ c = 68) ∧ atI (Str.ofString "=XID").cps.toList x = some c := by
  have h : x = 0 ∨ x = 1 ∨ x = 2 ∨ x = 3 := by omega
  rcases h with h | h | h | h <;> rw [h]
  · exact ⟨61, .inl rfl, by decide +kernel⟩
  · exact ⟨88, .inr (.inl rfl), by decide +kernel⟩
  · exact ⟨73, .inr (.inr (.inl rfl)), by decide +kernel⟩
  · exact ⟨68, .inr (.inr (.inr rfl)), by decide +kernel⟩
def rMulT : R2 := fun x y H Q => ∃ (l : List Nat) (n : Int), x = .str (T l) ∧ y = .int n ∧ l.length ≤ 100 ∧ 0 ≤ n ∧ n ≤ 1000 ∧ Q (.str (T (List.replicate n.toNat l).flatten)) H
theorem op_mulT2 {X : Cx} : OpR X (binaryOp .Mult) rMulT := op_mulT
def tePath : TE := tOp rMulT (tOp rIxS (tC (.str (Str.ofString "=XID"))) (tOp (rI (fun _ j => 0 < j) fun i j => V.int (i % j)) (tVar 2) (tC (.int 4)))) (tOp (rI0 fun i j => V.int (i + j)) (tC (.int 1)) (tOp (rI (fun _ j => 0 < j) fun i j => V.int (i % j)) (tOp (rI CDiv fun i j => V.int (i / j)) (tVar 2) (tC (.int 4))) (tC (.int 15))))
theorem letts (n : Nat) (h : n < 20) : ∃ e o, (e = 65 ∨ e = 67 ∨ e = 71 ∨ e = 84) ∧ o ≠ e ∧ atI (Str.ofString "ACGT").cps.toList ((n : Int) % 4) = some e ∧ atI (Str.ofString "ACGTN").cps.toList (((n : Int) % 4 + 1 + (n : Int) / 4 % 3) % 5) = some o := by
  have key : ∀ n : _root_.Fin 20, ((match [65, 67, 71, 84][n.val % 4]?, [65, 67, 71, 84, 78][(n.val % 4 + 1 + n.val / 4 % 3) % 5]? with | some e, some o => decide (e = 65 ∨ e = 67 ∨ e = 71 ∨ e = 84) && decide (o ≠ e) | _, _ => false) : Bool) = true := by decide
  have hk := key ⟨n, h⟩
  have a1 : (Str.ofString "ACGT").cps.toList = [65, 67, 71, 84] := by decide +kernel
  have a2 : (Str.ofString "ACGTN").cps.toList = [65, 67, 71, 84, 78] := by decide +kernel
  have b1 : ((n : Int) % 4) = ((n % 4 : Nat) : Int) := by omega
  have k2 : ∀ n : _root_.Fin 20, (((n.val : Int) % 4 + 1 + (n.val : Int) / 4 % 3) % 5) = (((n.val % 4 + 1 + n.val / 4 % 3) % 5 : Nat) : Int) := by decide
  have b2 : (((n : Int) % 4 + 1 + (n : Int) / 4 % 3) % 5) = (((n % 4 + 1 + n / 4 % 3) % 5 : Nat) : Int) := k2 ⟨n, h⟩
  rw [a1, a2, b2, b1]
  dsimp only at hk
  cases h1 : [65, 67, 71, 84][n % 4]? with
  | none => rw [h1] at hk; cases hk
  | some e =>
    cases h2 : [65, 67, 71, 84, 78][(n % 4 + 1 + n / 4 % 3) % 5]? with
    | none => rw [h1, h2] at hk; cases hk
    | some o =>
      rw [h1, h2] at hk
      have hk2 := (Bool.and_eq_true _ _).mp hk
      exact ⟨e, o, of_decide_eq_true hk2.1, of_decide_eq_true hk2.2, atI_nat h1, atI_nat h2⟩
section
variable {P : Program} {w : World} {K : PySem.W.Frag} {mg : Str → Option Value} {base : Heap}
def spLPath : Sp := fun vs H Q _ => ∃ (x : Int) (n : Nat), vs = [.int x, .int (n : Int)] ∧ n ≤ 60 ∧ ∀ (H' : Hp) (l : List Nat), Same H H' → PC l → l.length ≤ 1000 → Q (.str (T l)) H'
theorem PC.one {c : Nat} (h : c = 61 ∨ c = 88 ∨ c = 73 ∨ c = 68) : PC [c] := fun a ha => by
  obtain rfl : a = c := by simpa using ha
  exact h
theorem PC.app {a b : List Nat} (h : PC a) (k : PC b) : PC (a ++ b) := fun c hc => by
  rcases List.mem_append.mp hc with q | q
  · exact h c q
  · exact k c q
theorem ok_lpath {f : Addr} {fd : FuncData} (F : Fun K "_law_path" "_law_path" sLPath f fd) (B : Bl mg) (hO : Has P w K mg base 2 "_law_row" ["cell", "count", "bound"] (spRow K)) : FnOk P w K mg base CX0 3 f fd ["cell", "size"] spLPath := by
  obtain ⟨fO, dO, GO, gO, kO, bO⟩ := hO
  refine F.ok scLPath (fun vs H Q E h => ?_) (fun cdv A outer s H vs Q E hr h => ?_)
  · obtain ⟨x, n, rfl, _⟩ := h
    rfl
  · obtain ⟨x, n, rfl, hn, q⟩ := h
    refine ⟨_, pss_cons (ps_if (pt_cmpR op_eq (pe_op op_mod (pe_callB call_abs (by rfl) B.abs (by decide +kernel) (pa_cons (pe_callTy call_int1 (by rfl) B.int (by decide +kernel) (pa_cons (pv 0) pa_nil)) pa_nil)) pe_int) pe_int (nomark _))
        (pss_one (ps_ret (pe_join pe_str (pe_lc (own := [("x", 2)]) (g := gName 2) (tt := tYes) (te := tePath) rfl scLPath.nd
          (pi_list (pe_call GO hr (by rfl) gO kO bO .nil pass0 (pa_cons (pv 0) (pa_cons (pe_op op_add pe_int (pe_op op_fdiv (pv 1) pe_int)) (pa_cons pe_int pa_nil)))))
          (blkOk_by (own := [("x", 2)]) (N := ["cell", "size", "x", "path", "step"]) (sc := defScope sLPath) (by decide +kernel))
          (fun _ _ _ _ _ => pg_name (i := 2) scLPath.nd rfl (Or.inl rfl)) (fun _ _ _ _ _ => pts_nil) (fun _ _ _ _ _ => pe_op op_mulT2 (pe_ix (r := rIxS) ix_str pe_str (pe_op op_mod (pv 2) pe_int) (fun _ _ => rfl)) (pe_op op_add pe_int (pe_op op_mod (pe_op op_fdiv (pv 2) pe_int) pe_int))))))) pss_nil)
      (pss_cons (ps_set (i := 3) scLPath.nd rfl (.inl rfl) pe_str)
      (pss_cons (ps_for PassesOwn.never rfl (pi_list (pe_call GO hr (by rfl) gO kO bO .nil pass0 (pa_cons (pv 0) (pa_cons (pv 1) (pa_cons pe_int pa_nil))))) (pg_name (i := 2) scLPath.nd rfl (.inl rfl))
        (C8.pss_cut (ps_set (i := 4) scLPath.nd rfl (.inl rfl) (pe_ix ix_str pe_str (pe_op op_mod (pv 2) pe_int) (fun _ _ => rfl)))
        (C8.pss_cut (ps_if (PW.pt (pw_and (pt_cmpR op_gt (pv 2) pe_int (nomark _)) (pw_and1 (pt_cmpR op_ne (pv 3) pe_str (nomark _))))) (pss_one (ps_set (i := 4) scLPath.nd rfl (.inl rfl) (pe_ix ix_str (pv 3) (pe_op op_sub (pe_callB call_len_str (by rfl) B.len PySem.boot_len (pa_cons (pv 3) pa_nil)) pe_int) (fun _ _ => rfl)))) pss_nil)
        (pss_one (ps_set (i := 3) scLPath.nd rfl (.inl rfl) (pe_op op_add_str (pv 3) (pv 4)))))))
      (pss_one (ps_ret (pv 3))))), ?_⟩
    refine ⟨.int x, rfl, .inl ⟨x, rfl, x, rfl, _, 4, rfl, rfl, (show (0 : Int) < 4 by decide), rfl, _, rfl, ite2 (fun _ => ?_) (fun _ => ?_)⟩⟩
    · refine ⟨⟨_, rfl⟩, .int x, rfl, .int n, rfl, n, 8, rfl, rfl, ⟨by decide, by decide⟩, 1, _, rfl, rfl, x, 1 + (n : Int) / 8, 60, rfl, by omega, by omega, by decide, by decide, fun H1 p xs s1 hp hx hl hb => ?_⟩
      refine ⟨p, rfl, ⟨_, .inl (.inl hx)⟩, fun D hD => ?_⟩
      have hxl : xs.length ≤ 9 := by omega
      refine lc_list (K := K) (xs := xs.map V.int) (fun j H2 => Same H1 H2 ∧ ∃ ls : List (List Nat), ls.length = j ∧ (∀ l ∈ ls, PC l ∧ l.length ≤ 15) ∧ H2 D = some (.lst ((ls.map T).map V.str))) ⟨same_upd hD, [], rfl, (fun c hc => by cases hc), upd_same⟩ (fun j H2 _ h => h.1.seq (.inl (.inl hx))) ?_ ?_
      · rintro j y H2 hjy ⟨s2, ls, hll, hal, hd⟩
        rw [List.getElem?_map] at hjy
        obtain ⟨m, hm, rfl⟩ := Option.map_eq_some_iff.mp hjy
        obtain ⟨g0, g1⟩ := hb m (List.mem_of_getElem? hm)
        have hj : j < xs.length := (List.getElem?_eq_some_iff.mp hm).1
        refine ⟨rfl, ?_⟩
        dsimp only [tYes]
        rw [if_pos rfl]
        obtain ⟨c, hc, hat⟩ := xid (m % 4) (Int.emod_nonneg _ (by decide)) (Int.emod_lt_of_pos _ (by decide))
        have b0 := Int.emod_nonneg (m / 4) (show (15 : Int) ≠ 0 by decide)
        have b1 := Int.emod_lt_of_pos (m / 4) (show (0 : Int) < 15 by decide)
        refine ⟨.int m, rfl, m, 4, rfl, rfl, (show (0 : Int) < 4 by decide), _, _, c, rfl, rfl, by decide, hat, .int m, rfl, m, 4, rfl, rfl, ⟨by decide, by decide⟩, _, 15, rfl, rfl, (show (0 : Int) < 15 by decide), 1, _, rfl, rfl, [c], 1 + m / 4 % 15, rfl, rfl, (show 1 ≤ 100 by decide), by omega, by omega, ?_⟩
        refine ⟨_, hd, line_ok6 (by rw [List.length_map, List.length_map]; omega), fun b o e => ?_, ls ++ [(List.replicate (1 + m / 4 % 15).toNat [c]).flatten], by rw [List.length_append, hll]; rfl, fun l hl => ?_, ?_⟩
        · rw [upd_ne (ne_of_none e hD)]
          exact s2 b o e
        · rcases List.mem_append.mp hl with z | z
          · exact hal l z
          · obtain rfl : l = (List.replicate (1 + m / 4 % 15).toNat [c]).flatten := by simpa using z
            rw [rep_one]
            refine ⟨fun a ha => by rw [List.eq_of_mem_replicate ha]; exact hc, ?_⟩
            rw [List.length_replicate]
            omega
        · rw [upd_same, List.map_append, List.map_append]
          rfl
      · rintro H2 ⟨s2, ls, hll, hal, hd⟩
        rw [List.length_map] at hll
        have hfl : ∀ zs : List (List Nat), (∀ l ∈ zs, PC l ∧ l.length ≤ 15) → PC zs.flatten ∧ zs.flatten.length ≤ 15 * zs.length := fun zs => by
          induction zs with
          | nil => exact fun _ => ⟨fun c hc => (nomatch hc), Nat.le_refl _⟩
          | cons z r ih =>
            intro h
            have h1 := ih fun l hl => h l (List.mem_cons_of_mem _ hl)
            have h2 := h z List.mem_cons_self
            rw [List.flatten_cons]
            refine ⟨h2.1.app h1.1, ?_⟩
            rw [List.length_append, List.length_cons]
            omega
        obtain ⟨f1, f2⟩ := hfl ls hal
        refine ⟨Str.ofString "", D, ls.map T, rfl, rfl, .inl (.inl (.inl hd)), ?_, ?_⟩
        · rw [sum_lens, show (Str.ofString "").length = 0 by decide +kernel]
          omega
        · rw [TL.join_eq, T_nil, join_flat]
          exact q H2 _ (s1.trans s2) f1 (by omega)
    · refine ⟨.int x, rfl, .int n, rfl, x, n, 11, rfl, by omega, by omega, by decide, by decide, fun H1 p xs s1 hp hx hl hb => ?_⟩
      refine ⟨p, rfl, ⟨_, .inl (.inl hx)⟩, ?_⟩
      have hxl : xs.length ≤ 60 := by omega
      have hlm : (xs.map V.int).length = xs.length := List.length_map _
      refine for_list (K := K) (xs := xs.map V.int) (fun i σ H' => H' = H1 ∧ ∃ (l : List Nat) (v2 v4 : Option V), l.length = i ∧ PC l ∧ σ = [some (.int x), some (.int (n : Int)), v2, some (.str (T l)), v4]) ⟨rfl, [], none, none, rfl, (fun c hc => by cases hc), by rw [← T_nil]; rfl⟩ (fun i σ H' _ h => by rw [h.1]; exact .inl (.inl hx)) ?_ ?_
      · rintro i v σ H' hv ⟨rfl, l, v2, v4, hli, pc, rfl⟩
        rw [List.getElem?_map] at hv
        obtain ⟨m, hm, rfl⟩ := Option.map_eq_some_iff.mp hv
        have hi : i < xs.length := (List.getElem?_eq_some_iff.mp hm).1
        refine ⟨fun σ H2 => H2 = H' ∧ ∃ c, (c = 61 ∨ c = 88 ∨ c = 73 ∨ c = 68) ∧ σ = [some (.int x), some (.int (n : Int)), some (.int m), some (.str (T l)), some (.str (T [c]))], ?_, ?_⟩
        · obtain ⟨c, hc, hat⟩ := xid (m % 4) (Int.emod_nonneg _ (by decide)) (Int.emod_lt_of_pos _ (by decide))
          exact ⟨.int m, rfl, m, 4, rfl, rfl, (show (0 : Int) < 4 by decide), _, _, c, rfl, rfl, by decide, hat, rfl, c, hc, rfl⟩
        rintro σ H2 ⟨rfl, c, hc, rfl⟩
        refine ⟨fun σ H3 => H3 = H2 ∧ ∃ c, (c = 61 ∨ c = 88 ∨ c = 73 ∨ c = 68) ∧ σ = [some (.int x), some (.int (n : Int)), some (.int m), some (.str (T l)), some (.str (T [c]))], ?_, ?_⟩
        · refine ⟨_, rfl, _, 6, rfl, rfl, _, rfl, ite2 (fun _ => ?_) (fun _ => ⟨rfl, c, hc, rfl⟩)⟩
          refine ⟨_, rfl, rfl, _, rfl, iteN (fun e => ?_) (fun _ => ⟨rfl, c, hc, rfl⟩)⟩
          have hne : l ≠ [] := fun z => e (by rw [z, ← T_nil])
          have hlp : l.length - 1 < l.length := by
            have := List.length_pos_iff.mpr hne
            omega
          have am := at_T hlp
          have a1 : ((T l).length : Int) - 1 = ((l.length - 1 : Nat) : Int) := by rw [T_len]; omega
          rw [← a1] at am
          exact ⟨_, rfl, _, rfl, T l, rfl, line_ok (by rw [T_len]; omega), _, 1, rfl, rfl, T l, _, _, rfl, rfl, line_ok (by rw [T_len]; omega), am, rfl, _, pc _ (List.getElem_mem hlp), rfl⟩
        rintro σ H3 ⟨rfl, c, hc, rfl⟩
        refine ⟨_, rfl, _, rfl, T l, T [c], rfl, rfl, line_ok (by rw [T_len, T_len, List.length_singleton]; omega), rfl, l ++ [c], some (.int m), some (.str (T [c])), by rw [List.length_append, hli]; rfl, pc.app (PC.one hc), by rw [← T_app]; rfl⟩
      · rintro σ H' ⟨rfl, l, v2, v4, hli, pc, rfl⟩
        exact ⟨_, rfl, q H' l s1 pc (by omega)⟩
def spLTexts : Sp := fun vs H Q _ => ∃ (l : List Nat) (x : Int), vs = [.str (T l), .int x] ∧ l.length ≤ 1000 ∧ PC l ∧ ∀ (H' : Hp) (z : Addr) (r t : List Nat), Same H H' → H' z = some (.tup [.str (T r), .str (T t)]) → r.length ≤ 1000 → t.length ≤ 1000 → fitB r t l = true → Q (.ref z) H'
theorem ok_ltexts {f : Addr} {fd : FuncData} (F : Fun K "_law_texts" "_law_texts" sLTexts f fd) (B : Bl mg) (hO : Has P w K mg base 2 "_law_row" ["cell", "count", "bound"] (spRow K)) : FnOk P w K mg base CX0 3 f fd ["path", "cell"] spLTexts := by
  obtain ⟨fO, dO, GO, gO, kO, bO⟩ := hO
  refine F.ok scLTexts (fun vs H Q E h => ?_) (fun cdv A outer s H vs Q E hr h => ?_)
  · obtain ⟨l, x, rfl, _⟩ := h
    rfl
  · obtain ⟨l, x, rfl, hl, pc, q⟩ := h
    refine ⟨_, pss_cons (ps_set (i := 2) scLTexts.nd rfl (.inl rfl) pe_str)
      (pss_cons (ps_set (i := 3) scLTexts.nd rfl (.inl rfl) pe_str)
      (pss_cons (ps_set (i := 4) scLTexts.nd rfl (.inl rfl) (pe_call GO hr (by rfl) gO kO bO .nil pass0 (pa_cons (pv 1) (pa_cons (pe_callB call_len_str (by rfl) B.len PySem.boot_len (pa_cons (pv 0) pa_nil)) (pa_cons pe_int pa_nil)))))
      (pss_cons (ps_for PassesOwn.never rfl (pi_range1 rfl B.range (pa_cons (pe_callB call_len_str (by rfl) B.len PySem.boot_len (pa_cons (pv 0) pa_nil)) pa_nil)) (pg_name (i := 5) scLTexts.nd rfl (.inl rfl))
        (pss_cons (ps_set (i := 6) scLTexts.nd rfl (.inl rfl) (pe_ix ix_str pe_str (pe_op op_mod (pe_ix ix_list (pv 4) (pv 5) (fun _ _ => rfl)) pe_int) (fun _ _ => rfl)))
        (pss_cons (ps_set (i := 7) scLTexts.nd rfl (.inl rfl) (pe_ix ix_str pe_str (pe_op op_mod (pe_op op_add (pe_op op_add (pe_op op_mod (pe_ix ix_list (pv 4) (pv 5) (fun _ _ => rfl)) pe_int) pe_int) (pe_op op_mod (pe_op op_fdiv (pe_ix ix_list (pv 4) (pv 5) (fun _ _ => rfl)) pe_int) pe_int)) pe_int) (fun _ _ => rfl)))
        (C8.pss_cut (ps_if (pt_cmpR op_eq (pe_ix ix_str (pv 0) (pv 5) (fun _ _ => rfl)) pe_str (nomark _)) (pss_one (ps_set (i := 7) scLTexts.nd rfl (.inl rfl) (pv 6))) pss_nil)
        (C8.pss_cut (ps_if (pt_cmpR op_ne (pe_ix ix_str (pv 0) (pv 5) (fun _ _ => rfl)) pe_str (nomark _)) (pss_one (ps_set (i := 2) scLTexts.nd rfl (.inl rfl) (pe_op op_add_str (pv 2) (pv 6)))) pss_nil)
        (pss_one (ps_if (pt_cmpR op_ne (pe_ix ix_str (pv 0) (pv 5) (fun _ _ => rfl)) pe_str (nomark _)) (pss_one (ps_set (i := 3) scLTexts.nd rfl (.inl rfl) (pe_op op_add_str (pv 3) (pv 7)))) pss_nil)))))))
      (pss_one (ps_ret (pe_tup (pa_cons (pv 2) (pa_cons (pv 3) pa_nil)))))))), ?_⟩
    have hz : (T l).length ≤ sizeLine := line_ok (by rw [T_len]; omega)
    refine ⟨.int x, rfl, .str (T l), rfl, T l, rfl, hz, x, ((T l).length : Nat), 20, rfl, by omega, by rw [T_len]; omega, by decide, by decide, fun H1 p xs s1 hp hx hxl hb => ?_⟩
    rw [T_len, Int.toNat_natCast] at hxl
    refine ⟨.str (T l), rfl, T l, rfl, hz, _, rfl, by rw [T_len]; omega, by rw [T_len]; omega, ?_⟩
    rw [T_len, Int.toNat_natCast]
    refine for_range (lo := 0) (n := l.length) (fun i σ H' => H' = H1 ∧ ∃ (r t : List Nat) (v5 v6 v7 : Option V), r.length ≤ i ∧ t.length ≤ i ∧ i ≤ l.length ∧ (∀ r' t' p', wk (r ++ r') (t ++ t') (l.take i ++ p') 0 0 = wk (r ++ r') (t ++ t') p' r.length t.length) ∧
      σ = [some (.str (T l)), some (.int x), some (.str (T r)), some (.str (T t)), some (.ref p), v5, v6, v7]) ⟨rfl, [], [], none, none, none, Nat.le_refl _, Nat.le_refl _, Nat.zero_le _, (fun _ _ _ => rfl), by rw [← T_nil]; rfl⟩ ?_ ?_
    · rintro i σ H' hi ⟨rfl, r, t, v5, v6, v7, hrl, htl, _, hw, rfl⟩
      have a0 : (0 : Int) + (i : Nat) = (i : Nat) := by omega
      have ai := at_T hi
      have hix : i < xs.length := by omega
      obtain ⟨g0, g1⟩ := hb xs[i] (List.getElem_mem hix)
      obtain ⟨n, hn⟩ : ∃ n : Nat, xs[i] = (n : Int) := ⟨xs[i].toNat, by omega⟩
      obtain ⟨e, o, he, hoe, at1, at2⟩ := letts n (by omega)
      have ax : atI (xs.map V.int) (i : Nat) = some (.int (n : Int)) := by rw [← hn]; exact atI_nat (map_int_at hix)
      rw [← a0] at ai ax
      have hS : SqL K H' p (xs.map V.int) := .inl (.inl hx)
      have hcc := pc l[i] (List.getElem_mem hi)
      have htk : l.take (i + 1) = l.take i ++ [l[i]] := by rw [List.take_add_one, List.getElem?_eq_getElem hi]; rfl
      generalize hxc : l[i] = c at *
      refine ⟨.ref p, rfl, .int (0 + (i : Nat)), rfl, p, _, _, _, rfl, rfl, hS, ax, _, 4, rfl, rfl, (show (0 : Int) < 4 by decide), _, _, e, rfl, rfl, by decide, at1, ?_⟩
      refine ⟨.ref p, rfl, .int (0 + (i : Nat)), rfl, p, _, _, _, rfl, rfl, hS, ax, _, 4, rfl, rfl, (show (0 : Int) < 4 by decide), _, 1, rfl, rfl, .ref p, rfl, .int (0 + (i : Nat)), rfl, p, _, _, _, rfl, rfl, hS, ax, _, 4, rfl, rfl, ⟨by decide, by decide⟩, _, 3, rfl, rfl, (show (0 : Int) < 3 by decide), _, _, rfl, rfl, _, 5, rfl, rfl, (show (0 : Int) < 5 by decide), _, _, o, rfl, rfl, by decide, at2, ?_⟩
      refine ⟨fun σ H2 => H2 = H' ∧ ∃ o', (c = 61 → o' = e) ∧ (c ≠ 61 → o' ≠ e) ∧ σ = [some (.str (T l)), some (.int x), some (.str (T r)), some (.str (T t)), some (.ref p), some (.int (0 + (i : Nat))), some (.str (T [e])), some (.str (T [o']))], ?_, ?_⟩
      · refine ⟨_, rfl, _, rfl, T l, _, _, rfl, rfl, hz, ai, rfl, _, rfl, ite2 (fun z => ?_) (fun z => ?_)⟩
        · have e3 : c = 61 := (one_eq tE).mp (of_decide_eq_true z)
          exact ⟨_, rfl, rfl, e, fun _ => rfl, fun h => absurd e3 h, rfl⟩
        · exact ⟨rfl, o, fun h => absurd (decide_eq_true ((one_eq tE).mpr h)) z, fun _ => hoe, rfl⟩
      rintro σ H2 ⟨rfl, o', ho1, ho2, rfl⟩
      refine ⟨fun σ H3 => H3 = H2 ∧ σ = [some (.str (T l)), some (.int x), some (.str (T (if c = 68 then r else r ++ [e]))), some (.str (T t)), some (.ref p), some (.int (0 + (i : Nat))), some (.str (T [e])), some (.str (T [o']))], ?_, ?_⟩
      · refine ⟨_, rfl, _, rfl, T l, _, _, rfl, rfl, hz, ai, rfl, _, rfl, iteN (fun z => ?_) (fun z => ?_)⟩
        · rw [if_neg (fun h => z ((one_eq tD).mpr h)), ← T_app]
          exact ⟨_, rfl, _, rfl, T r, T [e], rfl, rfl, line_ok (by rw [T_len, T_len, List.length_singleton]; omega), rfl, rfl⟩
        · rw [if_pos ((one_eq tD).mp z)]
          exact ⟨rfl, rfl⟩
      rintro σ H3 ⟨rfl, rfl⟩
      have step : ∀ r' t' p', wk ((if c = 68 then r else r ++ [e]) ++ r') ((if c = 73 then t else t ++ [o']) ++ t') (l.take (i + 1) ++ p') 0 0 = wk ((if c = 68 then r else r ++ [e]) ++ r') ((if c = 73 then t else t ++ [o']) ++ t') p' (if c = 68 then r else r ++ [e]).length (if c = 73 then t else t ++ [o']).length := by
        intro r' t' p'
        rw [htk, List.append_assoc]
        show wk _ _ (l.take i ++ c :: p') 0 0 = _
        by_cases h68 : c = 68
        · rw [if_pos h68, if_neg (by omega)]
          have e5 := hw r' ([o'] ++ t') (c :: p')
          rw [← List.append_assoc] at e5
          rw [e5, wk_cons, if_neg (by omega), if_pos h68, List.length_append]
          rfl
        · by_cases h73 : c = 73
          · rw [if_neg h68, if_pos h73]
            have e5 := hw ([e] ++ r') t' (c :: p')
            rw [← List.append_assoc] at e5
            rw [e5, wk_cons, if_pos h73, List.length_append]
            rfl
          · rw [if_neg h68, if_neg h73]
            have e5 := hw ([e] ++ r') ([o'] ++ t') (c :: p')
            rw [← List.append_assoc, ← List.append_assoc] at e5
            have gr : (r ++ [e] ++ r').getD r.length 0 = e := by
              rw [List.getD_eq_getElem?_getD, List.append_assoc, List.getElem?_append_right (Nat.le_refl _), Nat.sub_self]
              rfl
            have gt : (t ++ [o'] ++ t').getD t.length 0 = o' := by
              rw [List.getD_eq_getElem?_getD, List.append_assoc, List.getElem?_append_right (Nat.le_refl _), Nat.sub_self]
              rfl
            have hst : c = pst e o' := by
              unfold pst agB
              by_cases h61 : c = 61
              · rw [ho1 h61, decide_eq_true rfl, decide_eq_true (by omega)]
                exact h61
              · rw [decide_eq_false (fun z => ho2 h61 z.symm)]
                show c = 88
                omega
            rw [e5, wk_cons, if_neg h73, if_neg h68, if_pos ⟨by simp only [List.length_append, List.length_singleton]; omega, by simp only [List.length_append, List.length_singleton]; omega, by rw [gr, gt]; exact hst⟩, List.length_append, List.length_append]
            rfl
      have hr2 : (if c = 68 then r else r ++ [e]).length ≤ i + 1 := by
        split
        · omega
        · rw [List.length_append, List.length_singleton]
          omega
      have ht2 : (if c = 73 then t else t ++ [o']).length ≤ i + 1 := by
        split
        · omega
        · rw [List.length_append, List.length_singleton]
          omega
      refine ⟨_, rfl, _, rfl, T l, _, _, rfl, rfl, hz, ai, rfl, _, rfl, iteN (fun z => ?_) (fun z => ?_)⟩
      · have h73 : ¬ c = 73 := fun h => z ((one_eq tI).mpr h)
        rw [if_neg h73] at step ht2
        refine ⟨_, rfl, _, rfl, T t, T [o'], rfl, rfl, line_ok (by rw [T_len, T_len, List.length_singleton]; omega), rfl, _, t ++ [o'], some (.int (0 + (i : Nat))), some (.str (T [e])), some (.str (T [o'])), hr2, ht2, hi, step, ?_⟩
        rw [← T_app]
        rfl
      · have h73 : c = 73 := (one_eq tI).mp z
        rw [if_pos h73] at step ht2
        exact ⟨rfl, _, t, some (.int (0 + (i : Nat))), some (.str (T [e])), some (.str (T [o'])), hr2, ht2, hi, step, rfl⟩
    · rintro σ H' ⟨rfl, r, t, v5, v6, v7, hrl, htl, _, hw, rfl⟩
      have e := hw [] [] []
      rw [List.append_nil, List.append_nil, List.append_nil, List.take_length, wk_nil] at e
      exact ⟨_, rfl, _, rfl, by show 2 ≤ sizeLine; decide, fun z hz => q _ z r t (s1.trans (same_upd hz)) upd_same (by omega) (by omega) (by unfold fitB; rw [e]; exact decide_eq_true rfl)⟩
end
theorem cut_some (l : List Nat) (lo hi : Option Int) : ∃ m : List Nat, cutS (T l) lo hi = T m ∧ (∀ c ∈ m, c ∈ l) ∧ m.length ≤ l.length := by
  refine ⟨_, rfl, fun c hc => List.mem_of_mem_drop (List.mem_of_mem_take hc), ?_⟩
  rw [List.length_take, List.length_drop, T_list]
  omega
/-- within a run that begins at b, at the place i -/
structure RI (l : List Nat) (b i : Nat) : Prop where
  le : b ≤ i
  top : i ≤ l.length
  fin : i = l.length → b = l.length
  all : ∀ j, b ≤ j → j ≤ i → l[j]? = l[b]?
  last : i < l.length → (l.take b).getLast? ≠ l[b]?
theorem RI.zero (l : List Nat) : RI l 0 0 := ⟨Nat.le_refl _, Nat.zero_le _, fun e => e, fun j h1 h2 => by rw [show j = 0 by omega], fun h => by
  rw [List.take_zero, List.getElem?_eq_getElem h]
  exact fun z => nomatch z⟩
theorem RI.ends {l : List Nat} {b i : Nat} (R : RI l b i) (hi : i < l.length) (hb : b < l.length) (hne : i + 1 < l.length → l[i + 1]? ≠ l[b]?) : rns (l.take (i + 1)) = rns (l.take b) ++ [(l[b], i + 1 - b)] ∧ RI l (i + 1) (i + 1) := by
  have hrep : l.take (i + 1) = l.take b ++ List.replicate (i + 1 - b) l[b] := by
    refine List.ext_getElem? fun j => ?_
    have := R.le
    rw [List.getElem?_take]
    by_cases hj : j < b
    · rw [if_pos (by omega), List.getElem?_append_left (by rw [List.length_take]; omega), List.getElem?_take, if_pos hj]
    · rw [List.getElem?_append_right (by rw [List.length_take]; omega), List.length_take, Nat.min_eq_left (by omega), List.getElem?_replicate]
      by_cases hj2 : j < i + 1
      · rw [if_pos hj2, if_pos (by omega), R.all j (by omega) (by omega), List.getElem?_eq_getElem hb]
      · rw [if_neg hj2, if_neg (by omega)]
  have hle := R.le
  refine ⟨?_, Nat.le_refl _, hi, fun e => e, fun j h1 h2 => by rw [show j = i + 1 by omega], fun h => ?_⟩
  · rw [hrep, rns_snoc (by omega) _ (by rw [← List.getElem?_eq_getElem hb]; exact R.last hi)]
  · rw [hrep]
    have e1 : (l.take b ++ List.replicate (i + 1 - b) l[b]).getLast? = some l[b] := by
      rw [show i + 1 - b = (i - b) + 1 by omega, List.replicate_succ', ← List.append_assoc, List.getLast?_append]
      rfl
    rw [e1, ← List.getElem?_eq_getElem hb]
    exact fun z => hne h z.symm
theorem RI.goes {l : List Nat} {b i : Nat} (R : RI l b i) (hi : i + 1 < l.length) (h : l[i + 1]? = l[b]?) : RI l b (i + 1) := ⟨Nat.le_succ_of_le R.le, Nat.le_of_lt hi, fun z => absurd z (by omega), fun j h1 h2 => by
  by_cases hj : j ≤ i
  · exact R.all j h1 hj
  · rw [show j = i + 1 by omega, h], fun _ => R.last (by omega)⟩
section
variable {P : Program} {w : World} {K : PySem.W.Frag} {mg : Str → Option Value} {base : Heap}
def spLCut : Sp := fun vs H Q _ => ∃ l : List Nat, vs = [.str (T l)] ∧ l.length ≤ 10000 ∧ Q (.str (T (flat (rns l)))) H
def rStrN : List V → Hp → VK → Prop := fun xs H Q => ∃ n : Nat, xs = [.int (n : Int)] ∧ n < 10 ^ 9 ∧ Q (.str (T (TL.numL n))) H
theorem call_strN {X : Cx} : CallR X (.type "str") rStrN := by
  intro pins s σ H xs us Q I r h
  obtain ⟨n, e, hn, q⟩ := h
  exact call_str_int pins s σ H xs us Q I r ⟨n, e, log_ok hn, by rw [← num_T] at q; exact q⟩
theorem flat_app (a b : List (Nat × Nat)) : flat (a ++ b) = flat a ++ flat b := by
  unfold flat
  rw [List.map_append, List.flatten_append]
theorem ok_lcut {f : Addr} {fd : FuncData} {k : Nat} (F : Fun K "_law_cut" "_law_cut" sLCut f fd) (B : Bl mg) : FnOk P w K mg base CX0 (k + 1) f fd ["path"] spLCut := by
  refine F.ok scLCut (fun vs H Q E h => ?_) (fun cdv A outer s H vs Q E hr h => ?_)
  · obtain ⟨l, rfl, _⟩ := h
    rfl
  · obtain ⟨l, rfl, hl, q⟩ := h
    refine ⟨_, pss_cons (ps_set (i := 1) scLCut.nd rfl (.inl rfl) pe_str)
      (pss_cons (ps_set (i := 2) scLCut.nd rfl (.inl rfl) pe_int)
      (pss_cons (ps_for PassesOwn.never rfl (pi_range1 rfl B.range (pa_cons (pe_callB call_len_str (by rfl) B.len PySem.boot_len (pa_cons (pv 0) pa_nil)) pa_nil)) (pg_name (i := 3) scLCut.nd rfl (.inl rfl))
        (C8.pss_cut (ps_set (i := 2) scLCut.nd rfl (.inl rfl) (pe_op op_add (pv 2) pe_int))
        (pss_one (ps_if (PW.pt (pw_or (pt_cmpR op_eq (pe_op op_add (pv 3) pe_int) (pe_callB call_len_str (by rfl) B.len PySem.boot_len (pa_cons (pv 0) pa_nil)) (nomark _)) (pw_or1 (pt_cmpR op_ne (pe_ix ix_str (pv 0) (pe_op op_add (pv 3) pe_int) (fun _ _ => rfl)) (pe_ix ix_str (pv 0) (pv 3) (fun _ _ => rfl)) (nomark _)))))
          (pss_cons (ps_set (i := 1) scLCut.nd rfl (.inl rfl) (pe_op op_add_str (pe_op op_add_str (pv 1) (pe_callTy call_strN (by rfl) B.str (by decide +kernel) (pa_cons (pv 2) pa_nil))) (pe_ix ix_str (pv 0) (pv 3) (fun _ _ => rfl))))
          (pss_one (ps_set (i := 2) scLCut.nd rfl (.inl rfl) pe_int))) pss_nil))))
      (pss_one (ps_ret (pv 1))))), ?_⟩
    have hz : (T l).length ≤ sizeLine := line_ok (by rw [T_len]; omega)
    have h10 : ∀ b, ∀ r ∈ rns (l.take b), r.2 < 10 ^ 9 := fun b r hr => by
      have h1 := (rns_mem hr).2.2
      rw [List.length_take] at h1
      exact Nat.lt_of_le_of_lt h1 (Nat.lt_of_le_of_lt (Nat.le_trans (Nat.min_le_right _ _) hl) (by decide))
    have hfl : ∀ b, (flat (rns (l.take b))).length ≤ 100000 := fun b => by
      have h1 := flat_le _ (h10 b)
      have h2 := rns_len (l.take b)
      rw [List.length_take] at h2
      omega
    refine ⟨.str (T l), rfl, T l, rfl, hz, _, rfl, by rw [T_len]; omega, by rw [T_len]; omega, ?_⟩
    rw [T_len, Int.toNat_natCast]
    refine for_range (lo := 0) (n := l.length) (fun i σ H' => H' = H ∧ ∃ (b : Nat) (v3 : Option V), RI l b i ∧ σ = [some (.str (T l)), some (.str (T (flat (rns (l.take b))))), some (.int ((i - b : Nat) : Int)), v3]) ⟨rfl, 0, none, RI.zero l, by rw [List.take_zero]; show _ = [_, some (V.str (T [])), _, _]; rw [← T_nil]; rfl⟩ ?_ ?_
    · rintro i σ H' hi ⟨rfl, b, v3, R, rfl⟩
      have hbi := R.le
      have hb : b < l.length := by omega
      have a0 : (0 : Int) + (i : Nat) = (i : Nat) := by omega
      have ai := at_T hi
      rw [← a0] at ai
      have elb : l[i] = l[b] := by
        have := R.all i hbi (Nat.le_refl _)
        rw [List.getElem?_eq_getElem hi, List.getElem?_eq_getElem hb] at this
        exact Option.some.inj this
      have ec : ((i - b : Nat) : Int) + 1 = ((i + 1 - b : Nat) : Int) := by omega
      have hm9 : i + 1 - b < 10 ^ 9 := Nat.lt_of_le_of_lt (show i + 1 - b ≤ 10000 by omega) (by decide)
      have hml : (TL.numL (i + 1 - b)).length ≤ 9 := TL.numL_len (by decide) hm9
      refine ⟨fun σ H2 => H2 = H' ∧ σ = [some (.str (T l)), some (.str (T (flat (rns (l.take b))))), some (.int ((i + 1 - b : Nat) : Int)), some (.int (0 + (i : Nat)))], ⟨_, rfl, _, 1, rfl, rfl, rfl, by rw [← ec]; rfl⟩, ?_⟩
      rintro σ H2 ⟨rfl, rfl⟩
      have fin : (i + 1 < l.length → l[i + 1]? ≠ l[b]?) → ∃ (b' : Nat) (v3 : Option V), RI l b' (i + 1) ∧ [some (V.str (T l)), some (.str (T (flat (rns (l.take b))) ++ T (TL.numL (i + 1 - b)) ++ ⟨#[l[i]]⟩)), some (.int 0), some (.int (0 + (i : Nat)))] = [some (V.str (T l)), some (.str (T (flat (rns (l.take b'))))), some (.int ((i + 1 - b' : Nat) : Int)), v3] := fun hne => by
        obtain ⟨e1, R2⟩ := R.ends hi hb hne
        refine ⟨i + 1, some (.int (0 + (i : Nat))), R2, ?_⟩
        rw [e1, flat_app, elb, Nat.sub_self]
        show _ = [_, some (V.str (T (flat (rns (l.take b)) ++ (TL.numL (i + 1 - b) ++ [l[b]] ++ [])))), _, _]
        rw [List.append_nil, ← List.append_assoc, ← T_app, ← T_app]
        rfl
      have s1 : (T (flat (rns (l.take b)))).length + (T (TL.numL (i + 1 - b))).length ≤ sizeLine := line_ok6 (by rw [T_len, T_len]; have := hfl b; omega)
      have s2 : (T (flat (rns (l.take b))) ++ T (TL.numL (i + 1 - b))).length + (⟨#[l[i]]⟩ : Str).length ≤ sizeLine := line_ok6 (by rw [T_app, T_len, List.length_append]; have := hfl b; show _ + 1 ≤ _; omega)
      refine ⟨_, rfl, _, 1, rfl, rfl, _, rfl, T l, rfl, hz, rfl, _, rfl, ite2 (fun e => ?_) (fun e => ?_)⟩
      · have hie : i + 1 = l.length := by
          have := V.int.inj (of_decide_eq_true e)
          rw [T_len] at this
          omega
        exact ⟨_, rfl, _, rfl, i + 1 - b, rfl, hm9, _, _, rfl, rfl, s1, _, rfl, _, rfl, T l, _, _, rfl, rfl, hz, ai, _, _, rfl, rfl, s2, rfl, fin (fun h => absurd h (by omega))⟩
      · have hie : i + 1 < l.length := by
          have : ¬ ((0 : Int) + (i : Nat) + 1 = ((T l).length : Nat)) := fun z => e (decide_eq_true (congrArg V.int z))
          rw [T_len] at this
          omega
        have a1 := at_T hie
        rw [show (((i + 1 : Nat)) : Int) = 0 + (i : Nat) + 1 by omega] at a1
        refine ⟨_, rfl, _, rfl, _, 1, rfl, rfl, T l, _, _, rfl, rfl, hz, a1, _, rfl, _, rfl, T l, _, _, rfl, rfl, hz, ai, rfl, _, rfl, iteN (fun e2 => ?_) (fun e2 => ?_)⟩
        · have e3 : l[i + 1] ≠ l[b] := fun z => e2 (by rw [z, elb])
          exact ⟨_, rfl, _, rfl, i + 1 - b, rfl, hm9, _, _, rfl, rfl, s1, _, rfl, _, rfl, T l, _, _, rfl, rfl, hz, ai, _, _, rfl, rfl, s2, rfl, fin (fun h => by rw [List.getElem?_eq_getElem hie, List.getElem?_eq_getElem hb]; exact fun z => e3 (Option.some.inj z))⟩
        · have e3 : l[i + 1] = l[i] := (one_eq rfl).mp e2
          exact ⟨rfl, b, some (.int (0 + (i : Nat))), R.goes hie (by rw [List.getElem?_eq_getElem hie, List.getElem?_eq_getElem hb, e3, elb]), rfl⟩
    · rintro σ H' ⟨rfl, b, v3, R, rfl⟩
      rw [R.fin rfl, List.take_length]
      exact ⟨_, rfl, q⟩
theorem tA : Str.ofString "A" = T [65] := by decide +kernel
def NL : List Str := ["script", "first", "path", "costs", "told", "read", "text", "x", "at", "kind"]
theorem scLaw : FnScope NL ["script"] (defScope sLaw) := ⟨rfl, rfl, rfl, by decide +kernel, rfl, by decide +kernel, by decide +kernel⟩
theorem at_some {s : Str} {n : Nat} (hn : s.cps.toList.length = n) (x : Int) (h : 0 < (n : Int)) : ∃ c, atI s.cps.toList (x % (n : Int)) = some c := by
  have h0 := Int.emod_nonneg x (show (n : Int) ≠ 0 by omega)
  have h1 := Int.emod_lt_of_pos x h
  obtain ⟨m, hm⟩ : ∃ m : Nat, x % (n : Int) = (m : Int) := ⟨(x % (n : Int)).toNat, by omega⟩
  rw [hm]
  exact ⟨_, atI_nat (List.getElem?_eq_getElem (show m < s.cps.toList.length by omega))⟩
def spLaw (K : PySem.W.Frag) : Sp := fun vs H Q _ => ∃ (a : Addr) (ns : List Int), vs = [.ref a] ∧ SqL K H a (ns.map V.int) ∧ ∀ H', Q (.bl true) H'
theorem ok_law {f : Addr} {fd : FuncData} (F : Fun K "law" "law" sLaw f fd) (B : Bl mg)
    (hC : Has P w K mg base 3 "_law_cell" ["script", "k"] (spCell K)) (hI : Has P w K mg base 3 "_law_integer" ["value"] spInteger) (hLP : Has P w K mg base 3 "_law_path" ["cell", "size"] spLPath) (hLC : Has P w K mg base 3 "_law_costs" ["cell"] spLCosts)
    (hPC : Has P w K mg base 3 "path_cost" ["path", "costs"] (spPCost K)) (hPr : Has P w K mg base 3 "_law_priced" ["path", "costs"] (spPriced K)) (hCu : Has P w K mg base 3 "cut" ["path"] spCut) (hLu : Has P w K mg base 3 "_law_cut" ["path"] spLCut)
    (hJ : Has P w K mg base 3 "joined_path" ["cut_path"] spJPath) (hT : Has P w K mg base 3 "_law_texts" ["path", "cell"] spLTexts) (hF : Has P w K mg base 3 "fits" ["read", "text", "path"] spFits) (hW : Has P w K mg base 3 "_law_walks" ["read", "piece", "path"] spWalks) : FnOk P w K mg base CX0 4 f fd ["script"] (spLaw K) := by
  obtain ⟨fC, dC, GC, gC, kC, bC⟩ := hC
  obtain ⟨fI, dI', GI, gI, kI, bI⟩ := hI
  obtain ⟨fLP, dLP, GLP, gLP, kLP, bLP⟩ := hLP
  obtain ⟨fLC, dLC, GLC, gLC, kLC, bLC⟩ := hLC
  obtain ⟨fPC, dPC, GPC, gPC, kPC, bPC⟩ := hPC
  obtain ⟨fPr, dPr, GPr, gPr, kPr, bPr⟩ := hPr
  obtain ⟨fCu, dCu, GCu, gCu, kCu, bCu⟩ := hCu
  obtain ⟨fLu, dLu, GLu, gLu, kLu, bLu⟩ := hLu
  obtain ⟨fJ, dJ, GJ, gJ, kJ, bJ⟩ := hJ
  obtain ⟨fT, dT', GT, gT, kT, bT⟩ := hT
  obtain ⟨fF, dF, GF, gF, kF, bF⟩ := hF
  obtain ⟨fW, dW, GW, gW, kW, bW⟩ := hW
  refine F.ok scLaw (fun vs H Q E h => ?_) (fun cdv A outer s H vs Q E hr h => ?_)
  · obtain ⟨c, ns, rfl, _⟩ := h
    rfl
  · obtain ⟨a, ns, rfl, hsq, q⟩ := h
    refine ⟨_, C8.pss_cut (ps_set (i := 1) scLaw.nd rfl (.inl rfl) (pe_call GC hr (by rfl) gC kC bC .nil pass0 (pa_cons (pv 0) (pa_cons pe_int pa_nil))))
      (C8.pss_cut (ps_set (i := 2) scLaw.nd rfl (.inl rfl) (pe_call GLP hr (by rfl) gLP kLP bLP .nil pass0 (pa_cons (pe_call GC hr (by rfl) gC kC bC .nil pass0 (pa_cons (pv 0) (pa_cons pe_int pa_nil))) (pa_cons (pe_op op_mod (pv 1) pe_int) pa_nil))))
      (C8.pss_cut (ps_set (i := 3) scLaw.nd rfl (.inl rfl) (pe_call GLC hr (by rfl) gLC kLC bLC .nil pass0 (pa_cons (pe_call GC hr (by rfl) gC kC bC .nil pass0 (pa_cons (pv 0) (pa_cons pe_int pa_nil))) pa_nil)))
      (pss_cons (ps_set (i := 4) scLaw.nd rfl (.inl rfl) (pe_call GPC hr (by rfl) gPC kPC bPC .nil pass0 (pa_cons (pv 2) (pa_cons (pv 3) pa_nil))))
      (C8.pss_cut (ps_if (PW.pt (pw_or (pt_not (pt_val (pe_call GI hr (by rfl) gI kI bI .nil pass0 (pa_cons (pv 4) pa_nil)))) (pw_or1 (pt_cmpR op_ne (pv 4) (pe_call GPr hr (by rfl) gPr kPr bPr .nil pass0 (pa_cons (pv 2) (pa_cons (pv 3) pa_nil))) (nomark _))))) (pss_one (ps_ret pe_bl)) pss_nil)
      (C8.pss_cut (ps_if (PW.pt (pw_or (pt_cmpR op_ne (pe_call GCu hr (by rfl) gCu kCu bCu .nil pass0 (pa_cons (pv 2) pa_nil)) (pe_call GLu hr (by rfl) gLu kLu bLu .nil pass0 (pa_cons (pv 2) pa_nil)) (nomark _)) (pw_or1 (pt_cmpR op_ne (pe_call GJ hr (by rfl) gJ kJ bJ .nil pass0 (pa_cons (pe_call GCu hr (by rfl) gCu kCu bCu .nil pass0 (pa_cons (pv 2) pa_nil)) pa_nil)) (pv 2) (nomark _))))) (pss_one (ps_ret pe_bl)) pss_nil)
      (C8.pss_cut (ps_asg (pe_call GT hr (by rfl) gT kT bT .nil pass0 (pa_cons (pv 2) (pa_cons (pe_call GC hr (by rfl) gC kC bC .nil pass0 (pa_cons (pv 0) (pa_cons pe_int pa_nil))) pa_nil))) (pg_tup rfl (pgs_cons (pg_name (i := 5) scLaw.nd rfl (.inl rfl)) (pgs_cons (pg_name (i := 6) scLaw.nd rfl (.inl rfl)) pgs_nil))))
      (C8.pss_cut (ps_if (PW.pt (pw_or (pt_not (pt_val (pe_callB call_isi (by rfl) B.isin (by decide +kernel) (pa_cons (pe_call GF hr (by rfl) gF kF bF .nil pass0 (pa_cons (pv 5) (pa_cons (pv 6) (pa_cons (pv 2) pa_nil)))) (pa_cons (pe_bltn (v := .ty "bool") (by rfl) B.bool (by decide +kernel) rfl) pa_nil))))) (pw_or1 (pt_not (pt_val (pe_call GF hr (by rfl) gF kF bF .nil pass0 (pa_cons (pv 5) (pa_cons (pv 6) (pa_cons (pv 2) pa_nil))))))))) (pss_one (ps_ret pe_bl)) pss_nil)
      (C8.pss_cut (ps_set (i := 7) scLaw.nd rfl (.inl rfl) (pe_call GC hr (by rfl) gC kC bC .nil pass0 (pa_cons (pv 0) (pa_cons pe_int pa_nil))))
      (C8.pss_cut (ps_set (i := 8) scLaw.nd rfl (.inl rfl) (pe_op op_mod (pe_op op_fdiv (pv 7) pe_int) (pe_op op_add (pe_callB call_len_str (by rfl) B.len PySem.boot_len (pa_cons (pv 2) pa_nil)) pe_int)))
      (C8.pss_cut (ps_set (i := 9) scLaw.nd rfl (.inl rfl) (pe_op op_mod (pv 7) pe_int))
      (C8.pss_cut (ps_if (pt_cmpR op_eq (pv 9) pe_int (nomark _)) (pss_one (ps_set (i := 2) scLaw.nd rfl (.inl rfl) (pe_op op_add_str (pe_op op_add_str (pe_slice sl_str (pv 2) po_none (po_some (pv 8))) (pe_ix ix_str pe_str (pe_op op_mod (pe_op op_fdiv (pv 7) pe_int) pe_int) (fun _ _ => rfl))) (pe_slice sl_str (pv 2) (po_some (pe_op op_add (pv 8) pe_int)) po_none))))
        (pss_one (ps_if (pt_cmpR op_eq (pv 9) pe_int (nomark _)) (pss_one (ps_set (i := 2) scLaw.nd rfl (.inl rfl) (pe_op op_add_str (pe_slice sl_str (pv 2) po_none (po_some (pv 8))) (pe_slice sl_str (pv 2) (po_some (pe_op op_add (pv 8) pe_int)) po_none))))
        (pss_one (ps_if (pt_cmpR op_eq (pv 9) pe_int (nomark _)) (pss_one (ps_set (i := 2) scLaw.nd rfl (.inl rfl) (pe_op op_add_str (pv 2) (pe_ix ix_str pe_str (pe_op op_mod (pe_op op_fdiv (pv 7) pe_int) pe_int) (fun _ _ => rfl)))))
        (pss_one (ps_if (pt_cmpR op_eq (pv 9) pe_int (nomark _)) (pss_one (ps_set (i := 5) scLaw.nd rfl (.inl rfl) (pe_op op_add_str (pv 5) pe_str)))
        (pss_one (ps_if (pt_cmpR op_eq (pv 9) pe_int (nomark _)) (pss_one (ps_set (i := 6) scLaw.nd rfl (.inl rfl) (pe_slice sl_str (pv 6) (po_some pe_int) po_none)))
        (pss_one (ps_if (PW.pt (pw_and (pt_cmpR op_eq (pv 9) pe_int (nomark _)) (pw_and1 (pt_cmpR op_gt (pe_callB call_len_str (by rfl) B.len PySem.boot_len (pa_cons (pv 5) pa_nil)) pe_int (nomark _)))))
          (pss_one (ps_set (i := 5) scLaw.nd rfl (.inl rfl) (pe_op op_add_str (pe_op op_add_str (pe_slice sl_str (pv 5) po_none (po_some (pe_op op_mod (pv 8) (pe_callB call_len_str (by rfl) B.len PySem.boot_len (pa_cons (pv 5) pa_nil))))) pe_str) (pe_slice sl_str (pv 5) (po_some (pe_op op_add (pe_op op_mod (pv 8) (pe_callB call_len_str (by rfl) B.len PySem.boot_len (pa_cons (pv 5) pa_nil))) pe_int)) po_none))))
        (pss_one (ps_if (PW.pt (pw_and (pt_cmpR op_eq (pv 9) pe_int (nomark _)) (pw_and1 (pt_cmpR op_gt (pe_callB call_len_str (by rfl) B.len PySem.boot_len (pa_cons (pv 6) pa_nil)) pe_int (nomark _)))))
          (pss_one (ps_set (i := 6) scLaw.nd rfl (.inl rfl) (pe_op op_add_str (pe_op op_add_str (pe_slice sl_str (pv 6) po_none (po_some (pe_op op_mod (pv 8) (pe_callB call_len_str (by rfl) B.len PySem.boot_len (pa_cons (pv 6) pa_nil))))) (pe_ix ix_str pe_str (pe_op op_mod (pe_op op_fdiv (pv 7) pe_int) pe_int) (fun _ _ => rfl))) (pe_slice sl_str (pv 6) (po_some (pe_op op_add (pe_op op_mod (pv 8) (pe_callB call_len_str (by rfl) B.len PySem.boot_len (pa_cons (pv 6) pa_nil))) pe_int)) po_none)))) pss_nil)))))))))))))
      (pss_one (ps_ret (pe_cmpR op_eq (pe_call GF hr (by rfl) gF kF bF .nil pass0 (pa_cons (pv 5) (pa_cons (pv 6) (pa_cons (pv 2) pa_nil)))) (pe_call GW hr (by rfl) gW kW bW .nil pass0 (pa_cons (pv 5) (pa_cons (pv 6) (pa_cons (pv 2) pa_nil)))) (nomark _))))))))))))))), ?_⟩
    refine ⟨fun σ H1 => H1 = H ∧ ∃ x : Int, σ = [some (.ref a), some (.int x), none, none, none, none, none, none, none, none], ⟨.ref a, rfl, a, ns, 0, rfl, hsq, fun x => ⟨rfl, x, rfl⟩⟩, ?_⟩
    rintro σ H1 ⟨rfl, x, rfl⟩
    -- path
    refine ⟨fun σ H2 => Same H1 H2 ∧ ∃ l : List Nat, PC l ∧ l.length ≤ 1000 ∧ σ = [some (.ref a), some (.int x), some (.str (T l)), none, none, none, none, none, none, none], ?_, ?_⟩
    · refine ⟨.ref a, rfl, a, ns, 1, rfl, hsq, fun y => ⟨.int x, rfl, x, 61, rfl, rfl, (show (0 : Int) < 61 by decide), y, (x % 61).toNat, ?_, ?_, fun H2 l s2 pc hl => ⟨s2, l, pc, hl, rfl⟩⟩⟩
      · rw [Int.toNat_of_nonneg (Int.emod_nonneg _ (by decide))]
        rfl
      · have := Int.emod_lt_of_pos x (show (0 : Int) < 61 by decide)
        omega
    rintro σ H2 ⟨s2, l, pc, hl, rfl⟩
    -- costs
    refine ⟨fun σ H3 => Same H1 H3 ∧ ∃ (z : Addr) (c0 c1 c2 : Nat), H3 z = some (.tup [.int c0, .int c1, .int c2]) ∧ σ = [some (.ref a), some (.int x), some (.str (T l)), some (.ref z), none, none, none, none, none, none], ⟨.ref a, rfl, a, ns, 2, rfl, s2.seq hsq, fun y => ⟨y, rfl, fun H3 z c0 c1 c2 s3 hz _ _ _ => ⟨s2.trans s3, z, c0, c1, c2, hz, rfl⟩⟩⟩, ?_⟩
    rintro σ H3 ⟨s3, z, c0, c1, c2, hz, rfl⟩
    refine ⟨.str (T l), rfl, .ref z, rfl, l, z, c0, c1, c2, rfl, by omega, .inl (.inl hz), fun H4 s34 => ?_⟩
    have hcost : prc c0 c1 c2 none l = costR c0 c1 c2 (rns l) := by
      have e := prc_rns c0 c1 c2 l none pc
      rw [← e]
      cases l with
      | nil => rfl
      | cons y t => simp
    refine ⟨fun σ H5 => Same H1 H5 ∧ ∃ v4 : Option V, σ = [some (.ref a), some (.int x), some (.str (T l)), some (.ref z), v4, none, none, none, none, none], ?_, ?_⟩
    · refine ⟨_, rfl, _, rfl, true, rfl, iteF ⟨_, rfl, _, rfl, _, rfl, l, z, c0, c1, c2, rfl, by omega, .inl (.inl (s34 _ _ hz)), fun H5 s45 => ⟨rfl, _, rfl, iteNS (by rw [hcost]) ⟨(s3.trans s34).trans s45, _, rfl⟩⟩⟩⟩
    rintro σ H5 ⟨s5, v4, rfl⟩
    -- cut forms
    refine ⟨fun σ H6 => Same H1 H6 ∧ σ = [some (.ref a), some (.int x), some (.str (T l)), some (.ref z), v4, none, none, none, none, none], ?_, ?_⟩
    · refine ⟨_, rfl, l, rfl, by omega, fun H6 s6 => ⟨_, rfl, l, rfl, by omega, rfl, _, rfl, iteNS rfl ⟨_, rfl, l, rfl, by omega, fun H7 s7 => ⟨l, rfl, pc, by omega, fun H8 s8 => ⟨_, rfl, rfl, _, rfl, iteNS rfl ⟨((s5.trans s6).trans s7).trans s8, rfl⟩⟩⟩⟩⟩⟩
    rintro σ H6 ⟨s6, rfl⟩
    -- texts
    refine ⟨fun σ H7 => Same H1 H7 ∧ ∃ r t : List Nat, r.length ≤ 1000 ∧ t.length ≤ 1000 ∧ fitB r t l = true ∧ σ = [some (.ref a), some (.int x), some (.str (T l)), some (.ref z), v4, some (.str (T r)), some (.str (T t)), none, none, none],
      ⟨_, rfl, .ref a, rfl, a, ns, 3, rfl, s6.seq hsq, fun y => ⟨l, y, rfl, hl, pc, fun H7 u r t s7 hu hr1 ht1 hfit => ⟨u, _, rfl, .inl (.inl hu), rfl, _, _, rfl, _, _, rfl, rfl, s6.trans s7, r, t, hr1, ht1, hfit, rfl⟩⟩⟩, ?_⟩
    rintro σ H7 ⟨s7, r, t, hr1, ht1, hfit, rfl⟩
    refine ⟨fun σ H8 => H8 = H7 ∧ σ = [some (.ref a), some (.int x), some (.str (T l)), some (.ref z), v4, some (.str (T r)), some (.str (T t)), none, none, none], ?_, ?_⟩
    · refine ⟨_, rfl, _, rfl, _, rfl, r, t, l, rfl, by omega, by omega, _, .ty "bool", _, _, true, rfl, .ty _, .base (.bl _), kit_ty (by decide +kernel), true, rfl, iteF ?_⟩
      refine ⟨_, rfl, _, rfl, _, rfl, r, t, l, rfl, by omega, by omega, _, rfl, ?_⟩
      rw [hfit]
      exact iteF ⟨rfl, rfl⟩
    rintro σ H8 ⟨rfl, rfl⟩
    refine ⟨fun σ H9 => H9 = H8 ∧ ∃ y : Int, σ = [some (.ref a), some (.int x), some (.str (T l)), some (.ref z), v4, some (.str (T r)), some (.str (T t)), some (.int y), none, none], ⟨.ref a, rfl, a, ns, 4, rfl, s7.seq hsq, fun y => ⟨rfl, y, rfl⟩⟩, ?_⟩
    rintro σ H9 ⟨rfl, y, rfl⟩
    have hzl : (T l).length ≤ sizeLine := line_ok (by rw [T_len]; omega)
    have hzr : (T r).length ≤ sizeLine := line_ok (by rw [T_len]; omega)
    have hzt : (T t).length ≤ sizeLine := line_ok (by rw [T_len]; omega)
    refine ⟨fun σ H' => H' = H9 ∧ ∃ k : Int, σ = [some (.ref a), some (.int x), some (.str (T l)), some (.ref z), v4, some (.str (T r)), some (.str (T t)), some (.int y), some (.int k), none], ⟨_, rfl, y, 8, rfl, rfl, ⟨by decide, by decide⟩, _, rfl, T l, rfl, hzl, _, 1, rfl, rfl, _, _, rfl, rfl, by show (0 : Int) < ((T l).length : Nat) + 1; omega, rfl, _, rfl⟩, ?_⟩
    rintro σ H' ⟨rfl, k, rfl⟩
    refine ⟨fun σ H2 => H2 = H' ∧ ∃ kd : Int, σ = [some (.ref a), some (.int x), some (.str (T l)), some (.ref z), v4, some (.str (T r)), some (.str (T t)), some (.int y), some (.int k), some (.int kd)], ⟨_, rfl, y, 8, rfl, rfl, (show (0 : Int) < 8 by decide), rfl, _, rfl⟩, ?_⟩
    rintro σ H2 ⟨rfl, kd, rfl⟩
    refine ⟨fun σ H3 => H3 = H2 ∧ ∃ l r t : List Nat, l.length ≤ 10000 ∧ r.length ≤ 10000 ∧ t.length ≤ 10000 ∧ σ = [some (.ref a), some (.int x), some (.str (T l)), some (.ref z), v4, some (.str (T r)), some (.str (T t)), some (.int y), some (.int k), some (.int kd)], ?_, ?_⟩
    · refine ⟨_, rfl, rfl, _, rfl, ite2 (fun _ => ?_) (fun _ => ?_)⟩
      · obtain ⟨m1, em1, _, lm1⟩ := cut_some l none (some k)
        obtain ⟨m2, em2, _, lm2⟩ := cut_some l (some (k + 1)) none
        obtain ⟨c, hc⟩ := at_some (s := Str.ofString "=XIDZ") (n := 5) (by decide +kernel) (y / 488) (by decide)
        refine ⟨_, rfl, _, rfl, k, rfl, T l, rfl, hzl, _, rfl, y, 488, rfl, rfl, ⟨by decide, by decide⟩, _, 5, rfl, rfl, (show (0 : Int) < 5 by decide), _, _, c, rfl, rfl, by decide, hc, _, _, rfl, rfl, ?_, ?_⟩
        · rw [em1]
          exact line_ok (by rw [T_len]; show m1.length + 1 ≤ 100000; omega)
        · refine ⟨_, rfl, _, rfl, _, 1, rfl, rfl, k + 1, rfl, T l, rfl, hzl, _, _, rfl, rfl, ?_, rfl, m1 ++ [c] ++ m2, r, t, ?_, by omega, by omega, ?_⟩
          · rw [em1, em2]
            show ((T m1) ++ T [c]).length + (T m2).length ≤ sizeLine
            rw [T_app]
            exact line_ok (by rw [T_len, T_len, List.length_append, List.length_singleton]; omega)
          · rw [List.length_append, List.length_append, List.length_singleton]
            omega
          · rw [em1, em2, ← T_app, ← T_app]
            rfl
      refine ⟨_, rfl, rfl, _, rfl, ite2 (fun _ => ?_) (fun _ => ?_)⟩
      · obtain ⟨m1, em1, _, lm1⟩ := cut_some l none (some k)
        obtain ⟨m2, em2, _, lm2⟩ := cut_some l (some (k + 1)) none
        refine ⟨_, rfl, _, rfl, k, rfl, T l, rfl, hzl, _, rfl, _, rfl, _, 1, rfl, rfl, k + 1, rfl, T l, rfl, hzl, _, _, rfl, rfl, ?_, rfl, m1 ++ m2, r, t, ?_, by omega, by omega, ?_⟩
        · rw [em1, em2]
          exact line_ok (by rw [T_len, T_len]; omega)
        · rw [List.length_append]
          omega
        · rw [em1, em2, ← T_app]
          rfl
      refine ⟨_, rfl, rfl, _, rfl, ite2 (fun _ => ?_) (fun _ => ?_)⟩
      · obtain ⟨c, hc⟩ := at_some (s := Str.ofString "=XID") (n := 4) (by decide +kernel) (y / 488) (by decide)
        refine ⟨_, rfl, _, rfl, y, 488, rfl, rfl, ⟨by decide, by decide⟩, _, 4, rfl, rfl, (show (0 : Int) < 4 by decide), _, _, c, rfl, rfl, by decide, hc, _, _, rfl, rfl, line_ok (by rw [T_len]; show l.length + 1 ≤ 100000; omega), rfl, l ++ [c], r, t, ?_, by omega, by omega, ?_⟩
        · rw [List.length_append, List.length_singleton]
          omega
        · rw [← T_app]
          rfl
      refine ⟨_, rfl, rfl, _, rfl, ite2 (fun _ => ?_) (fun _ => ?_)⟩
      · refine ⟨_, rfl, _, _, rfl, rfl, line_ok (by rw [tA, T_len, T_len]; show r.length + 1 ≤ 100000; omega), rfl, l, r ++ [65], t, by omega, ?_, by omega, ?_⟩
        · rw [List.length_append, List.length_singleton]
          omega
        · rw [← T_app, ← tA]
          rfl
      refine ⟨_, rfl, rfl, _, rfl, ite2 (fun _ => ?_) (fun _ => ?_)⟩
      · obtain ⟨m1, em1, _, lm1⟩ := cut_some t (some 1) none
        refine ⟨_, rfl, _, rfl, T t, rfl, hzt, rfl, l, r, m1, by omega, by omega, by omega, ?_⟩
        rw [em1]
        rfl
      refine ⟨_, rfl, rfl, _, rfl, ite2 (fun _ => ?_) (fun _ => ?_)⟩
      · refine ⟨_, rfl, T r, rfl, hzr, _, 0, rfl, rfl, _, rfl, ite2 (fun e => ?_) (fun _ => ?_)⟩
        · obtain ⟨m1, em1, _, lm1⟩ := cut_some r none (some (k % ((T r).length : Nat)))
          obtain ⟨m2, em2, _, lm2⟩ := cut_some r (some (k % ((T r).length : Nat) + 1)) none
          have hp0 : (0 : Int) < ((T r).length : Nat) := of_decide_eq_true e
          refine ⟨_, rfl, _, rfl, _, rfl, T r, rfl, hzr, _, _, rfl, rfl, hp0, _, rfl, T r, rfl, hzr, _, _, rfl, rfl, ?_, ?_⟩
          · rw [em1]
            exact line_ok (by rw [T_len]; show m1.length + 1 ≤ 100000; omega)
          · refine ⟨_, rfl, _, rfl, _, rfl, T r, rfl, hzr, _, _, rfl, rfl, hp0, _, 1, rfl, rfl, _, rfl, T r, rfl, hzr, _, _, rfl, rfl, ?_, rfl, l, m1 ++ [78] ++ m2, t, by omega, ?_, by omega, ?_⟩
            · rw [em1, em2, tN]
              rw [T_app]
              exact line_ok (by rw [T_len, T_len, List.length_append, List.length_singleton]; omega)
            · rw [List.length_append, List.length_append, List.length_singleton]
              omega
            · rw [em1, em2, ← T_app, ← T_app, ← tN]
              rfl
        · refine ⟨_, rfl, rfl, _, rfl, ite2 (fun _ => ?_) (fun _ => ⟨rfl, l, r, t, by omega, by omega, by omega, rfl⟩)⟩
          refine ⟨_, rfl, T t, rfl, hzt, _, 0, rfl, rfl, _, rfl, ite2 (fun e => ?_) (fun _ => ⟨rfl, l, r, t, by omega, by omega, by omega, rfl⟩)⟩
          obtain ⟨m1, em1, _, lm1⟩ := cut_some t none (some (k % ((T t).length : Nat)))
          obtain ⟨m2, em2, _, lm2⟩ := cut_some t (some (k % ((T t).length : Nat) + 1)) none
          have hp0 : (0 : Int) < ((T t).length : Nat) := of_decide_eq_true e
          obtain ⟨c, hc⟩ := at_some (s := Str.ofString "ACGT") (n := 4) (by decide +kernel) (y / 488) (by decide)
          refine ⟨_, rfl, _, rfl, _, rfl, T t, rfl, hzt, _, _, rfl, rfl, hp0, _, rfl, T t, rfl, hzt, _, rfl, y, 488, rfl, rfl, ⟨by decide, by decide⟩, _, 4, rfl, rfl, (show (0 : Int) < 4 by decide), _, _, c, rfl, rfl, by decide, hc, _, _, rfl, rfl, ?_, ?_⟩
          · rw [em1]
            exact line_ok (by rw [T_len]; show m1.length + 1 ≤ 100000; omega)
          · refine ⟨_, rfl, _, rfl, _, rfl, T t, rfl, hzt, _, _, rfl, rfl, hp0, _, 1, rfl, rfl, _, rfl, T t, rfl, hzt, _, _, rfl, rfl, ?_, rfl, l, r, m1 ++ [c] ++ m2, by omega, by omega, ?_, ?_⟩
            · rw [em1, em2]
              show ((T m1) ++ T [c]).length + (T m2).length ≤ sizeLine
              rw [T_app]
              exact line_ok (by rw [T_len, T_len, List.length_append, List.length_singleton]; omega)
            · rw [List.length_append, List.length_append, List.length_singleton]
              omega
            · rw [em1, em2, ← T_app, ← T_app]
              rfl
      · refine ⟨_, rfl, rfl, _, rfl, ite2 (fun _ => ?_) (fun _ => ⟨rfl, l, r, t, by omega, by omega, by omega, rfl⟩)⟩
        refine ⟨_, rfl, T t, rfl, hzt, _, 0, rfl, rfl, _, rfl, ite2 (fun e => ?_) (fun _ => ⟨rfl, l, r, t, by omega, by omega, by omega, rfl⟩)⟩
        obtain ⟨m1, em1, _, lm1⟩ := cut_some t none (some (k % ((T t).length : Nat)))
        obtain ⟨m2, em2, _, lm2⟩ := cut_some t (some (k % ((T t).length : Nat) + 1)) none
        have hp0 : (0 : Int) < ((T t).length : Nat) := of_decide_eq_true e
        obtain ⟨c, hc⟩ := at_some (s := Str.ofString "ACGT") (n := 4) (by decide +kernel) (y / 488) (by decide)
        refine ⟨_, rfl, _, rfl, _, rfl, T t, rfl, hzt, _, _, rfl, rfl, hp0, _, rfl, T t, rfl, hzt, _, rfl, y, 488, rfl, rfl, ⟨by decide, by decide⟩, _, 4, rfl, rfl, (show (0 : Int) < 4 by decide), _, _, c, rfl, rfl, by decide, hc, _, _, rfl, rfl, ?_, ?_⟩
        · rw [em1]
          exact line_ok (by rw [T_len]; show m1.length + 1 ≤ 100000; omega)
        · refine ⟨_, rfl, _, rfl, _, rfl, T t, rfl, hzt, _, _, rfl, rfl, hp0, _, 1, rfl, rfl, _, rfl, T t, rfl, hzt, _, _, rfl, rfl, ?_, rfl, l, r, m1 ++ [c] ++ m2, by omega, by omega, ?_, ?_⟩
          · rw [em1, em2]
            show ((T m1) ++ T [c]).length + (T m2).length ≤ sizeLine
            rw [T_app]
            exact line_ok (by rw [T_len, T_len, List.length_append, List.length_singleton]; omega)
          · rw [List.length_append, List.length_append, List.length_singleton]
            omega
          · rw [em1, em2, ← T_app, ← T_app]
            rfl
    · rintro σ H3 ⟨rfl, l, r, t, ll, lr, lt, rfl⟩
      refine ⟨_, rfl, _, rfl, _, rfl, r, t, l, rfl, by omega, by omega, _, rfl, _, rfl, _, rfl, r, t, l, rfl, by omega, by omega, fun H4 s4 => ⟨rfl, ?_⟩⟩
      show Q (.bl (decide (V.bl (fitB r t l) = V.bl (fitB r t l)))) H4
      rw [decide_eq_true rfl]
      exact q _
end
theorem all_mk {l : PySem.W.OpenLaw} {w : World} {K : PySem.W.Frag} {h : Heap} {mg : Str → Option Value} {fa fA fPC fF fCu fJ fRu fPS fC fR fI fLA fPr fW fLC fLP fT fLu fL : Addr} (X : K.In h) (G : h.Ns mainGlobals mg) (hfa : mg "law" = some (.ref fa))
    {odA anA : Option Addr} {slA : Array (Option Value)} {ocA kVA dcA pmA cdA ctA : Value}
    {odPC anPC : Option Addr} {slPC : Array (Option Value)} {ocPC kVPC dcPC pmPC cdPC ctPC : Value}
    {odF anF : Option Addr} {slF : Array (Option Value)} {ocF kVF dcF pmF cdF ctF : Value}
    {odCu anCu : Option Addr} {slCu : Array (Option Value)} {ocCu kVCu dcCu pmCu cdCu ctCu : Value}
    {odJ anJ : Option Addr} {slJ : Array (Option Value)} {ocJ kVJ dcJ pmJ cdJ ctJ : Value}
    {odRu anRu : Option Addr} {slRu : Array (Option Value)} {ocRu kVRu dcRu pmRu cdRu ctRu : Value}
    {odPS anPS : Option Addr} {slPS : Array (Option Value)} {ocPS kVPS dcPS pmPS cdPS ctPS : Value}
    {odC anC : Option Addr} {slC : Array (Option Value)} {ocC kVC dcC pmC cdC ctC : Value}
    {odR anR : Option Addr} {slR : Array (Option Value)} {ocR kVR dcR pmR cdR ctR : Value}
    {odI anI : Option Addr} {slI : Array (Option Value)} {ocI kVI dcI pmI cdI ctI : Value}
    {odLA anLA : Option Addr} {slLA : Array (Option Value)} {ocLA kVLA dcLA pmLA cdLA ctLA : Value}
    {odPr anPr : Option Addr} {slPr : Array (Option Value)} {ocPr kVPr dcPr pmPr cdPr ctPr : Value}
    {odW anW : Option Addr} {slW : Array (Option Value)} {ocW kVW dcW pmW cdW ctW : Value}
    {odLC anLC : Option Addr} {slLC : Array (Option Value)} {ocLC kVLC dcLC pmLC cdLC ctLC : Value}
    {odLP anLP : Option Addr} {slLP : Array (Option Value)} {ocLP kVLP dcLP pmLP cdLP ctLP : Value}
    {odT anT : Option Addr} {slT : Array (Option Value)} {ocT kVT dcT pmT cdT ctT : Value}
    {odLu anLu : Option Addr} {slLu : Array (Option Value)} {ocLu kVLu dcLu pmLu cdLu ctLu : Value}
    {odL anL : Option Addr} {slL : Array (Option Value)} {ocL kVL dcL pmL cdL ctL : Value}
    (aA : PySem.W.nsIn K mainGlobals "agree" = some (some (.ref fA))) (lA : K.lookup fA = some ⟨ocA, odA, .func (PySem.W.fnOf "agree" "agree" (defArgs sAgree) (defBody sAgree) (defScope sAgree) .none kVA dcA pmA anA cdA ctA), slA⟩) (cA : PySem.W.codeIn K cdA "agree" = true) (kA : PySem.W.keepIn K (.ref fA) = true)
    (aPC : PySem.W.nsIn K mainGlobals "path_cost" = some (some (.ref fPC))) (lPC : K.lookup fPC = some ⟨ocPC, odPC, .func (PySem.W.fnOf "path_cost" "path_cost" (defArgs sPCost) (defBody sPCost) (defScope sPCost) .none kVPC dcPC pmPC anPC cdPC ctPC), slPC⟩) (cPC : PySem.W.codeIn K cdPC "path_cost" = true) (kPC : PySem.W.keepIn K (.ref fPC) = true)
    (aF : PySem.W.nsIn K mainGlobals "fits" = some (some (.ref fF))) (lF : K.lookup fF = some ⟨ocF, odF, .func (PySem.W.fnOf "fits" "fits" (defArgs sFits) (defBody sFits) (defScope sFits) .none kVF dcF pmF anF cdF ctF), slF⟩) (cF : PySem.W.codeIn K cdF "fits" = true) (kF : PySem.W.keepIn K (.ref fF) = true)
    (aCu : PySem.W.nsIn K mainGlobals "cut" = some (some (.ref fCu))) (lCu : K.lookup fCu = some ⟨ocCu, odCu, .func (PySem.W.fnOf "cut" "cut" (defArgs sCut) (defBody sCut) (defScope sCut) .none kVCu dcCu pmCu anCu cdCu ctCu), slCu⟩) (cCu : PySem.W.codeIn K cdCu "cut" = true) (kCu : PySem.W.keepIn K (.ref fCu) = true)
    (aJ : PySem.W.nsIn K mainGlobals "joined_path" = some (some (.ref fJ))) (lJ : K.lookup fJ = some ⟨ocJ, odJ, .func (PySem.W.fnOf "joined_path" "joined_path" (defArgs sJPath) (defBody sJPath) (defScope sJPath) .none kVJ dcJ pmJ anJ cdJ ctJ), slJ⟩) (cJ : PySem.W.codeIn K cdJ "joined_path" = true) (kJ : PySem.W.keepIn K (.ref fJ) = true)
    (aRu : PySem.W.nsIn K mainGlobals "_runs" = some (some (.ref fRu))) (lRu : K.lookup fRu = some ⟨ocRu, odRu, .func (PySem.W.fnOf "_runs" "_runs" (defArgs sRuns) (defBody sRuns) (defScope sRuns) .none kVRu dcRu pmRu anRu cdRu ctRu), slRu⟩) (cRu : PySem.W.codeIn K cdRu "_runs" = true) (kRu : PySem.W.keepIn K (.ref fRu) = true)
    (aPS : PySem.W.nsIn K mainGlobals "_pair_step" = some (some (.ref fPS))) (lPS : K.lookup fPS = some ⟨ocPS, odPS, .func (PySem.W.fnOf "_pair_step" "_pair_step" (defArgs sPStep) (defBody sPStep) (defScope sPStep) .none kVPS dcPS pmPS anPS cdPS ctPS), slPS⟩) (cPS : PySem.W.codeIn K cdPS "_pair_step" = true) (kPS : PySem.W.keepIn K (.ref fPS) = true)
    (aC : PySem.W.nsIn K mainGlobals "_law_cell" = some (some (.ref fC))) (lC : K.lookup fC = some ⟨ocC, odC, .func (PySem.W.fnOf "_law_cell" "_law_cell" (defArgs sCell) (defBody sCell) (defScope sCell) .none kVC dcC pmC anC cdC ctC), slC⟩) (cC : PySem.W.codeIn K cdC "_law_cell" = true) (kC : PySem.W.keepIn K (.ref fC) = true)
    (aR : PySem.W.nsIn K mainGlobals "_law_row" = some (some (.ref fR))) (lR : K.lookup fR = some ⟨ocR, odR, .func (PySem.W.fnOf "_law_row" "_law_row" (defArgs sRow) (defBody sRow) (defScope sRow) .none kVR dcR pmR anR cdR ctR), slR⟩) (cR : PySem.W.codeIn K cdR "_law_row" = true) (kR : PySem.W.keepIn K (.ref fR) = true)
    (aI : PySem.W.nsIn K mainGlobals "_law_integer" = some (some (.ref fI))) (lI : K.lookup fI = some ⟨ocI, odI, .func (PySem.W.fnOf "_law_integer" "_law_integer" (defArgs sInteger) (defBody sInteger) (defScope sInteger) .none kVI dcI pmI anI cdI ctI), slI⟩) (cI : PySem.W.codeIn K cdI "_law_integer" = true) (kI : PySem.W.keepIn K (.ref fI) = true)
    (aLA : PySem.W.nsIn K mainGlobals "_law_agree" = some (some (.ref fLA))) (lLA : K.lookup fLA = some ⟨ocLA, odLA, .func (PySem.W.fnOf "_law_agree" "_law_agree" (defArgs sLAgree) (defBody sLAgree) (defScope sLAgree) .none kVLA dcLA pmLA anLA cdLA ctLA), slLA⟩) (cLA : PySem.W.codeIn K cdLA "_law_agree" = true) (kLA : PySem.W.keepIn K (.ref fLA) = true)
    (aPr : PySem.W.nsIn K mainGlobals "_law_priced" = some (some (.ref fPr))) (lPr : K.lookup fPr = some ⟨ocPr, odPr, .func (PySem.W.fnOf "_law_priced" "_law_priced" (defArgs sPriced) (defBody sPriced) (defScope sPriced) .none kVPr dcPr pmPr anPr cdPr ctPr), slPr⟩) (cPr : PySem.W.codeIn K cdPr "_law_priced" = true) (kPr : PySem.W.keepIn K (.ref fPr) = true)
    (aW : PySem.W.nsIn K mainGlobals "_law_walks" = some (some (.ref fW))) (lW : K.lookup fW = some ⟨ocW, odW, .func (PySem.W.fnOf "_law_walks" "_law_walks" (defArgs sWalks) (defBody sWalks) (defScope sWalks) .none kVW dcW pmW anW cdW ctW), slW⟩) (cW : PySem.W.codeIn K cdW "_law_walks" = true) (kW : PySem.W.keepIn K (.ref fW) = true)
    (aLC : PySem.W.nsIn K mainGlobals "_law_costs" = some (some (.ref fLC))) (lLC : K.lookup fLC = some ⟨ocLC, odLC, .func (PySem.W.fnOf "_law_costs" "_law_costs" (defArgs sLCosts) (defBody sLCosts) (defScope sLCosts) .none kVLC dcLC pmLC anLC cdLC ctLC), slLC⟩) (cLC : PySem.W.codeIn K cdLC "_law_costs" = true) (kLC : PySem.W.keepIn K (.ref fLC) = true)
    (aLP : PySem.W.nsIn K mainGlobals "_law_path" = some (some (.ref fLP))) (lLP : K.lookup fLP = some ⟨ocLP, odLP, .func (PySem.W.fnOf "_law_path" "_law_path" (defArgs sLPath) (defBody sLPath) (defScope sLPath) .none kVLP dcLP pmLP anLP cdLP ctLP), slLP⟩) (cLP : PySem.W.codeIn K cdLP "_law_path" = true) (kLP : PySem.W.keepIn K (.ref fLP) = true)
    (aT : PySem.W.nsIn K mainGlobals "_law_texts" = some (some (.ref fT))) (lT : K.lookup fT = some ⟨ocT, odT, .func (PySem.W.fnOf "_law_texts" "_law_texts" (defArgs sLTexts) (defBody sLTexts) (defScope sLTexts) .none kVT dcT pmT anT cdT ctT), slT⟩) (cT : PySem.W.codeIn K cdT "_law_texts" = true) (kT : PySem.W.keepIn K (.ref fT) = true)
    (aLu : PySem.W.nsIn K mainGlobals "_law_cut" = some (some (.ref fLu))) (lLu : K.lookup fLu = some ⟨ocLu, odLu, .func (PySem.W.fnOf "_law_cut" "_law_cut" (defArgs sLCut) (defBody sLCut) (defScope sLCut) .none kVLu dcLu pmLu anLu cdLu ctLu), slLu⟩) (cLu : PySem.W.codeIn K cdLu "_law_cut" = true) (kLu : PySem.W.keepIn K (.ref fLu) = true)
    (aL : PySem.W.nsIn K mainGlobals "law" = some (some (.ref fL))) (lL : K.lookup fL = some ⟨ocL, odL, .func (PySem.W.fnOf "law" "law" (defArgs sLaw) (defBody sLaw) (defScope sLaw) .none kVL dcL pmL anL cdL ctL), slL⟩) (cL : PySem.W.codeIn K cdL "law" = true) (kL : PySem.W.keepIn K (.ref fL) = true)
    (zlen : PySem.W.nsIn K mainGlobals "len" = some none) (zint : PySem.W.nsIn K mainGlobals "int" = some none) (zabs : PySem.W.nsIn K mainGlobals "abs" = some none) (zrange : PySem.W.nsIn K mainGlobals "range" = some none) (zisinstance : PySem.W.nsIn K mainGlobals "isinstance" = some none) (zbool : PySem.W.nsIn K mainGlobals "bool" = some none) (zstr : PySem.W.nsIn K mainGlobals "str" = some none) (zenumerate : PySem.W.nsIn K mainGlobals "enumerate" = some none) :
    ∃ fd : FuncData, (∀ (s : Shared) (v : Value), BindsTo s fd ⟨[v], []⟩ [("script", v)]) ∧ ∀ base : Heap, K.In base → base.Ns mainGlobals mg → FnOk l.prog w K mg base CX0 4 fa fd ["script"] (spLaw K) := by
  have e := hfa.symm.trans (PySem.W.mg_of X G aL)
  cases e
  have FA := fun_mk (st := sAgree) lA cA kA
  have FPC := fun_mk (st := sPCost) lPC cPC kPC
  have FF := fun_mk (st := sFits) lF cF kF
  have FCu := fun_mk (st := sCut) lCu cCu kCu
  have FJ := fun_mk (st := sJPath) lJ cJ kJ
  have FRu := fun_mk (st := sRuns) lRu cRu kRu
  have FPS := fun_mk (st := sPStep) lPS cPS kPS
  have FC := fun_mk (st := sCell) lC cC kC
  have FR := fun_mk (st := sRow) lR cR kR
  have FI := fun_mk (st := sInteger) lI cI kI
  have FLA := fun_mk (st := sLAgree) lLA cLA kLA
  have FPr := fun_mk (st := sPriced) lPr cPr kPr
  have FW := fun_mk (st := sWalks) lW cW kW
  have FLC := fun_mk (st := sLCosts) lLC cLC kLC
  have FLP := fun_mk (st := sLPath) lLP cLP kLP
  have FT := fun_mk (st := sLTexts) lT cT kT
  have FLu := fun_mk (st := sLCut) lLu cLu kLu
  have FL := fun_mk (st := sLaw) lL cL kL
  have B : Bl mg := ⟨PySem.W.mg_none_of X G zlen, PySem.W.mg_none_of X G zint, PySem.W.mg_none_of X G zabs, PySem.W.mg_none_of X G zrange, PySem.W.mg_none_of X G zisinstance, PySem.W.mg_none_of X G zbool, PySem.W.mg_none_of X G zstr⟩
  have bA := FA.binds (ps := ["first", "second"]) fun _ _ _ _ _ _ us hl => match us, hl with | [_, _], _ => rfl
  have bPC := FPC.binds (ps := ["path", "costs"]) fun _ _ _ _ _ _ us hl => match us, hl with | [_, _], _ => rfl
  have bF := FF.binds (ps := ["read", "text", "path"]) fun _ _ _ _ _ _ us hl => match us, hl with | [_, _, _], _ => rfl
  have bCu := FCu.binds (ps := ["path"]) fun _ _ _ _ _ _ us hl => match us, hl with | [_], _ => rfl
  have bJ := FJ.binds (ps := ["cut_path"]) fun _ _ _ _ _ _ us hl => match us, hl with | [_], _ => rfl
  have bRu := FRu.binds (ps := ["path"]) fun _ _ _ _ _ _ us hl => match us, hl with | [_], _ => rfl
  have bPS := FPS.binds (ps := ["first", "second"]) fun _ _ _ _ _ _ us hl => match us, hl with | [_, _], _ => rfl
  have bC := FC.binds (ps := ["script", "k"]) fun _ _ _ _ _ _ us hl => match us, hl with | [_, _], _ => rfl
  have bR := FR.binds (ps := ["cell", "count", "bound"]) fun _ _ _ _ _ _ us hl => match us, hl with | [_, _, _], _ => rfl
  have bI := FI.binds (ps := ["value"]) fun _ _ _ _ _ _ us hl => match us, hl with | [_], _ => rfl
  have bLA := FLA.binds (ps := ["a", "b"]) fun _ _ _ _ _ _ us hl => match us, hl with | [_, _], _ => rfl
  have bPr := FPr.binds (ps := ["path", "costs"]) fun _ _ _ _ _ _ us hl => match us, hl with | [_, _], _ => rfl
  have bW := FW.binds (ps := ["read", "piece", "path"]) fun _ _ _ _ _ _ us hl => match us, hl with | [_, _, _], _ => rfl
  have bLC := FLC.binds (ps := ["cell"]) fun _ _ _ _ _ _ us hl => match us, hl with | [_], _ => rfl
  have bLP := FLP.binds (ps := ["cell", "size"]) fun _ _ _ _ _ _ us hl => match us, hl with | [_, _], _ => rfl
  have bT := FT.binds (ps := ["path", "cell"]) fun _ _ _ _ _ _ us hl => match us, hl with | [_, _], _ => rfl
  have bLu := FLu.binds (ps := ["path"]) fun _ _ _ _ _ _ us hl => match us, hl with | [_], _ => rfl
  have fin : ∀ base : Heap, FnOk l.prog w K mg base CX0 4 fa _ ["script"] (spLaw K) := fun base =>
    have hO : Has l.prog w K mg base 2 "_law_row" ["cell", "count", "bound"] (spRow K) := ⟨fR, _, ok_row FR B, PySem.W.mg_of X G aR, kR, bR⟩
    have hRu : Has l.prog w K mg base 2 "_runs" ["path"] spRuns := ⟨fRu, _, ok_runs FRu B.range B.len, PySem.W.mg_of X G aRu, kRu, bRu⟩
    have hA : Has l.prog w K mg base 1 "agree" ["first", "second"] spAg := ⟨fA, _, ok_agree FA, PySem.W.mg_of X G aA, kA, bA⟩
    have hPS : Has l.prog w K mg base 2 "_pair_step" ["first", "second"] spPSt := ⟨fPS, _, ok_pstep FPS hA, PySem.W.mg_of X G aPS, kPS, bPS⟩
    have hLA : Has l.prog w K mg base 2 "_law_agree" ["a", "b"] spAg := ⟨fLA, _, ok_lagree FLA, PySem.W.mg_of X G aLA, kLA, bLA⟩
    ok_law FL B ⟨fC, _, ok_cell FC B, PySem.W.mg_of X G aC, kC, bC⟩ ⟨fI, _, ok_integer FI B, PySem.W.mg_of X G aI, kI, bI⟩ ⟨fLP, _, ok_lpath FLP B hO, PySem.W.mg_of X G aLP, kLP, bLP⟩ ⟨fLC, _, ok_lcosts FLC hO, PySem.W.mg_of X G aLC, kLC, bLC⟩
      ⟨fPC, _, ok_pcost FPC hRu, PySem.W.mg_of X G aPC, kPC, bPC⟩ ⟨fPr, _, ok_priced FPr B, PySem.W.mg_of X G aPr, kPr, bPr⟩ ⟨fCu, _, ok_cut FCu hRu, PySem.W.mg_of X G aCu, kCu, bCu⟩ ⟨fLu, _, ok_lcut FLu B, PySem.W.mg_of X G aLu, kLu, bLu⟩
      ⟨fJ, _, ok_jpath FJ (PySem.W.mg_none_of X G zenumerate) B.int, PySem.W.mg_of X G aJ, kJ, bJ⟩ ⟨fT, _, ok_ltexts FT B hO, PySem.W.mg_of X G aT, kT, bT⟩ ⟨fF, _, ok_fits FF B.len hPS, PySem.W.mg_of X G aF, kF, bF⟩ ⟨fW, _, ok_walks FW B hLA, PySem.W.mg_of X G aW, kW, bW⟩
  exact ⟨PySem.W.fnOf "law" "law" (defArgs sLaw) (defBody sLaw) (defScope sLaw) .none kVL dcL pmL anL cdL ctL, fun s v => .of_eq rfl, fun base _ _ => fin base⟩
end Hr
open PySem PySem.W PyProof.Rows
set_option maxHeartbeats 0 in
theorem PySem.Challenge.cw_homereads_k27_paths_and_their_costs_holds : PySem.Challenge.rw_homereads_k27_paths_and_their_costs.Holds := by
  w_on; o_law; k_head; (case hw => w_witness2)
  k_fill
  refine L2.walk_of (l := PySem.Challenge.rw_homereads_k27_paths_and_their_costs) (n := 63) (k := 4) (x := "script") (CX := fun _ => L2.CX0) (sp := fun w => Hr.spLaw _) rfl (by decide) rfl ⟨rfl, by decide, by decide⟩ (fun w h Y => PySem.W.kIn_of Y) ?F (fun _ _ a ns hl _ hS => ⟨a, ns, rfl, hS, fun _ => rfl⟩) (fun _ _ _ _ _ h => h)
  case F =>
    intro w mg fa h KX G hmg
    refine' Hr.all_mk KX G hmg ?aA ?lA ?cA ?kA ?aPC ?lPC ?cPC ?kPC ?aF ?lF ?cF ?kF ?aCu ?lCu ?cCu ?kCu ?aJ ?lJ ?cJ ?kJ ?aRu ?lRu ?cRu ?kRu ?aPS ?lPS ?cPS ?kPS ?aC ?lC ?cC ?kC ?aR ?lR ?cR ?kR ?aI ?lI ?cI ?kI ?aLA ?lLA ?cLA ?kLA ?aPr ?lPr ?cPr ?kPr ?aW ?lW ?cW ?kW ?aLC ?lLC ?cLC ?kLC ?aLP ?lLP ?cLP ?kLP ?aT ?lT ?cT ?kT ?aLu ?lLu ?cLu ?kLu ?aL ?lL ?cL ?kL ?zlen ?zint ?zabs ?zrange ?zisinstance ?zbool ?zstr ?zenumerate
    (case aA => k_is)
    (case lA => k_is)
    (case cA => k_is)
    (case kA => k_is)
    (case aPC => k_is)
    (case lPC => k_is)
    (case cPC => k_is)
    (case kPC => k_is)
    (case aF => k_is)
    (case lF => k_is)
    (case cF => k_is)
    (case kF => k_is)
    (case aCu => k_is)
    (case lCu => k_is)
    (case cCu => k_is)
    (case kCu => k_is)
    (case aJ => k_is)
    (case lJ => k_is)
    (case cJ => k_is)
    (case kJ => k_is)
    (case aRu => k_is)
    (case lRu => k_is)
    (case cRu => k_is)
    (case kRu => k_is)
    (case aPS => k_is)
    (case lPS => k_is)
    (case cPS => k_is)
    (case kPS => k_is)
    (case aC => k_is)
    (case lC => k_is)
    (case cC => k_is)
    (case kC => k_is)
    (case aR => k_is)
    (case lR => k_is)
    (case cR => k_is)
    (case kR => k_is)
    (case aI => k_is)
    (case lI => k_is)
    (case cI => k_is)
    (case kI => k_is)
    (case aLA => k_is)
    (case lLA => k_is)
    (case cLA => k_is)
    (case kLA => k_is)
    (case aPr => k_is)
    (case lPr => k_is)
    (case cPr => k_is)
    (case kPr => k_is)
    (case aW => k_is)
    (case lW => k_is)
    (case cW => k_is)
    (case kW => k_is)
    (case aLC => k_is)
    (case lLC => k_is)
    (case cLC => k_is)
    (case kLC => k_is)
    (case aLP => k_is)
    (case lLP => k_is)
    (case cLP => k_is)
    (case kLP => k_is)
    (case aT => k_is)
    (case lT => k_is)
    (case cT => k_is)
    (case kT => k_is)
    (case aLu => k_is)
    (case lLu => k_is)
    (case cLu => k_is)
    (case kLu => k_is)
    (case aL => k_is)
    (case lL => k_is)
    (case cL => k_is)
    (case kL => k_is)
    (case zlen => k_is)
    (case zint => k_is)
    (case zabs => k_is)
    (case zrange => k_is)
    (case zisinstance => k_is)
    (case zbool => k_is)
    (case zstr => k_is)
    (case zenumerate => k_is)
