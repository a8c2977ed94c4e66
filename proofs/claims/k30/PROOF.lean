import PyProof.Rows.All
import HandS.ExcValue
import KE.KDictZip
import KE.GoesZip
import KE.GoesEnum
import HandS.Base
import HandS.Call
import HandS.Codes
import HandS.Comp
import HandS.Conv
import HandS.Defaults
import HandS.Dict
import HandS.DictComp
import HandS.EndTab
import HandS.Ends
import HandS.Exc
import HandS.ExcInit
import HandS.ExcOwn
import HandS.FStr
import HandS.Flt
import HandS.IsInst
import HandS.Iter
import HandS.Lambda
import HandS.List
import HandS.MakeKwOnly
import HandS.More
import HandS.Nested
import HandS.RaiseMore
import HandS.Replace
import HandS.ReplaceLit
import HandS.Rev
import HandS.RevRange
import HandS.SetFor
import HandS.SortInts
import HandS.SortKw
import HandS.Strs
import HandS.Text
import HandS.TryOnly
import HandS.WideBits
import HandS.Words
import HandS.WordsExc
import HandS.WordsList
import HandS.Zip
import KE.GoesEnumKw
import KE.GoesMore
import KE.KDictList
import KE.OsSetLaws
import KE.SortKeyHeap
import OpenK.AllK
import Wide.All
import Wide.FinOn
import HandS.SetKeys
import HandS.SortRule
import HandS.Sort
import KE.DataMinMax
import HandS.Deep
import KE.SortData
import PyProof.DictMoreH
import KE.KDictWalk
import HandS.RevTup
import HandS.FltList
import PySem.Challenge.RW_homereads_k30_whole_papers_never_show_to
set_option Elab.async false
set_option linter.all false
set_option maxRecDepth 100000
set_option maxHeartbeats 4000000
namespace Hr
open PySem PySem.Spec PyProof.Rows L2
/-! ### the text -/
def topS (i : Nat) : Stmt := PySem.Challenge.pw_homereads_k30_whole_papers_never_show_to.main.body.getD i (.Pass ⟨0, 0, 0, 0⟩)
abbrev sAgree : Stmt := topS 1
abbrev mInit : Stmt := inClass (topS 3) 0
abbrev mCost : Stmt := inClass (topS 3) 1
abbrev mCell : Stmt := inClass (topS 3) 2
abbrev mTable : Stmt := inClass (topS 3) 3
abbrev mWhole : Stmt := inClass (topS 3) 4
abbrev sExact : Stmt := topS 4
abbrev sWide : Stmt := topS 5
abbrev sNextRow : Stmt := topS 6
abbrev sPaper : Stmt := topS 8
abbrev sShown : Stmt := topS 9
abbrev sHasSz : Stmt := topS 10
abbrev sBRows : Stmt := topS 11
abbrev sPairs : Stmt := topS 12
abbrev sLeavesR : Stmt := topS 13
abbrev sLeavesT : Stmt := topS 14
abbrev sCell : Stmt := topS 16
abbrev sRow : Stmt := topS 17
abbrev sInteger : Stmt := topS 18
abbrev sText : Stmt := topS 19
abbrev sLTurned : Stmt := topS 20
abbrev sLRead : Stmt := topS 21
abbrev sLRefs : Stmt := topS 22
abbrev sLAgree : Stmt := topS 23
abbrev sLeast : Stmt := topS 24
abbrev sPriced : Stmt := topS 25
abbrev sWalks : Stmt := topS 26
abbrev sLCosts : Stmt := topS 27
abbrev sCellB : Stmt := topS 28
abbrev sJudged : Stmt := topS 29
abbrev sLPaper : Stmt := topS 30
abbrev sLaw : Stmt := topS 31
theorem scCell : FnScope ["script", "k"] ["script", "k"] (defScope sCell) := ⟨rfl, rfl, rfl, by decide +kernel, rfl, by decide +kernel, by decide +kernel⟩
theorem scRow : FnScope ["cell", "count", "bound", "rest", "mixed", "row", "k"] ["cell", "count", "bound"] (defScope sRow) := ⟨rfl, rfl, rfl, by decide +kernel, rfl, by decide +kernel, by decide +kernel⟩
theorem scInteger : FnScope ["value"] ["value"] (defScope sInteger) := ⟨rfl, rfl, rfl, by decide +kernel, rfl, by decide +kernel, by decide +kernel⟩
theorem scText : FnScope ["cell", "size", "drawn", "kind", "text", "k", "letter"] ["cell", "size"] (defScope sText) := ⟨rfl, rfl, rfl, by decide +kernel, rfl, by decide +kernel, by decide +kernel⟩
theorem scLTurned : FnScope ["text", "news", "letter"] ["text"] (defScope sLTurned) := ⟨rfl, rfl, rfl, by decide +kernel, rfl, by decide +kernel, by decide +kernel⟩
/-! ### walks of a known number of turns -/
theorem for_gen {J : It} {n : Nat} {g : TG} {tb : TS} {D : Ends} {σ : L2.St} {H : Hp} (Pv : Nat → L2.St → Hp → Prop) (h0 : Pv 0 σ H) (hgo : ∀ i σ H, i < n → Pv i σ H → J.go i H) (hstop : ∀ σ H, Pv n σ H → J.stop n H)
    (hs : ∀ i σ H x H', i < n → Pv i σ H → J.yld i H x H' → g x σ H' fun σ2 H2 => tb { D with nx := Pv (i + 1), ct := Pv (i + 1), bk := D.nx } σ2 H2) (hd : ∀ σ H, Pv n σ H → D.nx σ H) :
    ∃ W : Nat → Nat → L2.St → Hp → Prop, (∃ m, W 0 m σ H) ∧ ∀ i m σ H, W i m σ H →
      (J.stop i H ∧ D.nx σ H) ∨ (J.go i H ∧ ∃ N : L2.St → Hp → Prop, (∀ σ' H', N σ' H' → ∃ m', m' < m ∧ W (i + 1) m' σ' H') ∧ ∀ x H', J.yld i H x H' → g x σ H' fun σ2 H2 => tb { D with nx := N, ct := N, bk := D.nx } σ2 H2) := by
  refine ⟨fun i m σ H => i + m = n ∧ Pv i σ H, ⟨n, Nat.zero_add n, h0⟩, fun i m σ H hw => ?_⟩
  obtain ⟨em, p⟩ := hw
  cases m with
  | zero =>
    obtain rfl : i = n := em
    exact .inl ⟨hstop σ H p, hd σ H p⟩
  | succ m =>
    have lt : i < n := by omega
    exact .inr ⟨hgo i σ H lt p, Pv (i + 1), fun σ' H' p' => ⟨m, Nat.lt_succ_self m, by omega, p'⟩, fun x H' y => hs i σ H x H' lt p y⟩
theorem lc_gen {J : It} {n : Nat} {g : TG} {tt : TT} {te : TE} {vs : List Nat} {σ : L2.St} {H1 : Hp} {D : Addr} {Qd : Hp → Prop} (Pv : Nat → Hp → Prop) (h0 : Pv 0 (upd H1 D (.lst []))) (hgo : ∀ i H, i < n → Pv i H → J.go i H) (hstop : ∀ H, Pv n H → J.stop n H)
    (hs : ∀ i H x H', i < n → Pv i H → J.yld i H x H' → g x (wipe σ vs) H' fun σ2 H2 => wipe σ2 vs = wipe σ vs ∧ tt σ2 H2 fun b H3 =>
      if b = true then te σ2 H3 fun y H4 => ∃ acc, H4 D = some (.lst acc) ∧ acc.length < sizeLine ∧ Pv (i + 1) (upd H4 D (.lst (acc ++ [y]))) else Pv (i + 1) H3) (hd : ∀ H, Pv n H → Qd H) :
    ∃ W : Nat → Nat → Hp → Prop, (∃ m, W 0 m (upd H1 D (.lst []))) ∧ ∀ i m H, W i m H →
      (J.stop i H ∧ Qd H) ∨ (J.go i H ∧ ∃ Nx : Hp → Prop, (∀ H', Nx H' → ∃ m', m' < m ∧ W (i + 1) m' H') ∧ ∀ x H', J.yld i H x H' → g x (wipe σ vs) H' fun σ2 H2 => wipe σ2 vs = wipe σ vs ∧ tt σ2 H2 fun b H3 =>
        if b = true then te σ2 H3 fun y H4 => ∃ acc, H4 D = some (.lst acc) ∧ acc.length < sizeLine ∧ Nx (upd H4 D (.lst (acc ++ [y]))) else Nx H3) := by
  refine ⟨fun i m H => i + m = n ∧ Pv i H, ⟨n, Nat.zero_add n, h0⟩, fun i m H hw => ?_⟩
  obtain ⟨em, p⟩ := hw
  cases m with
  | zero =>
    obtain rfl : i = n := em
    exact .inl ⟨hstop H p, hd H p⟩
  | succ m =>
    have lt : i < n := by omega
    exact .inr ⟨hgo i H lt p, Pv (i + 1), fun H' p' => ⟨m, Nat.lt_succ_self m, by omega, p'⟩, fun x H' y => hs i H x H' lt p y⟩
/-- a loop over a text's signs -/
theorem for_str {z : Str} {g : TG} {tb : TS} {D : Ends} {σ : L2.St} {H : Hp} (Pv : Nat → L2.St → Hp → Prop) (h0 : Pv 0 σ H)
    (hs : ∀ i c σ H, z.cps[i]? = some c → Pv i σ H → g (.str ⟨#[c]⟩) σ H fun σ2 H2 => tb { D with nx := Pv (i + 1), ct := Pv (i + 1), bk := D.nx } σ2 H2) (hd : ∀ σ H, Pv z.cps.size σ H → D.nx σ H) :
    ∃ W : Nat → Nat → L2.St → Hp → Prop, (∃ m, W 0 m σ H) ∧ ∀ i m σ H, W i m σ H →
      ((Its z).stop i H ∧ D.nx σ H) ∨ ((Its z).go i H ∧ ∃ N : L2.St → Hp → Prop, (∀ σ' H', N σ' H' → ∃ m', m' < m ∧ W (i + 1) m' σ' H') ∧ ∀ x H', (Its z).yld i H x H' → g x σ H' fun σ2 H2 => tb { D with nx := N, ct := N, bk := D.nx } σ2 H2) :=
  for_gen (J := Its z) (n := z.cps.size) Pv h0 (fun i σ H hi _ => hi) (fun σ H _ => Nat.le_refl _) (fun i σ H x H' hi p y => by
    obtain ⟨e, c, hc, ex⟩ := y
    subst e
    subst ex
    exact hs i c σ _ hc p) hd
/-! ### texts by lists -/
def T (l : List Nat) : Str := ⟨l.toArray⟩
theorem T_len (l : List Nat) : (T l).length = l.length := by
  show l.toArray.size = l.length
  simp
theorem T_size (l : List Nat) : (T l).cps.size = l.length := by
  show l.toArray.size = l.length
  simp
theorem T_list (l : List Nat) : (T l).cps.toList = l := rfl
theorem T_at (l : List Nat) (i : Nat) : (T l).cps[i]? = l[i]? := by
  show l.toArray[i]? = l[i]?
  simp
theorem T_app (a b : List Nat) : T a ++ T b = T (a ++ b) := by
  show Str.mk (a.toArray ++ b.toArray) = Str.mk (a ++ b).toArray
  simp
theorem T_inj {a b : List Nat} (h : T a = T b) : a = b := by
  have e : (T a).cps.toList = (T b).cps.toList := by rw [h]
  exact e
theorem T_nil : (Str.ofString "" : Str) = T [] := by decide +kernel
def Sg (c : Nat) : Prop := c = 65 ∨ c = 67 ∨ c = 71 ∨ c = 84 ∨ c = 78
def Dna (l : List Nat) : Prop := ∀ c ∈ l, Sg c
theorem Dna.app {a b : List Nat} (h : Dna a) (k : Dna b) : Dna (a ++ b) := fun c hc => by
  rcases List.mem_append.mp hc with q | q
  · exact h c q
  · exact k c q
theorem Dna.one {c : Nat} (h : Sg c) : Dna [c] := fun d hd => by
  obtain rfl : d = c := by simpa using hd
  exact h
theorem line_ok {n : Nat} (h : n ≤ 100000) : n ≤ sizeLine := by
  rw [sizeLine_eq]
  omega
theorem line_lt {n : Nat} (h : n ≤ 100000) : n < sizeLine := by
  rw [sizeLine_eq]
  omega
theorem same_upd {H : Hp} {p : Addr} {o : HO} (h : H p = none) : Same H (upd H p o) := fun b x e => by
  rw [upd_ne (ne_of_none e h)]
  exact e
theorem upd_upd {H : Hp} {p : Addr} {o o' : HO} : upd (upd H p o) p o' = upd H p o' := by
  funext b
  by_cases e : b = p
  · rw [e, upd_same, upd_same]
  · rw [upd_ne e, upd_ne e, upd_ne e]
/-! ### names that are still the built-in ones -/
structure Bl (mg : Str → Option Value) : Prop where
  len : mg "len" = none
  int : mg "int" = none
  abs : mg "abs" = none
  range : mg "range" = none
  isin : mg "isinstance" = none
  bool : mg "bool" = none
  str : mg "str" = none
section
variable {P : Program} {w : World} {K : PySem.W.Frag} {mg : Str → Option Value} {base : Heap}
/-! ### _law_cell -/
def spCell (K : PySem.W.Frag) : Sp := fun vs H Q _ => ∃ (a : Addr) (ns : List Int) (k : Nat), vs = [.ref a, .int (k : Int)] ∧ SqL K H a (ns.map V.int) ∧ ∀ x : Int, Q (.int x) H
theorem ok_cell {f : Addr} {fd : FuncData} {k : Nat} (F : Fun K "_law_cell" "_law_cell" sCell f fd) (B : Bl mg) : FnOk P w K mg base CX0 (k + 1) f fd ["script", "k"] (spCell K) := by
  refine F.ok scCell (fun vs H Q E h => ?_) (fun cdv A outer s H vs Q E hr h => ?_)
  · obtain ⟨a, ns, j, rfl, _⟩ := h
    rfl
  · obtain ⟨a, ns, j, rfl, hS, q⟩ := h
    refine ⟨_, pss_cons (ps_if (pt_cmpR op_lt (pv 1) (pe_callB call_len_seq (by rfl) B.len PySem.boot_len (pa_cons (pv 0) pa_nil)) (nomark _))
        (pss_one (ps_ret (pe_callTy call_int1 (by rfl) B.int (by decide +kernel) (pa_cons (pe_ix ix_list (pv 0) (pv 1) (fun _ _ => rfl)) pa_nil)))) pss_nil)
      (pss_one (ps_ret pe_int)), ?_⟩
    refine ⟨.int j, rfl, .ref a, rfl, a, ns.map V.int, rfl, .inl hS, j, _, rfl, rfl, _, rfl, ite2 (fun e => ?_) (fun e => q 0)⟩
    have h1 : (j : Int) < ((ns.map V.int).length : Int) := of_decide_eq_true e
    have h2 : j < ns.length := by
      rw [List.length_map] at h1
      omega
    have g1 : (ns.map V.int)[j]? = some (.int ns[j]) := by
      rw [List.getElem?_map, List.getElem?_eq_getElem h2]
      rfl
    exact ⟨.ref a, rfl, .int j, rfl, a, _, j, .int ns[j], rfl, rfl, hS, atI_nat g1, .inl ⟨_, rfl, q _⟩⟩
/-! ### _law_row -/
def spRow (K : PySem.W.Frag) : Sp := fun vs H Q _ => ∃ (c n b : Int), vs = [.int c, .int n, .int b] ∧ 0 ≤ n ∧ n ≤ 100000 ∧ 1 < b ∧ b ≤ 1000000001 ∧
  ∀ (H' : Hp) (p : Addr) (xs : List Int), Same H H' → H p = none → H' p = some (.lst (xs.map V.int)) → xs.length = n.toNat → (∀ x ∈ xs, 0 ≤ x ∧ x < b) → Q (.ref p) H'
theorem ok_row {f : Addr} {fd : FuncData} {k : Nat} (F : Fun K "_law_row" "_law_row" sRow f fd) (B : Bl mg) : FnOk P w K mg base CX0 (k + 1) f fd ["cell", "count", "bound"] (spRow K) := by
  refine F.ok scRow (fun vs H Q E h => ?_) (fun cdv A outer s H vs Q E hr h => ?_)
  · obtain ⟨c, n, b, rfl, _⟩ := h
    rfl
  · obtain ⟨c, n, b, rfl, hn0, hn, hb1, hb2, q⟩ := h
    refine ⟨_, pss_cons (ps_set (i := 3) scRow.nd rfl (.inl rfl) (pe_callB call_abs (by rfl) B.abs (by decide +kernel) (pa_cons (pe_callTy call_int1 (by rfl) B.int (by decide +kernel) (pa_cons (pv 0) pa_nil)) pa_nil)))
      (pss_cons (ps_set (i := 4) scRow.nd rfl (.inl rfl) (pe_op op_add (pe_op op_mod (pe_callTy call_int1 (by rfl) B.int (by decide +kernel) (pa_cons (pv 0) pa_nil)) pe_int) pe_int))
      (pss_cons (ps_set (i := 5) scRow.nd rfl (.inl rfl) (pe_lst pa_nil))
      (pss_cons (ps_for PassesOwn.never rfl (pi_range1 rfl B.range (pa_cons (pv 1) pa_nil)) (pg_name (i := 6) scRow.nd rfl (.inl rfl))
        (pss_one (ps_if (pt_cmpR op_ge (pv 3) (pv 2) (nomark _))
          (pss_cons (ps_expr (pe_bm PySem.F.plainAttrs_list PySem.F.slot_list_append PySem.F.type_list_append mt_append (pv 5) (pa_cons (pe_op op_mod (pe_callTy call_int1 (by rfl) B.int (by decide +kernel) (pa_cons (pv 3) pa_nil)) (pv 2)) pa_nil)))
            (pss_one (ps_set (i := 3) scRow.nd rfl (.inl rfl) (pe_op op_fdiv (pv 3) (pv 2)))))
          (pss_cons (ps_set (i := 4) scRow.nd rfl (.inl rfl) (pe_op op_mod (pe_callTy call_int1 (by rfl) B.int (by decide +kernel) (pa_cons (pe_op op_add (pe_op op_add (pe_op op_mul (pv 4) pe_int) (pe_op op_mul pe_int (pv 6))) pe_int) pa_nil)) pe_int))
            (pss_one (ps_expr (pe_bm PySem.F.plainAttrs_list PySem.F.slot_list_append PySem.F.type_list_append mt_append (pv 5) (pa_cons (pe_op op_mod (pe_callTy call_int1 (by rfl) B.int (by decide +kernel) (pa_cons (pe_op op_fdiv (pe_op op_mul (pv 4) pe_int) pe_int) pa_nil)) (pv 2)) pa_nil))))))))
      (pss_one (ps_ret (pv 5)))))), ?_⟩
    refine ⟨.int c, rfl, .inl ⟨c, rfl, c, rfl, ?_⟩⟩
    refine ⟨.int c, rfl, .inl ⟨c, rfl, c, 1000003, rfl, rfl, (show (0 : Int) < 1000003 by decide), _, _, rfl, rfl, ?_⟩⟩
    refine ⟨Nat.zero_le _, fun p hp => ?_⟩
    refine ⟨.int n, rfl, n, rfl, by omega, by omega, ?_⟩
    refine for_range (lo := 0) (n := n.toNat) (fun i σ H' => ∃ (r m : Int) (kv : Option V) (xs : List Int), σ = [some (.int c), some (.int n), some (.int b), some (.int r), some (.int m), some (.ref p), kv] ∧ 0 ≤ m ∧ m < 4294967296 ∧ Same H H' ∧
      H' p = some (.lst (xs.map V.int)) ∧ xs.length = i ∧ ∀ x ∈ xs, 0 ≤ x ∧ x < b) ?_ ?_ ?_
    · refine ⟨_, _, none, [], rfl, ?_, ?_, same_upd hp, upd_same, rfl, fun x hx => by cases hx⟩
      · have := Int.emod_nonneg c (show (1000003 : Int) ≠ 0 by decide)
        omega
      · have := Int.emod_lt_of_pos c (show (0 : Int) < 1000003 by decide)
        omega
    · rintro i σ H' hi ⟨r, m, kv, xs, rfl, hm0, hm1, sm, hx, hl, hall⟩
      have grow : ∀ (y : Int) (τ : L2.St) (r' m' : Int), 0 ≤ y → y < b → 0 ≤ m' → m' < 4294967296 → τ = [some (.int c), some (.int n), some (.int b), some (.int r'), some (.int m'), some (.ref p), some (.int (0 + (i : Nat)))] →
          ∃ (r m : Int) (kv : Option V) (zs : List Int), τ = [some (.int c), some (.int n), some (.int b), some (.int r), some (.int m), some (.ref p), kv] ∧ 0 ≤ m ∧ m < 4294967296 ∧ Same H (upd H' p (.lst (xs.map V.int ++ [.int y]))) ∧
          (upd H' p (.lst (xs.map V.int ++ [.int y]))) p = some (.lst (zs.map V.int)) ∧ zs.length = i + 1 ∧ ∀ x ∈ zs, 0 ≤ x ∧ x < b := by
        intro y τ r' m' y0 y1 h0 h1 e
        refine ⟨r', m', _, xs ++ [y], e, h0, h1, fun q o k => ?_, ?_, ?_, ?_⟩
        · rw [upd_ne (ne_of_none k hp)]
          exact sm q o k
        · rw [upd_same, List.map_append]
          rfl
        · rw [List.length_append, hl]
          rfl
        · intro x hxm
          rcases List.mem_append.mp hxm with z | z
          · exact hall x z
          · obtain rfl : x = y := by simpa using z
            exact ⟨y0, y1⟩
      have hsz : (xs.map V.int).length < sizeLine := line_lt (by rw [List.length_map]; omega)
      refine ⟨.int r, rfl, .int b, rfl, r, b, rfl, rfl, _, rfl, ite2 (fun e => ?_) (fun e => ?_)⟩
      · refine ⟨.ref p, rfl, .inl ⟨rfl, _, .inl (.inl hx)⟩, .int r, rfl, .inl ⟨r, rfl, .int b, rfl, r, b, rfl, rfl, (show 0 < b by omega), p, _, _, rfl, rfl, hx, hsz, ?_⟩⟩
        refine ⟨.int r, rfl, .int b, rfl, r, b, rfl, rfl, ⟨by omega, by omega⟩, ?_⟩
        exact grow _ _ (r / b) m (Int.emod_nonneg r (by omega)) (Int.emod_lt_of_pos r (by omega)) hm0 hm1 rfl
      · refine ⟨.int m, rfl, m, 48271, rfl, rfl, .inl ⟨by omega, by omega⟩, .int (0 + (i : Nat)), rfl, 11, _, rfl, rfl, .inl ⟨by decide, by decide⟩, _, _, rfl, rfl, _, _, rfl, rfl, .inl ⟨_, rfl, _, 2147483647, rfl, rfl, (show (0 : Int) < 2147483647 by decide), ?_⟩⟩
        have b0 : 0 ≤ (m * 48271 + 11 * (0 + ((i : Nat) : Int)) + 7) % 2147483647 := Int.emod_nonneg _ (by decide)
        have b1 : (m * 48271 + 11 * (0 + ((i : Nat) : Int)) + 7) % 2147483647 < 2147483647 := Int.emod_lt_of_pos _ (by decide)
        refine ⟨.ref p, rfl, .inl ⟨rfl, _, .inl (.inl hx)⟩, _, rfl, (m * 48271 + 11 * (0 + ((i : Nat) : Int)) + 7) % 2147483647, 2862933555777941757, rfl, rfl, .inl ⟨by omega, by omega⟩, _, 1024, rfl, rfl, ⟨by decide, by decide⟩, .inl ⟨_, rfl, .int b, rfl, _, b, rfl, rfl, (show 0 < b by omega), p, _, _, rfl, rfl, hx, hsz, ?_⟩⟩
        exact grow _ _ r ((m * 48271 + 11 * (0 + ((i : Nat) : Int)) + 7) % 2147483647) (Int.emod_nonneg _ (by omega)) (Int.emod_lt_of_pos _ (by omega)) b0 (by omega) rfl
    · rintro σ H' ⟨r, m, kv, xs, rfl, hm0, hm1, sm, hx, hl, hall⟩
      exact ⟨.ref p, rfl, q H' p xs sm hp hx hl hall⟩
/-! ### _law_integer -/
def spInteger : Sp := fun vs H Q _ => ∃ i : Int, vs = [.int i] ∧ Q (.bl true) H
theorem ok_integer {f : Addr} {fd : FuncData} {k : Nat} (F : Fun K "_law_integer" "_law_integer" sInteger f fd) (B : Bl mg) : FnOk P w K mg base CX0 (k + 1) f fd ["value"] spInteger := by
  refine F.ok scInteger (fun vs H Q E h => ?_) (fun cdv A outer s H vs Q E hr h => ?_)
  · obtain ⟨i, rfl, _⟩ := h
    rfl
  · obtain ⟨i, rfl, q⟩ := h
    refine ⟨_, pss_one (ps_ret (pe_and (pe_callB call_isi (by rfl) B.isin (by decide +kernel) (pa_cons (pv 0) (pa_cons (pe_bltn (v := .ty "int") (by rfl) B.int (by decide +kernel) rfl) pa_nil)))
      (pe_one (pe_not (pe_callB call_isi (by rfl) B.isin (by decide +kernel) (pa_cons (pv 0) (pa_cons (pe_bltn (v := .ty "bool") (by rfl) B.bool (by decide +kernel) rfl) pa_nil))))))), ?_⟩
    refine ⟨.int i, rfl, .int i, .ty "int", _, _, true, rfl, .ty _, .base (.int i), kit_ty (by decide +kernel), true, rfl, iteT ?_⟩
    exact ⟨.int i, rfl, .int i, .ty "bool", _, _, false, rfl, .ty _, .base (.int i), kit_ty (by decide +kernel), false, rfl, q⟩
/-! ### _law_text -/
theorem sg_four (x : Int) : ∃ c, Sg c ∧ atI (Str.ofString "ACGT").cps.toList (x % 4) = some c := by
  have h : x % 4 = 0 ∨ x % 4 = 1 ∨ x % 4 = 2 ∨ x % 4 = 3 := by omega
  rcases h with h | h | h | h <;> rw [h]
  · exact ⟨65, .inl rfl, by decide +kernel⟩
  · exact ⟨67, .inr (.inl rfl), by decide +kernel⟩
  · exact ⟨71, .inr (.inr (.inl rfl)), by decide +kernel⟩
  · exact ⟨84, .inr (.inr (.inr (.inl rfl))), by decide +kernel⟩
theorem sg_two (x : Int) : ∃ c, Sg c ∧ atI (Str.ofString "AC").cps.toList (x % 2) = some c := by
  have h : x % 2 = 0 ∨ x % 2 = 1 := by omega
  rcases h with h | h <;> rw [h]
  · exact ⟨65, .inl rfl, by decide +kernel⟩
  · exact ⟨67, .inr (.inl rfl), by decide +kernel⟩
def spText (K : PySem.W.Frag) : Sp := fun vs H Q _ => ∃ (c n : Int), vs = [.int c, .int n] ∧ 0 ≤ n ∧ n ≤ 100000 ∧ ∀ (H' : Hp) (l : List Nat), Same H H' → Dna l → l.length = n.toNat → Q (.str (T l)) H'
theorem ok_text {f fR : Addr} {fd fdR : FuncData} {k : Nat} (F : Fun K "_law_text" "_law_text" sText f fd) (B : Bl mg) (GR : FnOk P w K mg base CX0 (k + 1) fR fdR ["cell", "count", "bound"] (spRow K)) (gR : mg "_law_row" = some (.ref fR)) (kR : PySem.W.keepIn K (.ref fR) = true) (bR : Binds K fdR ["cell", "count", "bound"] []) :
    FnOk P w K mg base CX0 (k + 1 + 1) f fd ["cell", "size"] (spText K) := by
  refine F.ok scText (fun vs H Q E h => ?_) (fun cdv A outer s H vs Q E hr h => ?_)
  · obtain ⟨c, n, rfl, _⟩ := h
    rfl
  · obtain ⟨c, n, rfl, hn0, hn, q⟩ := h
    refine ⟨_, pss_cons (ps_set (i := 2) scText.nd rfl (.inl rfl) (pe_call GR hr (by rfl) gR kR bR .nil pass0 (pa_cons (pv 0) (pa_cons (pv 1) (pa_cons pe_int pa_nil)))))
      (pss_cons (ps_set (i := 3) scText.nd rfl (.inl rfl) (pe_op op_mod (pe_op op_fdiv (pe_callB call_abs (by rfl) B.abs (by decide +kernel) (pa_cons (pe_callTy call_int1 (by rfl) B.int (by decide +kernel) (pa_cons (pv 0) pa_nil)) pa_nil)) pe_int) pe_int))
      (pss_cons (ps_set (i := 4) scText.nd rfl (.inl rfl) pe_str)
      (pss_cons (ps_for PassesOwn.never rfl (pi_range1 rfl B.range (pa_cons (pv 1) pa_nil)) (pg_name (i := 5) scText.nd rfl (.inl rfl))
        (C8.pss_cut (ps_set (i := 6) scText.nd rfl (.inl rfl) (pe_ix ix_str pe_str (pe_op op_mod (pe_ix ix_list (pv 2) (pv 5) (fun _ _ => rfl)) pe_int) (fun _ _ => rfl)))
        (C8.pss_cut (ps_if (PW.pt (pw_and (pt_cmpR op_eq (pv 3) pe_int (nomark _)) (pw_and (pt_cmpR op_gt (pv 5) pe_int (nomark _)) (pw_and1 (pt_cmpR op_gt (pe_op op_mod (pe_ix ix_list (pv 2) (pv 5) (fun _ _ => rfl)) pe_int) pe_int (nomark _))))))
            (pss_one (ps_set (i := 6) scText.nd rfl (.inl rfl) (pe_ix ix_str (pv 4) (pe_op op_sub (pv 5) pe_int) (fun _ _ => rfl)))) pss_nil)
        (C8.pss_cut (ps_if (pt_cmpR op_eq (pv 3) pe_int (nomark _)) (pss_one (ps_set (i := 6) scText.nd rfl (.inl rfl) (pe_ix ix_str pe_str (pe_op op_mod (pe_ix ix_list (pv 2) (pv 5) (fun _ _ => rfl)) pe_int) (fun _ _ => rfl)))) pss_nil)
        (C8.pss_cut (ps_if (PW.pt (pw_and (pt_cmpR op_eq (pv 3) pe_int (nomark _)) (pw_and1 (pt_cmpR op_gt (pe_ix ix_list (pv 2) (pv 5) (fun _ _ => rfl)) pe_int (nomark _)))))
            (pss_one (ps_set (i := 6) scText.nd rfl (.inl rfl) pe_str)) pss_nil)
        (pss_one (ps_set (i := 4) scText.nd rfl (.inl rfl) (pe_op op_add_str (pv 4) (pv 6)))))))))
      (pss_one (ps_ret (pv 4)))))), ?_⟩
    refine ⟨.int c, rfl, .int n, rfl, c, n, 97, rfl, hn0, hn, by decide, by decide, fun H1 p xs sm hp hx hl hall => ?_⟩
    refine ⟨.int c, rfl, .inl ⟨c, rfl, c, rfl, _, 7, rfl, rfl, ⟨by decide, by decide⟩, _, 4, rfl, rfl, (show (0 : Int) < 4 by decide), ?_⟩⟩
    refine ⟨.int n, rfl, n, rfl, by omega, by omega, ?_⟩
    obtain ⟨kd, hkd⟩ : ∃ kd : Int, kd = (if c < 0 then -c else c) / 7 % 4 := ⟨_, rfl⟩
    have hS : SqL K H1 p (xs.map V.int) := .inl (.inl hx)
    refine for_range (lo := 0) (n := n.toNat) (fun i σ H' => H' = H1 ∧ ∃ (l : List Nat) (kv lv : Option V), σ = [some (.int c), some (.int n), some (.ref p), some (.int kd), some (.str (T l)), kv, lv] ∧ l.length = i ∧ Dna l) ?_ ?_ ?_
    · exact ⟨rfl, [], none, none, by rw [← T_nil, hkd]; rfl, rfl, fun c hc => by cases hc⟩
    · rintro i σ H' hi ⟨rfl, l, kv, lv, rfl, hli, hd⟩
      have hix : i < xs.length := by omega
      have at1 : atI (xs.map V.int) (0 + (i : Nat)) = some (.int xs[i]) := by
        rw [Int.zero_add]
        refine atI_nat ?_
        rw [List.getElem?_map, List.getElem?_eq_getElem hix]
        rfl
      have done : ∀ d : Nat, Sg d → ∃ e, Sg e ∧ [some (.int c), some (.int n), some (.ref p), some (.int kd), some (.str (T l)), some (V.int (0 + (i : Nat))), some (.str (T [d]))] = [some (.int c), some (.int n), some (.ref p), some (.int kd), some (.str (T l)), some (V.int (0 + (i : Nat))), some (.str (T [e]))] := fun d hd => ⟨d, hd, rfl⟩
      refine ⟨fun σ H2 => H2 = H' ∧ ∃ d, Sg d ∧ σ = [some (.int c), some (.int n), some (.ref p), some (.int kd), some (.str (T l)), some (V.int (0 + (i : Nat))), some (.str (T [d]))], ?_, ?_⟩
      · obtain ⟨d, hsd, hat⟩ := sg_four xs[i]
        exact ⟨.ref p, rfl, .int (0 + (i : Nat)), rfl, p, _, _, _, rfl, rfl, hS, at1, _, 4, rfl, rfl, (show (0 : Int) < 4 by decide), _, _, d, rfl, rfl, by decide, hat, rfl, d, hsd, rfl⟩
      rintro σ H2 ⟨rfl, d, hsd, rfl⟩
      refine ⟨fun σ H3 => H3 = H2 ∧ ∃ d, Sg d ∧ σ = [some (.int c), some (.int n), some (.ref p), some (.int kd), some (.str (T l)), some (V.int (0 + (i : Nat))), some (.str (T [d]))], ?_, ?_⟩
      · refine ⟨.int kd, rfl, rfl, _, rfl, ite2 (fun _ => ?_) (fun _ => iteF ⟨rfl, d, hsd, rfl⟩)⟩
        refine ⟨.int (0 + (i : Nat)), rfl, _, 4, rfl, rfl, _, rfl, ite2 (fun e4 => ?_) (fun _ => iteF ⟨rfl, d, hsd, rfl⟩)⟩
        refine ⟨.ref p, rfl, .int (0 + (i : Nat)), rfl, p, _, _, _, rfl, rfl, hS, at1, _, 11, rfl, rfl, (show (0 : Int) < 11 by decide), _, 0, rfl, rfl, _, rfl, ite2 (fun _ => ?_) (fun _ => ⟨rfl, d, hsd, rfl⟩)⟩
        have h4 : (4 : Int) < 0 + (i : Nat) := of_decide_eq_true e4
        have hlt : i - 5 < l.length := by omega
        refine ⟨.str (T l), rfl, .int (0 + (i : Nat)), rfl, _, 5, rfl, rfl, T l, _, l[i - 5], rfl, rfl, line_ok (by rw [T_len]; omega), ?_, rfl, _, hd _ (List.getElem_mem hlt), rfl⟩
        rw [show (0 + ((i : Nat) : Int)) - 5 = ((i - 5 : Nat) : Int) by omega]
        refine atI_nat ?_
        exact List.getElem?_eq_getElem hlt
      rintro σ H3 ⟨rfl, d, hsd, rfl⟩
      refine ⟨fun σ H4 => H4 = H3 ∧ ∃ d, Sg d ∧ σ = [some (.int c), some (.int n), some (.ref p), some (.int kd), some (.str (T l)), some (V.int (0 + (i : Nat))), some (.str (T [d]))], ?_, ?_⟩
      · refine ⟨.int kd, rfl, rfl, _, rfl, ite2 (fun _ => ?_) (fun _ => ⟨rfl, d, hsd, rfl⟩)⟩
        obtain ⟨d, hsd, hat⟩ := sg_two xs[i]
        exact ⟨.ref p, rfl, .int (0 + (i : Nat)), rfl, p, _, _, _, rfl, rfl, hS, at1, _, 2, rfl, rfl, (show (0 : Int) < 2 by decide), _, _, d, rfl, rfl, by decide, hat, rfl, d, hsd, rfl⟩
      rintro σ H4 ⟨rfl, d, hsd, rfl⟩
      refine ⟨fun σ H5 => H5 = H4 ∧ ∃ d, Sg d ∧ σ = [some (.int c), some (.int n), some (.ref p), some (.int kd), some (.str (T l)), some (V.int (0 + (i : Nat))), some (.str (T [d]))], ?_, ?_⟩
      · refine ⟨.int kd, rfl, rfl, _, rfl, ite2 (fun _ => ?_) (fun _ => iteF ⟨rfl, d, hsd, rfl⟩)⟩
        refine ⟨.ref p, rfl, .int (0 + (i : Nat)), rfl, p, _, _, _, rfl, rfl, hS, at1, _, 88, rfl, rfl, _, rfl, ite2 (fun _ => ?_) (fun _ => ⟨rfl, d, hsd, rfl⟩)⟩
        exact ⟨rfl, 78, .inr (.inr (.inr (.inr rfl))), rfl⟩
      rintro σ H5 ⟨rfl, d, hsd, rfl⟩
      refine ⟨.str (T l), rfl, .str (T [d]), rfl, T l, T [d], rfl, rfl, line_ok (by rw [T_len, T_len, List.length_singleton]; omega), rfl, l ++ [d], some (.int (0 + (i : Nat))), some (.str (T [d])), ?_, ?_, hd.app (.one hsd)⟩
      · rw [T_app]
        rfl
      · rw [List.length_append, hli]
        rfl
    · rintro σ H' ⟨rfl, l, kv, lv, rfl, hli, hd⟩
      exact ⟨.str (T l), rfl, q H' l sm hd hli⟩
/-! ### _law_turned -/
def opp (c : Nat) : Nat := if c = 65 then 84 else if c = 67 then 71 else if c = 71 then 67 else if c = 84 then 65 else c
def turn (l : List Nat) : List Nat := (l.map opp).reverse
theorem opp_sg {c : Nat} (h : Sg c) : Sg (opp c) := by
  rcases h with h | h | h | h | h <;> subst h
  · exact .inr (.inr (.inr (.inl rfl)))
  · exact .inr (.inr (.inl rfl))
  · exact .inr (.inl rfl)
  · exact .inl rfl
  · exact .inr (.inr (.inr (.inr rfl)))
theorem opp_opp {c : Nat} (h : Sg c) : opp (opp c) = c := by
  rcases h with h | h | h | h | h <;> subst h <;> rfl
theorem turn_dna {l : List Nat} (h : Dna l) : Dna (turn l) := fun c hc => by
  obtain ⟨d, hd, e⟩ := List.mem_map.mp (List.mem_reverse.mp hc)
  rw [← e]
  exact opp_sg (h d hd)
theorem turn_len (l : List Nat) : (turn l).length = l.length := by
  unfold turn
  rw [List.length_reverse, List.length_map]
theorem turn_turn {l : List Nat} (h : Dna l) : turn (turn l) = l := by
  unfold turn
  rw [List.map_reverse, List.reverse_reverse, List.map_map]
  conv => rhs; rw [← List.map_id l]
  exact List.map_congr_left fun c hc => opp_opp (h c hc)
theorem turn_app (a b : List Nat) : turn (a ++ b) = turn b ++ turn a := by
  unfold turn
  rw [List.map_append, List.reverse_append]
theorem turn_snoc (a : List Nat) (c : Nat) : turn (a ++ [c]) = opp c :: turn a := by
  rw [turn_app]
  rfl
theorem sign_ix {c : Nat} (h : Sg c) : ∃ (i : Nat) (r : List Nat), Builtin.Str.occurrences (Str.ofString "ACGTN") ⟨#[c]⟩ 0 (Str.ofString "ACGTN").length 1 = i :: r ∧ atI (Str.ofString "TGCAN").cps.toList (i : Int) = some (opp c) ∧ (i : Int) + 2 = (if c = 65 then 2 else if c = 67 then 3 else if c = 71 then 4 else if c = 84 then 5 else 6) := by
  rcases h with h | h | h | h | h <;> subst h
  · exact ⟨0, [], by decide +kernel, by decide +kernel, by decide⟩
  · exact ⟨1, [], by decide +kernel, by decide +kernel, by decide⟩
  · exact ⟨2, [], by decide +kernel, by decide +kernel, by decide⟩
  · exact ⟨3, [], by decide +kernel, by decide +kernel, by decide⟩
  · exact ⟨4, [], by decide +kernel, by decide +kernel, by decide⟩
def spLTurned : Sp := fun vs H Q _ => ∃ l : List Nat, vs = [.str (T l)] ∧ Dna l ∧ l.length ≤ 100000 ∧ Q (.str (T (turn l))) H
theorem ok_lturned {f : Addr} {fd : FuncData} {k : Nat} (F : Fun K "_law_turned" "_law_turned" sLTurned f fd) : FnOk P w K mg base CX0 (k + 1) f fd ["text"] spLTurned := by
  refine F.ok scLTurned (fun vs H Q E h => ?_) (fun cdv A outer s H vs Q E hr h => ?_)
  · obtain ⟨l, rfl, _⟩ := h
    rfl
  · obtain ⟨l, rfl, hd, hl, q⟩ := h
    refine ⟨_, pss_cons (ps_set (i := 1) scLTurned.nd rfl (.inl rfl) pe_str)
      (pss_cons (ps_for PassesOwn.never rfl (pi_str (pv 0)) (pg_name (i := 2) scLTurned.nd rfl (.inl rfl))
        (pss_one (ps_set (i := 1) scLTurned.nd rfl (.inl rfl) (pe_op op_add_str (pe_ix ix_str pe_str (pe_bm PySem.F.plainAttrs_str PySem.F.slot_str_index PySem.F.type_str_index mt_sindex pe_str (pa_cons (pv 2) pa_nil)) (fun _ _ => rfl)) (pv 1)))))
      (pss_one (ps_ret (pv 1)))), ?_⟩
    refine ⟨.str (T l), rfl, T l, rfl, ?_⟩
    refine for_str (z := T l) (fun i σ H' => H' = H ∧ i ≤ l.length ∧ ∃ lv, σ = [some (.str (T l)), some (.str (T (turn (l.take i)))), lv]) ?_ ?_ ?_
    · exact ⟨rfl, Nat.zero_le _, none, by
        show [some (V.str (T l)), some (V.str (Str.ofString "")), none] = _
        rw [T_nil]
        rfl⟩
    · rintro i c σ H' hc ⟨rfl, _, lv, rfl⟩
      rw [T_at] at hc
      obtain ⟨hlt, hce⟩ := List.getElem?_eq_some_iff.mp hc
      have hsc : Sg c := by
        rw [← hce]
        exact hd _ (List.getElem_mem hlt)
      obtain ⟨j, r, ho, ha, _⟩ := sign_ix hsc
      have et : turn (l.take (i + 1)) = opp c :: turn (l.take i) := by
        rw [List.take_add_one, hc]
        exact turn_snoc _ c
      refine ⟨rfl, .str ⟨#[c]⟩, rfl, _, _, j, r, rfl, rfl, ho, _, _, _, rfl, rfl, by decide, ha, .str (T (turn (l.take i))), rfl, T [opp c], _, rfl, rfl, line_ok ?_, rfl, hlt, some (.str ⟨#[c]⟩), ?_⟩
      · rw [T_len, T_len, turn_len, List.length_take, List.length_singleton]
        omega
      · rw [T_app, et]
        rfl
    · rintro σ H' ⟨rfl, _, lv, rfl⟩
      rw [T_size, List.take_length]
      exact ⟨_, rfl, q⟩
end
theorem line_ok6 {n : Nat} (h : n ≤ 1000000) : n ≤ sizeLine := by
  rw [sizeLine_eq]
  omega
theorem line_ok7 {n : Nat} (h : n ≤ 10000000) : n ≤ sizeLine := by
  rw [sizeLine_eq]
  omega
theorem new_ne {H : Hp} {p q : Addr} {o : HO} (h : upd H p o q = none) : q ≠ p := fun e => by
  rw [e, upd_same] at h
  cases h
theorem new_old {H : Hp} {p q : Addr} {o : HO} (h : upd H p o q = none) : H q = none := by
  rw [upd_ne (new_ne h)] at h
  exact h
theorem cell_arg2 (a : Addr) (c d i : Nat) : [V.ref a, V.int ((c : Int) + (d : Int) * (0 + ((i : Nat) : Int)))] = [V.ref a, V.int ((c + d * i : Nat) : Int)] := by
  congr 2
  rw [Int.zero_add]
  simp
theorem cell_arg3 (a : Addr) (d i : Nat) : [V.ref a, V.int ((d : Int) * (0 + ((i : Nat) : Int)))] = [V.ref a, V.int ((d * i : Nat) : Int)] := by
  congr 2
  rw [Int.zero_add]
  simp
theorem cell_arg4 (a : Addr) (c d i : Nat) : [V.ref a, V.int ((d : Int) * (0 + ((i : Nat) : Int)) + (c : Int))] = [V.ref a, V.int ((d * i + c : Nat) : Int)] := by
  congr 2
  rw [Int.zero_add]
  simp
theorem map_int_at {ns : List Int} {i : Nat} (h : i < ns.length) : (ns.map V.int)[i]? = some (.int ns[i]) := by
  rw [List.getElem?_map, List.getElem?_eq_getElem h]
  rfl
def rFind : V → List V → Hp → VK → Prop := fun x xs H Q => ∃ a b, x = .str a ∧ xs = [.str b] ∧ Q (.int (Txt.find a b)) H
def rMaxP : List V → Hp → VK → Prop := fun xs H Q => ∃ i j, xs = [.int i, .int j] ∧ Q (.int (if j > i then j else i)) H
/-! ### lists of ints as data -/
abbrev LI (ns : List Int) : HO := .lst (ns.map V.int)
theorem LI_snoc (l : List Int) (x : Int) : LI (l ++ [x]) = .lst (l.map V.int ++ [.int x]) := by
  show HO.lst ((l ++ [x]).map V.int) = _
  rw [List.map_append]
  rfl
def dI (ns : List Int) : PyData := .list (ns.map .int)
theorem can_ints (ns : List Int) : PyData.canLayAll0 (ns.map .int) = true := by
  induction ns with
  | nil => rfl
  | cons n r ih => exact ih
theorem depth_intsD (ns : List Int) : PyData.depthAll (ns.map .int) = 0 := by
  induction ns with
  | nil => rfl
  | cons n r ih =>
    show max 0 (PyData.depthAll (r.map .int)) = 0
    rw [ih]
    rfl
theorem shaped_dI (ns : List Int) : SeqAt.shaped (dI ns) = true := by
  unfold SeqAt.shaped
  have e1 : (dI ns).canLay0 = true := can_ints ns
  have e2 : PyData.depth (dI ns) ≤ 64 := by
    show PyData.depthAll (ns.map .int) + 1 ≤ 64
    rw [depth_intsD]
    decide
  rw [e1, decide_eq_true e2]
  rfl
theorem dp_ints {K : PySem.W.Frag} {H : Hp} : ∀ ns : List Int, DpAll K H (ns.map V.int) (ns.map .int)
  | [] => .nil
  | n :: r => .cons (.int n) (dp_ints r)
theorem dp_dI {K : PySem.W.Frag} {H : Hp} {a : Addr} {ns : List Int} (h : SqL K H a (ns.map V.int)) : Dp K H (.ref a) (dI ns) := .lst h (dp_ints ns)
theorem eqv_ints (ns : List Int) : PyData.eqv (dI ns) (dI ns) = true := SeqAt.eqv_refl _ (can_ints ns)
theorem cutV_to (xs : List V) (k : Nat) : L2.cutV xs none (some (k : Int)) = xs.take k := by
  unfold L2.cutV
  rw [HT.sIx_none, HT.sIx_nat, List.drop_zero, Nat.sub_zero]
  by_cases h : k ≤ xs.length
  · rw [Nat.min_eq_left h]
  · rw [Nat.min_eq_right (by omega), List.take_of_length_le (Nat.le_refl _), List.take_of_length_le (by omega)]
theorem cutV_from (xs : List V) (k : Nat) : L2.cutV xs (some (k : Int)) none = xs.drop k := by
  unfold L2.cutV
  rw [HT.sIx_none, HT.sIx_nat]
  by_cases h : k ≤ xs.length
  · rw [Nat.min_eq_left h, List.take_of_length_le (by rw [List.length_drop]; omega)]
  · rw [Nat.min_eq_right (by omega), List.drop_of_length_le (Nat.le_refl _), List.drop_of_length_le (by omega), List.take_nil]
theorem ix_set {xs : List V} {i : Int} {j : Nat} (e : i = (j : Int)) (h : j < xs.length) : ixN xs.length i = some j := by
  rw [e]
  unfold ixN
  rw [if_pos (by omega), if_pos (by omega)]
  rfl
/-- a def of the module that keeps a promise -/
def Has (P : Program) (w : World) (K : PySem.W.Frag) (mg : Str → Option Value) (base : Heap) (k : Nat) (x : Str) (ps : List Str) (sp : Sp) : Prop :=
  ∃ f fd, FnOk P w K mg base CX0 k f fd ps sp ∧ mg x = some (.ref f) ∧ PySem.W.keepIn K (.ref f) = true ∧ Binds K fd ps []
/-- lists of bytes -/
def Byt (l : List Int) : Prop := ∀ x ∈ l, 0 ≤ x ∧ x < 256
theorem Byt.app {a b : List Int} (h : Byt a) (k : Byt b) : Byt (a ++ b) := fun x hx => by
  rcases List.mem_append.mp hx with z | z
  · exact h x z
  · exact k x z
theorem Byt.take {a : List Int} (h : Byt a) (n : Nat) : Byt (a.take n) := fun x hx => h x (List.mem_of_mem_take hx)
theorem Byt.rep {a : List Int} (h : Byt a) (n : Nat) : Byt (List.replicate n a).flatten := fun x hx => by
  obtain ⟨z, hz1, hz2⟩ := List.mem_flatten.mp hx
  rw [List.eq_of_mem_replicate hz1] at hz2
  exact h x hz2
theorem rep_map {α β : Type} (f : α → β) (n : Nat) (l : List α) : (List.replicate n (l.map f)).flatten = (List.replicate n l).flatten.map f := by
  rw [List.map_flatten, List.map_replicate]
theorem rep_len {α : Type} (n : Nat) (l : List α) : (List.replicate n l).flatten.length = n * l.length := by simp
theorem join_ones : ∀ l : List Nat, Str.join (T []) (l.map fun c => T [c]) = T l
  | [] => rfl
  | [c] => rfl
  | c :: e :: r => by
    have ih := join_ones (e :: r)
    show T [c] ++ T [] ++ Str.join (T []) ((e :: r).map fun c => T [c]) = _
    rw [ih, T_app, T_app]
    rfl
theorem sum_ones (l : List Nat) : ((l.map fun c => T [c]).map (·.length)).sum = l.length := by
  induction l with
  | nil => rfl
  | cons c r ih =>
    rw [List.map_cons, List.map_cons, List.sum_cons, ih, T_len, List.length_cons]
    show 1 + r.length = r.length + 1
    omega
section
variable {X : Cx}
theorem fold_app : ∀ (n : Nat) (z acc : Array Nat), (List.replicate n z).foldl (· ++ ·) acc = acc ++ ((List.replicate n z.toList).flatten).toArray
  | 0, z, acc => by simp
  | n + 1, z, acc => by
    rw [List.replicate_succ, List.foldl_cons, fold_app n z (acc ++ z), List.replicate_succ, List.flatten_cons]
    apply Array.toList_inj.mp
    simp
theorem mul_T (l : List Nat) (n : Int) (h0 : 0 ≤ n) : Txt.mul (T l) n = T (List.replicate n.toNat l).flatten := by
  unfold Txt.mul
  by_cases h1 : n < 1
  · rw [if_pos h1, show n.toNat = 0 by omega]
    exact T_nil
  · rw [if_neg h1]
    by_cases h2 : (n == 1 || (T l).length == 0) = true
    · rw [if_pos h2]
      rw [T_len] at h2
      rcases (Bool.or_eq_true _ _).mp h2 with z | z
      · have e : n = 1 := by simpa using z
        subst e
        show T l = T (List.replicate 1 l).flatten
        simp
      · have e : l = [] := by simpa using z
        subst e
        have : ∀ m : Nat, (List.replicate m ([] : List Nat)).flatten = [] := fun m => by simp
        rw [this]
    · rw [if_neg h2]
      show Str.mk _ = Str.mk _
      congr 1
      rw [fold_app, T_list]
      simp
/-- a text n times -/
theorem op_mulT : OpR X (binaryOp .Mult) (fun x y H Q => ∃ (l : List Nat) (n : Int), x = .str (T l) ∧ y = .int n ∧ l.length ≤ 100 ∧ 0 ≤ n ∧ n ≤ 1000 ∧ Q (.str (T (List.replicate n.toNat l).flatten)) H) := by
  intro pins s σ H x y v u Q I rx ry h
  obtain ⟨l, n, rfl, rfl, hl, h0, hn, q⟩ := h
  obtain ⟨t, rfl⟩ := rx
  obtain ⟨t', rfl⟩ := ry
  refine SB.mul (mulOk_of 100 1000 (by rw [T_len]; exact hl) hn (by omega) (by decide) (by decide)) fun t1 tk => ?_
  rw [mul_T l n h0]
  exact ⟨.str (T (List.replicate n.toNat l).flatten), H, I.tok _, ⟨_, rfl⟩, q⟩
end
theorem rep_mem {n : Nat} {l : List Nat} {c : Nat} (h : c ∈ (List.replicate n l).flatten) : c ∈ l := by
  obtain ⟨z, hz1, hz2⟩ := List.mem_flatten.mp h
  rw [List.eq_of_mem_replicate hz1] at hz2
  exact hz2
/-- a text n times: only how long it is and what stands in it -/
theorem op_mulM {X : Cx} : OpR X (binaryOp .Mult) (fun x y H Q => ∃ (l : List Nat) (n : Int), x = .str (T l) ∧ y = .int n ∧ l.length ≤ 100 ∧ 0 ≤ n ∧ n ≤ 1000 ∧ ∀ m : List Nat, m.length = n.toNat * l.length → (∀ c ∈ m, c ∈ l) → Q (.str (T m)) H) := by
  intro pins s σ H x y v u Q I rx ry h
  obtain ⟨l, n, e1, e2, hl, h0, hn, q⟩ := h
  exact op_mulT pins s σ H x y v u Q I rx ry ⟨l, n, e1, e2, hl, h0, hn, q _ (rep_len _ _) fun c hc => rep_mem hc⟩
theorem cut_head (l : List Nat) (k : Nat) : cutS (T l) none (some (k : Int)) = T (l.take k) := by
  unfold cutS
  rw [HT.sIx_nat, HT.sIx_none, T_len, T_list, List.drop_zero, Nat.sub_zero]
  show Str.mk _ = Str.mk _
  congr 2
  by_cases h : k ≤ l.length
  · rw [Nat.min_eq_left h]
  · rw [Nat.min_eq_right (by omega), List.take_of_length_le (Nat.le_refl _), List.take_of_length_le (by omega)]
theorem paired_len {α β : Type} {F : α → β → Prop} : ∀ {xs : List α} {ys : List β}, Paired F xs ys → xs.length = ys.length
  | _, _, .nil => rfl
  | _, _, .cons _ t => congrArg (· + 1) (paired_len t)
theorem paired_get {α β : Type} {F : α → β → Prop} : ∀ {xs : List α} {ys : List β} {i : Nat} {x : α}, Paired F xs ys → xs[i]? = some x → ∃ y, ys[i]? = some y ∧ F x y
  | _, _, 0, _, .cons r _, e => ⟨_, rfl, by cases e; exact r⟩
  | _, _, i + 1, _, .cons _ t, e => paired_get (i := i) t e
/-! ### data as a whole -/
def Asc (l : List Nat) : Prop := ∀ c ∈ l, c < 128
def dS (l : List Nat) : PyData := .str (T l)
def dL (ls : List (List Nat)) : PyData := .list (ls.map dS)
def dR (rs : List (List Nat × List Nat)) : PyData := .list (rs.map fun r => .tuple [dS r.1, dS r.2])
theorem can_dS {l : List Nat} (h : Asc l) : (dS l).canLay0 = true := by
  show PyData.strOk (T l) = true
  unfold PyData.strOk
  rw [Array.all_eq_true]
  intro i hi
  have hi2 : i < l.length := by rw [T_size] at hi; exact hi
  have e : (T l).cps[i]? = l[i]? := T_at l i
  rw [Array.getElem?_eq_getElem hi, List.getElem?_eq_getElem hi2] at e
  rw [Option.some.inj e]
  have := h _ (List.getElem_mem hi2)
  exact decide_eq_true (by omega)
theorem can_dL {ls : List (List Nat)} (h : ∀ l ∈ ls, Asc l) : (dL ls).canLay0 = true := by
  show PyData.canLayAll0 (ls.map dS) = true
  induction ls with
  | nil => rfl
  | cons l r ih =>
    show ((dS l).canLay0 && PyData.canLayAll0 (r.map dS)) = true
    rw [can_dS (h l List.mem_cons_self), ih fun x hx => h x (List.mem_cons_of_mem _ hx)]
    rfl
theorem depth_dL (ls : List (List Nat)) : PyData.depth (dL ls) ≤ 64 := by
  have : PyData.depthAll (ls.map dS) = 0 := by
    induction ls with
    | nil => rfl
    | cons l r ih =>
      show max (PyData.depth (dS l)) (PyData.depthAll (r.map dS)) = 0
      rw [ih]
      rfl
  show PyData.depthAll (ls.map dS) + 1 ≤ 64
  omega
theorem shaped_dL {ls : List (List Nat)} (h : ∀ l ∈ ls, Asc l) : SeqAt.shaped (dL ls) = true := by
  unfold SeqAt.shaped
  rw [can_dL h, decide_eq_true (depth_dL ls)]
  rfl
theorem can_dR {rs : List (List Nat × List Nat)} (h : ∀ r ∈ rs, Asc r.1 ∧ Asc r.2) : (dR rs).canLay0 = true := by
  show PyData.canLayAll0 (rs.map fun r => .tuple [dS r.1, dS r.2]) = true
  induction rs with
  | nil => rfl
  | cons l r ih =>
    show (((dS l.1).canLay0 && ((dS l.2).canLay0 && true)) && PyData.canLayAll0 (r.map fun r => .tuple [dS r.1, dS r.2])) = true
    rw [can_dS (h l List.mem_cons_self).1, can_dS (h l List.mem_cons_self).2, ih fun x hx => h x (List.mem_cons_of_mem _ hx)]
    rfl
theorem depth_dR (rs : List (List Nat × List Nat)) : PyData.depth (dR rs) ≤ 64 := by
  have : PyData.depthAll (rs.map fun r => .tuple [dS r.1, dS r.2]) ≤ 1 := by
    induction rs with
    | nil => exact Nat.zero_le _
    | cons l r ih =>
      show max (max 0 (max 0 0) + 1) (PyData.depthAll (r.map fun r => .tuple [dS r.1, dS r.2])) ≤ 1
      omega
  show PyData.depthAll (rs.map fun r => .tuple [dS r.1, dS r.2]) + 1 ≤ 64
  omega
theorem shaped_dR {rs : List (List Nat × List Nat)} (h : ∀ r ∈ rs, Asc r.1 ∧ Asc r.2) : SeqAt.shaped (dR rs) = true := by
  unfold SeqAt.shaped
  rw [can_dR h, decide_eq_true (depth_dR rs)]
  rfl
/-! ### enumerate(text), enumerate(text, start=k) -/
section
open PySem PySem.Spec PyProof.Rows L2 PySem.W
theorem callWith_kwT2 {M : Model} {A : Around} {E : Value → Shared → Prop} {s : Shared} {env : Env} {pos : Pos} {U : String} {e : Expr} {rest : List Expr} {kws : List Keyword} {Q : Value → Shared → Prop}
    (h : wpAny M A (spliced (backTo pos (starEach (e :: rest) env))) (fun vs s₁ => wpAny M A (evalAll ((backToKw pos (keywordEach kws env)).map (·.2))) (fun kvs s₂ => wpAny M A (call (.type U) vs (((backToKw pos (keywordEach kws env)).filterMap (·.1)).zip kvs)) Q E s₂) E s₁) E s)
    (he : backTo pos (starEach (e :: rest) env) = (false, eval e env) :: backTo pos (starEach rest env)) (hplain : (backTo pos (starEach (e :: rest) env)).any (·.1) = false)
    (hall : (backToKw pos (keywordEach kws env)).all (·.1.isSome) = true) (hkw : (backToKw pos (keywordEach kws env)).any (·.1.isNone) = false) :
    wpAny M A (callWith pos (.type U) [] (backTo pos (starEach (e :: rest) env)) (backToKw pos (keywordEach kws env))) Q E s := by
  have h2 : wpAny M A (evalArgs (.type U) true (backTo pos (starEach (e :: rest) env)) (backToKw pos (keywordEach kws env))) (fun a s₁ => wpAny M A (call (.type U) ([] ++ a.pos) a.kw) Q E s₁) E s := by
    rw [he] at h ⊢
    exact evalArgs_kwB hall h
  unfold callWith
  refine wpAny_bind (wpAny_holding (wpAny_mono h2 (fun a s₁ h₁ => wpAny_bind (wpAny_standAt ?_)) fun _ _ x => x))
  simp only [hplain, hkw, Bool.or_false]
  refine wpAny_bind (wpAny_pure ?_)
  exact wpAny_bind (wpAny_mono h₁ (fun r s₂ hr => wpAny_bind (wpAny_holding (wpAny_point (wpAny_pure hr)))) fun _ _ x => x)
/-- the signs of x, each in a new pair with its number from k on -/
def ItT (k : Int) (x : Str) : It :=
  ⟨fun i _ => i < x.cps.size, fun i H v H' => ∃ T c, v = .ref T ∧ H T = none ∧ H' = upd H T (.tup [.int (k + (i : Nat)), .str ⟨#[c]⟩]) ∧ x.cps[i]? = some c, fun i _ => x.cps.size ≤ i⟩
theorem turn_enumT {P : Program} {w : World} {K : PySem.W.Frag} {elts : List Expr} {kk : Nat} {tpos : Pos} (k : Int) (x : Str) (t : Tok) (e it : Addr) (hne : e ≠ it) :
    Turn P w K (.Tuple elts kk tpos) (ItT k x) [e, it] e (fun i h => (∃ old, IsEnum h e it (k + ((i : Nat) : Int)) old) ∧ h.IsStrIter it (strIterType x) x t i ∧ i ≤ x.cps.size) where
  mem := by simp
  obj := fun i h st b hb => by
    obtain ⟨⟨old, he⟩, ⟨o, ho, hc, hd⟩, _⟩ := st
    rcases (show b = e ∨ b = it by simpa using hb) with z | z
    · rw [z]
      exact ⟨_, he, fun v q => nomatch q⟩
    · rw [z]
      exact ⟨o, ho, fun v q => by rw [hd] at q; cases q⟩
  keep := fun i h h' st k => let ⟨⟨old, he⟩, ⟨o, ho, r⟩, l⟩ := st; ⟨⟨old, k e (by simp) _ he⟩, ⟨o, k it (by simp) _ ho, r⟩, l⟩
  item := by
    intro X hP hw hK hc i pins s σ H E I hf st hg
    subst hP hw hK
    obtain ⟨⟨old, he⟩, hit, hle⟩ := st
    have hel : e < s.heap.objs.size := Heap.lt_size he
    have hil : it < s.heap.objs.size := by obtain ⟨_, q, _⟩ := hit; exact Heap.lt_size q
    have hef : e ∉ [it] := by
      simp only [List.mem_cons, List.not_mem_nil, or_false]
      exact hne
    refine wpAny_pyNext_enum_itemC (Draws.text (by simpa using I.ok.hd hc) it x t) he hit hg hne hef fun x1 h' tk hx1 ho hst' hT hsz hk => ?_
    obtain ⟨c, u, hcx, rfl⟩ := hx1
    refine ⟨_, rfl, wpAny_letOwnedTupleGo_enum (s := { s with heap := h', toks := tk + 1 }) ho fun h'' he' sb => ?_⟩
    have hT2 : h''.get? s.heap.objs.size = some { cls := .type "tuple", data := .seq #[.int (k + (i : Int)) tk, .str ⟨#[c]⟩ u] } := (sb.2 _ (Nat.ne_of_gt hel)).trans hT
    have new : ObjOk X.prog X.w (upd H s.heap.objs.size (.tup [.int (k + (i : Nat)), .str ⟨#[c]⟩])) h'' s.heap.objs.size (.tup [.int (k + (i : Nat)), .str ⟨#[c]⟩]) :=
      ⟨by show 2 ≤ sizeLine; decide, [.int (k + (i : Int)) tk, .str ⟨#[c]⟩ u], .cons ⟨_, rfl⟩ (.cons ⟨_, rfl⟩ .nil), ⟨_, hT2, rfl, _, rfl⟩⟩
    have I1 : Inv X pins σ (upd H s.heap.objs.size (.tup [.int (k + (i : Nat)), .str ⟨#[c]⟩])) { s with heap := h'', toks := tk + 1 } :=
      I.turnedNew (ch := [e, it]) (fun b ob hb q => (sb.2 b (fun z => hb (by simp [z]))).trans (hk b ob (fun z => hb (by simp [z])) (fun z => hb (by simp [z])) q)) hf (Nat.le_refl _) new
    refine ⟨.ref s.heap.objs.size, _, I1, rfl, ⟨_, c, rfl, I.hok.fresh (Nat.le_refl _), rfl, hcx⟩, ⟨⟨.str ⟨#[c]⟩ u, ?_⟩, ?_, hg⟩, fun b hb => ?_⟩
    · rw [show k + ((i + 1 : Nat) : Int) = k + (i : Int) + 1 by omega]
      exact he'
    · obtain ⟨o, q, r⟩ := hst'
      exact ⟨o, (sb.2 it (Ne.symm hne)).trans q, r⟩
    · have hb' : b < s.heap.objs.size := by
        rcases (show b = e ∨ b = it by simpa using hb) with z | z
        · rw [z]; exact hel
        · rw [z]; exact hil
      rw [upd_ne (Nat.ne_of_lt hb')]
      exact (hf b hb).1
  done := by
    intro X hP hw hK hc i pins s σ H E I hf st hg
    subst hP hw hK
    obtain ⟨⟨old, he⟩, hit, hle⟩ := st
    obtain ⟨f0, f1, f2, f3, f4, f5⟩ := hf it (by simp)
    have hin : i = x.cps.size := Nat.le_antisymm hle hg
    refine wpAny_pyNext_enum_endD (Draws.text (by simpa using I.ok.hd hc) it x t) he (by rw [← hin]; exact hit) fun h' eb => ⟨rfl, I.turned (t' := s.toks) (fun b o hb q => eb b o hb q) f0 f1 f3 f4 f5⟩
  self := fun A i s Q E st h => let ⟨⟨_, he⟩, _⟩ := st; wpAny_pyIter_enum he h
def iEnumT (ta : TA) : TI := fun σ H R => ta σ H fun vs H1 => ∃ x, vs = [.str x] ∧ R (ItT 0 x) H1
theorem pi_enumT {X : Cx} {e : Expr} {ta : TA} {p pos tpos : Pos} {elts : List Expr} {kk : Nat} (hg : Gl X "enumerate") (hm : X.mg "enumerate" = none) (ha : PA X [e] ta) (hs : starEach [e] X.env = [(false, eval e X.env)] := by rfl) :
    PI X (.Tuple elts kk tpos) (.Call (.Name "enumerate" p) [e] [] pos) (iEnumT ta) := by
  refine ⟨fun pins s σ H R I h => ?_⟩
  refine Call_ (ld_blt I hg hm boot_enumerate (PyProof.Rows.callWith_type1 (thn (ha.run pos pins s σ H _ I h) fun us s1 ⟨vs, H1, I1, r1, q1⟩ => ?_) hs rfl))
  obtain ⟨x, ex, q⟩ := q1
  subst ex
  obtain ⟨u, rfl, ru⟩ := vals1 r1
  obtain ⟨t, rfl⟩ : ∃ t, u = Value.str x t := ru
  refine call_enumerate_str fun h' he hit hsz hk => wpAny_pyIter_enum he ?_
  have I3 : Inv X pins σ H1 { s1 with heap := h' } := I1.kept (t' := s1.toks) hk
  refine ⟨s1.heap.objs.size + 1, [s1.heap.objs.size + 1, s1.heap.objs.size], _, _, H1, rfl, I3, turn_enumT 0 x t (s1.heap.objs.size + 1) s1.heap.objs.size (Nat.succ_ne_self _), ⟨⟨.none, he⟩, hit, Nat.zero_le _⟩, fun b hb => ?_, q⟩
  have hle : s1.heap.objs.size ≤ b := by
    rcases (show b = s1.heap.objs.size + 1 ∨ b = s1.heap.objs.size by simpa using hb) with z | z
    · rw [z]; exact Nat.le_add_right _ _
    · rw [z]; exact Nat.le_refl _
  exact I1.fpOk hle (I1.hok.fresh hle)
def iEnumTS (ta tk : TA) : TI := fun σ H R => ta σ H fun vs H1 => tk σ H1 fun zs H2 => ∃ x k, vs = [.str x] ∧ zs = [.int k] ∧ -(2 ^ 63) ≤ k ∧ k < 2 ^ 63 ∧ R (ItT k x) H2
theorem pi_enumTS {X : Cx} {e ek : Expr} {ta tk : TA} {p pos tpos kp : Pos} {elts : List Expr} {kk : Nat} (hg : Gl X "enumerate") (hm : X.mg "enumerate" = none) (ha : PA X [e] ta) (hk : PK X [⟨some "start", ek, kp⟩] tk)
    (he1 : backTo pos (starEach [e] X.env) = (false, eval e X.env) :: backTo pos (starEach [] X.env) := by rfl) (hpl : (backTo pos (starEach [e] X.env)).any (·.1) = false := by rfl) :
    PI X (.Tuple elts kk tpos) (.Call (.Name "enumerate" p) [e] [⟨some "start", ek, kp⟩] pos) (iEnumTS ta tk) := by
  constructor
  intro pins s σ H R I h
  refine wpAny_Call_Name_kw (ld_blt I hg hm boot_enumerate ?_)
  refine callWith_kwT2 (thn (ha.run pos pins s σ H _ I h) fun us s1 ⟨vs, H1, I1, r1, q1⟩ => ?_) he1 hpl (by rfl) (by rfl)
  refine thn (hk.run pos pins s1 σ H1 _ I1 q1) fun ws s2 ⟨zs, H2, I2, r2, x, k, ev, ez, hk0, hk1, q⟩ => ?_
  subst ev ez
  obtain ⟨u, rfl, ru⟩ := vals1 r1
  obtain ⟨t, rfl⟩ : ∃ t, u = Value.str x t := ru
  obtain ⟨z, rfl, rz⟩ := vals1 r2
  obtain ⟨t2, rfl⟩ : ∃ t, z = Value.int k t := rz
  show wpAny _ _ (call (.type "enumerate") [.str x t] [(Str.ofString "start", .int k t2)]) _ _ s2
  refine enum_begins_start (begins_text x t) trivial hk0 hk1 fun h' he hit hsz hk => wpAny_pyIter_enum he ?_
  have I3 : Inv X pins σ H2 { s2 with heap := h' } := I2.kept (t' := s2.toks) hk
  refine ⟨s2.heap.objs.size + 1, [s2.heap.objs.size + 1, s2.heap.objs.size], _, _, H2, rfl, I3, turn_enumT k x t (s2.heap.objs.size + 1) s2.heap.objs.size (Nat.succ_ne_self _), ⟨⟨.none, ?_⟩, ⟨_, hit, rfl, rfl⟩, Nat.zero_le _⟩, fun b hb => ?_, q⟩
  · rw [show k + ((0 : Nat) : Int) = k by omega]
    exact he
  · have hle : s2.heap.objs.size ≤ b := by
      rcases (show b = s2.heap.objs.size + 1 ∨ b = s2.heap.objs.size by simpa using hb) with z | z
      · rw [z]; exact Nat.le_add_right _ _
      · rw [z]; exact Nat.le_refl _
    exact I2.fpOk hle (I2.hok.fresh hle)
end
/-! ### n * text -/
section
open PySem PySem.Spec PyProof.Rows L2
theorem mul_int_str {prog : Program} {w : World} {A : Around} {E : Value → Shared → Prop} {s : Shared} {x : Str} {n : Int} {t u : Tok} {Q : Value → Shared → Prop} (hok : MulOk x n) (h : ∀ t' k, Q (.str (Txt.mul x n) t') { s with toks := k }) :
    wpAny (model prog w) A (binaryOp .Mult (.int n u) (.str x t)) Q E s := by
  refine lm_binaryOp_repeat_right (T := "str") (U := "int") (by decide) (fun s' => typeIs_int s' n u) (typeIs_str s x t) F.fills_int_mul noFill_str_mul F.slot_int_mul lm_noRepeat_int repeat_str F.slot_int_index.lookup
    (call_gives F.slot_int_mul (typeIs_int s n u) F.entry_int_mul (F.args_int_mul_2 _ _) (AutoIntG3.int___mul___int_str_0 n u x t)
      ⟨rfl, typeIs_str s x t, call_gives F.slot_str_mul (typeIs_str s x t) F.entry_str_mul (F.args_str_mul_2 _ _) (gives_str_mul x n t u hok.1 hok.2.1 hok.2.2) ?_⟩)
  unfold Txt.mul at h
  by_cases h1 : n < 1
  · rw [if_pos h1]; have h' := h s.toks (s.toks + 1); rw [if_pos h1] at h'; exact ⟨by decide, h'⟩
  · rw [if_neg h1]; refine post_val_or_made (fun hc => fits_reps (hok.2.2 h1 (by simpa using hc))) fun t' k => ?_
    have h' := h t' k; rw [if_neg h1] at h'; exact h'
theorem rep_one (n c : Nat) : (List.replicate n [c]).flatten = List.replicate n c := by
  induction n with
  | zero => rfl
  | succ n ih =>
    rw [List.replicate_succ, List.flatten_cons, ih]
    rfl
/-- n times one sign -/
theorem op_imulT {X : Cx} : OpR X (binaryOp .Mult) (fun x y H Q => ∃ n c : Nat, x = .int (n : Int) ∧ y = .str (T [c]) ∧ n ≤ 100000 ∧ Q (.str (T (List.replicate n c))) H) := by
  intro pins s σ H x y v u Q I rx ry h
  obtain ⟨n, c, rfl, rfl, hn, q⟩ := h
  obtain ⟨t, rfl⟩ := rx
  obtain ⟨t', rfl⟩ := ry
  refine mul_int_str (mulOk_of 1 100000 (by rw [T_len]; exact Nat.le_refl 1) (by omega) (by omega) (by decide) (by decide)) fun t1 tk => ?_
  have e : (List.replicate (n : Int).toNat [c]).flatten = List.replicate n c := by
    rw [Int.toNat_natCast]
    exact rep_one n c
  rw [mul_T [c] n (by omega), e]
  exact ⟨.str _, H, I.tok _, ⟨_, rfl⟩, q⟩
end
/-! ### runs of a path -/
def rns : List Nat → List (Nat × Nat)
  | [] => []
  | c :: t => match rns t with
    | [] => [(c, 1)]
    | (d, n) :: r => if c = d then (c, n + 1) :: r else (c, 1) :: (d, n) :: r
theorem rns_cons (c d n : Nat) (t : List Nat) (r : List (Nat × Nat)) (h : rns t = (d, n) :: r) : rns (c :: t) = if c = d then (c, n + 1) :: r else (c, 1) :: (d, n) :: r := by
  show (match rns t with
    | [] => [(c, 1)]
    | (d, n) :: r => if c = d then (c, n + 1) :: r else (c, 1) :: (d, n) :: r) = _
  rw [h]
theorem rns_head : ∀ (c : Nat) (t : List Nat), ∃ n r, rns (c :: t) = (c, n + 1) :: r
  | c, [] => ⟨0, [], rfl⟩
  | c, d :: t => by
    obtain ⟨n, r, e⟩ := rns_head d t
    rw [rns_cons c d (n + 1) _ r e]
    by_cases h : c = d
    · rw [if_pos h]
      exact ⟨n + 1, r, rfl⟩
    · rw [if_neg h]
      exact ⟨0, _, rfl⟩
theorem rns_rep (c : Nat) : ∀ m : Nat, rns (List.replicate (m + 1) c) = [(c, m + 1)]
  | 0 => rfl
  | m + 1 => by
    rw [List.replicate_succ, rns_cons c c (m + 1) _ [] (rns_rep c m), if_pos rfl]
theorem rns_snoc {m c : Nat} (hm : 0 < m) : ∀ a : List Nat, a.getLast? ≠ some c → rns (a ++ List.replicate m c) = rns a ++ [(c, m)]
  | [], _ => by
    obtain ⟨k, rfl⟩ : ∃ k, m = k + 1 := ⟨m - 1, by omega⟩
    exact rns_rep c k
  | [x], h => by
    have hx : x ≠ c := fun e => h (by rw [e]; rfl)
    obtain ⟨k, rfl⟩ : ∃ k, m = k + 1 := ⟨m - 1, by omega⟩
    show rns (x :: List.replicate (k + 1) c) = _
    rw [rns_cons x c (k + 1) _ [] (rns_rep c k), if_neg hx]
    rfl
  | x :: y :: a, h => by
    have ih := rns_snoc hm (y :: a) (by rw [List.getLast?_cons_cons] at h; exact h)
    obtain ⟨n, r, e⟩ := rns_head y a
    rw [e] at ih
    show rns (x :: ((y :: a) ++ List.replicate m c)) = _
    rw [rns_cons x y (n + 1) _ (r ++ [(c, m)]) ih, rns_cons x y (n + 1) _ r e]
    by_cases hx : x = y
    · rw [if_pos hx, if_pos hx]
      rfl
    · rw [if_neg hx, if_neg hx]
      rfl
def unr (rs : List (Nat × Nat)) : List Nat := (rs.map fun r => List.replicate r.2 r.1).flatten
theorem unr_rns : ∀ l : List Nat, unr (rns l) = l
  | [] => rfl
  | [c] => rfl
  | c :: d :: t => by
    have ih := unr_rns (d :: t)
    obtain ⟨n, r, e⟩ := rns_head d t
    rw [rns_cons c d (n + 1) _ r e]
    rw [e] at ih
    by_cases h : c = d
    · rw [if_pos h, ← ih]
      show List.replicate (n + 1 + 1) c ++ unr r = c :: (List.replicate (n + 1) d ++ unr r)
      rw [List.replicate_succ, h]
      rfl
    · rw [if_neg h, ← ih]
      rfl
theorem rns_mem : ∀ {l : List Nat} {r : Nat × Nat}, r ∈ rns l → r.1 ∈ l ∧ 0 < r.2 ∧ r.2 ≤ l.length
  | [], _, h => nomatch h
  | [c], r, h => by
    obtain rfl : r = (c, 1) := by simpa [rns] using h
    exact ⟨List.mem_singleton.mpr rfl, Nat.one_pos, Nat.le_refl _⟩
  | c :: d :: t, r, h => by
    obtain ⟨n, q, e⟩ := rns_head d t
    have ih := fun {x : Nat × Nat} (hx : x ∈ rns (d :: t)) => rns_mem hx
    rw [rns_cons c d (n + 1) _ q e] at h
    by_cases hc : c = d
    · rw [if_pos hc] at h
      rcases List.mem_cons.mp h with z | z
      · have h2 := ih (x := (d, n + 1)) (by rw [e]; exact List.mem_cons_self)
        rw [z]
        exact ⟨List.mem_cons_self, Nat.succ_pos _, by have := h2.2.2; simp only [List.length_cons] at this ⊢; omega⟩
      · have h2 := ih (x := r) (by rw [e]; exact List.mem_cons_of_mem _ z)
        exact ⟨List.mem_cons_of_mem _ h2.1, h2.2.1, Nat.le_succ_of_le h2.2.2⟩
    · rw [if_neg hc] at h
      rcases List.mem_cons.mp h with z | z
      · rw [z]
        exact ⟨List.mem_cons_self, Nat.one_pos, by simp only [List.length_cons]; omega⟩
      · have h2 := ih (x := r) (by rw [e]; exact z)
        exact ⟨List.mem_cons_of_mem _ h2.1, h2.2.1, Nat.le_succ_of_le h2.2.2⟩
theorem unr_len (rs : List (Nat × Nat)) : (unr rs).length = (rs.map (·.2)).sum := by
  induction rs with
  | nil => rfl
  | cons r t ih =>
    show (List.replicate r.2 r.1 ++ unr t).length = r.2 + (t.map (·.2)).sum
    rw [List.length_append, List.length_replicate, ih]
theorem rns_len : ∀ l : List Nat, (rns l).length ≤ l.length
  | [] => Nat.le_refl _
  | [c] => Nat.le_refl _
  | c :: d :: t => by
    have ih := rns_len (d :: t)
    obtain ⟨n, q, e⟩ := rns_head d t
    rw [rns_cons c d (n + 1) _ q e]
    rw [e] at ih
    by_cases hc : c = d
    · rw [if_pos hc]
      simp only [List.length_cons] at ih ⊢
      omega
    · rw [if_neg hc]
      simp only [List.length_cons] at ih ⊢
      omega
/-- the cut form -/
def flat (rs : List (Nat × Nat)) : List Nat := (rs.map fun r => TL.numL r.2 ++ [r.1]).flatten
theorem join_flat : ∀ ls : List (List Nat), Str.join (T []) (ls.map T) = T ls.flatten
  | [] => rfl
  | [c] => by
    show T c = _
    simp
  | c :: e :: r => by
    have ih := join_flat (e :: r)
    show T c ++ T [] ++ Str.join (T []) ((e :: r).map T) = _
    rw [ih, T_app, T_app, List.append_nil]
    rfl
theorem sum_lens (ls : List (List Nat)) : ((ls.map T).map (·.length)).sum = ls.flatten.length := by
  induction ls with
  | nil => rfl
  | cons c r ih =>
    rw [List.map_cons, List.map_cons, List.sum_cons, ih, T_len, List.flatten_cons, List.length_append]
theorem sum_lensF {α : Type} (f : α → List Nat) (rs : List α) : ((rs.map fun r => T (f r)).map (·.length)).sum = ((rs.map f).flatten).length := by
  induction rs with
  | nil => rfl
  | cons c r ih =>
    rw [List.map_cons, List.map_cons, List.sum_cons, ih, T_len, List.map_cons, List.flatten_cons, List.length_append]
theorem join_flatF {α : Type} (f : α → List Nat) (rs : List α) : Str.join (T []) (rs.map fun r => T (f r)) = T ((rs.map f).flatten) := by
  have e := join_flat (rs.map f)
  rw [List.map_map] at e
  exact e
/-! ### costs -/
def rcost (a b c : Nat) (r : Nat × Nat) : Nat := if r.1 = 88 then r.2 * a else if r.1 = 61 then 0 else b + r.2 * c
def costR (a b c : Nat) (rs : List (Nat × Nat)) : Nat := (rs.map (rcost a b c)).sum
/-- step by step -/
def prc (a b c : Nat) : Option Nat → List Nat → Nat
  | _, [] => 0
  | pv, x :: t => (if x = 88 then a else 0) + (if x = 73 ∨ x = 68 then c + (if pv = some x then 0 else b) else 0) + prc a b c (some x) t
def PC (l : List Nat) : Prop := ∀ c ∈ l, c = 61 ∨ c = 88 ∨ c = 73 ∨ c = 68
theorem prc_rns (a b c : Nat) : ∀ (l : List Nat) (pv : Option Nat), PC l → prc a b c pv l + (match l with | [] => 0 | x :: _ => if (x = 73 ∨ x = 68) ∧ pv = some x then b else 0) = costR a b c (rns l)
  | [], _, _ => rfl
  | [x], pv, h => by
    have hx := h x (List.mem_singleton.mpr rfl)
    show (if x = 88 then a else 0) + (if x = 73 ∨ x = 68 then c + (if pv = some x then 0 else b) else 0) + 0 + (if (x = 73 ∨ x = 68) ∧ pv = some x then b else 0) = (if x = 88 then 1 * a else if x = 61 then 0 else b + 1 * c) + 0
    by_cases hp : pv = some x <;> rcases hx with e | e | e | e <;> subst e <;> simp [hp] <;> omega
  | x :: y :: t, pv, h => by
    have hx := h x List.mem_cons_self
    have ih := prc_rns a b c (y :: t) (some x) fun z hz => h z (List.mem_cons_of_mem _ hz)
    obtain ⟨n, q, e⟩ := rns_head y t
    rw [rns_cons x y (n + 1) _ q e]
    rw [e] at ih
    have e1 : prc a b c pv (x :: y :: t) = (if x = 88 then a else 0) + (if x = 73 ∨ x = 68 then c + (if pv = some x then 0 else b) else 0) + prc a b c (some x) (y :: t) := rfl
    have e2 : costR a b c ((y, n + 1) :: q) = rcost a b c (y, n + 1) + costR a b c q := rfl
    rw [e2] at ih
    rw [e1]
    by_cases hxy : x = y
    · subst hxy
      rw [if_pos rfl]
      have e3 : costR a b c ((x, n + 1 + 1) :: q) = rcost a b c (x, n + 1 + 1) + costR a b c q := rfl
      rw [e3]
      unfold rcost at ih ⊢
      have m1 : (n + 1 + 1) * a = (n + 1) * a + a := Nat.succ_mul _ _
      have m2 : (n + 1 + 1) * c = (n + 1) * c + c := Nat.succ_mul _ _
      by_cases hp : pv = some x <;> rcases hx with e | e | e | e <;> subst e <;> simp [hp] at ih ⊢ <;> omega
    · rw [if_neg hxy]
      have e3 : costR a b c ((x, 1) :: (y, n + 1) :: q) = rcost a b c (x, 1) + (rcost a b c (y, n + 1) + costR a b c q) := rfl
      have hs : ¬ (some x = some y) := fun z => hxy (Option.some.inj z)
      rw [e3]
      have ih2 : prc a b c (some x) (y :: t) = rcost a b c (y, n + 1) + costR a b c q := by
        rw [← ih]
        simp [hxy]
      rw [ih2]
      unfold rcost
      by_cases hp : pv = some x <;> rcases hx with e | e | e | e <;> subst e <;> simp [hp] <;> omega
/-! ### walks -/
def agB (a b : Nat) : Bool := decide (a = b) && decide (a ≠ 78)
def pst (a b : Nat) : Nat := if agB a b = true then 61 else 88
def wk (r t : List Nat) : List Nat → Nat → Nat → Option (Nat × Nat)
  | [], i, j => some (i, j)
  | c :: p, i, j => if c = 73 then wk r t p (i + 1) j else if c = 68 then wk r t p i (j + 1) else if i < r.length ∧ j < t.length ∧ c = pst (r.getD i 0) (t.getD j 0) then wk r t p (i + 1) (j + 1) else none
theorem wk_cons (r t : List Nat) (c : Nat) (p : List Nat) (i j : Nat) : wk r t (c :: p) i j = if c = 73 then wk r t p (i + 1) j else if c = 68 then wk r t p i (j + 1) else if i < r.length ∧ j < t.length ∧ c = pst (r.getD i 0) (t.getD j 0) then wk r t p (i + 1) (j + 1) else none := rfl
theorem wk_nil (r t : List Nat) (i j : Nat) : wk r t [] i j = some (i, j) := rfl
def fitB (r t p : List Nat) : Bool := decide (wk r t p 0 0 = some (r.length, t.length))
theorem pst_two (a b : Nat) : pst a b = 61 ∨ pst a b = 88 := by
  unfold pst
  split
  · exact .inl rfl
  · exact .inr rfl
/-! ### the program: agree, _pair_step, _runs, path_cost, cut, joined_path, fits -/
theorem one_eq {c d : Nat} {s : Str} (h : s = T [d]) : (V.str (T [c]) = V.str s) ↔ c = d := by
  rw [h]
  constructor
  · intro e
    have := T_inj (V.str.inj e)
    simpa using this
  · intro e
    rw [e]
theorem iteN {c A B : Prop} [Decidable c] (h1 : ¬ c → A) (h2 : c → B) : if (!decide c) = true then A else B := by
  by_cases h : c
  · rw [decide_eq_true h]
    exact iteF (h2 h)
  · rw [decide_eq_false h]
    exact iteT (h1 h)
theorem tX : Str.ofString "X" = T [88] := by decide +kernel
theorem tE : Str.ofString "=" = T [61] := by decide +kernel
theorem tI : Str.ofString "I" = T [73] := by decide +kernel
theorem tD : Str.ofString "D" = T [68] := by decide +kernel
theorem tN : Str.ofString "N" = T [78] := by decide +kernel
theorem scAgree : FnScope ["first", "second"] ["first", "second"] (defScope sAgree) := ⟨rfl, rfl, rfl, by decide +kernel, rfl, by decide +kernel, by decide +kernel⟩
section
variable {P : Program} {w : World} {K : PySem.W.Frag} {mg : Str → Option Value} {base : Heap}
def spAg : Sp := fun vs H Q _ => ∃ a b : Nat, vs = [.str (T [a]), .str (T [b])] ∧ Q (.bl (agB a b)) H
theorem ok_agree {f : Addr} {fd : FuncData} {k : Nat} (F : Fun K "agree" "agree" sAgree f fd) : FnOk P w K mg base CX0 (k + 1) f fd ["first", "second"] spAg := by
  refine F.ok scAgree (fun vs H Q E h => ?_) (fun cdv A outer s H vs Q E hr h => ?_)
  · obtain ⟨a, b, rfl, _⟩ := h
    rfl
  · obtain ⟨a, b, rfl, q⟩ := h
    refine ⟨_, pss_one (ps_ret (pe_and (pe_cmpR op_eq (pv 0) (pv 1) (nomark _)) (pe_one (pe_cmpR op_ne (pv 0) pe_str (nomark _))))), ?_⟩
    refine ⟨_, rfl, _, rfl, rfl, _, rfl, ite2 (fun e => ?_) (fun e => ?_)⟩
    · have e2 := (one_eq rfl).mp (of_decide_eq_true e)
      refine ⟨_, rfl, rfl, ?_⟩
      unfold agB at q
      rw [decide_eq_true e2, Bool.true_and] at q
      have e3 : (!decide (V.str (T [a]) = V.str (Str.ofString "N"))) = decide (a ≠ 78) := by
        by_cases h : a = 78
        · rw [decide_eq_true ((one_eq tN).mpr h), decide_eq_false (fun z => z h)]
          rfl
        · rw [decide_eq_false (fun z => h ((one_eq tN).mp z)), decide_eq_true h]
          rfl
      show Q (.bl (!decide (V.str (T [a]) = V.str (Str.ofString "N")))) H
      rw [e3]
      exact q
    · have e2 : ¬ a = b := fun z => e (decide_eq_true ((one_eq rfl).mpr z))
      unfold agB at q
      rw [decide_eq_false e2, Bool.false_and] at q
      exact q
end
/-! ### tables of costs: the plain ones and those of a band -/
structure C3 where
  p : Int
  q : Int
  r : Int
def mn2 (x y : Int) : Int := if y < x then y else x
def mn3 (x y z : Int) : Int := mn2 (mn2 x y) z
theorem mn2_le (x y : Int) : mn2 x y ≤ x ∧ mn2 x y ≤ y ∧ (mn2 x y = x ∨ mn2 x y = y) := by
  unfold mn2
  split <;> omega
theorem mn3_le (x y z : Int) : mn3 x y z ≤ x ∧ mn3 x y z ≤ y ∧ mn3 x y z ≤ z ∧ (mn3 x y z = x ∨ mn3 x y z = y ∨ mn3 x y z = z) := by
  unfold mn3
  have h1 := mn2_le (mn2 x y) z
  have h2 := mn2_le x y
  omega
def C3.mn (t : C3) : Int := mn3 t.p t.q t.r
section
variable (a b c : Nat) (r t : List Nat)
def wgt (x y : Nat) : Int := if agB x y = true then 0 else (a : Int)
def far : Int := 1000000000
/-! the plain tables -/
def row0 : Nat → C3
  | 0 => ⟨0, far, far⟩
  | j + 1 => ⟨0, far, mn2 (0 + b) (row0 j).r + c⟩
def rowN (ab : Nat → C3) (x : Nat) : Nat → C3
  | 0 => ⟨far, mn2 (mn2 (ab 0).p (ab 0).r + b) (ab 0).q + c, far⟩
  | j + 1 => ⟨mn3 (ab j).p (ab j).q (ab j).r + wgt a x (t.getD j 0), mn2 (mn2 (ab (j + 1)).p (ab (j + 1)).r + b) (ab (j + 1)).q + c, mn2 (mn2 (rowN ab x j).p (rowN ab x j).q + b) (rowN ab x j).r + c⟩
def dp : Nat → Nat → C3
  | 0 => row0 b c
  | i + 1 => rowN a b c t (dp i) (r.getD i 0)
/-! the tables of a band: the numbers of a row begin at the position fr -/
def lo3 : C3 := ⟨0, b, b⟩
def bandRow (ab : Nat → C3) (x : Nat) (fr : Int) (Z : Nat) (hi : Int) : Nat → C3
  | 0 => lo3 b
  | k + 1 => if k + 2 < Z then
      (if fr + (k + 1 : Nat) = 0 then ⟨c + (ab (k + 2)).q, c + (ab (k + 2)).q, c + (ab (k + 2)).q + b⟩
      else if 0 < fr + (k + 1 : Nat) ∧ fr + (k + 1 : Nat) ≤ hi then
        ⟨mn3 (ab (k + 1)).p (ab (k + 1)).q (ab (k + 1)).r + wgt a x (t.getD (fr + (k + 1 : Nat) - 1).toNat 0),
          mn3 ((b + c : Int) + (ab (k + 2)).p) ((b + c : Int) + (ab (k + 2)).r) (c + (ab (k + 2)).q),
          mn3 ((b + c : Int) + (bandRow ab x fr Z hi k).p) ((b + c : Int) + (bandRow ab x fr Z hi k).q) (c + (bandRow ab x fr Z hi k).r)⟩
      else lo3 b) else lo3 b
def band (F : Int) (Z : Nat) (hi : Int) : Nat → Nat → C3
  | 0 => fun _ => lo3 b
  | i + 1 => bandRow a b c t (band F Z hi i) (r.getD i 0) (F + (i + 1 : Nat)) Z hi
end
section
variable {a b c : Nat} {r t : List Nat}
theorem wgt_nn (x y : Nat) : 0 ≤ wgt a x y := by
  unfold wgt
  split <;> omega
/-- no number of the plain tables is less than the lowest -/
theorem dp_low (hb : (b : Int) ≤ far) : ∀ i j, 0 ≤ (dp a b c r t i j).p ∧ (b : Int) ≤ (dp a b c r t i j).q ∧ (b : Int) ≤ (dp a b c r t i j).r
  | 0, 0 => ⟨Int.le_refl _, hb, hb⟩
  | 0, j + 1 => by
    have ih := (dp_low hb 0 j).2.2
    have h := mn2_le (0 + b) (row0 b c j).r
    refine ⟨Int.le_refl _, hb, ?_⟩
    show (b : Int) ≤ mn2 (0 + b) (row0 b c j).r + c
    have ih' : (b : Int) ≤ (row0 b c j).r := ih
    omega
  | i + 1, 0 => by
    have ih := dp_low hb i 0
    refine ⟨by show (0 : Int) ≤ far; decide, ?_, hb⟩
    show (b : Int) ≤ mn2 (mn2 (dp a b c r t i 0).p (dp a b c r t i 0).r + b) (dp a b c r t i 0).q + c
    have h1 := mn2_le (mn2 (dp a b c r t i 0).p (dp a b c r t i 0).r + b) (dp a b c r t i 0).q
    have h2 := mn2_le (dp a b c r t i 0).p (dp a b c r t i 0).r
    omega
  | i + 1, j + 1 => by
    have i1 := dp_low hb i j
    have i2 := dp_low hb i (j + 1)
    have i3 := dp_low hb (i + 1) j
    refine ⟨?_, ?_, ?_⟩
    · show 0 ≤ mn3 (dp a b c r t i j).p (dp a b c r t i j).q (dp a b c r t i j).r + wgt a (r.getD i 0) (t.getD j 0)
      have h1 := mn3_le (dp a b c r t i j).p (dp a b c r t i j).q (dp a b c r t i j).r
      have h2 := wgt_nn (a := a) (r.getD i 0) (t.getD j 0)
      omega
    · show (b : Int) ≤ mn2 (mn2 (dp a b c r t i (j + 1)).p (dp a b c r t i (j + 1)).r + b) (dp a b c r t i (j + 1)).q + c
      have h1 := mn2_le (mn2 (dp a b c r t i (j + 1)).p (dp a b c r t i (j + 1)).r + b) (dp a b c r t i (j + 1)).q
      have h2 := mn2_le (dp a b c r t i (j + 1)).p (dp a b c r t i (j + 1)).r
      omega
    · show (b : Int) ≤ mn2 (mn2 (dp a b c r t (i + 1) j).p (dp a b c r t (i + 1) j).q + b) (dp a b c r t (i + 1) j).r + c
      have h1 := mn2_le (mn2 (dp a b c r t (i + 1) j).p (dp a b c r t (i + 1) j).q + b) (dp a b c r t (i + 1) j).r
      have h2 := mn2_le (dp a b c r t (i + 1) j).p (dp a b c r t (i + 1) j).q
      omega
section
variable {F : Int} {Z : Nat} {hi : Int}
theorem band_out {i k : Nat} (h : ¬ (1 ≤ k ∧ k + 1 < Z)) : band a b c r t F Z hi i k = lo3 b := by
  cases i with
  | zero => rfl
  | succ i =>
    cases k with
    | zero => rfl
    | succ k =>
      show bandRow a b c t (band a b c r t F Z hi i) (r.getD i 0) (F + (i + 1 : Nat)) Z hi (k + 1) = _
      unfold bandRow
      rw [if_neg (by omega)]
theorem band_zero {i k : Nat} (h : k + 2 < Z) (hz : F + (i + 1 : Nat) + (k + 1 : Nat) = 0) : band a b c r t F Z hi (i + 1) (k + 1) = ⟨c + (band a b c r t F Z hi i (k + 2)).q, c + (band a b c r t F Z hi i (k + 2)).q, c + (band a b c r t F Z hi i (k + 2)).q + b⟩ := by
  show bandRow a b c t (band a b c r t F Z hi i) (r.getD i 0) (F + (i + 1 : Nat)) Z hi (k + 1) = _
  unfold bandRow
  rw [if_pos h, if_pos hz]
theorem band_in {i k j : Nat} (h : k + 2 < Z) (hj : F + (i + 1 : Nat) + (k + 1 : Nat) = ((j + 1 : Nat) : Int)) (hh : ((j + 1 : Nat) : Int) ≤ hi) : band a b c r t F Z hi (i + 1) (k + 1) =
    ⟨mn3 (band a b c r t F Z hi i (k + 1)).p (band a b c r t F Z hi i (k + 1)).q (band a b c r t F Z hi i (k + 1)).r + wgt a (r.getD i 0) (t.getD j 0),
      mn3 ((b + c : Int) + (band a b c r t F Z hi i (k + 2)).p) ((b + c : Int) + (band a b c r t F Z hi i (k + 2)).r) (c + (band a b c r t F Z hi i (k + 2)).q),
      mn3 ((b + c : Int) + (band a b c r t F Z hi (i + 1) k).p) ((b + c : Int) + (band a b c r t F Z hi (i + 1) k).q) (c + (band a b c r t F Z hi (i + 1) k).r)⟩ := by
  show bandRow a b c t (band a b c r t F Z hi i) (r.getD i 0) (F + (i + 1 : Nat)) Z hi (k + 1) = _
  conv => lhs; unfold bandRow
  rw [if_pos h, if_neg (by omega), if_pos (by omega), hj, show (((j + 1 : Nat) : Int) - 1).toNat = j by omega]
  rfl
theorem band_else {i k : Nat} (h : F + (i : Nat) + (k : Nat) < 0 ∨ hi < F + (i : Nat) + (k : Nat)) (h0 : 0 ≤ hi) : band a b c r t F Z hi i k = lo3 b := by
  cases i with
  | zero => rfl
  | succ i =>
    cases k with
    | zero => rfl
    | succ k =>
      show bandRow a b c t (band a b c r t F Z hi i) (r.getD i 0) (F + (i + 1 : Nat)) Z hi (k + 1) = _
      unfold bandRow
      split
      · rw [if_neg (by omega), if_neg (by omega)]
      · rfl
/-- what the numbers of a cell are -/
theorem band_cases (i k : Nat) (h0 : 0 ≤ hi) : band a b c r t F Z hi i k = lo3 b ∨ (∃ i' k', i = i' + 1 ∧ k = k' + 1 ∧ k' + 2 < Z ∧ F + (i' + 1 : Nat) + (k' + 1 : Nat) = 0) ∨ ∃ i' k' j, i = i' + 1 ∧ k = k' + 1 ∧ k' + 2 < Z ∧ F + (i' + 1 : Nat) + (k' + 1 : Nat) = ((j + 1 : Nat) : Int) ∧ ((j + 1 : Nat) : Int) ≤ hi := by
  cases i with
  | zero => exact .inl rfl
  | succ i =>
    cases k with
    | zero => exact .inl rfl
    | succ k =>
      by_cases c1 : k + 2 < Z
      · by_cases c2 : F + (i + 1 : Nat) + (k + 1 : Nat) = 0
        · exact .inr (.inl ⟨i, k, rfl, rfl, c1, c2⟩)
        · by_cases c3 : F + (i + 1 : Nat) + (k + 1 : Nat) < 0 ∨ hi < F + (i + 1 : Nat) + (k + 1 : Nat)
          · exact .inl (band_else c3 h0)
          · exact .inr (.inr ⟨i, k, (F + (i + 1 : Nat) + (k + 1 : Nat) - 1).toNat, rfl, rfl, c1, by omega, by omega⟩)
      · exact .inl (band_out (by omega))
theorem band_low (h0 : 0 ≤ hi) : ∀ i k, 0 ≤ (band a b c r t F Z hi i k).p ∧ (b : Int) ≤ (band a b c r t F Z hi i k).q ∧ (b : Int) ≤ (band a b c r t F Z hi i k).r := by
  have lo : 0 ≤ (lo3 b).p ∧ (b : Int) ≤ (lo3 b).q ∧ (b : Int) ≤ (lo3 b).r := ⟨Int.le_refl _, Int.le_refl _, Int.le_refl _⟩
  intro i
  induction i with
  | zero => exact fun k => lo
  | succ i ih =>
    intro k
    induction k with
    | zero => exact lo
    | succ k ik =>
      rcases band_cases (a := a) (b := b) (c := c) (r := r) (t := t) (F := F) (Z := Z) (hi := hi) (i + 1) (k + 1) h0 with e | ⟨i', k', e1, e2, h1, h2⟩ | ⟨i', k', j, e1, e2, h1, h2, h3⟩
      · rw [e]
        exact lo
      · obtain rfl : i' = i := by omega
        obtain rfl : k' = k := by omega
        rw [band_zero h1 h2]
        have := (ih (k' + 2)).2.1
        refine ⟨?_, ?_, ?_⟩ <;> dsimp only <;> omega
      · obtain rfl : i' = i := by omega
        obtain rfl : k' = k := by omega
        rw [band_in h1 h2 h3]
        have g1 := ih (k' + 1)
        have g2 := ih (k' + 2)
        have m1 := mn3_le (band a b c r t F Z hi i' (k' + 1)).p (band a b c r t F Z hi i' (k' + 1)).q (band a b c r t F Z hi i' (k' + 1)).r
        have m2 := mn3_le ((b + c : Int) + (band a b c r t F Z hi i' (k' + 2)).p) ((b + c : Int) + (band a b c r t F Z hi i' (k' + 2)).r) (c + (band a b c r t F Z hi i' (k' + 2)).q)
        have m3 := mn3_le ((b + c : Int) + (band a b c r t F Z hi (i' + 1) k').p) ((b + c : Int) + (band a b c r t F Z hi (i' + 1) k').q) (c + (band a b c r t F Z hi (i' + 1) k').r)
        have m4 := wgt_nn (a := a) (r.getD i' 0) (t.getD j 0)
        refine ⟨?_, ?_, ?_⟩ <;> dsimp only <;> omega
/-- at the position 0 -/
theorem band_col (h0 : 0 ≤ hi) : ∀ i k, F + (i : Nat) + (k : Nat) = 0 → (band a b c r t F Z hi i k).q ≤ b + i * c := by
  intro i
  induction i with
  | zero =>
    intro k _
    show (b : Int) ≤ _
    omega
  | succ i ih =>
    intro k hk
    have hn : (0 : Int) ≤ ((i + 1 : Nat) : Int) * c := Int.mul_nonneg (by omega) (by omega)
    rcases band_cases (a := a) (b := b) (c := c) (r := r) (t := t) (F := F) (Z := Z) (hi := hi) (i + 1) k h0 with e | ⟨i', k', e1, e2, h1, h2⟩ | ⟨i', k', j, e1, e2, h1, h2, h3⟩
    · rw [e]
      show (b : Int) ≤ _
      omega
    · obtain rfl : i' = i := by omega
      subst e2
      rw [band_zero h1 h2]
      have := ih (k' + 2) (by omega)
      dsimp only
      have e : ((i' + 1 : Nat) : Int) * c = i' * c + c := by rw [Int.natCast_add, Int.add_mul]; simp
      omega
    · obtain rfl : i' = i := by omega
      omega
/-- the tables of a band are no greater than the plain ones -/
theorem band_le (h0 : 0 ≤ hi) {n : Nat} (hf : (b : Int) + n * c + b ≤ far) : ∀ i k (j : Nat), i ≤ n → F + (i : Nat) + (k : Nat) = (j : Int) → (j : Int) ≤ hi → (band a b c r t F Z hi i k).p ≤ (dp a b c r t i j).p ∧ (band a b c r t F Z hi i k).q ≤ (dp a b c r t i j).q ∧ (band a b c r t F Z hi i k).r ≤ (dp a b c r t i j).r := by
  have hnc : (0 : Int) ≤ (n : Int) * c := Int.mul_nonneg (by omega) (by omega)
  have hb : (b : Int) ≤ far := by omega
  have lo : ∀ i j, (lo3 b).p ≤ (dp a b c r t i j).p ∧ (lo3 b).q ≤ (dp a b c r t i j).q ∧ (lo3 b).r ≤ (dp a b c r t i j).r := fun i j => dp_low hb i j
  intro i
  induction i with
  | zero => exact fun k j _ _ _ => lo 0 j
  | succ i ih =>
    intro k
    induction k with
    | zero => exact fun j _ _ _ => lo (i + 1) j
    | succ k ik =>
      intro j hin hj hh
      have hic : ∀ m : Nat, m ≤ n → (m : Int) * c ≤ n * c := fun m hm => Int.mul_le_mul_of_nonneg_right (by omega) (by omega)
      rcases band_cases (a := a) (b := b) (c := c) (r := r) (t := t) (F := F) (Z := Z) (hi := hi) (i + 1) (k + 1) h0 with e | ⟨i', k', e1, e2, h1, h2⟩ | ⟨i', k', j', e1, e2, h1, h2, h3⟩
      · rw [e]
        exact lo (i + 1) j
      · obtain rfl : i' = i := by omega
        obtain rfl : k' = k := by omega
        obtain rfl : j = 0 := by omega
        have hcol := band_col (a := a) (b := b) (c := c) (r := r) (t := t) (F := F) (Z := Z) (hi := hi) h0 i' (k' + 2) (by omega)
        have g := ih (k' + 2) 0 (by omega) (by omega) hh
        have hm := hic (i' + 1) hin
        have e : ((i' + 1 : Nat) : Int) * c = i' * c + c := by rw [Int.natCast_add, Int.add_mul]; simp
        rw [band_zero h1 h2]
        refine ⟨?_, ?_, ?_⟩
        · show (c : Int) + _ ≤ far
          omega
        · show (c : Int) + _ ≤ mn2 (mn2 (dp a b c r t i' 0).p (dp a b c r t i' 0).r + b) (dp a b c r t i' 0).q + c
          have m1 := mn2_le (mn2 (dp a b c r t i' 0).p (dp a b c r t i' 0).r + b) (dp a b c r t i' 0).q
          have m2 := mn2_le (dp a b c r t i' 0).p (dp a b c r t i' 0).r
          have hr : (dp a b c r t i' 0).r = far := by cases i' <;> rfl
          have hp : (dp a b c r t i' 0).p = far ∨ i' = 0 := by
            cases i' with
            | zero => exact .inr rfl
            | succ => exact .inl rfl
          rcases hp with hp | hp
          · omega
          · subst hp
            have q0 : (band a b c r t F Z hi 0 (k' + 2)).q = b := rfl
            have p0 : (dp a b c r t 0 0).p = 0 := rfl
            omega
        · show (c : Int) + _ + b ≤ far
          omega
      · obtain rfl : i' = i := by omega
        obtain rfl : k' = k := by omega
        obtain rfl : j = j' + 1 := by omega
        have g1 := ih (k' + 1) j' (by omega) (by omega) (by omega)
        have g2 := ih (k' + 2) (j' + 1) (by omega) (by omega) hh
        have g3 := ik j' hin (by omega) (by omega)
        rw [band_in h1 h2 h3]
        have m1 := mn3_le (band a b c r t F Z hi i' (k' + 1)).p (band a b c r t F Z hi i' (k' + 1)).q (band a b c r t F Z hi i' (k' + 1)).r
        have m2 := mn3_le ((b + c : Int) + (band a b c r t F Z hi i' (k' + 2)).p) ((b + c : Int) + (band a b c r t F Z hi i' (k' + 2)).r) (c + (band a b c r t F Z hi i' (k' + 2)).q)
        have m3 := mn3_le ((b + c : Int) + (band a b c r t F Z hi (i' + 1) k').p) ((b + c : Int) + (band a b c r t F Z hi (i' + 1) k').q) (c + (band a b c r t F Z hi (i' + 1) k').r)
        refine ⟨?_, ?_, ?_⟩
        · show _ ≤ mn3 (dp a b c r t i' j').p (dp a b c r t i' j').q (dp a b c r t i' j').r + wgt a (r.getD i' 0) (t.getD j' 0)
          have n1 := mn3_le (dp a b c r t i' j').p (dp a b c r t i' j').q (dp a b c r t i' j').r
          dsimp only
          omega
        · show _ ≤ mn2 (mn2 (dp a b c r t i' (j' + 1)).p (dp a b c r t i' (j' + 1)).r + b) (dp a b c r t i' (j' + 1)).q + c
          have n1 := mn2_le (mn2 (dp a b c r t i' (j' + 1)).p (dp a b c r t i' (j' + 1)).r + b) (dp a b c r t i' (j' + 1)).q
          have n2 := mn2_le (dp a b c r t i' (j' + 1)).p (dp a b c r t i' (j' + 1)).r
          dsimp only
          omega
        · show _ ≤ mn2 (mn2 (dp a b c r t (i' + 1) j').p (dp a b c r t (i' + 1) j').q + b) (dp a b c r t (i' + 1) j').r + c
          have n1 := mn2_le (mn2 (dp a b c r t (i' + 1) j').p (dp a b c r t (i' + 1) j').q + b) (dp a b c r t (i' + 1) j').r
          have n2 := mn2_le (dp a b c r t (i' + 1) j').p (dp a b c r t (i' + 1) j').q
          dsimp only
          omega
end
end
/-! ### a path that is read off a band -/
section
variable {a b c : Nat}
theorem prc_some (x : Nat) : ∀ σ : List Nat, prc a b c (some x) σ + (if (x = 73 ∨ x = 68) ∧ σ.head? = some x then b else 0) = prc a b c none σ
  | [] => by
    rw [if_neg (by simp)]
    rfl
  | y :: σ => by
    show (if y = 88 then a else 0) + (if y = 73 ∨ y = 68 then c + (if some x = some y then 0 else b) else 0) + prc a b c (some y) σ + _ = (if y = 88 then a else 0) + (if y = 73 ∨ y = 68 then c + (if none = some y then 0 else b) else 0) + prc a b c (some y) σ
    rw [if_neg (show ¬ (none = some y) by simp)]
    by_cases e : x = y
    · subst e
      by_cases g : x = 73 ∨ x = 68 <;> simp [g]
      all_goals omega
    · rw [if_neg (show ¬ (some x = some y) by simpa using e), if_neg (show ¬ ((x = 73 ∨ x = 68) ∧ (y :: σ).head? = some x) from fun z => e (by have := z.2; simp at this; exact this.symm))]
      rfl
theorem pre_pair {x : Nat} (h : x = 61 ∨ x = 88) (σ : List Nat) : prc a b c none (x :: σ) = (if x = 88 then a else 0) + prc a b c none σ := by
  have h1 := prc_some (a := a) (b := b) (c := c) x σ
  rw [if_neg (by omega)] at h1
  show (if x = 88 then a else 0) + (if x = 73 ∨ x = 68 then c + (if none = some x then 0 else b) else 0) + prc a b c (some x) σ = _
  rw [if_neg (show ¬ (x = 73 ∨ x = 68) by omega)]
  omega
theorem pre_gap {x : Nat} (h : x = 73 ∨ x = 68) (σ : List Nat) : prc a b c none (x :: σ) + (if σ.head? = some x then b else 0) = c + b + prc a b c none σ := by
  have h1 := prc_some (a := a) (b := b) (c := c) x σ
  show (if x = 88 then a else 0) + (if x = 73 ∨ x = 68 then c + (if none = some x then 0 else b) else 0) + prc a b c (some x) σ + _ = _
  rw [if_pos h, if_neg (show ¬ (none = some x) by simp), if_neg (show ¬ x = 88 by omega)]
  by_cases e : σ.head? = some x
  · rw [if_pos ⟨h, e⟩] at h1
    rw [if_pos e]
    omega
  · rw [if_neg (fun z => e z.2)] at h1
    rw [if_neg e]
    omega
theorem gap_count {x : Nat} (h : x = 73 ∨ x = 68) : ∀ (σ : List Nat) (pv : Option Nat), σ.count x * c + (if 0 < σ.count x ∧ pv ≠ some x then b else 0) ≤ prc a b c pv σ
  | [], _ => by simp [prc]
  | y :: σ, pv => by
    have ih := gap_count h σ (some y)
    show _ ≤ (if y = 88 then a else 0) + (if y = 73 ∨ y = 68 then c + (if pv = some y then 0 else b) else 0) + prc a b c (some y) σ
    by_cases e : y = x
    · subst e
      rw [List.count_cons_self, if_pos h, Nat.add_mul, Nat.one_mul]
      rw [if_neg (show ¬ (0 < σ.count y ∧ some y ≠ some y) from fun z => z.2 rfl)] at ih
      by_cases g : pv = some y
      · rw [if_neg (fun z => z.2 g)]
        omega
      · rw [if_pos ⟨by omega, g⟩, if_neg g]
        omega
    · rw [List.count_cons_of_ne e]
      by_cases g : 0 < σ.count x
      · rw [if_pos ⟨g, fun z => e (Option.some.inj z)⟩] at ih
        have : (if 0 < σ.count x ∧ pv ≠ some x then b else 0) ≤ b := by split <;> omega
        omega
      · rw [if_neg (fun z => g z.1)] at ih
        rw [if_neg (fun z => g z.1)]
        omega
theorem gap_le {x : Nat} (h : x = 73 ∨ x = 68) {σ : List Nat} {W : Nat} (hl : prc a b c none σ < b + (W + 1) * c) : σ.count x ≤ W := by
  refine Nat.le_of_not_lt fun g => ?_
  have h1 := gap_count (a := a) (b := b) (c := c) h σ none
  rw [if_pos ⟨by omega, by simp⟩] at h1
  have h2 : (W + 1) * c ≤ σ.count x * c := Nat.mul_le_mul_right c g
  omega
theorem wk_rep (r t : List Nat) (σ : List Nat) (j : Nat) : ∀ m i, wk r t (List.replicate m 73 ++ σ) i j = wk r t σ (i + m) j
  | 0, _ => rfl
  | m + 1, i => by
    rw [List.replicate_succ, List.cons_append, wk_cons, if_pos rfl, wk_rep r t σ j m (i + 1), show i + 1 + m = i + (m + 1) by omega]
theorem prc_reps : ∀ m : Nat, prc a b c none (List.replicate (m + 1) 73) = b + (m + 1) * c
  | 0 => by
    show (if (73 : Nat) = 88 then a else 0) + (if (73 : Nat) = 73 ∨ (73 : Nat) = 68 then c + (if none = some 73 then 0 else b) else 0) + 0 = _
    simp
    omega
  | m + 1 => by
    have h := pre_gap (a := a) (b := b) (c := c) (x := 73) (.inl rfl) (List.replicate (m + 1) 73)
    rw [prc_reps m, if_pos (by rw [List.replicate_succ]; rfl)] at h
    rw [List.replicate_succ]
    have : (m + 1 + 1) * c = (m + 1) * c + c := Nat.succ_mul _ _
    omega
end
section
variable {a b c : Nat} {r t : List Nat}
theorem pst_wgt (x y : Nat) : ((if pst x y = 88 then a else 0 : Nat) : Int) = wgt a x y := by
  unfold pst wgt
  by_cases h : agB x y = true
  · rw [if_pos h, if_pos h, if_neg (by decide)]
    rfl
  · rw [if_neg h, if_neg h, if_pos rfl]
/-- no walk costs less than the plain tables tell -/
theorem walk_least {e : Nat} : ∀ (σ : List Nat) (i j : Nat), wk r t σ i j = some (r.length, e) →
    (dp a b c r t r.length e).mn ≤ (dp a b c r t i j).p + (prc a b c none σ : Nat) ∧ (dp a b c r t r.length e).mn + (if σ.head? = some 73 then (b : Int) else 0) ≤ (dp a b c r t i j).q + (prc a b c none σ : Nat) ∧
    (dp a b c r t r.length e).mn + (if σ.head? = some 68 then (b : Int) else 0) ≤ (dp a b c r t i j).r + (prc a b c none σ : Nat)
  | [], i, j, h => by
    rw [wk_nil] at h
    obtain ⟨rfl, rfl⟩ : i = r.length ∧ j = e := by simpa using h
    have m := mn3_le (dp a b c r t r.length j).p (dp a b c r t r.length j).q (dp a b c r t r.length j).r
    rw [if_neg (by simp), if_neg (by simp)]
    have e0 : prc a b c none [] = 0 := rfl
    rw [e0]
    have em : (dp a b c r t r.length j).mn = mn3 (dp a b c r t r.length j).p (dp a b c r t r.length j).q (dp a b c r t r.length j).r := rfl
    omega
  | x :: σ, i, j, h => by
    rw [wk_cons] at h
    by_cases h1 : x = 73
    · rw [if_pos h1] at h
      subst h1
      have ih := walk_least σ (i + 1) j h
      have g := pre_gap (a := a) (b := b) (c := c) (x := 73) (.inl rfl) σ
      have eq : (dp a b c r t (i + 1) j).q = mn2 (mn2 (dp a b c r t i j).p (dp a b c r t i j).r + b) (dp a b c r t i j).q + c := by cases j <;> rfl
      have m1 := mn2_le (mn2 (dp a b c r t i j).p (dp a b c r t i j).r + b) (dp a b c r t i j).q
      have m2 := mn2_le (dp a b c r t i j).p (dp a b c r t i j).r
      have ih2 := ih.2.1
      rw [if_pos (show (73 :: σ).head? = some 73 from rfl), if_neg (show ¬ (73 :: σ).head? = some 68 by simp)]
      by_cases e1 : σ.head? = some 73
      · rw [if_pos e1] at ih2 g
        omega
      · rw [if_neg e1] at ih2 g
        omega
    · rw [if_neg h1] at h
      by_cases h2 : x = 68
      · rw [if_pos h2] at h
        subst h2
        have ih := walk_least σ i (j + 1) h
        have g := pre_gap (a := a) (b := b) (c := c) (x := 68) (.inr rfl) σ
        have ih2 := ih.2.2
        rw [if_pos (show (68 :: σ).head? = some 68 from rfl), if_neg (show ¬ (68 :: σ).head? = some 73 by simp)]
        have er : (dp a b c r t i (j + 1)).r ≤ (dp a b c r t i j).p + b + c ∧ (dp a b c r t i (j + 1)).r ≤ (dp a b c r t i j).q + b + c ∧ (dp a b c r t i (j + 1)).r ≤ (dp a b c r t i j).r + c := by
          cases i with
          | zero =>
            have e : (dp a b c r t 0 (j + 1)).r = mn2 (0 + b) (dp a b c r t 0 j).r + c := rfl
            have m := mn2_le (0 + b) (dp a b c r t 0 j).r
            have p0 : (dp a b c r t 0 j).p = 0 := by cases j <;> rfl
            have q0 : (dp a b c r t 0 j).q = 1000000000 := by cases j <;> rfl
            omega
          | succ i =>
            have e : (dp a b c r t (i + 1) (j + 1)).r = mn2 (mn2 (dp a b c r t (i + 1) j).p (dp a b c r t (i + 1) j).q + b) (dp a b c r t (i + 1) j).r + c := rfl
            have m1 := mn2_le (mn2 (dp a b c r t (i + 1) j).p (dp a b c r t (i + 1) j).q + b) (dp a b c r t (i + 1) j).r
            have m2 := mn2_le (dp a b c r t (i + 1) j).p (dp a b c r t (i + 1) j).q
            omega
        by_cases e1 : σ.head? = some 68
        · rw [if_pos e1] at ih2 g
          omega
        · rw [if_neg e1] at ih2 g
          omega
      · rw [if_neg h2] at h
        by_cases h3 : i < r.length ∧ j < t.length ∧ x = pst (r.getD i 0) (t.getD j 0)
        · rw [if_pos h3] at h
          have ih := (walk_least σ (i + 1) (j + 1) h).1
          have hx := pst_two (r.getD i 0) (t.getD j 0)
          rw [← h3.2.2] at hx
          have g := pre_pair (a := a) (b := b) (c := c) hx σ
          have w := pst_wgt (a := a) (r.getD i 0) (t.getD j 0)
          rw [← h3.2.2] at w
          have ep : (dp a b c r t (i + 1) (j + 1)).p = mn3 (dp a b c r t i j).p (dp a b c r t i j).q (dp a b c r t i j).r + wgt a (r.getD i 0) (t.getD j 0) := rfl
          have m := mn3_le (dp a b c r t i j).p (dp a b c r t i j).q (dp a b c r t i j).r
          rw [if_neg (show ¬ (x :: σ).head? = some 73 from fun z => h1 (Option.some.inj z)), if_neg (show ¬ (x :: σ).head? = some 68 from fun z => h2 (Option.some.inj z))]
          omega
        · rw [if_neg h3] at h
          cases h
theorem least_le {e j : Nat} {σ : List Nat} (h : wk r t σ 0 j = some (r.length, e)) : (dp a b c r t r.length e).mn ≤ (prc a b c none σ : Nat) := by
  have h1 := (walk_least (a := a) (b := b) (c := c) σ 0 j h).1
  have p0 : (dp a b c r t 0 j).p = 0 := by cases j <;> rfl
  omega
/-- the band around the ends from low to high: the reading begins at the end e -/
structure Bd (n low high W : Nat) (F : Int) (Z : Nat) : Prop where
  lh : low ≤ high
  eF : F = low - n - W - 1
  eZ : Z = high - low + 2 * W + 3
/-- where the reading stands -/
structure Tr (a b c : Nat) (r t : List Nat) (F : Int) (Z : Nat) (hi : Int) (e : Nat) (cst : Int) (i j : Nat) (σ : List Nat) (wp wq : Int) : Prop where
  wk : wk r t σ i j = some (r.length, e)
  hi' : i ≤ r.length
  hj : j ≤ e
  hw : wp = cst - (prc a b c none σ : Nat)
  hq : wq = wp + (if σ.head? = some 73 then (b : Int) else 0)
  cnt : (j : Int) - i = e - r.length + σ.count 73 - σ.count 68
  len : σ.length + i + j ≤ r.length + e + (r.length + e)
  inv : ∃ k : Nat, F + (i : Nat) + (k : Nat) = j ∧ wp ≤ (band a b c r t F Z hi i k).p ∧ wq ≤ (band a b c r t F Z hi i k).q ∧ wp + (if σ.head? = some 68 then (b : Int) else 0) ≤ (band a b c r t F Z hi i k).r ∧
    ((band a b c r t F Z hi i k).p = wp ∨ (band a b c r t F Z hi i k).q = wq ∨ (band a b c r t F Z hi i k).r = wp + (if σ.head? = some 68 then (b : Int) else 0))
section
variable {F : Int} {Z low high W e : Nat} {cst : Int} {i j : Nat} {σ : List Nat} {wp wq : Int}
theorem Tr.pos (T : Tr a b c r t F Z high e cst i j σ wp wq) : 0 ≤ wp := by
  obtain ⟨k, hk, h1, h2, h3, h4⟩ := T.inv
  have lo := band_low (a := a) (b := b) (c := c) (r := r) (t := t) (F := F) (Z := Z) (hi := (high : Int)) (by omega) i k
  have hq := T.hq
  by_cases c1 : σ.head? = some 73 <;> by_cases c2 : σ.head? = some 68 <;> simp only [c1, c2, if_true, if_false, reduceCtorEq] at * <;> omega
theorem in_band (D : Bd r.length low high W F Z) (hl : low ≤ e) (hh : e ≤ high) (hp : prc a b c none σ < b + (W + 1) * c) (cnt : (j : Int) - i = e - r.length + σ.count 73 - σ.count 68) {k : Nat} (hk : F + (i : Nat) + (k : Nat) = j) : 1 ≤ k ∧ k + 1 < Z := by
  have c1 := gap_le (x := 73) (.inl rfl) hp
  have c2 := gap_le (x := 68) (.inr rfl) hp
  have h1 := D.eF
  have h2 := D.eZ
  have h3 := D.lh
  omega
theorem Tr.small (T : Tr a b c r t F Z high e cst i j σ wp wq) (hc : cst < (b : Int) + ((W + 1) * c : Nat)) : prc a b c none σ < b + (W + 1) * c := by
  have h1 := T.pos
  have h2 := T.hw
  omega
/-- the three steps back -/
theorem Tr.step (D : Bd r.length low high W F Z) (hl : low ≤ e) (hh : e ≤ high) (ht : e ≤ t.length) (hc : cst < (b : Int) + ((W + 1) * c : Nat)) (T : Tr a b c r t F Z high e cst (i + 1) (j + 1) σ wp wq) :
    ∃ k : Nat, F + (i + 1 : Nat) + (k : Nat) = ((j + 1 : Nat) : Int) ∧ k < Z ∧
      ((band a b c r t F Z high (i + 1) k).p = wp → Tr a b c r t F Z high e cst i j (pst (r.getD i 0) (t.getD j 0) :: σ) (wp - wgt a (r.getD i 0) (t.getD j 0)) (wp - wgt a (r.getD i 0) (t.getD j 0))) ∧
      ((band a b c r t F Z high (i + 1) k).p ≠ wp → (band a b c r t F Z high (i + 1) k).q = wq → Tr a b c r t F Z high e cst i (j + 1) (73 :: σ) ((band a b c r t F Z high (i + 1) k).q - (b + c)) ((band a b c r t F Z high (i + 1) k).q - c)) ∧
      ((band a b c r t F Z high (i + 1) k).p ≠ wp → (band a b c r t F Z high (i + 1) k).q ≠ wq → Tr a b c r t F Z high e cst (i + 1) j (68 :: σ) ((band a b c r t F Z high (i + 1) k).r - (b + c)) ((band a b c r t F Z high (i + 1) k).r - (b + c))) := by
  have hp := T.small hc
  have hpos := T.pos
  obtain ⟨k, hk, h1, h2, h3, h4⟩ := T.inv
  obtain ⟨k1, k2⟩ := in_band D hl hh hp T.cnt hk
  obtain ⟨k, rfl⟩ : ∃ k', k = k' + 1 := ⟨k - 1, by omega⟩
  have hwp := T.hw
  have hwq := T.hq
  have hcnt := T.cnt
  have hwk := T.wk
  have hi1 := T.hi'
  have hj1 := T.hj
  have hlen := T.len
  have ein := band_in (a := a) (b := b) (c := c) (r := r) (t := t) (F := F) (Z := Z) (hi := (high : Int)) (i := i) (k := k) (j := j) k2 hk (by omega)
  have m1 := mn3_le (band a b c r t F Z high i (k + 1)).p (band a b c r t F Z high i (k + 1)).q (band a b c r t F Z high i (k + 1)).r
  have m2 := mn3_le ((b + c : Int) + (band a b c r t F Z high i (k + 2)).p) ((b + c : Int) + (band a b c r t F Z high i (k + 2)).r) (c + (band a b c r t F Z high i (k + 2)).q)
  have m3 := mn3_le ((b + c : Int) + (band a b c r t F Z high (i + 1) k).p) ((b + c : Int) + (band a b c r t F Z high (i + 1) k).q) (c + (band a b c r t F Z high (i + 1) k).r)
  have ep : (band a b c r t F Z high (i + 1) (k + 1)).p = mn3 (band a b c r t F Z high i (k + 1)).p (band a b c r t F Z high i (k + 1)).q (band a b c r t F Z high i (k + 1)).r + wgt a (r.getD i 0) (t.getD j 0) := by rw [ein]
  have eq : (band a b c r t F Z high (i + 1) (k + 1)).q = mn3 ((b + c : Int) + (band a b c r t F Z high i (k + 2)).p) ((b + c : Int) + (band a b c r t F Z high i (k + 2)).r) (c + (band a b c r t F Z high i (k + 2)).q) := by rw [ein]
  have er : (band a b c r t F Z high (i + 1) (k + 1)).r = mn3 ((b + c : Int) + (band a b c r t F Z high (i + 1) k).p) ((b + c : Int) + (band a b c r t F Z high (i + 1) k).q) (c + (band a b c r t F Z high (i + 1) k).r) := by rw [ein]
  refine ⟨k + 1, hk, by omega, fun z => ?_, fun n1 z => ?_, fun n1 n2 => ?_⟩
  · have hx := pst_two (r.getD i 0) (t.getD j 0)
    have g := pre_pair (a := a) (b := b) (c := c) hx σ
    have w := pst_wgt (a := a) (r.getD i 0) (t.getD j 0)
    have n1 : pst (r.getD i 0) (t.getD j 0) ≠ 73 := by omega
    have n2 : pst (r.getD i 0) (t.getD j 0) ≠ 68 := by omega
    have i1 : ¬ (pst (r.getD i 0) (t.getD j 0) :: σ).head? = some 73 := fun z => n1 (Option.some.inj z)
    have i2 : ¬ (pst (r.getD i 0) (t.getD j 0) :: σ).head? = some 68 := fun z => n2 (Option.some.inj z)
    refine ⟨?_, by omega, by omega, by omega, by rw [if_neg i1]; omega, ?_, by rw [List.length_cons]; omega, k + 1, by omega, ?_⟩
    · rw [wk_cons, if_neg n1, if_neg n2, if_pos ⟨by omega, by omega, rfl⟩]
      exact hwk
    · rw [List.count_cons_of_ne n1, List.count_cons_of_ne n2]
      omega
    · rw [if_neg i2]
      omega
  · have g := pre_gap (a := a) (b := b) (c := c) (x := 73) (.inl rfl) σ
    have i1 : (73 :: σ).head? = some 73 := rfl
    have i2 : ¬ (73 :: σ).head? = some 68 := by simp
    refine ⟨?_, by omega, by omega, ?_, by rw [if_pos i1]; omega, ?_, by rw [List.length_cons]; omega, k + 2, by omega, ?_⟩
    · rw [wk_cons, if_pos rfl]
      exact hwk
    · by_cases e1 : σ.head? = some 73
      · rw [if_pos e1] at hwq g
        omega
      · rw [if_neg e1] at hwq g
        omega
    · rw [List.count_cons_self, List.count_cons_of_ne (by decide)]
      omega
    · rw [if_neg i2]
      omega
  · have g := pre_gap (a := a) (b := b) (c := c) (x := 68) (.inr rfl) σ
    have i1 : ¬ (68 :: σ).head? = some 73 := by simp
    have i2 : (68 :: σ).head? = some 68 := rfl
    have z : (band a b c r t F Z high (i + 1) (k + 1)).r = wp + (if σ.head? = some 68 then (b : Int) else 0) := by
      rcases h4 with z | z | z
      · exact absurd z n1
      · exact absurd z n2
      · exact z
    refine ⟨?_, by omega, by omega, ?_, by rw [if_neg i1]; omega, ?_, by rw [List.length_cons]; omega, k, by omega, ?_⟩
    · rw [wk_cons, if_neg (by decide), if_pos rfl]
      exact hwk
    · by_cases e1 : σ.head? = some 68
      · rw [if_pos e1] at z g
        omega
      · rw [if_neg e1] at z g
        omega
    · rw [List.count_cons_self, List.count_cons_of_ne (by decide)]
      omega
    · rw [if_pos i2]
      omega
/-- at the position 0 only letters of the read are left out -/
theorem col_done (D : Bd r.length low high W F Z) (hl : low ≤ e) (hh : e ≤ high) (hc : cst < (b : Int) + ((W + 1) * c : Nat)) : ∀ (i : Nat) (σ : List Nat) (k : Nat), (0 < i ∨ σ.head? = some 73) → F + (i : Nat) + (k : Nat) = 0 → (0 : Int) - i = e - r.length + σ.count 73 - σ.count 68 →
    (band a b c r t F Z high i k).q = cst - (prc a b c none σ : Nat) + (if σ.head? = some 73 then (b : Int) else 0) → cst = (prc a b c none (List.replicate i 73 ++ σ) : Nat)
  | 0, σ, k, h0, hk, hcnt, hq => by
    have h1 : σ.head? = some 73 := h0.resolve_left (by omega)
    rw [if_pos h1] at hq
    have q0 : (band a b c r t F Z high 0 k).q = b := rfl
    show cst = (prc a b c none σ : Nat)
    omega
  | i + 1, σ, k, _, hk, hcnt, hq => by
    have lo := band_low (a := a) (b := b) (c := c) (r := r) (t := t) (F := F) (Z := Z) (hi := (high : Int)) (by omega) (i + 1) k
    have hp : prc a b c none σ < b + (W + 1) * c := by
      have : (if σ.head? = some 73 then (b : Int) else 0) ≤ b := by split <;> omega
      omega
    obtain ⟨k1, k2⟩ := in_band (i := i + 1) (j := 0) D hl hh hp hcnt hk
    obtain ⟨k, rfl⟩ : ∃ k', k = k' + 1 := ⟨k - 1, by omega⟩
    have ez := band_zero (a := a) (b := b) (c := c) (r := r) (t := t) (F := F) (Z := Z) (hi := (high : Int)) (i := i) (k := k) k2 hk
    have eq : (band a b c r t F Z high (i + 1) (k + 1)).q = c + (band a b c r t F Z high i (k + 2)).q := by rw [ez]
    have g := pre_gap (a := a) (b := b) (c := c) (x := 73) (.inl rfl) σ
    have ih := col_done D hl hh hc i (73 :: σ) (k + 2) (.inr rfl) (by omega) (by rw [List.count_cons_self, List.count_cons_of_ne (by decide)]; omega) (by
      rw [if_pos (show (73 :: σ).head? = some 73 from rfl)]
      by_cases e1 : σ.head? = some 73
      · rw [if_pos e1] at hq g
        omega
      · rw [if_neg e1] at hq g
        omega)
    have er : List.replicate (i + 1) 73 ++ σ = List.replicate i 73 ++ (73 :: σ) := by
      rw [List.replicate_succ']
      simp
    rw [er]
    exact ih
theorem Tr.done (D : Bd r.length low high W F Z) (hl : low ≤ e) (hh : e ≤ high) (hc : cst < (b : Int) + ((W + 1) * c : Nat)) (T : Tr a b c r t F Z high e cst i j σ wp wq) (h0 : i = 0 ∨ j = 0) :
    Hr.wk r t (List.replicate i 73 ++ σ) 0 j = some (r.length, e) ∧ cst = (prc a b c none (List.replicate i 73 ++ σ) : Nat) := by
  refine ⟨by rw [wk_rep, Nat.zero_add]; exact T.wk, ?_⟩
  have hp := T.small hc
  obtain ⟨k, hk, h1, h2, h3, h4⟩ := T.inv
  have hwp := T.hw
  have hwq := T.hq
  have hcnt := T.cnt
  rcases Nat.eq_zero_or_pos i with hi | hi
  · subst hi
    have p0 : (band a b c r t F Z high 0 k).p = 0 := rfl
    have q0 : (band a b c r t F Z high 0 k).q = b := rfl
    have r0 : (band a b c r t F Z high 0 k).r = b := rfl
    show cst = (prc a b c none σ : Nat)
    by_cases c1 : σ.head? = some 73 <;> by_cases c2 : σ.head? = some 68 <;> simp only [c1, c2, if_true, if_false, reduceCtorEq] at * <;> omega
  · have hj : j = 0 := by omega
    subst hj
    obtain ⟨k1, k2⟩ := in_band D hl hh hp hcnt hk
    obtain ⟨k, rfl⟩ : ∃ k', k = k' + 1 := ⟨k - 1, by omega⟩
    obtain ⟨i, rfl⟩ : ∃ i', i = i' + 1 := ⟨i - 1, by omega⟩
    have ez := band_zero (a := a) (b := b) (c := c) (r := r) (t := t) (F := F) (Z := Z) (hi := (high : Int)) (i := i) (k := k) k2 hk
    have ep : (band a b c r t F Z high (i + 1) (k + 1)).p = (band a b c r t F Z high (i + 1) (k + 1)).q := by rw [ez]
    have er : (band a b c r t F Z high (i + 1) (k + 1)).r = (band a b c r t F Z high (i + 1) (k + 1)).q + b := by rw [ez]
    refine col_done (t := t) D hl hh hc (i + 1) σ (k + 1) (.inl hi) hk (by omega) ?_
    by_cases c1 : σ.head? = some 73 <;> by_cases c2 : σ.head? = some 68 <;> simp only [c1, c2, if_true, if_false, reduceCtorEq] at * <;> omega
theorem Tr.start (D : Bd r.length low high W F Z) (hl : low ≤ e) (hh : e ≤ high) {k : Nat} (hk : F + (r.length : Nat) + (k : Nat) = e) : Tr a b c r t F Z high e (band a b c r t F Z high r.length k).mn r.length e [] (band a b c r t F Z high r.length k).mn (band a b c r t F Z high r.length k).mn := by
  have m := mn3_le (band a b c r t F Z high r.length k).p (band a b c r t F Z high r.length k).q (band a b c r t F Z high r.length k).r
  have em : (band a b c r t F Z high r.length k).mn = mn3 (band a b c r t F Z high r.length k).p (band a b c r t F Z high r.length k).q (band a b c r t F Z high r.length k).r := rfl
  refine ⟨rfl, Nat.le_refl _, Nat.le_refl _, ?_, ?_, ?_, by rw [List.length_nil]; omega, k, hk, ?_⟩
  · show _ = _ - ((0 : Nat) : Int)
    omega
  · rw [if_neg (by simp)]
    omega
  · rw [List.count_nil, List.count_nil]
    omega
  · rw [if_neg (by simp)]
    omega
/-- what a band shows is no more than the least -/
theorem shows_le (h0 : (0 : Int) ≤ high) (hh : e ≤ high) (hf : (b : Int) + r.length * c + b ≤ far) {k : Nat} (hk : F + (r.length : Nat) + (k : Nat) = e) : (band a b c r t F Z high r.length k).mn ≤ (dp a b c r t r.length e).mn := by
  have h := band_le (a := a) (b := b) (c := c) (r := r) (t := t) (F := F) (Z := Z) (hi := (high : Int)) h0 (n := r.length) hf r.length k e (Nat.le_refl _) hk (by omega)
  have m := mn3_le (band a b c r t F Z high r.length k).p (band a b c r t F Z high r.length k).q (band a b c r t F Z high r.length k).r
  have m2 := mn3_le (dp a b c r t r.length e).p (dp a b c r t r.length e).q (dp a b c r t r.length e).r
  show mn3 _ _ _ ≤ mn3 _ _ _
  omega
end
end
/-! ### rules: min of a tuple of ints; sep.join(reversed(xs)) -/
section
open PySem.W PySem.SeqAt
def rMinT (K : PySem.W.Frag) : List V → Hp → VK → Prop := fun vs H Q => ∃ (p : Addr) (n : Int) (ms : List Int), vs = [V.ref p] ∧ SqT K H p ((n :: ms).map V.int) ∧ Q (.int (ms.foldl min n)) H
theorem alike_ints (ns : List Int) : AlikeAll (ns.map PyData.int) := by
  refine ⟨fun x hx y hy => ?_, fun x hx => ?_⟩
  · obtain ⟨a, _, rfl⟩ := List.mem_map.mp hx
    obtain ⟨b, _, rfl⟩ := List.mem_map.mp hy
    simp only [alike]
  · obtain ⟨a, _, rfl⟩ := List.mem_map.mp hx
    exact fun z => by cases z
theorem depth_ints : ∀ ns : List Int, PyData.depthAll (ns.map PyData.int) = 0
  | [] => rfl
  | n :: ns => by
    show max (PyData.depth (.int n)) (PyData.depthAll (ns.map PyData.int)) = 0
    rw [depth_ints ns]
    rfl
theorem cr_minT {X : Cx} (hc : X.calm = true) (hu : X.A.units + 64 < cLine) : CallR X (.builtin "min") (rMinT X.K) := by
  intro pins s σ H vs us Q I r h
  obtain ⟨p, n, ms, rfl, hs, q⟩ := h
  obtain ⟨its, rv, ht, _⟩ := I.tuple hs
  obtain rfl := Vals.ref1 r
  refine min_tuple_data (I.ok.hd hc) (vs := its.toArray) ht (by simpa using ints_readAll s.heap rv.ints) (alike_ints (n :: ms)) (by rw [show PyData.depthAll (PyData.int n :: ms.map PyData.int) = 0 from depth_ints (n :: ms)]; omega) fun i v h' tk bs _ hr kp => ?_
  rw [minD_ints] at hr
  cases hr
  exact ⟨.int _, H, I.kept kp, ⟨_, rfl⟩, q⟩
end
section
open Builtin Builtin.Str PySem.SC
variable {prog : Program} {w : World} {A : Around} {E : Value → Shared → Prop} {s : Shared}
theorem back_items {items acc : Array Value} (h : ItemsOf (fun i v => items[items.size - 1 - i]? = some v) acc items.size) : acc.toList = items.toList.reverse := by
  obtain ⟨h1, h2⟩ := h
  refine List.ext_getElem? fun i => ?_
  by_cases hi : i < items.size
  · have h3 := h2 i _ (Array.getElem?_eq_getElem (show i < acc.size by omega))
    rw [List.getElem?_reverse (by simpa using hi)]
    simp only [Array.getElem?_toList, Array.length_toList]
    rw [h3]
    exact Array.getElem?_eq_getElem _
  · rw [List.getElem?_eq_none (by simp; omega), List.getElem?_eq_none (by simp; omega)]
theorem strs_back {vs : List Value} {ys : List Str} (h : StrsAre vs ys) : StrsAre vs.reverse ys.reverse := by
  have app : ∀ {us : List Value} {zs : List Str} {u : List Value} {z : List Str}, StrsAre us zs → StrsAre u z → StrsAre (us ++ u) (zs ++ z) := fun h1 h2 => by
    induction h1 with
    | nil => exact h2
    | cons y t _ ih => exact .cons y t ih
  induction h with
  | nil => exact .nil
  | cons y t _ ih =>
    rw [List.reverse_cons, List.reverse_cons]
    exact app ih (.cons y t .nil)
theorem join_back {it l : Addr} {items : Array Value} {ys : List Str} {x : Str} {t : Tok} {Q : Value → Shared → Prop} (hh : A.handled = none) (hit : s.heap.IsRevIter it l ((items.size : Int) - 1)) (hl : s.heap.IsList l items) (hne : l ≠ it) (hn : items.size ≤ sizeLine) (hi : StrsAre items.toList ys) (hok : (ys.map (·.length)).sum + ys.length * x.length ≤ 16777216)
    (h : ∀ h' t' k, (∀ b o, b ≠ it → s.heap.get? b = some o → h'.get? b = some o) → Q (.str (Txt.join x ys.reverse) t') { s with heap := h', toks := k }) : wpAny (model prog w) A (call (.builtin "str.join") [.str x t, .ref it]) Q E s := by
  have ok2 : JoinOk x ys.reverse = true := joinOk_of (by rw [List.map_reverse, List.sum_reverse, List.length_reverse]; exact hok)
  refine wpAny_call (codeAny_call_builtin F.slot_str_join.plain F.entry_str_join (F.slot_str_join.check _ _ _ _ _ _ _ _ (typeIs_str _ _ _) (F.args_str_join_2 _ _) (?_)))
  rw [join_tree_other]
  refine wpAny_bind (wpAny_typeOf (Heap.IsRevIter.typeIs hit) ?_)
  show wpAny _ A.in1 ((pyIter (.ref it)).tryCatch _ >>= fun i2 => collect i2 >>= fun zs => joinTail x zs) _ _ s
  refine wpAny_bind (wpAny_tryCatch (wpAny_pyIter_revIter hit ?_))
  refine wpAny_bind (RT.collect_rev (A := A.in1) hh hit hl hne hn fun h' tk acc hk hacc => ?_)
  have hst := strs_back hi
  rw [← back_items hacc] at hst
  obtain ⟨zs, hv, hz⟩ := strsAre_values hst
  rw [hv]
  rw [← hz] at ok2 h
  have fit := ok2
  unfold JoinOk at fit
  have fit' := (Bool.not_eq_true' _).mp fit
  have g : Gives (joinTail x (strValues zs)) (joinMade x zs) := by
    have g0 := gives_joinTail x zs fit'
    rcases zs with _ | ⟨p, _ | ⟨q, r⟩⟩ <;> exact g0
  exact g prog w A (wants Q E) _ (post_join zs ⟨joinFit_length fit', fun t' k => h h' t' k hk⟩)
end
section
variable {X : Cx}
def tJoinRev (K : PySem.W.Frag) (to te : TE) : TE := fun σ H Q => to σ H fun x H1 => (∃ a, x = .str a) ∧ te σ H1 fun y H2 => ∃ (a : Str) (q : Addr) (ys : List Str), x = .str a ∧ y = .ref q ∧ SqL K H2 q (ys.map V.str) ∧ (ys.map (·.length)).sum + ys.length * a.length ≤ 16777216 ∧ Q (.str (Txt.join a ys.reverse)) H2
theorem pe_joinRevL {o e : Expr} {to te : TE} {apos pos p pos2 : Pos} (hc : X.calm = true) (ho : PE X o to) (hg : Gl X "reversed") (hm : X.mg "reversed" = none) (he : PE X e te)
    (hs1 : starEach [.Call (.Name "reversed" p) [e] [] pos2] X.env = [(false, eval (.Call (.Name "reversed" p) [e] [] pos2) X.env)] := by rfl) (hs : starEach [e] X.env = (false, eval e X.env) :: starEach [] X.env := by rfl)
    (hbase : attributeBase o "join" X.env (eval o X.env) = eval o X.env := by rfl) (hline : (apos.endLine == pos.line) = true := by rfl) :
    PE X (.Call (.Attribute o "join" apos) [.Call (.Name "reversed" p) [e] [] pos2] [] pos) (tJoinRev X.K to te) := by
  refine ⟨fun pins s σ H Q I h => ?_⟩
  refine PySem.Call_method1 hbase hs1 hline (thn (ho.run pins s σ H _ I h) fun v s1 ⟨x, H1, I1, r1, ⟨a, ex⟩, q1⟩ => ?_)
  subst ex
  obtain ⟨t, rfl⟩ := _root_.id r1
  refine ⟨"str", _, PySem.F.plainAttrs_str, PySem.F.slot_str_join, PySem.F.type_str_join, typeIs_str _ _ _, (fun _ e => nomatch e), Calls.callWith_builtin rfl (Calls.evalArgs_plain (Calls.spliced_cons ?_))⟩
  refine Call_ (ld_blt I1 hg hm PyProof.Rows.boot_reversed (PyProof.Rows.callWith_type1 (args_cons (thn (he.run pins s1 σ H1 _ I1 q1) fun u s2 ⟨y, H2, I2, r2, q2⟩ => args_nil ?_) hs) hs rfl))
  obtain ⟨a', q, ys, ea, rfl, hq, hz, q2⟩ := q2
  cases ea
  cases r2
  obtain ⟨its, rv, pl, hsz⟩ := I2.list hq
  have hl := rv.length
  have hne : q ≠ s2.heap.objs.size := by
    obtain ⟨_, e, _⟩ := pl.isList
    exact Nat.ne_of_lt (Heap.lt_size e)
  refine call_reversed_list pl.isList (Calls.spliced_nil ?_)
  refine join_back (A := X.A) (items := its.toArray) (ys := ys) (I2.ok.hd hc) ⟨_, Heap.get?_push_size _ rfl, rfl, rfl⟩ (pl.isList.push _) hne (by simp only [List.size_toArray]; omega) (by rw [List.toList_toArray]; exact strs_of_vals rv) hz fun h' t' k hk => ⟨.str _, H2, ?_, ⟨t', rfl⟩, q2⟩
  exact I2.kept (t' := k) fun b u e => hk b u (fun z => by rw [z] at e; exact Nat.lt_irrefl _ (Heap.lt_size e)) (Heap.get?_push_of_some _ e)
end
/-! ### the program: the next row of a band -/
def fl (Z : Nat) (f : Nat → Int) : List Int := (List.range Z).map f
theorem fl_len (Z : Nat) (f : Nat → Int) : (fl Z f).length = Z := by rw [fl, List.length_map, List.length_range]
theorem fl_lenV (Z : Nat) (f : Nat → Int) : ((fl Z f).map V.int).length = Z := by rw [List.length_map, fl_len]
theorem fl_at {Z k : Nat} (f : Nat → Int) (h : k < Z) : ((fl Z f).map V.int)[k]? = some (.int (f k)) := by
  rw [List.getElem?_map, fl, List.getElem?_map, List.getElem?_range h]
  rfl
theorem fl_ati {Z k : Nat} {i : Int} (f : Nat → Int) (e : i = (k : Int)) (h : k < Z) : atI ((fl Z f).map V.int) i = some (.int (f k)) := by
  rw [e]
  exact atI_nat (fl_at f h)
theorem fl_ext {Z : Nat} {f g : Nat → Int} (h : ∀ k, k < Z → f k = g k) : fl Z f = fl Z g := List.map_congr_left fun k hk => h k (List.mem_range.mp hk)
theorem fl_set {Z k : Nat} (f : Nat → Int) (v : Int) : ((fl Z f).map V.int).set k (.int v) = (fl Z (fun i => if i = k then v else f i)).map V.int := by
  rw [← List.map_set]
  congr 1
  refine List.ext_getElem? fun i => ?_
  rw [List.getElem?_set]
  by_cases hi : i < Z
  · rw [fl, fl, List.getElem?_map, List.getElem?_map, List.getElem?_range hi, List.length_map, List.length_range]
    by_cases e : k = i
    · subst e
      rw [if_pos rfl, if_pos hi]
      show _ = some (if k = k then v else f k)
      rw [if_pos rfl]
    · rw [if_neg e]
      show _ = some (if i = k then v else f i)
      rw [if_neg (fun z => e z.symm)]
      rfl
  · have h1 : (fl Z f)[i]? = none := List.getElem?_eq_none (by rw [fl_len]; omega)
    have h2 : (fl Z fun i => if i = k then v else f i)[i]? = none := List.getElem?_eq_none (by rw [fl_len]; omega)
    rw [h1, h2]
    split
    · rw [fl_len]
      rw [if_neg (by omega)]
    · rfl
theorem fl_const (Z : Nat) (v : Int) : (List.replicate Z [V.int v]).flatten = (fl Z (fun _ => v)).map V.int := by
  induction Z with
  | zero => rfl
  | succ Z ih =>
    rw [List.replicate_succ', List.flatten_append, ih, fl, fl, List.range_succ, List.map_append, List.map_append]
    rfl
/-- a row of the tables -/
def RowAt (H : Hp) (v : V) (Z : Nat) (f : Nat → C3) : Prop := ∃ q p1 p2 p3 : Addr, v = .ref q ∧ H q = some (.tup [.ref p1, .ref p2, .ref p3]) ∧ H p1 = some (LI (fl Z fun k => (f k).p)) ∧ H p2 = some (LI (fl Z fun k => (f k).q)) ∧ H p3 = some (LI (fl Z fun k => (f k).r))
theorem RowAt.mono {H H' : Hp} {v : V} {Z : Nat} {f : Nat → C3} (h : RowAt H v Z f) (k : ∀ b o, H b = some o → (∀ C d fs, o ≠ .ins C d fs) → H' b = some o) : RowAt H' v Z f := by
  obtain ⟨q, p1, p2, p3, e, h1, h2, h3, h4⟩ := h
  exact ⟨q, p1, p2, p3, e, k _ _ h1 (fun _ _ _ z => nomatch z), k _ _ h2 (fun _ _ _ z => nomatch z), k _ _ h3 (fun _ _ _ z => nomatch z), k _ _ h4 (fun _ _ _ z => nomatch z)⟩
theorem RowAt.same {H H' : Hp} {v : V} {Z : Nat} {f : Nat → C3} (h : RowAt H v Z f) (s : Same H H') : RowAt H' v Z f := h.mono fun b o e _ => s b o e
section
variable {a b c : Nat} {t : List Nat} {ab : Nat → C3} {x : Nat} {fr hi : Int} {Z : Nat}
theorem br_out {k : Nat} (h : ¬ (1 ≤ k ∧ k + 1 < Z)) : bandRow a b c t ab x fr Z hi k = lo3 b := by
  cases k with
  | zero => rfl
  | succ k =>
    unfold bandRow
    rw [if_neg (by omega)]
theorem br_else {k : Nat} (h : fr + (k : Nat) < 0 ∨ hi < fr + (k : Nat)) (h0 : 0 ≤ hi) : bandRow a b c t ab x fr Z hi k = lo3 b := by
  cases k with
  | zero => rfl
  | succ k =>
    unfold bandRow
    split
    · rw [if_neg (by omega), if_neg (by omega)]
    · rfl
theorem br_zero {k : Nat} (h1 : 1 ≤ k) (h : k + 1 < Z) (hz : fr + (k : Nat) = 0) : bandRow a b c t ab x fr Z hi k = ⟨c + (ab (k + 1)).q, c + (ab (k + 1)).q, c + (ab (k + 1)).q + b⟩ := by
  obtain ⟨k, rfl⟩ : ∃ k', k = k' + 1 := ⟨k - 1, by omega⟩
  unfold bandRow
  rw [if_pos h, if_pos hz]
theorem br_in {k j : Nat} (h : k + 2 < Z) (hj : fr + (k + 1 : Nat) = ((j + 1 : Nat) : Int)) (hh : ((j + 1 : Nat) : Int) ≤ hi) : bandRow a b c t ab x fr Z hi (k + 1) =
    ⟨mn3 (ab (k + 1)).p (ab (k + 1)).q (ab (k + 1)).r + wgt a x (t.getD j 0), mn3 ((b + c : Int) + (ab (k + 2)).p) ((b + c : Int) + (ab (k + 2)).r) (c + (ab (k + 2)).q),
      mn3 ((b + c : Int) + (bandRow a b c t ab x fr Z hi k).p) ((b + c : Int) + (bandRow a b c t ab x fr Z hi k).q) (c + (bandRow a b c t ab x fr Z hi k).r)⟩ := by
  conv => lhs; unfold bandRow
  rw [if_pos h, if_neg (by omega), if_pos (by omega), hj, show (((j + 1 : Nat) : Int) - 1).toNat = j by omega]
end
theorem mn3_nu (x y z : Int) : nuMin3 (.int x) (.int y) (.int z) = some (.int (mn3 x y z)) := by
  have h : ∀ x y : Int, nuMin2 (.int x) (.int y) = some (.int (mn2 x y)) := fun x y => by
    show some (if (decide (y < x)) = true then V.int y else V.int x) = _
    unfold mn2
    by_cases h : y < x
    · rw [decide_eq_true h, if_pos rfl, if_pos h]
    · rw [decide_eq_false h, if_neg Bool.false_ne_true, if_neg h]
  show (nuMin2 (.int x) (.int y)).bind (fun m => nuMin2 m (.int z)) = _
  rw [h]
  exact h _ z
def NNr : List Str := ["above", "letter", "others", "costs", "first", "replace", "start", "each", "new", "pairs_above", "reads_above", "texts_above", "pairs", "reads", "texts", "zero", "at", "other", "ahead", "up", "left"]
theorem scNextRow : FnScope NNr ["above", "letter", "others", "costs", "first"] (defScope sNextRow) := ⟨rfl, rfl, rfl, by decide +kernel, rfl, by decide +kernel, by decide +kernel⟩
section
variable {P : Program} {w : World} {K : PySem.W.Frag} {mg : Str → Option Value} {base : Heap}
/-- the letters beside a row -/
def others (t : List Nat) (fr hi : Int) (Z : Nat) : List Nat := (t.drop fr.toNat).take ((min hi (fr + Z - 2)).toNat - fr.toNat)
def spNextRow (K : PySem.W.Frag) : Sp := fun vs H Q _ => ∃ (va : V) (x : Nat) (t : List Nat) (z : Addr) (a b c : Nat) (fr hi : Int) (Z : Nat) (ab : Nat → C3), vs = [va, .str (T [x]), .str (T (others t fr hi Z)), .ref z, .int fr] ∧ SqT K H z [.int a, .int b, .int c] ∧ RowAt H va Z ab ∧ 3 ≤ Z ∧ Z ≤ 100000 ∧ 0 ≤ hi ∧ hi ≤ t.length ∧ -100000 ≤ fr ∧ t.length ≤ 100000 ∧
  ∀ (H' : Hp) (v : V), Same H H' → RowAt H' v Z (bandRow a b c t ab x fr Z hi) → Q v H'
theorem ok_nextRow {f : Addr} {fd : FuncData} {k : Nat} (F : Fun K "_next_row" "_next_row" sNextRow f fd) (mlen : mg "len" = none) (mmin : mg "min" = none) (mmax : mg "max" = none) (menum : mg "enumerate" = none) (hA : Has P w K mg base (k + 1) "agree" ["first", "second"] spAg) : FnOk P w K mg base CX0 (k + 2) f fd ["above", "letter", "others", "costs", "first"] (spNextRow K) := by
  obtain ⟨fA, dA, GA, gA, kA, bA⟩ := hA
  refine F.ok scNextRow (fun vs H Q E h => ?_) (fun cdv A outer s H vs Q E hr h => ?_)
  · obtain ⟨va, x, t, z, a, b, c, fr, hi, Z, ab, rfl, _⟩ := h
    rfl
  · obtain ⟨va, x, t, z, a, b, c, fr, hi, Z, ab, rfl, hz, hrow, hZ3, hZ, h0, hht, hfr, htl, q⟩ := h
    obtain ⟨qa, p1, p2, p3, rfl, hqa, hp1, hp2, hp3⟩ := hrow
    refine ⟨_, (pss_cons (ps_asg (pv 3) (pg_tup rfl (pgs_cons (pg_name (i := 5) scNextRow.nd rfl (.inl rfl)) (pgs_cons (pg_name (i := 6) scNextRow.nd rfl (.inl rfl)) (pgs_cons (pg_name (i := 7) scNextRow.nd rfl (.inl rfl)) pgs_nil)))))
      (pss_cons (ps_set (i := 8) scNextRow.nd rfl (.inl rfl) (pe_op op_add (pv 6) (pv 7)))
      (C8.pss_cut (ps_asg (pv 0) (pg_tup rfl (pgs_cons (pg_name (i := 9) scNextRow.nd rfl (.inl rfl)) (pgs_cons (pg_name (i := 10) scNextRow.nd rfl (.inl rfl)) (pgs_cons (pg_name (i := 11) scNextRow.nd rfl (.inl rfl)) pgs_nil)))))
      (pss_cons (ps_set (i := 12) scNextRow.nd rfl (.inl rfl) (pe_op op_rep (pe_lst (pa_cons pe_int pa_nil)) (pe_callB call_len_seq (by rfl) mlen PySem.boot_len (pa_cons (pv 9) pa_nil))))
      (pss_cons (ps_set (i := 13) scNextRow.nd rfl (.inl rfl) (pe_op op_rep (pe_lst (pa_cons (pv 6) pa_nil)) (pe_callB call_len_seq (by rfl) mlen PySem.boot_len (pa_cons (pv 9) pa_nil))))
      (pss_cons (ps_set (i := 14) scNextRow.nd rfl (.inl rfl) (pe_op op_rep (pe_lst (pa_cons (pv 6) pa_nil)) (pe_callB call_len_seq (by rfl) mlen PySem.boot_len (pa_cons (pv 9) pa_nil))))
      (C8.pss_cut (ps_set (i := 15) scNextRow.nd rfl (.inl rfl) (pe_un un_neg (pv 4)))
      (C8.pss_cut (ps_if (pt_chain op_lt op_lt pe_int (pv 15) (pe_op op_sub (pe_callB call_len_seq (by rfl) mlen PySem.boot_len (pa_cons (pv 12) pa_nil)) pe_int)) (pss_cons (ps_asg (pe_op op_add (pv 7) (pe_ix ix_list (pv 10) (pe_op op_add (pv 15) pe_int) (fun _ _ => rfl))) (pg_sub (pv 13) (pv 15) set_list))
      (pss_cons (ps_asg (pe_ix ix_list (pv 13) (pv 15) (fun _ _ => rfl)) (pg_sub (pv 12) (pv 15) set_list))
      (pss_one (ps_asg (pe_op op_add (pe_ix ix_list (pv 13) (pv 15) (fun _ _ => rfl)) (pv 6)) (pg_sub (pv 14) (pv 15) set_list))))) pss_nil)
      (pss_cons (ps_for PassesOwn.never rfl (pi_enumTS (by rfl) menum (pa_cons (pv 2) pa_nil) (pk_cons (pe_op op_add (pe_callB (call_max2 rfl) (by rfl) mmax (by decide +kernel) (pa_cons pe_int (pa_cons (pv 15) pa_nil))) pe_int) pk_nil)) (pg_tup rfl (pgs_cons (pg_name (i := 16) scNextRow.nd rfl (.inl rfl)) (pgs_cons (pg_name (i := 17) scNextRow.nd rfl (.inl rfl)) pgs_nil)))
        (pss_cons (ps_set (i := 18) scNextRow.nd rfl (.inl rfl) (pe_callB (call_min3Nu rfl) (by rfl) mmin (by decide +kernel) (pa_cons (pe_ix ix_list (pv 9) (pv 16) (fun _ _ => rfl)) (pa_cons (pe_ix ix_list (pv 10) (pv 16) (fun _ _ => rfl)) (pa_cons (pe_ix ix_list (pv 11) (pv 16) (fun _ _ => rfl)) pa_nil)))))
      (pss_cons (ps_asg (pe_ifExp (pt_val (pe_call GA hr (by rfl) gA kA bA .nil pass0 (pa_cons (pv 1) (pa_cons (pv 17) pa_nil)))) (pv 18) (pe_op op_add (pv 18) (pv 5))) (pg_sub (pv 12) (pv 16) set_list))
      (pss_cons (ps_set (i := 19) scNextRow.nd rfl (.inl rfl) (pe_op op_add (pv 16) pe_int))
      (pss_cons (ps_asg (pe_callB (call_min3Nu rfl) (by rfl) mmin (by decide +kernel) (pa_cons (pe_op op_add (pv 8) (pe_ix ix_list (pv 9) (pv 19) (fun _ _ => rfl))) (pa_cons (pe_op op_add (pv 8) (pe_ix ix_list (pv 11) (pv 19) (fun _ _ => rfl))) (pa_cons (pe_op op_add (pv 7) (pe_ix ix_list (pv 10) (pv 19) (fun _ _ => rfl))) pa_nil)))) (pg_sub (pv 13) (pv 16) set_list))
      (pss_cons (ps_set (i := 20) scNextRow.nd rfl (.inl rfl) (pe_op op_sub (pv 16) pe_int))
      (pss_one (ps_asg (pe_callB (call_min3Nu rfl) (by rfl) mmin (by decide +kernel) (pa_cons (pe_op op_add (pv 8) (pe_ix ix_list (pv 12) (pv 20) (fun _ _ => rfl))) (pa_cons (pe_op op_add (pv 8) (pe_ix ix_list (pv 13) (pv 20) (fun _ _ => rfl))) (pa_cons (pe_op op_add (pv 7) (pe_ix ix_list (pv 14) (pv 20) (fun _ _ => rfl))) pa_nil)))) (pg_sub (pv 14) (pv 16) set_list)))))))))
      (pss_one (ps_ret (pe_tup (pa_cons (pv 12) (pa_cons (pv 13) (pa_cons (pv 14) pa_nil))))))))))))))), ?_⟩
    refine ⟨.ref z, rfl, z, _, rfl, hz, rfl, _, _, rfl, _, _, rfl, _, _, rfl, rfl, ?_⟩
    refine ⟨.int b, rfl, .int c, rfl, _, _, rfl, rfl, ?_⟩
    refine ⟨fun σ H' => H' = H ∧ σ = [some (.ref qa), some (.str (T [x])), some (.str (T (others t fr hi Z))), some (.ref z), some (.int fr), some (.int a), some (.int b), some (.int c), some (.int ((b : Int) + c)), some (.ref p1), some (.ref p2), some (.ref p3), none, none, none, none, none, none, none, none, none], ⟨.ref qa, rfl, qa, _, rfl, .inl (.inl hqa), rfl, _, _, rfl, _, _, rfl, _, _, rfl, rfl, rfl, rfl⟩, ?_⟩
    rintro σ H' ⟨hh, rfl⟩
    have hh := hh.symm
    subst hh
    -- the new lists
    refine ⟨by show 1 ≤ sizeLine; decide, fun d1 hd1 => ?_⟩
    have u1 := same_upd (o := .lst [V.int 0]) hd1
    refine ⟨.ref p1, rfl, p1, _, rfl, .inl (.inl (.inl (u1 _ _ hp1))), d1, _, _, rfl, rfl, upd_same, by rw [fl_lenV]; omega, by rw [fl_lenV]; omega, by rw [fl_lenV]; show 1 * _ ≤ sizeLine; exact line_ok6 (by omega), fun e1 he1 => ?_⟩
    rw [fl_lenV, Int.toNat_natCast, fl_const]
    have u2 := same_upd (o := .lst ((fl Z fun _ => (0 : Int)).map V.int)) he1
    have s2 := u1.trans u2
    obtain ⟨H2, hH2⟩ : ∃ H2, H2 = upd (upd H d1 (.lst [V.int 0])) e1 (.lst ((fl Z fun _ => (0 : Int)).map V.int)) := ⟨_, rfl⟩
    have he1H : H e1 = none := u1.free he1
    have h2e : H2 e1 = some (LI (fl Z fun _ => (0 : Int))) := by rw [hH2, upd_same]
    rw [← hH2] at s2 ⊢
    clear u1 u2 hd1 he1 hH2
    refine ⟨.int b, rfl, by show 1 ≤ sizeLine; decide, fun d2 hd2 => ?_⟩
    have u1 := same_upd (o := .lst [V.int (b : Int)]) hd2
    refine ⟨.ref p1, rfl, p1, _, rfl, .inl (.inl (.inl (u1 _ _ (s2 _ _ hp1)))), d2, _, _, rfl, rfl, upd_same, by rw [fl_lenV]; omega, by rw [fl_lenV]; omega, by rw [fl_lenV]; show 1 * _ ≤ sizeLine; exact line_ok6 (by omega), fun e2 he2 => ?_⟩
    rw [fl_lenV, Int.toNat_natCast, fl_const]
    have u2 := same_upd (o := .lst ((fl Z fun _ => (b : Int)).map V.int)) he2
    have s23 := u1.trans u2
    obtain ⟨H3, hH3⟩ : ∃ H3, H3 = upd (upd H2 d2 (.lst [V.int (b : Int)])) e2 (.lst ((fl Z fun _ => (b : Int)).map V.int)) := ⟨_, rfl⟩
    have he2H : H2 e2 = none := u1.free he2
    have h3e : H3 e2 = some (LI (fl Z fun _ => (b : Int))) := by rw [hH3, upd_same]
    rw [← hH3] at s23 ⊢
    clear u1 u2 hd2 he2 hH3
    have s3 := s2.trans s23
    refine ⟨.int b, rfl, by show 1 ≤ sizeLine; decide, fun d3 hd3 => ?_⟩
    have u1 := same_upd (o := .lst [V.int (b : Int)]) hd3
    refine ⟨.ref p1, rfl, p1, _, rfl, .inl (.inl (.inl (u1 _ _ (s3 _ _ hp1)))), d3, _, _, rfl, rfl, upd_same, by rw [fl_lenV]; omega, by rw [fl_lenV]; omega, by rw [fl_lenV]; show 1 * _ ≤ sizeLine; exact line_ok6 (by omega), fun e3 he3 => ?_⟩
    rw [fl_lenV, Int.toNat_natCast, fl_const]
    have u2 := same_upd (o := .lst ((fl Z fun _ => (b : Int)).map V.int)) he3
    have s34 := u1.trans u2
    obtain ⟨H4, hH4⟩ : ∃ H4, H4 = upd (upd H3 d3 (.lst [V.int (b : Int)])) e3 (.lst ((fl Z fun _ => (b : Int)).map V.int)) := ⟨_, rfl⟩
    have he3H : H3 e3 = none := u1.free he3
    have h4e : H4 e3 = some (LI (fl Z fun _ => (b : Int))) := by rw [hH4, upd_same]
    rw [← hH4] at s34 ⊢
    clear u1 u2 hd3 he3 hH4
    have s4 := s3.trans s34
    have n12 : e1 ≠ e2 := ne_of_none h2e he2H
    have n13 : e1 ≠ e3 := ne_of_none (s23 _ _ h2e) he3H
    have n23 : e2 ≠ e3 := ne_of_none h3e he3H
    have he2H' : H e2 = none := s2.free he2H
    have he3H' : H e3 = none := s3.free he3H
    have h4e1 := s34 _ _ (s23 _ _ h2e)
    have h4e2 := s34 _ _ h3e
    have keep : ∀ {H5 : Hp}, (∀ y o, y ≠ e1 → y ≠ e2 → y ≠ e3 → H4 y = some o → H5 y = some o) → Same H H5 := fun h y o e => h y o (ne_of_none e he1H) (ne_of_none e he2H') (ne_of_none e he3H') (s4 _ _ e)
    refine ⟨fun σ H' => H' = H4 ∧ σ = [some (.ref qa), some (.str (T [x])), some (.str (T (others t fr hi Z))), some (.ref z), some (.int fr), some (.int a), some (.int b), some (.int c), some (.int ((b : Int) + c)), some (.ref p1), some (.ref p2), some (.ref p3), some (.ref e1), some (.ref e2), some (.ref e3), some (.int (-fr)), none, none, none, none, none], ⟨.int fr, rfl, fr, rfl, rfl, rfl⟩, ?_⟩
    rintro σ H5 ⟨hh, rfl⟩
    have hh := hh.symm
    subst hh
    have hlen : ∀ _ : Unit, (others t fr hi Z).length = (min hi (fr + Z - 2)).toNat - fr.toNat := fun _ => by
      unfold others
      rw [List.length_take, List.length_drop]
      omega
    obtain ⟨R, hR⟩ : ∃ R, R = bandRow a b c t ab x fr Z hi := ⟨_, rfl⟩
    rw [← hR] at q
    obtain ⟨s0, hs0⟩ : ∃ s0 : Nat, ∀ _ : Unit, (s0 : Int) = (if -fr > 0 then -fr else 0) + 1 := ⟨((if -fr > 0 then -fr else 0) + 1).toNat, fun _ => by split <;> omega⟩
    have hs0' : ∀ _ : Unit, (fr < 0 → (s0 : Int) = -fr + 1) ∧ (0 ≤ fr → s0 = 1) := fun _ => by
      have hs0 := hs0 ()
      constructor <;> intro h <;> split at hs0 <;> omega
    have hsb : (s0 : Int) ≤ 100001 ∧ 1 ≤ s0 := by
      have := hs0' ()
      omega
    -- what the lists hold below m
    obtain ⟨St, hSt⟩ : ∃ St : Nat → Hp → Prop, St = fun m H5 => (∀ y o, y ≠ e1 → y ≠ e2 → y ≠ e3 → H4 y = some o → H5 y = some o) ∧ ∃ f1 f2 f3 : Nat → Int, H5 e1 = some (LI (fl Z f1)) ∧ H5 e2 = some (LI (fl Z f2)) ∧ H5 e3 = some (LI (fl Z f3)) ∧ (∀ k, k < m → f1 k = (R k).p ∧ f2 k = (R k).q ∧ f3 k = (R k).r) ∧ ∀ k, m ≤ k → f1 k = 0 ∧ f2 k = b ∧ f3 k = b := ⟨_, rfl⟩
    refine ⟨fun σ H5 => St s0 H5 ∧ σ = [some (.ref qa), some (.str (T [x])), some (.str (T (others t fr hi Z))), some (.ref z), some (.int fr), some (.int a), some (.int b), some (.int c), some (.int ((b : Int) + c)), some (.ref p1), some (.ref p2), some (.ref p3), some (.ref e1), some (.ref e2), some (.ref e3), some (.int (-fr)), none, none, none, none, none], ?_, ?_⟩
    · have lo : ∀ k, k < s0 → ¬ (1 ≤ k ∧ k + 1 < Z ∧ fr + (k : Nat) = 0) → R k = lo3 b := fun k hk hn => by
        rw [hR]
        by_cases c1 : 1 ≤ k ∧ k + 1 < Z
        · refine br_else ?_ h0
          have := hs0' ()
          omega
        · exact br_out c1
      refine ⟨.int (-fr), rfl, _, _, rfl, rfl, _, rfl, ite2 (fun c1 => ?_) (fun c1 => ?_)⟩
      · have c1 := of_decide_eq_true c1
        refine ⟨.ref e1, rfl, e1, _, rfl, .inl (.inl (.inl h4e1)), _, 1, rfl, rfl, _, _, rfl, rfl, _, rfl, ite2 (fun c2 => ?_) (fun c2 => ?_)⟩
        · have c2 := of_decide_eq_true c2
          rw [fl_lenV] at c2
          obtain ⟨m, hm⟩ : ∃ m : Nat, -fr = (m : Int) := ⟨(-fr).toNat, by omega⟩
          have hmZ : m + 1 < Z := by omega
          have hm1 : 1 ≤ m := by omega
          have es : s0 = m + 1 := by have := (hs0' ()).1 (by omega); omega
          have eR := br_zero (a := a) (b := b) (c := c) (t := t) (ab := ab) (x := x) (fr := fr) (hi := hi) hm1 hmZ (by omega)
          rw [← hR] at eR
          have a2 : ∀ {H5 : Hp}, (∀ y o, y ≠ e1 → y ≠ e2 → y ≠ e3 → H4 y = some o → H5 y = some o) → H5 p2 = some (LI (fl Z fun k => (ab k).q)) := fun h => keep h _ _ hp2
          refine ⟨.int c, rfl, .ref p2, rfl, .int (-fr), rfl, _, 1, rfl, rfl, p2, _, _, .int (ab (m + 1)).q, rfl, rfl, .inl (.inl (s4 _ _ hp2)), fl_ati _ (by omega) hmZ, _, _, rfl, rfl, .ref e2, rfl, .int (-fr), rfl, e2, _, _, m, rfl, rfl, h4e2, ix_set hm (by rw [fl_lenV]; omega), ?_⟩
          rw [fl_set]
          obtain ⟨H5, hH5⟩ : ∃ H5, H5 = upd H4 e2 (.lst ((fl Z fun i => if i = m then (c : Int) + (ab (m + 1)).q else (b : Int)).map V.int)) := ⟨_, rfl⟩
          have h52 : H5 e2 = some (LI (fl Z fun i => if i = m then (c : Int) + (ab (m + 1)).q else (b : Int))) := by rw [hH5, upd_same]
          have h51 : H5 e1 = some (LI (fl Z fun _ => (0 : Int))) := by rw [hH5, upd_ne n12]; exact h4e1
          have h53 : H5 e3 = some (LI (fl Z fun _ => (b : Int))) := by rw [hH5, upd_ne n23.symm]; exact h4e
          have k5 : ∀ y o, y ≠ e1 → y ≠ e2 → y ≠ e3 → H4 y = some o → H5 y = some o := fun y o _ z _ e => by rw [hH5, upd_ne z]; exact e
          rw [← hH5]
          clear hH5
          have g5 : ∀ {i : Int}, i = (m : Int) → atI ((fl Z fun i => if i = m then (c : Int) + (ab (m + 1)).q else (b : Int)).map V.int) i = some (.int ((c : Int) + (ab (m + 1)).q)) := fun e => by
            rw [fl_ati (k := m) _ e (by omega), if_pos rfl]
          refine ⟨.ref e2, rfl, .int (-fr), rfl, e2, _, _, _, rfl, rfl, .inl (.inl h52), g5 hm, .ref e1, rfl, .int (-fr), rfl, e1, _, _, m, rfl, rfl, h51, ix_set hm (by rw [fl_lenV]; omega), ?_⟩
          rw [fl_set]
          obtain ⟨H6, hH6⟩ : ∃ H6, H6 = upd H5 e1 (.lst ((fl Z fun i => if i = m then (c : Int) + (ab (m + 1)).q else 0).map V.int)) := ⟨_, rfl⟩
          have h61 : H6 e1 = some (LI (fl Z fun i => if i = m then (c : Int) + (ab (m + 1)).q else 0)) := by rw [hH6, upd_same]
          have h62 : H6 e2 = some (LI (fl Z fun i => if i = m then (c : Int) + (ab (m + 1)).q else (b : Int))) := by rw [hH6, upd_ne n12.symm]; exact h52
          have h63 : H6 e3 = some (LI (fl Z fun _ => (b : Int))) := by rw [hH6, upd_ne n13.symm]; exact h53
          have k6 : ∀ y o, y ≠ e1 → y ≠ e2 → y ≠ e3 → H4 y = some o → H6 y = some o := fun y o z1 z2 z3 e => by rw [hH6, upd_ne z1]; exact k5 y o z1 z2 z3 e
          rw [← hH6]
          clear hH6
          refine ⟨.ref e2, rfl, .int (-fr), rfl, e2, _, _, _, rfl, rfl, .inl (.inl h62), g5 hm, .int b, rfl, _, _, rfl, rfl, .ref e3, rfl, .int (-fr), rfl, e3, _, _, m, rfl, rfl, h63, ix_set hm (by rw [fl_lenV]; omega), ?_⟩
          rw [fl_set, hSt]
          refine ⟨⟨fun y o z1 z2 z3 e => by rw [upd_ne z3]; exact k6 y o z1 z2 z3 e, _, _, _, by rw [upd_ne n13]; exact h61, by rw [upd_ne n23]; exact h62, upd_same, fun k hk => ?_, fun k hk => ?_⟩, rfl⟩
          · by_cases e : k = m
            · subst e
              rw [if_pos rfl, if_pos rfl, if_pos rfl, eR]
              exact ⟨rfl, rfl, rfl⟩
            · rw [if_neg e, if_neg e, if_neg e, lo k hk (by omega)]
              exact ⟨rfl, rfl, rfl⟩
          · rw [if_neg (by omega), if_neg (by omega), if_neg (by omega)]
            exact ⟨rfl, rfl, rfl⟩
        · rw [hSt]
          refine ⟨⟨fun y o _ _ _ e => e, _, _, _, h4e1, h4e2, h4e, fun k hk => ?_, fun k hk => ⟨rfl, rfl, rfl⟩⟩, rfl⟩
          have c2 : ¬ (-fr < (((fl Z fun _ => (0 : Int)).map V.int).length : Int) - 1) := fun y => c2 (decide_eq_true y)
          rw [fl_lenV] at c2
          rw [lo k hk (by omega)]
          exact ⟨rfl, rfl, rfl⟩
      · refine ⟨_, rfl, ?_⟩
        rw [hSt]
        refine ⟨⟨fun y o _ _ _ e => e, _, _, _, h4e1, h4e2, h4e, fun k hk => ?_, fun k hk => ⟨rfl, rfl, rfl⟩⟩, rfl⟩
        have c1 : ¬ (0 < -fr) := fun y => c1 (decide_eq_true y)
        rw [lo k hk (by have := (hs0' ()).2 (by omega); omega)]
        exact ⟨rfl, rfl, rfl⟩
    rintro σ H5 ⟨hst, rfl⟩
    -- the positions beside letters
    refine ⟨.str (T (others t fr hi Z)), rfl, .int (-fr), rfl, 0, _, rfl, _, 1, rfl, rfl, _, (s0 : Int), rfl, (show [V.int ((if -fr > 0 then -fr else 0) + 1)] = [V.int (s0 : Int)] by rw [hs0 ()]), by omega, by omega, ?_⟩
    refine for_gen (J := ItT (s0 : Int) (T (others t fr hi Z))) (n := (others t fr hi Z).length) (fun i σ H' => St (s0 + i) H' ∧ ∃ v16 v17 v18 v19 v20 : Option V, σ = [some (.ref qa), some (.str (T [x])), some (.str (T (others t fr hi Z))), some (.ref z), some (.int fr), some (.int a), some (.int b), some (.int c), some (.int ((b : Int) + c)), some (.ref p1), some (.ref p2), some (.ref p3), some (.ref e1), some (.ref e2), some (.ref e3), some (.int (-fr)), v16, v17, v18, v19, v20]) ?_ (fun i σ H' hi _ => by show i < (T _).cps.size; rw [T_size]; exact hi) (fun σ H' _ => by show (T _).cps.size ≤ _; rw [T_size]; exact Nat.le_refl _) ?_ ?_
    · exact ⟨hst, none, none, none, none, none, rfl⟩
    · rintro i σ H6 xv H7 hi6 ⟨hst6, v16, v17, v18, v19, v20, rfl⟩ ⟨tp, y, rfl, htp, rfl, hy⟩
      rw [hSt] at hst6
      obtain ⟨k6, f1, f2, f3, h61, h62, h63, hlt, hge⟩ := hst6
      rw [T_at] at hy
      rw [hlen ()] at hi6
      obtain ⟨m, hm⟩ : ∃ m : Nat, s0 + i = m + 1 := ⟨s0 + i - 1, by
        have := hs0' ()
        omega⟩
      obtain ⟨j, hj⟩ : ∃ j : Nat, fr + (m + 1 : Nat) = ((j + 1 : Nat) : Int) := ⟨fr.toNat + i, by
        have := hs0' ()
        omega⟩
      have hjh : ((j + 1 : Nat) : Int) ≤ hi := by
        have := hs0' ()
        omega
      have hmZ : m + 2 < Z := by
        have := hs0' ()
        omega
      have ejt : t.getD j 0 = y := by
        have e1 : (others t fr hi Z)[i]? = t[j]? := by
          unfold others
          rw [List.getElem?_take_of_lt (by omega), List.getElem?_drop]
          congr 1
          have := hs0' ()
          omega
        rw [e1] at hy
        rw [List.getD_eq_getElem?_getD, hy]
        rfl
      have n1 : e1 ≠ tp := ne_of_none h61 htp
      have n2 : e2 ≠ tp := ne_of_none h62 htp
      have n3 : e3 ≠ tp := ne_of_none h63 htp
      have emi : (s0 : Int) + (i : Nat) = ((m + 1 : Nat) : Int) := by omega
      have eR := br_in (a := a) (b := b) (c := c) (t := t) (ab := ab) (x := x) (fr := fr) (hi := hi) hmZ hj hjh
      rw [← hR, ejt] at eR
      obtain ⟨g1, g2, g3⟩ := hlt m (by omega)
      refine ⟨tp, _, rfl, .inl (.inl upd_same), rfl, _, _, rfl, _, _, rfl, rfl, ?_⟩
      rw [emi]
      have k7 : ∀ z o, z ≠ e1 → z ≠ e2 → z ≠ e3 → H4 z = some o → (upd H6 tp (.tup [.int ((m + 1 : Nat) : Int), .str ⟨#[y]⟩])) z = some o := fun z o z1 z2 z3 e => by
        have e6 := k6 z o z1 z2 z3 e
        rw [upd_ne (ne_of_none e6 htp)]
        exact e6
      have h71 : (upd H6 tp (.tup [.int ((m + 1 : Nat) : Int), .str ⟨#[y]⟩])) e1 = some (LI (fl Z f1)) := by rw [upd_ne n1]; exact h61
      have h72 : (upd H6 tp (.tup [.int ((m + 1 : Nat) : Int), .str ⟨#[y]⟩])) e2 = some (LI (fl Z f2)) := by rw [upd_ne n2]; exact h62
      have h73 : (upd H6 tp (.tup [.int ((m + 1 : Nat) : Int), .str ⟨#[y]⟩])) e3 = some (LI (fl Z f3)) := by rw [upd_ne n3]; exact h63
      generalize upd H6 tp (.tup [.int ((m + 1 : Nat) : Int), .str ⟨#[y]⟩]) = H7 at k7 h71 h72 h73 ⊢
      have old7 := keep k7
      refine ⟨.ref p1, rfl, .int ((m + 1 : Nat) : Int), rfl, p1, _, _, .int (ab (m + 1)).p, rfl, rfl, .inl (.inl (old7 _ _ hp1)), fl_ati _ rfl (by omega), .ref p2, rfl, .int ((m + 1 : Nat) : Int), rfl, p2, _, _, .int (ab (m + 1)).q, rfl, rfl, .inl (.inl (old7 _ _ hp2)), fl_ati _ rfl (by omega),
        .ref p3, rfl, .int ((m + 1 : Nat) : Int), rfl, p3, _, _, .int (ab (m + 1)).r, rfl, rfl, .inl (.inl (old7 _ _ hp3)), fl_ati _ rfl (by omega), _, _, _, _, rfl, mn3_nu _ _ _, ?_⟩
      have gw : ∀ {g : Nat → Int} {v : Int} {i : Int}, i = (m : Int) → atI ((fl Z fun i => if i = m + 1 then v else g i).map V.int) i = some (.int (g m)) := fun {g v i} e => by
        rw [fl_ati (k := m) _ e (by omega), if_neg (by omega)]
      refine ⟨.str (T [x]), rfl, .str (T [y]), rfl, x, y, rfl, _, rfl, ite2 (fun ca => ⟨_, rfl, ?_⟩) (fun ca => ⟨_, rfl, .int a, rfl, _, _, rfl, rfl, ?_⟩)⟩
      · have hw : mn3 (ab (m + 1)).p (ab (m + 1)).q (ab (m + 1)).r = mn3 (ab (m + 1)).p (ab (m + 1)).q (ab (m + 1)).r + wgt a x y := by
          unfold wgt
          rw [if_pos ca]
          omega
        refine ⟨.ref e1, rfl, .int ((m + 1 : Nat) : Int), rfl, e1, _, _, m + 1, rfl, rfl, h71, ix_set rfl (by rw [fl_lenV]; omega), ?_⟩
        rw [fl_set]
        dsimp only
        rw [hw]
        obtain ⟨H8, hH8⟩ : ∃ H8, H8 = upd H7 e1 (.lst ((fl Z fun i => if i = m + 1 then mn3 (ab (m + 1)).p (ab (m + 1)).q (ab (m + 1)).r + wgt a x y else f1 i).map V.int)) := ⟨_, rfl⟩
        have h81 : H8 e1 = some (LI (fl Z fun i => if i = m + 1 then mn3 (ab (m + 1)).p (ab (m + 1)).q (ab (m + 1)).r + wgt a x y else f1 i)) := by rw [hH8, upd_same]
        have h82 : H8 e2 = some (LI (fl Z f2)) := by rw [hH8, upd_ne n12.symm]; exact h72
        have h83 : H8 e3 = some (LI (fl Z f3)) := by rw [hH8, upd_ne n13.symm]; exact h73
        have k8 : ∀ z o, z ≠ e1 → z ≠ e2 → z ≠ e3 → H4 z = some o → H8 z = some o := fun z o z1 z2 z3 e => by rw [hH8, upd_ne z1]; exact k7 z o z1 z2 z3 e
        have old8 := keep k8
        rw [← hH8]
        clear hH8
        refine ⟨.int ((m + 1 : Nat) : Int), rfl, _, 1, rfl, rfl, ?_⟩
        have em2 : ((m + 1 : Nat) : Int) + 1 = ((m + 2 : Nat) : Int) := by omega
        refine ⟨.int ((b : Int) + c), rfl, .ref p1, rfl, .int (((m + 1 : Nat) : Int) + 1), rfl, p1, _, _, .int (ab (m + 2)).p, rfl, rfl, .inl (.inl (old8 _ _ hp1)), fl_ati _ em2 hmZ, _, _, rfl, rfl,
          .int ((b : Int) + c), rfl, .ref p3, rfl, .int (((m + 1 : Nat) : Int) + 1), rfl, p3, _, _, .int (ab (m + 2)).r, rfl, rfl, .inl (.inl (old8 _ _ hp3)), fl_ati _ em2 hmZ, _, _, rfl, rfl,
          .int c, rfl, .ref p2, rfl, .int (((m + 1 : Nat) : Int) + 1), rfl, p2, _, _, .int (ab (m + 2)).q, rfl, rfl, .inl (.inl (old8 _ _ hp2)), fl_ati _ em2 hmZ, _, _, rfl, rfl, _, _, _, _, rfl, mn3_nu _ _ _,
          .ref e2, rfl, .int ((m + 1 : Nat) : Int), rfl, e2, _, _, m + 1, rfl, rfl, h82, ix_set rfl (by rw [fl_lenV]; omega), ?_⟩
        rw [fl_set]
        obtain ⟨H9, hH9⟩ : ∃ H9, H9 = upd H8 e2 (.lst ((fl Z fun i => if i = m + 1 then mn3 ((b + c : Int) + (ab (m + 2)).p) ((b + c : Int) + (ab (m + 2)).r) (c + (ab (m + 2)).q) else f2 i).map V.int)) := ⟨_, rfl⟩
        have h92 : H9 e2 = some (LI (fl Z fun i => if i = m + 1 then mn3 ((b + c : Int) + (ab (m + 2)).p) ((b + c : Int) + (ab (m + 2)).r) (c + (ab (m + 2)).q) else f2 i)) := by rw [hH9, upd_same]
        have h91 := (upd_ne (H := H8) (o := .lst ((fl Z fun i => if i = m + 1 then mn3 ((b + c : Int) + (ab (m + 2)).p) ((b + c : Int) + (ab (m + 2)).r) (c + (ab (m + 2)).q) else f2 i).map V.int)) n12).trans h81
        have h93 := (upd_ne (H := H8) (o := .lst ((fl Z fun i => if i = m + 1 then mn3 ((b + c : Int) + (ab (m + 2)).p) ((b + c : Int) + (ab (m + 2)).r) (c + (ab (m + 2)).q) else f2 i).map V.int)) n23.symm).trans h83
        rw [← hH9] at h91 h93
        have k9 : ∀ z o, z ≠ e1 → z ≠ e2 → z ≠ e3 → H4 z = some o → H9 z = some o := fun z o z1 z2 z3 e => by rw [hH9, upd_ne z2]; exact k8 z o z1 z2 z3 e
        rw [← hH9]
        clear hH9
        have em0 : ((m + 1 : Nat) : Int) - 1 = (m : Int) := by omega
        refine ⟨.int ((m + 1 : Nat) : Int), rfl, _, 1, rfl, rfl, ?_⟩
        refine ⟨.int ((b : Int) + c), rfl, .ref e1, rfl, .int (((m + 1 : Nat) : Int) - 1), rfl, e1, _, _, .int (f1 m), rfl, rfl, .inl (.inl h91), gw em0, _, _, rfl, rfl,
          .int ((b : Int) + c), rfl, .ref e2, rfl, .int (((m + 1 : Nat) : Int) - 1), rfl, e2, _, _, .int (f2 m), rfl, rfl, .inl (.inl h92), gw em0, _, _, rfl, rfl,
          .int c, rfl, .ref e3, rfl, .int (((m + 1 : Nat) : Int) - 1), rfl, e3, _, _, .int (f3 m), rfl, rfl, .inl (.inl h93), fl_ati _ em0 (by omega), _, _, rfl, rfl, _, _, _, _, rfl, mn3_nu _ _ _,
          .ref e3, rfl, .int ((m + 1 : Nat) : Int), rfl, e3, _, _, m + 1, rfl, rfl, h93, ix_set rfl (by rw [fl_lenV]; omega), ?_⟩
        rw [fl_set, hSt]
        refine ⟨⟨fun z o z1 z2 z3 e => by rw [upd_ne z3]; exact k9 z o z1 z2 z3 e, _, _, _, by rw [upd_ne n13]; exact h91, by rw [upd_ne n23]; exact h92, upd_same, fun k hk => ?_, fun k hk => ?_⟩, _, _, _, _, _, rfl⟩
        · by_cases e : k = m + 1
          · subst e
            rw [if_pos rfl, if_pos rfl, if_pos rfl, eR, g1, g2, g3]
            exact ⟨rfl, rfl, rfl⟩
          · rw [if_neg e, if_neg e, if_neg e]
            exact hlt k (by omega)
        · rw [if_neg (by omega), if_neg (by omega), if_neg (by omega)]
          exact hge k (by omega)
      · have hw : mn3 (ab (m + 1)).p (ab (m + 1)).q (ab (m + 1)).r + (a : Int) = mn3 (ab (m + 1)).p (ab (m + 1)).q (ab (m + 1)).r + wgt a x y := by
          unfold wgt
          rw [if_neg ca]
        refine ⟨.ref e1, rfl, .int ((m + 1 : Nat) : Int), rfl, e1, _, _, m + 1, rfl, rfl, h71, ix_set rfl (by rw [fl_lenV]; omega), ?_⟩
        rw [fl_set]
        dsimp only
        rw [hw]
        obtain ⟨H8, hH8⟩ : ∃ H8, H8 = upd H7 e1 (.lst ((fl Z fun i => if i = m + 1 then mn3 (ab (m + 1)).p (ab (m + 1)).q (ab (m + 1)).r + wgt a x y else f1 i).map V.int)) := ⟨_, rfl⟩
        have h81 : H8 e1 = some (LI (fl Z fun i => if i = m + 1 then mn3 (ab (m + 1)).p (ab (m + 1)).q (ab (m + 1)).r + wgt a x y else f1 i)) := by rw [hH8, upd_same]
        have h82 : H8 e2 = some (LI (fl Z f2)) := by rw [hH8, upd_ne n12.symm]; exact h72
        have h83 : H8 e3 = some (LI (fl Z f3)) := by rw [hH8, upd_ne n13.symm]; exact h73
        have k8 : ∀ z o, z ≠ e1 → z ≠ e2 → z ≠ e3 → H4 z = some o → H8 z = some o := fun z o z1 z2 z3 e => by rw [hH8, upd_ne z1]; exact k7 z o z1 z2 z3 e
        have old8 := keep k8
        rw [← hH8]
        clear hH8
        refine ⟨.int ((m + 1 : Nat) : Int), rfl, _, 1, rfl, rfl, ?_⟩
        have em2 : ((m + 1 : Nat) : Int) + 1 = ((m + 2 : Nat) : Int) := by omega
        refine ⟨.int ((b : Int) + c), rfl, .ref p1, rfl, .int (((m + 1 : Nat) : Int) + 1), rfl, p1, _, _, .int (ab (m + 2)).p, rfl, rfl, .inl (.inl (old8 _ _ hp1)), fl_ati _ em2 hmZ, _, _, rfl, rfl,
          .int ((b : Int) + c), rfl, .ref p3, rfl, .int (((m + 1 : Nat) : Int) + 1), rfl, p3, _, _, .int (ab (m + 2)).r, rfl, rfl, .inl (.inl (old8 _ _ hp3)), fl_ati _ em2 hmZ, _, _, rfl, rfl,
          .int c, rfl, .ref p2, rfl, .int (((m + 1 : Nat) : Int) + 1), rfl, p2, _, _, .int (ab (m + 2)).q, rfl, rfl, .inl (.inl (old8 _ _ hp2)), fl_ati _ em2 hmZ, _, _, rfl, rfl, _, _, _, _, rfl, mn3_nu _ _ _,
          .ref e2, rfl, .int ((m + 1 : Nat) : Int), rfl, e2, _, _, m + 1, rfl, rfl, h82, ix_set rfl (by rw [fl_lenV]; omega), ?_⟩
        rw [fl_set]
        obtain ⟨H9, hH9⟩ : ∃ H9, H9 = upd H8 e2 (.lst ((fl Z fun i => if i = m + 1 then mn3 ((b + c : Int) + (ab (m + 2)).p) ((b + c : Int) + (ab (m + 2)).r) (c + (ab (m + 2)).q) else f2 i).map V.int)) := ⟨_, rfl⟩
        have h92 : H9 e2 = some (LI (fl Z fun i => if i = m + 1 then mn3 ((b + c : Int) + (ab (m + 2)).p) ((b + c : Int) + (ab (m + 2)).r) (c + (ab (m + 2)).q) else f2 i)) := by rw [hH9, upd_same]
        have h91 := (upd_ne (H := H8) (o := .lst ((fl Z fun i => if i = m + 1 then mn3 ((b + c : Int) + (ab (m + 2)).p) ((b + c : Int) + (ab (m + 2)).r) (c + (ab (m + 2)).q) else f2 i).map V.int)) n12).trans h81
        have h93 := (upd_ne (H := H8) (o := .lst ((fl Z fun i => if i = m + 1 then mn3 ((b + c : Int) + (ab (m + 2)).p) ((b + c : Int) + (ab (m + 2)).r) (c + (ab (m + 2)).q) else f2 i).map V.int)) n23.symm).trans h83
        rw [← hH9] at h91 h93
        have k9 : ∀ z o, z ≠ e1 → z ≠ e2 → z ≠ e3 → H4 z = some o → H9 z = some o := fun z o z1 z2 z3 e => by rw [hH9, upd_ne z2]; exact k8 z o z1 z2 z3 e
        rw [← hH9]
        clear hH9
        have em0 : ((m + 1 : Nat) : Int) - 1 = (m : Int) := by omega
        refine ⟨.int ((m + 1 : Nat) : Int), rfl, _, 1, rfl, rfl, ?_⟩
        refine ⟨.int ((b : Int) + c), rfl, .ref e1, rfl, .int (((m + 1 : Nat) : Int) - 1), rfl, e1, _, _, .int (f1 m), rfl, rfl, .inl (.inl h91), gw em0, _, _, rfl, rfl,
          .int ((b : Int) + c), rfl, .ref e2, rfl, .int (((m + 1 : Nat) : Int) - 1), rfl, e2, _, _, .int (f2 m), rfl, rfl, .inl (.inl h92), gw em0, _, _, rfl, rfl,
          .int c, rfl, .ref e3, rfl, .int (((m + 1 : Nat) : Int) - 1), rfl, e3, _, _, .int (f3 m), rfl, rfl, .inl (.inl h93), fl_ati _ em0 (by omega), _, _, rfl, rfl, _, _, _, _, rfl, mn3_nu _ _ _,
          .ref e3, rfl, .int ((m + 1 : Nat) : Int), rfl, e3, _, _, m + 1, rfl, rfl, h93, ix_set rfl (by rw [fl_lenV]; omega), ?_⟩
        rw [fl_set, hSt]
        refine ⟨⟨fun z o z1 z2 z3 e => by rw [upd_ne z3]; exact k9 z o z1 z2 z3 e, _, _, _, by rw [upd_ne n13]; exact h91, by rw [upd_ne n23]; exact h92, upd_same, fun k hk => ?_, fun k hk => ?_⟩, _, _, _, _, _, rfl⟩
        · by_cases e : k = m + 1
          · subst e
            rw [if_pos rfl, if_pos rfl, if_pos rfl, eR, g1, g2, g3]
            exact ⟨rfl, rfl, rfl⟩
          · rw [if_neg e, if_neg e, if_neg e]
            exact hlt k (by omega)
        · rw [if_neg (by omega), if_neg (by omega), if_neg (by omega)]
          exact hge k (by omega)
    · rintro σ H6 ⟨hst6, v16, v17, v18, v19, v20, rfl⟩
      rw [hSt] at hst6
      obtain ⟨k6, f1, f2, f3, h61, h62, h63, hlt, hge⟩ := hst6
      rw [hlen ()] at hlt hge
      have all : ∀ k, k < Z → f1 k = (R k).p ∧ f2 k = (R k).q ∧ f3 k = (R k).r := fun k hk => by
        by_cases c1 : k < s0 + ((min hi (fr + Z - 2)).toNat - fr.toNat)
        · exact hlt k c1
        · have eR : R k = lo3 b := by
            rw [hR]
            by_cases c2 : 1 ≤ k ∧ k + 1 < Z
            · refine br_else ?_ h0
              have := hs0' ()
              omega
            · exact br_out c2
          rw [eR]
          exact hge k (by omega)
      rw [fl_ext fun k hk => (all k hk).1] at h61
      rw [fl_ext fun k hk => (all k hk).2.1] at h62
      rw [fl_ext fun k hk => (all k hk).2.2] at h63
      refine ⟨.ref e1, rfl, .ref e2, rfl, .ref e3, rfl, by show 3 ≤ sizeLine; decide, fun p hp => ?_⟩
      have sp := same_upd (o := .tup [V.ref e1, V.ref e2, V.ref e3]) hp
      exact q _ (.ref p) ((keep k6).trans sp) ⟨p, e1, e2, e3, rfl, upd_same, sp _ _ h61, sp _ _ h62, sp _ _ h63⟩
end
theorem cut_mid (l : List Nat) (a b : Nat) : cutS (T l) (some (a : Int)) (some (b : Int)) = T ((l.drop a).take (b - a)) := by
  unfold cutS
  rw [HT.sIx_nat, HT.sIx_nat, T_len, T_list]
  show Str.mk _ = Str.mk _
  congr 2
  by_cases ha : a ≤ l.length
  · rw [Nat.min_eq_left ha]
    by_cases hb : b ≤ l.length
    · rw [Nat.min_eq_left hb]
    · rw [Nat.min_eq_right (a := b) (by omega), List.take_of_length_le (by rw [List.length_drop]; omega), List.take_of_length_le (by rw [List.length_drop]; omega)]
  · rw [Nat.min_eq_right (a := a) (by omega), List.drop_of_length_le (Nat.le_refl _), List.drop_of_length_le (by omega), List.take_nil, List.take_nil]
theorem line_lt7 {n : Nat} (h : n ≤ 10000000) : n < sizeLine := by
  rw [sizeLine_eq]
  omega
/-! ### the index as an object -/
theorem putF_new {fs : List (Str × V)} {names : List Str} {f : Str} {v : V} (hn : fs.map (·.1) = names) (h : names.contains f = false) : putF f v fs = fs ++ [(f, v)] := by
  subst hn
  induction fs with
  | nil => rfl
  | cons q r ih =>
    obtain ⟨g, x⟩ := q
    rw [List.map_cons, List.contains_cons, Bool.or_eq_false_iff] at h
    have ne : ¬ g = f := fun z => by
      have := h.1
      rw [z] at this
      simp at this
    show (if g = f then (g, v) :: r else (g, x) :: putF f v r) = _
    rw [if_neg ne, ih h.2]
    rfl
theorem lookup_of {fs : List (Str × V)} {names : List Str} {i : Nat} {f : Str} {v : V} (hn : fs.map (·.1) = names) (hi : fs[i]? = some (f, v)) (hf : (names.take i).contains f = false) : fs.lookup f = some v := by
  subst hn
  induction fs generalizing i with
  | nil => simp at hi
  | cons q r ih =>
    obtain ⟨g, x⟩ := q
    cases i with
    | zero =>
      have e : (g, x) = (f, v) := by simpa using hi
      cases e
      show (match f == f with | true => some v | false => _) = some v
      rw [beq_self_eq_true]
    | succ i =>
      rw [List.map_cons, List.take_succ_cons, List.contains_cons, Bool.or_eq_false_iff] at hf
      show (match f == g with | true => some x | false => r.lookup f) = some v
      rw [hf.1]
      exact ih (by simpa using hi) hf.2
theorem lookup_no {fs : List (Str × V)} {names : List Str} {f : Str} (hn : fs.map (·.1) = names) (hf : names.contains f = false) : fs.lookup f = none := by
  subst hn
  induction fs with
  | nil => rfl
  | cons q r ih =>
    obtain ⟨g, x⟩ := q
    rw [List.map_cons, List.contains_cons, Bool.or_eq_false_iff] at hf
    show (match f == g with | true => some x | false => r.lookup f) = none
    rw [hf.1]
    exact ih hf.2
def Sb (x : Addr) (H H' : Hp) : Prop := ∀ c o, c ≠ x → H c = some o → H' c = some o
theorem sb_free {x p : Addr} {H H' : Hp} (h : Sb x H H') (n : p ≠ x) (e : H' p = none) : H p = none := by
  cases z : H p with
  | none => rfl
  | some o =>
    rw [h p o n z] at e
    cases e
theorem putF_names1 (f : Str) (v : V) : (putF f v []).map (·.1) = [f] := rfl
theorem ext_same {H H2 : Hp} {p : Addr} {o : HO} (s : Same H H2) (hp : H p = none) : Same H (upd H2 p o) := fun b o' e => by
  rw [upd_ne (ne_of_none e hp)]
  exact s _ _ e
/-! ### the program: a band as an object -/
theorem atI_neg1' {xs : List V} {v : V} {n : Nat} (hl : xs.length = n + 1) (h : xs[n]? = some v) : atI xs (-1) = some v := by
  have e : xs = xs.take n ++ [v] := by
    obtain ⟨hn, e⟩ := List.getElem?_eq_some_iff.mp h
    rw [← e]
    rw [List.take_append_getElem hn, List.take_of_length_le (by omega)]
  rw [e]
  exact atI_last _ _
def fsB (aL : Addr) (Z : Nat) (F : Int) (aR : Addr) : List (Str × V) := [("_lowest", .ref aL), ("_size", .int (Z : Int)), ("_first", .int F), ("_rows", .ref aR)]
def fs3 (aL : Addr) (Z : Nat) (F : Int) : List (Str × V) := [("_lowest", .ref aL), ("_size", .int (Z : Int)), ("_first", .int F)]
theorem lkB {aL aR : Addr} {Z : Nat} {F : Int} {f : Str} {v : V} {i : Nat} (hi : (fsB aL Z F aR)[i]? = some (f, v)) (hf : ((["_lowest", "_size", "_first", "_rows"] : List Str).take i).contains f = false) : (fsB aL Z F aR).lookup f = some v := lookup_of (names := ["_lowest", "_size", "_first", "_rows"]) rfl hi hf
theorem lk3 {aL : Addr} {Z : Nat} {F : Int} {f : Str} {v : V} {i : Nat} (hi : (fs3 aL Z F)[i]? = some (f, v)) (hf : ((["_lowest", "_size", "_first"] : List Str).take i).contains f = false) : (fs3 aL Z F).lookup f = some v := lookup_of (names := ["_lowest", "_size", "_first"]) rfl hi hf
structure BnT (K : PySem.W.Frag) (mg : Str → Option Value) (C : Addr) : Prop where
  cl : Cls K C
  n1 : NoAttr K C "_lowest"
  n2 : NoAttr K C "_size"
  n3 : NoAttr K C "_first"
  n4 : NoAttr K C "_rows"
  gC : mg "Band" = some (.ref C)
def BandAt (C : Addr) (H : Hp) (x : Addr) (a b c : Nat) (r t : List Nat) (F : Int) (Z : Nat) (hi : Int) : Prop :=
  ∃ (dx aL aR : Addr) (vs : List V), H x = some (.ins C dx (fsB aL Z F aR)) ∧ H aL = some (.tup [.int 0, .int (b : Int), .int (b : Int)]) ∧ H aR = some (.lst vs) ∧ vs.length = r.length + 1 ∧ ∀ i, i ≤ r.length → ∃ v, vs[i]? = some v ∧ RowAt H v Z (band a b c r t F Z hi i)
theorem BandAt.same {C : Addr} {H H' : Hp} {x : Addr} {a b c : Nat} {r t : List Nat} {F : Int} {Z : Nat} {hi : Int} (h : BandAt C H x a b c r t F Z hi) (s : Same H H') : BandAt C H' x a b c r t F Z hi := by
  obtain ⟨dx, aL, aR, vs, h1, h2, h3, h4, h5⟩ := h
  refine ⟨dx, aL, aR, vs, s _ _ h1, s _ _ h2, s _ _ h3, h4, fun i hi => ?_⟩
  obtain ⟨v, e, g⟩ := h5 i hi
  exact ⟨v, e, g.same s⟩
theorem RowAt.keep {H H' : Hp} {v : V} {ys : List V} {Z : Nat} {f : Nat → C3} {x aR dx C : Addr} {fs : List (Str × V)} {p0 : Addr} (h : RowAt H v Z f) (hZ : 0 < Z) (hR : H aR = some (.lst (.ref p0 :: ys))) (hx : H x = some (.ins C dx fs)) (k : ∀ b o, b ≠ x → b ≠ aR → H b = some o → H' b = some o) : RowAt H' v Z f := by
  obtain ⟨q, p1, p2, p3, e, h1, h2, h3, h4⟩ := h
  have nx : ∀ {z : Addr} {g : Nat → Int}, H z = some (LI (fl Z g)) → z ≠ x ∧ z ≠ aR := fun {z g} e => by
    refine ⟨fun w => (by rw [w, hx] at e; cases e), fun w => ?_⟩
    rw [w, hR] at e
    obtain ⟨Z', rfl⟩ : ∃ Z', Z = Z' + 1 := ⟨Z - 1, by omega⟩
    have e2 := HO.lst.inj (Option.some.inj e)
    unfold fl at e2
    rw [List.range_succ_eq_map] at e2
    cases e2
  have nq : q ≠ x ∧ q ≠ aR := ⟨fun w => (by rw [w, hx] at h1; cases h1), fun w => (by rw [w, hR] at h1; cases h1)⟩
  exact ⟨q, p1, p2, p3, e, k _ _ nq.1 nq.2 h1, k _ _ (nx h2).1 (nx h2).2 h2, k _ _ (nx h3).1 (nx h3).2 h3, k _ _ (nx h4).1 (nx h4).2 h4⟩
def NBi : List Str := ["self", "read", "text", "low", "high", "costs", "width", "_", "start", "i", "letter", "first", "behind", "others", "number"]
theorem scBInit : FnScope NBi ["self", "read", "text", "low", "high", "costs", "width"] (defScope mInit) := ⟨rfl, rfl, rfl, by decide +kernel, rfl, by decide +kernel, by decide +kernel⟩
theorem scBCost : FnScope ["self", "end"] ["self", "end"] (defScope mCost) := ⟨rfl, rfl, rfl, by decide +kernel, rfl, by decide +kernel, by decide +kernel⟩
def NBc : List Str := ["self", "i", "j", "at", "numbers"]
theorem scBCell : FnScope NBc ["self", "i", "j"] (defScope mCell) := ⟨rfl, rfl, rfl, by decide +kernel, rfl, by decide +kernel, by decide +kernel⟩
theorem cut_beside (t : List Nat) (fr hi : Int) (Z : Nat) : cutS (T t) (some (if fr > 0 then fr else 0)) (some (if (if fr + Z - 2 < hi then fr + Z - 2 else hi) > 0 then (if fr + Z - 2 < hi then fr + Z - 2 else hi) else 0)) = T (others t fr hi Z) := by
  have e1 : (if fr > 0 then fr else 0) = ((fr.toNat : Nat) : Int) := by split <;> omega
  have e2 : (if (if fr + Z - 2 < hi then fr + Z - 2 else hi) > 0 then (if fr + Z - 2 < hi then fr + Z - 2 else hi) else 0) = (((min hi (fr + Z - 2)).toNat : Nat) : Int) := by split <;> split <;> omega
  rw [e1, e2, cut_mid]
  rfl
section
variable {P : Program} {w : World} {K : PySem.W.Frag} {mg : Str → Option Value} {base : Heap}
def HasM (P : Program) (w : World) (K : PySem.W.Frag) (mg : Str → Option Value) (base : Heap) (C : Addr) (k : Nat) (m : Str) (ps : List Str) (sp : Sp) : Prop :=
  ∃ f fd, FnOk P w K mg base CX0 k f fd ps sp ∧ Meth K C m f ∧ Binds K fd ps []
/-- a band is made -/
def spBInit (K : PySem.W.Frag) (C : Addr) : Sp := fun vs H Q _ => ∃ (x dx z : Addr) (r t : List Nat) (low high W a b c : Nat), vs = [.ref x, .str (T r), .str (T t), .int (low : Int), .int (high : Int), .ref z, .int (W : Int)] ∧ H x = some (.ins C dx []) ∧ SqT K H z [.int a, .int b, .int c] ∧
  low ≤ high ∧ high ≤ t.length ∧ t.length ≤ 10000 ∧ r.length ≤ 5000 ∧ W ≤ 10000 ∧ ∀ H', Sb x H H' → BandAt C H' x a b c r t ((low : Int) - r.length - W - 1) (high - low + 2 * W + 3) high → Q .non H'
theorem ok_binit {f C : Addr} {fd : FuncData} {k : Nat} (F : Fun K "__init__" "Band.__init__" mInit f fd) (X : BnT K mg C) (mlen : mg "len" = none) (mmin : mg "min" = none) (mmax : mg "max" = none) (menum : mg "enumerate" = none) (mtup : mg "tuple" = none)
    (hN : Has P w K mg base (k + 1) "_next_row" ["above", "letter", "others", "costs", "first"] (spNextRow K)) : FnOk P w K mg base CX0 (k + 2) f fd ["self", "read", "text", "low", "high", "costs", "width"] (spBInit K C) := by
  obtain ⟨fN, dN, GN, gN, kN, bN⟩ := hN
  refine F.ok scBInit (fun vs H Q E h => ?_) (fun cdv A outer s H vs Q E hr h => ?_)
  · obtain ⟨x, dx, z, r, t, low, high, W, a, b, c, rfl, _⟩ := h
    rfl
  · obtain ⟨x, dx, z, r, t, low, high, W, a, b, c, rfl, hx, hz, hlh, hht, htl, hrl, hW, q⟩ := h
    refine ⟨_, (PSs.nox (pss_cons (ps_asg (pv 5) (pg_tup rfl (pgs_cons (pg_name (i := 7) scBInit.nd rfl (.inl rfl)) (pgs_cons (pg_name (i := 8) scBInit.nd rfl (.inl rfl)) (pgs_cons (pg_name (i := 7) scBInit.nd rfl (.inl rfl)) pgs_nil)))))
      (pss_cons (ps_fld (pv 0) (pe_tup (pa_cons pe_int (pa_cons (pv 8) (pa_cons (pv 8) pa_nil)))) rfl)
      (pss_cons (ps_fld (pv 0) (pe_op op_add (pe_op op_add (pe_op op_sub (pv 4) (pv 3)) (pe_op op_mul pe_int (pv 6))) pe_int) rfl)
      (C8.pss_cut (ps_fld (pv 0) (pe_op op_sub (pe_op op_sub (pe_op op_sub (pv 3) (pe_callB call_len_str (by rfl) mlen PySem.boot_len (pa_cons (pv 1) pa_nil))) (pv 6)) pe_int) rfl)
      (C8.pss_cut (ps_fld (pv 0) (pe_lst (pa_cons (pe_callTy call_tuple_of (by rfl) mtup (by decide +kernel) (pa_cons (pe_lc (own := [("number", 14)]) (g := gName 14) (tt := tYes) (te := tOp rRep (tLst (tCons (tVar 14) tNil)) (tFld K (tVar 0) "_size")) (by rfl) scBInit.nd (pi_tup (pe_fld (pv 0) rfl)) (blkOk_by (own := [("number", 14)]) (N := NBi) (sc := defScope mInit) (by decide +kernel)) (fun _ _ _ _ _ => pg_name (i := 14) scBInit.nd rfl (Or.inl rfl)) (fun _ _ _ _ _ => pts_nil) (fun _ _ _ _ _ => (pe_op op_rep (pe_lst (pa_cons (pv 14) pa_nil)) (pe_fld (pv 0) rfl)))) pa_nil)) pa_nil)) rfl)
      (pss_one (ps_for PassesOwn.never rfl (pi_enumTS (by rfl) menum (pa_cons (pv 1) pa_nil) (pk_cons pe_int pk_nil)) (pg_tup rfl (pgs_cons (pg_name (i := 9) scBInit.nd rfl (.inl rfl)) (pgs_cons (pg_name (i := 10) scBInit.nd rfl (.inl rfl)) pgs_nil)))
        (pss_cons (ps_set (i := 11) scBInit.nd rfl (.inl rfl) (pe_op op_add (pe_fld (pv 0) rfl) (pv 9)))
      (pss_cons (ps_set (i := 12) scBInit.nd rfl (.inl rfl) (pe_callB (call_min2 rfl) (by rfl) mmin (by decide +kernel) (pa_cons (pv 4) (pa_cons (pe_op op_sub (pe_op op_add (pv 11) (pe_fld (pv 0) rfl)) pe_int) pa_nil))))
      (C8.pss_cut (ps_set (i := 13) scBInit.nd rfl (.inl rfl) (pe_slice sl_str (pv 2) (po_some (pe_callB (call_max2 rfl) (by rfl) mmax (by decide +kernel) (pa_cons pe_int (pa_cons (pv 11) pa_nil)))) (po_some (pe_callB (call_max2 rfl) (by rfl) mmax (by decide +kernel) (pa_cons pe_int (pa_cons (pv 12) pa_nil))))))
      (pss_one (ps_expr (pe_bm PySem.F.plainAttrs_list PySem.F.slot_list_append PySem.F.type_list_append mt_append (pe_fld (pv 0) rfl) (pa_cons (pe_call GN hr (by rfl) gN kN bN .nil pass0 (pa_cons (pe_ix ix_list (pe_fld (pv 0) rfl) (pe_un un_neg pe_int) (fun _ _ => rfl)) (pa_cons (pv 10) (pa_cons (pv 13) (pa_cons (pv 5) (pa_cons (pv 11) pa_nil)))))) pa_nil))))))))))))))), ?_⟩
    obtain ⟨Z, hZ⟩ : ∃ Z : Nat, Z = high - low + 2 * W + 3 := ⟨_, rfl⟩
    obtain ⟨F0, hF0⟩ : ∃ F0 : Int, F0 = (low : Int) - r.length - W - 1 := ⟨_, rfl⟩
    rw [← hZ, ← hF0] at q
    have hrT : (T r).length = r.length := T_len r
    have hZ3 : 3 ≤ Z ∧ Z ≤ 40003 := by omega
    refine ⟨.ref z, rfl, z, _, rfl, hz, rfl, _, _, rfl, _, _, rfl, _, _, rfl, rfl, ?_⟩
    refine ⟨.int b, rfl, .int b, rfl, by show 3 ≤ sizeLine; decide, fun aL haL => ?_⟩
    have nL : x ≠ aL := ne_of_none hx haL
    refine ⟨.ref x, rfl, x, C, dx, _, rfl, by rw [upd_ne nL]; exact hx, X.cl, X.n1, by decide, ?_⟩
    have hxL : (upd H aL (.tup [V.int 0, V.int (b : Int), V.int (b : Int)])) x = some (.ins C dx []) := by rw [upd_ne nL]; exact hx
    refine ⟨.int high, rfl, .int low, rfl, _, _, rfl, rfl, .int W, rfl, 2, _, rfl, rfl, .inl ⟨by decide, by decide⟩, _, _, rfl, rfl, _, 3, rfl, rfl, .ref x, rfl, x, C, dx, _, rfl, upd_same, X.cl, X.n2, by show 1 < 1000; decide, ?_⟩
    have eZ : (high : Int) - low + 2 * W + 3 = (Z : Int) := by omega
    -- the numbers are there
    refine ⟨fun σ H' => Sb x H H' ∧ H' x = some (.ins C dx (fs3 aL Z F0)) ∧ H' aL = some (.tup [.int 0, .int (b : Int), .int (b : Int)]) ∧ σ = [some (.ref x), some (.str (T r)), some (.str (T t)), some (.int (low : Int)), some (.int (high : Int)), some (.ref z), some (.int (W : Int)), some (.int (c : Int)), some (.int (b : Int)), none, none, none, none, none, none], ⟨.int low, rfl, .str (T r), rfl, T r, rfl, line_ok6 (by rw [T_len]; omega), _, _, rfl, rfl, .int W, rfl, _, _, rfl, rfl, _, 1, rfl, rfl, .ref x, rfl, x, C, dx, _, rfl, upd_same, X.cl, X.n3, ?_, ?_⟩, ?_⟩
    · rw [putF_new (names := ["_lowest"]) (putF_names1 _ _) (by decide +kernel)]
      show 2 < 1000
      decide
    · refine ⟨fun y o ny e => ?_, ?_, ?_, rfl⟩
      · rw [upd_ne ny, upd_ne ny, upd_ne ny, upd_ne (ne_of_none e haL)]
        exact e
      · rw [upd_same, putF_new (names := ["_lowest"]) (putF_names1 _ _) (by decide +kernel), putF_new (names := ["_lowest", "_size"]) rfl (by decide +kernel)]
        dsimp only
        rw [eZ, T_len, ← hF0]
        rfl
      · rw [upd_ne nL.symm, upd_ne nL.symm, upd_ne nL.symm, upd_same]
    rintro σ H1 ⟨sb1, hx1, hL1, rfl⟩
    have hz1 : SqT K H1 z [.int a, .int b, .int c] := by
      rcases hz with (z0 | ⟨o, z0⟩) | z0
      · exact .inl (.inl (sb1 _ _ (fun e => by rw [e, hx] at z0; cases z0) z0))
      · exact .inl (.inr ⟨o, sb1 _ _ (fun e => by rw [e, hx] at z0; cases z0) z0⟩)
      · exact .inr z0
    have nLx : aL ≠ x := nL.symm
    -- the first row
    refine ⟨fun σ H' => Sb x H1 H' ∧ ∃ aR p0, H' x = some (.ins C dx (fsB aL Z F0 aR)) ∧ aR ≠ x ∧ H1 aR = none ∧ H' aR = some (.lst [.ref p0]) ∧ RowAt H' (.ref p0) Z (fun _ => lo3 b) ∧ σ = [some (.ref x), some (.str (T r)), some (.str (T t)), some (.int (low : Int)), some (.int (high : Int)), some (.ref z), some (.int (W : Int)), some (.int (c : Int)), some (.int (b : Int)), none, none, none, none, none, none], ?_, ?_⟩
    · refine ⟨.ref x, rfl, x, C, dx, _, _, rfl, hx1, X.cl, X.n1, lk3 (i := 0) rfl (by decide +kernel), aL, rfl, ⟨_, .inl (.inl hL1)⟩, fun D hD => ?_⟩
      have nDx : x ≠ D := ne_of_none hx1 hD
      have sD := same_upd (o := .lst []) hD
      refine lc_tup (K := K) (xs := [.int 0, .int (b : Int), .int (b : Int)]) (fun j H' => Same H1 H' ∧ ∃ ps : List Addr, ps.length = j ∧ H' D = some (.lst (ps.map V.ref)) ∧ ∀ m p, ps[m]? = some p → p ≠ D ∧ H' p = some (LI (fl Z fun _ => [0, (b : Int), (b : Int)].getD m 0))) ⟨sD, [], rfl, upd_same, fun m p h => by cases h⟩ (fun j H' _ h => .inl (.inl (h.1 _ _ hL1))) ?_ ?_
      · rintro j y H' hjy ⟨s1, ps, hpl, hps, hpp⟩
        have hj : j < 3 := (List.getElem?_eq_some_iff.mp hjy).1
        have hy : y = .int ([0, (b : Int), (b : Int)].getD j 0) := by
          have : j = 0 ∨ j = 1 ∨ j = 2 := by omega
          rcases this with e | e | e <;> subst e <;> exact (Option.some.inj hjy).symm
        subst hy
        refine ⟨rfl, ?_⟩
        dsimp only [tYes]
        rw [if_pos rfl]
        refine ⟨.int ([0, (b : Int), (b : Int)].getD j 0), rfl, by show 1 ≤ sizeLine; decide, fun q0 hq0 => ?_⟩
        have u0 := same_upd (o := .lst [V.int ([0, (b : Int), (b : Int)].getD j 0)]) hq0
        refine ⟨.ref x, rfl, x, C, dx, _, _, rfl, u0 _ _ (s1 _ _ hx1), X.cl, X.n2, lk3 (i := 1) rfl (by decide +kernel), q0, (Z : Int), _, rfl, rfl, upd_same, by omega, by omega, ?_, fun q1 hq1 => ?_⟩
        · rw [Int.toNat_natCast]
          show 1 * Z ≤ sizeLine
          exact line_ok6 (by omega)
        rw [Int.toNat_natCast, fl_const]
        have u1 := same_upd (o := .lst ((fl Z fun _ => [0, (b : Int), (b : Int)].getD j 0).map V.int)) hq1
        have u01 := u0.trans u1
        generalize hH3 : upd (upd H' q0 (.lst [V.int ([0, (b : Int), (b : Int)].getD j 0)])) q1 (.lst ((fl Z fun _ => [0, (b : Int), (b : Int)].getD j 0).map V.int)) = H3 at u01 ⊢
        have hq13 : H3 q1 = some (LI (fl Z fun _ => [0, (b : Int), (b : Int)].getD j 0)) := by rw [← hH3, upd_same]
        have nD1 : D ≠ q1 := ne_of_none (u0 _ _ hps) hq1
        refine ⟨_, u01 _ _ hps, line_ok6 (by rw [List.length_map]; omega), ext_same (s1.trans u01) hD, ps ++ [q1], by rw [List.length_append, hpl]; rfl, by rw [upd_same, List.map_append]; rfl, fun m p hm => ?_⟩
        by_cases c1 : m < ps.length
        · rw [List.getElem?_append_left c1] at hm
          obtain ⟨g1, g2⟩ := hpp m p hm
          exact ⟨g1, by rw [upd_ne g1]; exact u01 _ _ g2⟩
        · rw [List.getElem?_append_right (by omega)] at hm
          have em : m = ps.length := by
            have := (List.getElem?_eq_some_iff.mp hm).1
            simp at this
            omega
          rw [em, Nat.sub_self] at hm
          obtain rfl : q1 = p := Option.some.inj hm
          exact ⟨nD1.symm, by rw [upd_ne nD1.symm, hq13, em, hpl]⟩
      · rintro H2 ⟨s1, ps, hpl, hps, hpp⟩
        obtain ⟨p1, p2, p3, rfl⟩ : ∃ p1 p2 p3, ps = [p1, p2, p3] := by
          match ps, hpl with
          | [p1, p2, p3], _ => exact ⟨_, _, _, rfl⟩
        refine ⟨D, _, rfl, .inl ⟨.inl (.inl hps), fun tp htp => ?_⟩⟩
        have u1 := same_upd (o := .tup (([p1, p2, p3] : List Addr).map V.ref)) htp
        refine ⟨by show 1 ≤ sizeLine; decide, fun aR haR => ?_⟩
        have u2 := same_upd (o := .lst [V.ref tp]) haR
        have s3 := s1.trans (u1.trans u2)
        generalize hH3 : upd (upd H2 tp (.tup (([p1, p2, p3] : List Addr).map V.ref))) aR (.lst [V.ref tp]) = H3 at s3 u2 ⊢
        have hR3 : H3 aR = some (.lst [V.ref tp]) := by rw [← hH3, upd_same]
        have ht3 : H3 tp = some (.tup [V.ref p1, V.ref p2, V.ref p3]) := u2 _ _ upd_same
        have hx3 := s3 _ _ hx1
        have nRx : aR ≠ x := fun w => by rw [w, hx3] at hR3; cases hR3
        have nTx : tp ≠ x := fun w => by rw [w, hx3] at ht3; cases ht3
        have hf : ∀ m p, ([p1, p2, p3] : List Addr)[m]? = some p → p ≠ x ∧ H3 p = some (LI (fl Z fun _ => [0, (b : Int), (b : Int)].getD m 0)) := fun m p hm => by
          have e3 := u2 _ _ (u1 _ _ (hpp m p hm).2)
          exact ⟨fun w => (by rw [w, hx3] at e3; cases e3), e3⟩
        refine ⟨.ref x, rfl, x, C, dx, _, rfl, hx3, X.cl, X.n4, ?_, ?_⟩
        · show 3 < 1000
          decide
        refine ⟨fun y o ny e => by rw [upd_ne ny]; exact s3 _ _ e, aR, tp, ?_, nRx, s1.free (new_old haR), by rw [upd_ne nRx]; exact hR3, ⟨tp, p1, p2, p3, rfl, by rw [upd_ne nTx]; exact ht3, ?_, ?_, ?_⟩, rfl⟩
        · rw [upd_same, putF_new (names := ["_lowest", "_size", "_first"]) rfl (by decide +kernel)]
          rfl
        · have g := hf 0 p1 rfl
          rw [upd_ne g.1]
          exact g.2
        · have g := hf 1 p2 rfl
          rw [upd_ne g.1]
          exact g.2
        · have g := hf 2 p3 rfl
          rw [upd_ne g.1]
          exact g.2
    rintro σ H2 ⟨sb2, aR, p0, hx2, nRx, hR1, hR2, hrow0, rfl⟩
    have hL2 := sb2 _ _ nLx hL1
    have nLR : aL ≠ aR := ne_of_none hL1 hR1
    -- the rows
    refine ⟨.str (T r), rfl, T r, 1, rfl, rfl, by decide, by decide, ?_⟩
    refine for_gen (J := ItT 1 (T r)) (n := r.length) (fun i σ H' => (∀ y o, y ≠ x → y ≠ aR → H2 y = some o → H' y = some o) ∧ H' x = some (.ins C dx (fsB aL Z F0 aR)) ∧ (∃ ys : List V, H' aR = some (.lst (.ref p0 :: ys)) ∧ ys.length = i ∧ ∀ m, m ≤ i → ∃ v, (V.ref p0 :: ys)[m]? = some v ∧ RowAt H' v Z (band a b c r t F0 Z high m)) ∧ ∃ v9 v10 v11 v12 v13 : Option V, σ = [some (.ref x), some (.str (T r)), some (.str (T t)), some (.int (low : Int)), some (.int (high : Int)), some (.ref z), some (.int (W : Int)), some (.int (c : Int)), some (.int (b : Int)), v9, v10, v11, v12, v13, none]) ?_ (fun i σ H' hi _ => by show i < (T r).cps.size; rw [T_size]; exact hi) (fun σ H' _ => by show (T r).cps.size ≤ r.length; rw [T_size]; exact Nat.le_refl _) ?_ ?_
    · refine ⟨fun y o _ _ e => e, hx2, ⟨[], hR2, rfl, fun m hm => ⟨.ref p0, ?_, ?_⟩⟩, none, none, none, none, none, rfl⟩
      · obtain rfl : m = 0 := by omega
        rfl
      · obtain rfl : m = 0 := by omega
        exact hrow0
    · rintro i σ H3 xv H4 hi3 ⟨k3, hx3, ⟨ys, hR3, hyl, hys⟩, v9, v10, v11, v12, v13, rfl⟩ ⟨tp, ch, rfl, htp, rfl, hch⟩
      rw [T_at] at hch
      have hlt : i < r.length := hi3
      have ech : r.getD i 0 = ch := by
        rw [List.getD_eq_getElem?_getD, hch]
        rfl
      have u1 := same_upd (o := .tup [V.int (1 + (i : Nat)), V.str ⟨#[ch]⟩]) htp
      have n1 : x ≠ tp := ne_of_none hx3 htp
      have n2 : aR ≠ tp := ne_of_none hR3 htp
      refine ⟨tp, _, rfl, .inl (.inl upd_same), rfl, _, _, rfl, _, _, rfl, rfl, ?_⟩
      have hx4 := u1 _ _ hx3
      have hR4 := u1 _ _ hR3
      have k4 : ∀ y o, y ≠ x → y ≠ aR → H2 y = some o → (upd H3 tp (.tup [V.int (1 + (i : Nat)), V.str ⟨#[ch]⟩])) y = some o := fun y o z1 z2 e => u1 _ _ (k3 y o z1 z2 e)
      generalize upd H3 tp (.tup [V.int (1 + (i : Nat)), V.str ⟨#[ch]⟩]) = H4 at u1 hx4 hR4 k4 ⊢
      obtain ⟨fr, hfr⟩ : ∃ fr : Int, F0 + (1 + (i : Nat)) = fr := ⟨_, rfl⟩
      refine ⟨.ref x, rfl, x, C, dx, _, _, rfl, hx4, X.cl, X.n3, lkB (i := 2) rfl (by decide +kernel), .int (1 + (i : Nat)), rfl, _, _, rfl, rfl, ?_⟩
      dsimp only
      rw [hfr]
      refine ⟨.int high, rfl, .int fr, rfl, .ref x, rfl, x, C, dx, _, _, rfl, hx4, X.cl, X.n2, lkB (i := 1) rfl (by decide +kernel), _, _, rfl, rfl, _, 2, rfl, rfl, _, _, rfl, ?_⟩
      refine ⟨fun σ H' => H' = H4 ∧ σ = [some (.ref x), some (.str (T r)), some (.str (T t)), some (.int (low : Int)), some (.int (high : Int)), some (.ref z), some (.int (W : Int)), some (.int (c : Int)), some (.int (b : Int)), some (.int (1 + (i : Nat))), some (.str ⟨#[ch]⟩), some (.int fr), some (.int (if fr + Z - 2 < high then fr + Z - 2 else high)), some (.str (T (others t fr high Z))), none], ?_, ?_⟩
      · refine ⟨.str (T t), rfl, .int fr, rfl, 0, _, rfl, _, rfl, .int (if fr + Z - 2 < high then fr + Z - 2 else high), rfl, 0, _, rfl, _, rfl, T t, rfl, line_ok6 (by rw [T_len]; omega), ?_⟩
        rw [cut_beside]
        exact ⟨rfl, rfl⟩
      rintro σ H5 ⟨rfl, rfl⟩
      obtain ⟨vl, hvl, hrow⟩ := hys i (Nat.le_refl _)
      have hz5 : SqT K H5 z [.int a, .int b, .int c] := by
        rcases hz1 with (z0 | ⟨o, z0⟩) | z0
        · have z2 := sb2 _ _ (fun e => by rw [e, hx1] at z0; cases z0) z0
          exact .inl (.inl (k4 _ _ (fun e => by rw [e, hx2] at z2; cases z2) (fun e => by rw [e, hR2] at z2; cases z2) z2))
        · have z2 := sb2 _ _ (fun e => by rw [e, hx1] at z0; cases z0) z0
          exact .inl (.inr ⟨o, k4 _ _ (fun e => by rw [e, hx2] at z2; cases z2) (fun e => by rw [e, hR2] at z2; cases z2) z2⟩)
        · exact .inr z0
      refine ⟨.ref x, rfl, x, C, dx, _, _, rfl, hx4, X.cl, X.n4, lkB (i := 3) rfl (by decide +kernel), .inl ⟨rfl, _, .inl (.inl hR4)⟩, ?_⟩
      refine ⟨.ref x, rfl, x, C, dx, _, _, rfl, hx4, X.cl, X.n4, lkB (i := 3) rfl (by decide +kernel), 1, rfl, aR, _, _, vl, rfl, rfl, .inl (.inl hR4), atI_neg1' (n := i) (by rw [List.length_cons, hyl]) hvl, .str ⟨#[ch]⟩, rfl, .str (T (others t fr high Z)), rfl, .ref z, rfl, .int fr, rfl, vl, ch, t, z, a, b, c, fr, high, Z, _, rfl, hz5, hrow.same u1, hZ3.1, by omega, by omega, by omega, by omega, by omega, fun H6 v6 s6 hrow6 => ?_⟩
      have hx6 := s6 _ _ hx4
      have hR6 := s6 _ _ hR4
      refine ⟨aR, _, v6, rfl, rfl, hR6, line_lt7 (by rw [List.length_cons, hyl]; omega), ?_⟩
      have kk : ∀ y o, y ≠ x → y ≠ aR → H6 y = some o → (upd H6 aR (.lst (V.ref p0 :: ys ++ [v6]))) y = some o := fun y o _ z2 e => by rw [upd_ne z2]; exact e
      refine ⟨fun y o z1 z2 e => kk _ _ z1 z2 (s6 _ _ (k4 _ _ z1 z2 e)), by rw [upd_ne nRx.symm]; exact hx6, ⟨ys ++ [v6], upd_same, by rw [List.length_append, hyl]; rfl, fun m hm => ?_⟩, _, _, _, _, _, rfl⟩
      have hcons : V.ref p0 :: (ys ++ [v6]) = (V.ref p0 :: ys) ++ [v6] := rfl
      rw [hcons]
      by_cases c1 : m ≤ i
      · obtain ⟨v, hv, hr2⟩ := hys m c1
        exact ⟨v, by rw [List.getElem?_append_left (by rw [List.length_cons, hyl]; omega)]; exact hv, ((hr2.same u1).same s6).keep (by omega) hR6 hx6 kk⟩
      · obtain rfl : m = i + 1 := by omega
        refine ⟨v6, by rw [List.getElem?_append_right (by rw [List.length_cons, hyl]; omega), List.length_cons, hyl, Nat.sub_self]; rfl, ?_⟩
        have g := hrow6.keep (by omega) hR6 hx6 kk
        have e : band a b c r t F0 Z high (i + 1) = bandRow a b c t (band a b c r t F0 Z high i) ch fr Z high := by
          show bandRow a b c t (band a b c r t F0 Z high i) (r.getD i 0) (F0 + (i + 1 : Nat)) Z high = _
          rw [ech, ← hfr]
          congr 1
          omega
        rw [e]
        exact g
    · rintro σ H3 ⟨k3, hx3, ⟨ys, hR3, hyl, hys⟩, v9, v10, v11, v12, v13, rfl⟩
      refine q H3 (fun y o ny e => ?_) ⟨dx, aL, aR, _, hx3, k3 _ _ nLx nLR hL2, hR3, by rw [List.length_cons, hyl], hys⟩
      have e1 := sb1 _ _ ny e
      exact k3 _ _ ny (fun w => by rw [w, hR1] at e1; cases e1) (sb2 _ _ ny e1)
/-- the numbers of a cell -/
def spBCell (C : Addr) : Sp := fun vs H Q _ => ∃ (x : Addr) (a b c : Nat) (r t : List Nat) (F : Int) (Z : Nat) (hi : Int) (i j k : Nat), vs = [.ref x, .int (i : Int), .int (j : Int)] ∧ BandAt C H x a b c r t F Z hi ∧ i ≤ r.length ∧ F + (i : Nat) + (k : Nat) = j ∧ k < Z ∧ r.length ≤ 100000 ∧
  ∀ (H' : Hp) (p : Addr), Same H H' → H' p = some (.tup [.int (band a b c r t F Z hi i k).p, .int (band a b c r t F Z hi i k).q, .int (band a b c r t F Z hi i k).r]) → Q (.ref p) H'
theorem ok_bcell {f C : Addr} {fd : FuncData} {k : Nat} (F : Fun K "cell" "Band.cell" mCell f fd) (X : BnT K mg C) (mtup : mg "tuple" = none) : FnOk P w K mg base CX0 (k + 1) f fd ["self", "i", "j"] (spBCell C) := by
  refine F.ok scBCell (fun vs H Q E h => ?_) (fun cdv A outer s H vs Q E hr h => ?_)
  · obtain ⟨x, a, b, c, r, t, F, Z, hi, i, j, k, rfl, _⟩ := h
    rfl
  · obtain ⟨x, a, b, c, r, t, F, Z, hi, i, j, k, rfl, hB, hir, hk, hkZ, hrl, q⟩ := h
    obtain ⟨dx, aL, aR, vs, hx, hL, hR, hvl, hrows⟩ := hB
    obtain ⟨v, hv, qa, p1, p2, p3, rfl, hq, h1, h2, h3⟩ := hrows i hir
    refine ⟨_, (C8.pss_cut (ps_set (i := 3) scBCell.nd rfl (.inr rfl) (pe_op op_sub (pe_op op_sub (pv 2) (pv 1)) (pe_fld (pv 0) rfl)))
      (pss_one (ps_ret (pe_callTy call_tuple_of (by rfl) mtup (by decide +kernel) (pa_cons (pe_lc (own := [("numbers", 4)]) (g := gName 4) (tt := tYes) (te := tOp (rIxL K) (tVar 4) (tVar 3)) (by rfl) scBCell.nd (pi_tup (pe_ix ix_list (pe_fld (pv 0) rfl) (pv 1) (fun _ _ => rfl))) (blkOk_by (own := [("numbers", 4)]) (N := NBc) (sc := defScope mCell) (by decide +kernel)) (fun _ _ _ _ _ => pg_name (i := 4) scBCell.nd rfl (Or.inl rfl)) (fun _ _ _ _ _ => pts_nil) (fun _ _ _ _ _ => pe_ix (r := rIxL K) ix_list (pv 4) (pv 3) (fun _ _ => rfl))) pa_nil))))), ?_⟩
    refine ⟨fun σ H' => H' = H ∧ σ = [some (.ref x), some (.int (i : Int)), some (.int (j : Int)), some (.int (k : Int)), none], ?_, ?_⟩
    · refine ⟨.int j, rfl, .int i, rfl, _, _, rfl, rfl, .ref x, rfl, x, C, dx, _, _, rfl, hx, X.cl, X.n3, lkB (i := 2) rfl (by decide +kernel), _, _, rfl, rfl, rfl, ?_⟩
      show [some (V.ref x), some (V.int i), some (V.int j), some (V.int ((j : Int) - i - F)), none] = _
      rw [show (j : Int) - i - F = (k : Int) by omega]
    rintro σ H' ⟨rfl, rfl⟩
    refine ⟨.ref x, rfl, x, C, dx, _, _, rfl, hx, X.cl, X.n4, lkB (i := 3) rfl (by decide +kernel), .int i, rfl, aR, _, _, .ref qa, rfl, rfl, .inl (.inl hR), atI_nat hv, qa, rfl, ⟨_, .inl (.inl hq)⟩, fun D hD => ?_⟩
    refine lc_tup (K := K) (xs := [.ref p1, .ref p2, .ref p3]) (fun m H2 => Same H' H2 ∧ H2 D = some (LI ([(band a b c r t F Z hi i k).p, (band a b c r t F Z hi i k).q, (band a b c r t F Z hi i k).r].take m))) ⟨same_upd hD, upd_same⟩ (fun m H2 _ h => .inl (.inl (h.1 _ _ hq))) ?_ ?_
    · rintro m y H2 hmy ⟨s2, hD2⟩
      have hm : m < 3 := (List.getElem?_eq_some_iff.mp hmy).1
      have hy : ∃ (p : Addr) (g : Nat → Int), y = .ref p ∧ H2 p = some (LI (fl Z g)) ∧ [(band a b c r t F Z hi i k).p, (band a b c r t F Z hi i k).q, (band a b c r t F Z hi i k).r][m]? = some (g k) := by
        have : m = 0 ∨ m = 1 ∨ m = 2 := by omega
        rcases this with e | e | e <;> subst e
        · exact ⟨p1, _, (Option.some.inj hmy).symm, s2 _ _ h1, rfl⟩
        · exact ⟨p2, _, (Option.some.inj hmy).symm, s2 _ _ h2, rfl⟩
        · exact ⟨p3, _, (Option.some.inj hmy).symm, s2 _ _ h3, rfl⟩
      obtain ⟨p, g, rfl, hp, hg⟩ := hy
      refine ⟨rfl, ?_⟩
      dsimp only [tYes]
      rw [if_pos rfl]
      refine ⟨.ref p, rfl, .int k, rfl, p, _, _, .int (g k), rfl, rfl, .inl (.inl hp), fl_ati _ rfl hkZ, _, hD2, line_ok7 (by rw [List.length_map, List.length_take]; show min m 3 + 1 ≤ _; omega), fun y o e => ?_, ?_⟩
      · rw [upd_ne (ne_of_none e hD)]
        exact s2 y o e
      · rw [upd_same, List.take_add_one, hg]
        exact congrArg some (LI_snoc _ _).symm
    · rintro H2 ⟨s2, hD2⟩
      refine ⟨D, _, rfl, .inl ⟨.inl (.inl hD2), fun tp htp => q _ tp (s2.trans (same_upd htp)) upd_same⟩⟩
/-- what the tables show for an end -/
def spBCost (C : Addr) : Sp := fun vs H Q _ => ∃ (x : Addr) (a b c : Nat) (r t : List Nat) (F : Int) (Z : Nat) (hi : Int) (j k : Nat), vs = [.ref x, .int (j : Int)] ∧ BandAt C H x a b c r t F Z hi ∧ F + (r.length : Nat) + (k : Nat) = j ∧ k < Z ∧ r.length ≤ 100000 ∧
  ∀ H', Same H H' → Q (.int (band a b c r t F Z hi r.length k).mn) H'
theorem mn_fold (x y z : Int) : ([y, z] : List Int).foldl min x = mn3 x y z := by
  show min (min x y) z = mn3 x y z
  unfold mn3 mn2
  split <;> split <;> omega
theorem ok_bcost {f C : Addr} {fd : FuncData} {k : Nat} (F : Fun K "cost" "Band.cost" mCost f fd) (X : BnT K mg C) (mlen : mg "len" = none) (mmin : mg "min" = none) (hC : HasM P w K mg base C (k + 1) "cell" ["self", "i", "j"] (spBCell C)) : FnOk P w K mg base CX0 (k + 2) f fd ["self", "end"] (spBCost C) := by
  obtain ⟨fM, dM, GM, mM, bM⟩ := hC
  refine F.ok scBCost (fun vs H Q E h => ?_) (fun cdv A outer s H vs Q E hr h => ?_)
  · obtain ⟨x, a, b, c, r, t, F, Z, hi, j, k, rfl, _⟩ := h
    rfl
  · obtain ⟨x, a, b, c, r, t, F, Z, hi, j, k, rfl, hB, hk, hkZ, hrl, q⟩ := h
    obtain ⟨dx, aL, aR, vs, hx, hL, hR, hvl, hrows⟩ := id hB
    refine ⟨_, (pss_one (ps_ret (pe_callB (cr_minT rfl hr.units) (by rfl) mmin (by decide +kernel) (pa_cons (pe_meth (pv 0) X.cl mM GM hr bM .nil pass0 (pa_cons (pe_op op_sub (pe_callB call_len_seq (by rfl) mlen PySem.boot_len (pa_cons (pe_fld (pv 0) rfl) pa_nil)) pe_int) (pa_cons (pv 1) pa_nil))) pa_nil)))), ?_⟩
    refine ⟨.ref x, rfl, x, dx, _, rfl, hx, lookup_no (names := ["_lowest", "_size", "_first", "_rows"]) rfl (by decide +kernel), .ref x, rfl, x, C, dx, _, _, rfl, hx, X.cl, X.n4, lkB (i := 3) rfl (by decide +kernel), aR, vs, rfl, .inl (.inl (.inl hR)), _, 1, rfl, rfl, .int j, rfl, x, a, b, c, r, t, F, Z, hi, r.length, j, k, ?_, hB, Nat.le_refl _, hk, hkZ, hrl, fun H' p s' hp => ?_⟩
    · show [V.ref x, V.int ((vs.length : Int) - 1), V.int j] = _
      rw [show (vs.length : Int) - 1 = (r.length : Int) by omega]
    · refine ⟨p, _, [_, _], rfl, .inl (.inl hp), ?_⟩
      rw [mn_fold]
      exact q H' s'
end
theorem rep_one1 (c : Nat) : ∀ n : Nat, (List.replicate n [c]).flatten = List.replicate n c
  | 0 => rfl
  | n + 1 => by
    rw [List.replicate_succ, List.replicate_succ, List.flatten_cons, rep_one1 c n]
    rfl
theorem op_mulR {X : Cx} : OpR X (binaryOp .Mult) (fun x y H Q => ∃ (c : Nat) (n : Nat), x = .str (T [c]) ∧ y = .int (n : Int) ∧ n ≤ 2000 ∧ Q (.str (T (List.replicate n c))) H) := by
  intro pins s σ H x y v u Q I rx ry h
  obtain ⟨c, n, rfl, rfl, hn, q⟩ := h
  obtain ⟨t, rfl⟩ := rx
  obtain ⟨t', rfl⟩ := ry
  refine SB.mul (mulOk_of 100 2000 (by rw [T_len]; show 1 ≤ 100; decide) (by omega) (by omega) (by decide) (by decide)) fun t1 tk => ?_
  rw [mul_T [c] n (by omega)]
  have e : (List.replicate (n : Int).toNat [c]).flatten = List.replicate n c := by
    rw [Int.toNat_natCast]
    exact rep_one1 c n
  rw [e]
  exact ⟨.str (T (List.replicate n c)), H, I.tok _, ⟨_, rfl⟩, q⟩
/-! ### the program: how wide a band has to be -/
def lnB : List Str := ["_lowest", "_size", "_first", "_rows"]
theorem noB {aL aR : Addr} {Z : Nat} {F : Int} {m : Str} (h : lnB.contains m = false) : (fsB aL Z F aR).lookup m = none := lookup_no (names := lnB) rfl h
/-- a number that may be told by what is not in the band -/
def badE (b c n W : Nat) (m : Int) : Prop := (b : Int) + ((W : Int) + 1) * c ≤ m ∧ m < (b : Int) + (n : Int) * c
theorem scWide : FnScope ["band", "many", "low", "high", "costs", "width", "_", "start", "each", "end"] ["band", "many", "low", "high", "costs", "width"] (defScope sWide) := ⟨rfl, rfl, rfl, by decide +kernel, rfl, by decide +kernel, by decide +kernel⟩
theorem scExact : FnScope ["read", "text", "low", "high", "costs", "width", "band"] ["read", "text", "low", "high", "costs"] (defScope sExact) := ⟨rfl, rfl, rfl, by decide +kernel, rfl, by decide +kernel, by decide +kernel⟩
def psB : List Str := ["self", "read", "text", "low", "high", "costs", "width"]
section
variable {P : Program} {w : World} {K : PySem.W.Frag} {mg : Str → Option Value} {base : Heap}
/-- the band of this width stands at x -/
def BandW (C : Addr) (H : Hp) (x : Addr) (a b c : Nat) (r t : List Nat) (low high W : Nat) : Prop := BandAt C H x a b c r t ((low : Int) - r.length - W - 1) (high - low + 2 * W + 3) high
def costW (a b c : Nat) (r t : List Nat) (low high W e : Nat) : Int := (band a b c r t ((low : Int) - r.length - W - 1) (high - low + 2 * W + 3) high r.length (e - low + W + 1)).mn
theorem at_end {n low high W e : Nat} (h1 : low ≤ e) : ((low : Int) - n - W - 1) + (n : Nat) + ((e - low + W + 1 : Nat) : Int) = (e : Int) := by omega
def spWide (K : PySem.W.Frag) (C : Addr) : Sp := fun vs H Q _ => ∃ (x z : Addr) (a b c : Nat) (r t : List Nat) (low high W : Nat), vs = [.ref x, .int (r.length : Int), .int (low : Int), .int (high : Int), .ref z, .int (W : Int)] ∧ BandW C H x a b c r t low high W ∧ SqT K H z [.int a, .int b, .int c] ∧ low ≤ high ∧ high ≤ 10000 ∧ r.length ≤ 2000 ∧ W ≤ 10000 ∧ c ≤ 10000 ∧
  (∀ H', Same H H' → (∀ e, low ≤ e → e ≤ high → ¬ badE b c r.length W (costW a b c r t low high W e)) → Q (.bl true) H') ∧ (∀ H', Same H H' → (∃ e, low ≤ e ∧ e ≤ high ∧ badE b c r.length W (costW a b c r t low high W e)) → Q (.bl false) H')
theorem ok_wide {f C : Addr} {fd : FuncData} {k : Nat} (F : Fun K "_is_wide_enough" "_is_wide_enough" sWide f fd) (X : BnT K mg C) (mrange : mg "range" = none) (hC : HasM P w K mg base C (k + 1) "cost" ["self", "end"] (spBCost C)) : FnOk P w K mg base CX0 (k + 2) f fd ["band", "many", "low", "high", "costs", "width"] (spWide K C) := by
  obtain ⟨fM, dM, GM, mM, bM⟩ := hC
  refine F.ok scWide (fun vs H Q E h => ?_) (fun cdv A outer s H vs Q E hr h => ?_)
  · obtain ⟨x, z, a, b, c, r, t, low, high, W, rfl, _⟩ := h
    rfl
  · obtain ⟨x, z, a, b, c, r, t, low, high, W, rfl, hB, hz, hlh, hh, hrl, hW, hc, q1, q2⟩ := h
    refine ⟨_, (pss_cons (ps_asg (pv 4) (pg_tup rfl (pgs_cons (pg_name (i := 6) scWide.nd rfl (.inl rfl)) (pgs_cons (pg_name (i := 7) scWide.nd rfl (.inl rfl)) (pgs_cons (pg_name (i := 8) scWide.nd rfl (.inl rfl)) pgs_nil)))))
      (pss_cons (ps_for PassesOwn.never rfl (pi_range2 rfl mrange (pa_cons (pv 2) (pa_cons (pe_op op_add (pv 3) pe_int) pa_nil))) (pg_name (i := 9) scWide.nd rfl (.inl rfl))
        (pss_one (ps_if (pt_chain op_le op_lt (pe_op op_add (pv 7) (pe_op op_mul (pe_op op_add (pv 5) pe_int) (pv 8))) (pe_meth (pv 0) X.cl mM GM hr bM .nil pass0 (pa_cons (pv 9) pa_nil)) (pe_op op_add (pv 7) (pe_op op_mul (pv 1) (pv 8)))) (pss_one (ps_ret pe_bl)) pss_nil)))
      (pss_one (ps_ret pe_bl)))), ?_⟩
    refine ⟨.ref z, rfl, z, _, rfl, hz, rfl, _, _, rfl, _, _, rfl, _, _, rfl, rfl, ?_⟩
    refine ⟨.int low, rfl, .int high, rfl, _, 1, rfl, rfl, _, _, rfl, ⟨by omega, by omega, by omega, by omega⟩, ?_⟩
    have en : ((high : Int) + 1 - low).toNat = high + 1 - low := by omega
    refine for_range (lo := low) (n := ((high : Int) + 1 - low).toNat) (fun i σ H' => Same H H' ∧ (∀ e, low ≤ e → e < low + i → ¬ badE b c r.length W (costW a b c r t low high W e)) ∧ ∃ v9 : Option V, σ = [some (.ref x), some (.int (r.length : Int)), some (.int (low : Int)), some (.int (high : Int)), some (.ref z), some (.int (W : Int)), some (.int (a : Int)), some (.int (b : Int)), some (.int (c : Int)), v9]) ⟨Same.refl _, fun e h1 h2 => absurd h2 (by omega), none, rfl⟩ ?_ ?_
    · rintro i σ H1 hi ⟨s1, hall, v9, rfl⟩
      rw [en] at hi
      have hB1 : BandW C H1 x a b c r t low high W := BandAt.same hB s1
      obtain ⟨dx, aL, aR, vs, hx, hL, hR, hvl, hrows⟩ := id hB1
      have e0 : (low : Int) + (i : Nat) = ((low + i : Nat) : Int) := by omega
      refine ⟨.int b, rfl, .int W, rfl, _, 1, rfl, rfl, .int c, rfl, _, _, rfl, rfl, .inl ⟨by omega, by omega⟩, _, _, rfl, rfl, .ref x, rfl, x, dx, _, rfl, hx, noB (by decide +kernel), .int ((low : Int) + (i : Nat)), rfl, x, a, b, c, r, t, _, _, high, low + i, low + i - low + W + 1, by rw [e0]; rfl, hB1, at_end (high := high) (by omega), by omega, by omega, fun H2 s2 => ?_⟩
      have fin : ¬ badE b c r.length W (costW a b c r t low high W (low + i)) → Same H H2 ∧ (∀ e, low ≤ e → e < low + (i + 1) → ¬ badE b c r.length W (costW a b c r t low high W e)) ∧ ∃ v9 : Option V, [some (V.ref x), some (V.int (r.length : Int)), some (V.int (low : Int)), some (V.int (high : Int)), some (V.ref z), some (V.int (W : Int)), some (V.int (a : Int)), some (V.int (b : Int)), some (V.int (c : Int)), some (V.int ((low : Int) + (i : Nat)))] = [some (.ref x), some (.int (r.length : Int)), some (.int (low : Int)), some (.int (high : Int)), some (.ref z), some (.int (W : Int)), some (.int (a : Int)), some (.int (b : Int)), some (.int (c : Int)), v9] := fun hn => by
        refine ⟨s1.trans s2, fun e h1 h2 => ?_, _, rfl⟩
        by_cases c1 : e = low + i
        · rw [c1]
          exact hn
        · exact hall e h1 (by omega)
      refine ⟨_, _, rfl, rfl, _, rfl, ite2 (fun c1 => ?_) (fun c1 => ?_)⟩
      · refine ⟨.int b, rfl, .int (r.length : Int), rfl, .int c, rfl, _, _, rfl, rfl, .inl ⟨by omega, by omega⟩, _, _, rfl, rfl, _, _, rfl, rfl, _, rfl, ite2 (fun c2 => ?_) (fun c2 => ?_)⟩
        · exact q2 _ (s1.trans s2) ⟨low + i, by omega, by omega, of_decide_eq_true c1, of_decide_eq_true c2⟩
        · exact fin fun z => c2 (decide_eq_true z.2)
      · exact ⟨_, rfl, fin fun z => c1 (decide_eq_true z.1)⟩
    · rintro σ H1 ⟨s1, hall, v9, rfl⟩
      rw [en] at hall
      exact q1 H1 s1 fun e h1 h2 => hall e h1 (by omega)
def HasB (P : Program) (w : World) (K : PySem.W.Frag) (mg : Str → Option Value) (base : Heap) (C : Addr) (k : Nat) : Prop := ∃ f fd, Mk K C f ∧ FnOk P w K mg base CX0 k f fd psB (spBInit K C) ∧ Binds K fd psB []
theorem Made {x dx : Addr} {C : Addr} {H H' : Hp} (nx : H x = none) (ndx : H dx = none) (sb : Sb x (upd (upd H dx (.own x)) x (.ins C dx [])) H') : Same H H' := fun y o e => sb y o (ne_of_none e nx) (by rw [upd_ne (ne_of_none e nx), upd_ne (ne_of_none e ndx)]; exact e)
def spExact (K : PySem.W.Frag) (C : Addr) : Sp := fun vs H Q _ => ∃ (z : Addr) (a b c : Nat) (r t : List Nat) (low high : Nat), vs = [.str (T r), .str (T t), .int (low : Int), .int (high : Int), .ref z] ∧ SqT K H z [.int a, .int b, .int c] ∧ low ≤ high ∧ high ≤ t.length ∧ t.length ≤ 10000 ∧ r.length ≤ 2000 ∧ c ≤ 10000 ∧
  ∀ (H' : Hp) (x : Addr) (W : Nat), Same H H' → BandW C H' x a b c r t low high W → W ≤ 10000 → (∀ e, low ≤ e → e ≤ high → ¬ badE b c r.length W (costW a b c r t low high W e)) → Q (.ref x) H'
theorem ok_exact {f C : Addr} {fd : FuncData} {k : Nat} (F : Fun K "exact_band" "exact_band" sExact f fd) (X : BnT K mg C) (mlen : mg "len" = none) (hI : HasB P w K mg base C (k + 1)) (hW : Has P w K mg base (k + 2) "_is_wide_enough" ["band", "many", "low", "high", "costs", "width"] (spWide K C)) : FnOk P w K mg base CX0 (k + 3) f fd ["read", "text", "low", "high", "costs"] (spExact K C) := by
  obtain ⟨fI, dI', MI, GI, bI⟩ := hI
  obtain ⟨fW, dW, GW, gW, kW, bW⟩ := hW
  refine F.ok scExact (fun vs H Q E h => ?_) (fun cdv A outer s H vs Q E hr h => ?_)
  · obtain ⟨z, a, b, c, r, t, low, high, rfl, _⟩ := h
    rfl
  · obtain ⟨z, a, b, c, r, t, low, high, rfl, hz, hlh, hht, htl, hrl, hc, q⟩ := h
    refine ⟨_, (pss_cons (ps_set (i := 5) scExact.nd rfl (.inl rfl) pe_int)
      (C8.pss_cut (ps_set (i := 6) scExact.nd rfl (.inl rfl) (pe_make MI GI (hr.mono (by omega)) (by rfl) X.gC bI .nil pass0 (pa_cons (pv 0) (pa_cons (pv 1) (pa_cons (pv 2) (pa_cons (pv 3) (pa_cons (pv 4) (pa_cons (pv 5) pa_nil))))))))
      (pss_cons (ps_while PassesOwn.never (pt_not (pt_val (pe_call GW hr (by rfl) gW kW bW .nil pass0 (pa_cons (pv 6) (pa_cons (pe_callB call_len_str (by rfl) mlen PySem.boot_len (pa_cons (pv 0) pa_nil)) (pa_cons (pv 2) (pa_cons (pv 3) (pa_cons (pv 4) (pa_cons (pv 5) pa_nil)))))))))
        (pss_cons (ps_set (i := 5) scExact.nd rfl (.inl rfl) (pe_op op_add (pe_op op_mul pe_int (pv 5)) pe_int))
      (pss_one (ps_set (i := 6) scExact.nd rfl (.inl rfl) (pe_make MI GI (hr.mono (by omega)) (by rfl) X.gC bI .nil pass0 (pa_cons (pv 0) (pa_cons (pv 1) (pa_cons (pv 2) (pa_cons (pv 3) (pa_cons (pv 4) (pa_cons (pv 5) pa_nil)))))))))))
      (pss_one (ps_ret (pv 6)))))), ?_⟩
    refine ⟨fun σ H' => Same H H' ∧ ∃ x, BandW C H' x a b c r t low high 0 ∧ σ = [some (.str (T r)), some (.str (T t)), some (.int (low : Int)), some (.int (high : Int)), some (.ref z), some (.int ((0 : Nat) : Int)), some (.ref x)], ?_, ?_⟩
    · refine ⟨.str (T r), rfl, .str (T t), rfl, .int low, rfl, .int high, rfl, .ref z, rfl, .int 0, rfl, fun x dx nx ndx nex => ?_⟩
      refine ⟨x, dx, z, r, t, low, high, 0, a, b, c, rfl, upd_same, ?_, hlh, hht, htl, by omega, by omega, fun H' sb hb => ⟨rfl, Made nx ndx sb, x, hb, rfl⟩⟩
      have sm : Same H (upd (upd H dx (.own x)) x (.ins C dx [])) := fun y o e => by rw [upd_ne (ne_of_none e nx), upd_ne (ne_of_none e ndx)]; exact e
      rcases hz with (z0 | ⟨o, z0⟩) | z0
      · exact .inl (.inl (sm _ _ z0))
      · exact .inl (.inr ⟨o, sm _ _ z0⟩)
      · exact .inr z0
    rintro σ H1 ⟨s1, x, hB, rfl⟩
    refine ⟨fun m σ H' => Same H H' ∧ ∃ (x : Addr) (W : Nat), m + W = 2 * r.length + 1 ∧ BandW C H' x a b c r t low high W ∧ σ = [some (.str (T r)), some (.str (T t)), some (.int (low : Int)), some (.int (high : Int)), some (.ref z), some (.int (W : Int)), some (.ref x)], ⟨2 * r.length + 1, s1, x, 0, rfl, hB, rfl⟩, ?_⟩
    rintro m σ H2 ⟨s2, x, W, hm, hB, rfl⟩
    have hz2 : SqT K H2 z [.int a, .int b, .int c] := by
      rcases hz with (z0 | ⟨o, z0⟩) | z0
      · exact .inl (.inl (s2 _ _ z0))
      · exact .inl (.inr ⟨o, s2 _ _ z0⟩)
      · exact .inr z0
    refine ⟨.ref x, rfl, .str (T r), rfl, T r, rfl, line_ok6 (by rw [T_len]; omega), .int low, rfl, .int high, rfl, .ref z, rfl, .int W, rfl, x, z, a, b, c, r, t, low, high, W, by rw [T_len]; rfl, hB, hz2, hlh, by omega, hrl, by omega, hc, fun H3 s3 hall => ⟨_, rfl, iteF ?_⟩, fun H3 s3 hbad => ⟨_, rfl, iteT ?_⟩⟩
    · exact ⟨_, rfl, q H3 x W (s2.trans s3) (BandAt.same hB s3) (by omega) hall⟩
    · have hlt : W + 1 < r.length := by
        obtain ⟨e, _, _, b1, b2⟩ := hbad
        refine Nat.lt_of_not_le fun y => ?_
        have h1 : (r.length : Int) * c ≤ ((W : Int) + 1) * c := Int.mul_le_mul_of_nonneg_right (by omega) (by omega)
        omega
      have s03 := s2.trans s3
      refine ⟨fun σ' H' => ∃ m', m' < m ∧ (Same H H' ∧ ∃ (x : Addr) (W : Nat), m' + W = 2 * r.length + 1 ∧ BandW C H' x a b c r t low high W ∧ σ' = [some (.str (T r)), some (.str (T t)), some (.int (low : Int)), some (.int (high : Int)), some (.ref z), some (.int (W : Int)), some (.ref x)]), fun σ' H' h => h, ?_⟩
      refine ⟨.int W, rfl, 2, _, rfl, rfl, .inl ⟨by decide, by decide⟩, _, 1, rfl, rfl, ?_⟩
      have ew : 2 * (W : Int) + 1 = ((2 * W + 1 : Nat) : Int) := by omega
      dsimp only
      rw [ew]
      refine ⟨.str (T r), rfl, .str (T t), rfl, .int low, rfl, .int high, rfl, .ref z, rfl, .int ((2 * W + 1 : Nat) : Int), rfl, fun y dy ny ndy ney => ?_⟩
      refine ⟨y, dy, z, r, t, low, high, 2 * W + 1, a, b, c, rfl, upd_same, ?_, hlh, hht, htl, by omega, by omega, fun H' sb hb => ⟨rfl, 2 * r.length + 1 - (2 * W + 1), by omega, s03.trans (Made ny ndy sb), y, 2 * W + 1, by omega, hb, rfl⟩⟩
      have sm : Same H (upd (upd H3 dy (.own y)) y (.ins C dy [])) := fun v o e => by
        have e3 := s03 _ _ e
        rw [upd_ne (ne_of_none e3 ny), upd_ne (ne_of_none e3 ndy)]
        exact e3
      rcases hz with (z0 | ⟨o, z0⟩) | z0
      · exact .inl (.inl (sm _ _ z0))
      · exact .inl (.inr ⟨o, sm _ _ z0⟩)
      · exact .inr z0
end
section
variable {a b c : Nat} {r t : List Nat}
theorem wk_reps (r t : List Nat) (j n : Nat) : wk r t (List.replicate n 73) 0 j = some (n, j) := by
  have h := wk_rep r t [] j n 0
  rw [List.append_nil, Nat.zero_add] at h
  rw [h]
  rfl
/-- nothing costs more than to leave out the whole read -/
theorem least_all (h : 1 ≤ r.length) (e : Nat) : (dp a b c r t r.length e).mn ≤ (b : Int) + (r.length : Int) * c := by
  have h1 := least_le (a := a) (b := b) (c := c) (r := r) (t := t) (wk_reps r t e r.length)
  obtain ⟨m, hm⟩ : ∃ m, r.length = m + 1 := ⟨r.length - 1, by omega⟩
  have h2 := prc_reps (a := a) (b := b) (c := c) m
  rw [hm] at h1 ⊢
  rw [h2] at h1
  rw [Int.natCast_add, Int.natCast_mul] at h1
  exact h1
end
section
variable {P : Program} {w : World} {K : PySem.W.Frag} {mg : Str → Option Value} {base : Heap}
theorem costW_le {a b c : Nat} {r t : List Nat} {low high W e : Nat} (hf : (b : Int) + r.length * c + b ≤ far) (h1 : low ≤ e) (h2 : e ≤ high) : costW a b c r t low high W e ≤ (dp a b c r t r.length e).mn := shows_le (by omega) h2 hf (at_end (high := high) h1)
end
/-! ### the whole tables of a band -/
section
variable {a b c : Nat} {r t : List Nat} {F : Int} {Z low high W e : Nat} {cst : Int}
theorem Tr.path (D : Bd r.length low high W F Z) (hl : low ≤ e) (hh : e ≤ high) (ht : e ≤ t.length) (hc : cst < (b : Int) + ((W + 1) * c : Nat)) : ∀ (m i j : Nat) (σ : List Nat) (wp wq : Int), i + j ≤ m → Tr a b c r t F Z high e cst i j σ wp wq → ∃ (j' : Nat) (π : List Nat), Hr.wk r t π 0 j' = some (r.length, e) ∧ cst = (prc a b c none π : Nat) := by
  intro m
  induction m with
  | zero =>
    intro i j σ wp wq hm T
    exact ⟨j, _, T.done D hl hh hc (.inl (by omega))⟩
  | succ m ih =>
    intro i j σ wp wq hm T
    rcases Nat.eq_zero_or_pos i with hi | hi
    · exact ⟨j, _, T.done D hl hh hc (.inl hi)⟩
    rcases Nat.eq_zero_or_pos j with hj | hj
    · exact ⟨j, _, T.done D hl hh hc (.inr hj)⟩
    obtain ⟨i, rfl⟩ : ∃ i', i = i' + 1 := ⟨i - 1, by omega⟩
    obtain ⟨j, rfl⟩ : ∃ j', j = j' + 1 := ⟨j - 1, by omega⟩
    obtain ⟨k, _, _, s1, s2, s3⟩ := T.step D hl hh ht hc
    by_cases c1 : (band a b c r t F Z high (i + 1) k).p = wp
    · exact ih _ _ _ _ _ (by omega) (s1 c1)
    · by_cases c2 : (band a b c r t F Z high (i + 1) k).q = wq
      · exact ih _ _ _ _ _ (by omega) (s2 c1 c2)
      · exact ih _ _ _ _ _ (by omega) (s3 c1 c2)
/-- a number of the whole tables -/
def wt (a b c : Nat) (r t : List Nat) (F : Int) (Z : Nat) (hi : Int) (i j : Nat) : C3 := if F + (i : Nat) ≤ (j : Int) then band a b c r t F Z hi i ((j : Int) - F - (i : Nat)).toNat else lo3 b
theorem wt_at {i j k : Nat} {hi : Int} (h : F + (i : Nat) + (k : Nat) = (j : Int)) : wt a b c r t F Z hi i j = band a b c r t F Z hi i k := by
  unfold wt
  rw [if_pos (by omega), show ((j : Int) - F - (i : Nat)).toNat = k by omega]
theorem wt_lo {i j : Nat} {hi : Int} (h : ¬ F + (i : Nat) ≤ (j : Int)) : wt a b c r t F Z hi i j = lo3 b := by
  unfold wt
  rw [if_neg h]
theorem wt_low {hi : Int} (h0 : 0 ≤ hi) (i j : Nat) : 0 ≤ (wt a b c r t F Z hi i j).p ∧ (b : Int) ≤ (wt a b c r t F Z hi i j).q ∧ (b : Int) ≤ (wt a b c r t F Z hi i j).r := by
  unfold wt
  split
  · exact band_low h0 _ _
  · exact ⟨Int.le_refl _, Int.le_refl _, Int.le_refl _⟩
theorem wt_zero {hi : Int} (j : Nat) : wt a b c r t F Z hi 0 j = lo3 b := by
  unfold wt
  split <;> rfl
/-- the conditions of point 28 -/
theorem wt_pair {hi : Int} (h0 : 0 ≤ hi) (i j : Nat) : (wt a b c r t F Z hi (i + 1) (j + 1)).p ≤ (wt a b c r t F Z hi i j).p + wgt a (r.getD i 0) (t.getD j 0) ∧ (wt a b c r t F Z hi (i + 1) (j + 1)).p ≤ (wt a b c r t F Z hi i j).q + wgt a (r.getD i 0) (t.getD j 0) ∧ (wt a b c r t F Z hi (i + 1) (j + 1)).p ≤ (wt a b c r t F Z hi i j).r + wgt a (r.getD i 0) (t.getD j 0) := by
  have lo := wt_low (a := a) (b := b) (c := c) (r := r) (t := t) (F := F) (Z := Z) h0 i j
  have hw := wgt_nn (a := a) (r.getD i 0) (t.getD j 0)
  have z : (lo3 b).p = 0 := rfl
  by_cases h : F + ((i + 1 : Nat) : Int) ≤ ((j + 1 : Nat) : Int)
  · obtain ⟨k, hk⟩ : ∃ k : Nat, F + ((i + 1 : Nat) : Int) + (k : Nat) = ((j + 1 : Nat) : Int) := ⟨(((j + 1 : Nat) : Int) - F - (i + 1 : Nat)).toNat, by omega⟩
    rw [wt_at hk, wt_at (i := i) (j := j) (k := k) (by omega)] at *
    rcases band_cases (a := a) (b := b) (c := c) (r := r) (t := t) (F := F) (Z := Z) (hi := hi) (i + 1) k h0 with e | ⟨i', k', e1, e2, h1, h2⟩ | ⟨i', k', j', e1, e2, h1, h2, h3⟩
    · rw [e]
      omega
    · omega
    · obtain rfl : i' = i := by omega
      obtain rfl : j' = j := by omega
      subst e2
      rw [band_in h1 h2 h3]
      have m := mn3_le (band a b c r t F Z hi i' (k' + 1)).p (band a b c r t F Z hi i' (k' + 1)).q (band a b c r t F Z hi i' (k' + 1)).r
      dsimp only
      omega
  · rw [wt_lo h]
    omega
theorem wt_read {hi : Int} (h0 : 0 ≤ hi) (i j : Nat) : (wt a b c r t F Z hi (i + 1) j).q ≤ (wt a b c r t F Z hi i j).q + c ∧ (0 < j → (wt a b c r t F Z hi (i + 1) j).q ≤ (wt a b c r t F Z hi i j).p + ((b : Int) + c) ∧ (wt a b c r t F Z hi (i + 1) j).q ≤ (wt a b c r t F Z hi i j).r + ((b : Int) + c)) := by
  have lo := wt_low (a := a) (b := b) (c := c) (r := r) (t := t) (F := F) (Z := Z) h0 i j
  have z : (lo3 b).q = b := rfl
  by_cases h : F + ((i + 1 : Nat) : Int) ≤ (j : Int)
  · obtain ⟨k, hk⟩ : ∃ k : Nat, F + ((i + 1 : Nat) : Int) + (k : Nat) = (j : Int) := ⟨((j : Int) - F - (i + 1 : Nat)).toNat, by omega⟩
    rw [wt_at hk, wt_at (i := i) (j := j) (k := k + 1) (by omega)] at *
    rcases band_cases (a := a) (b := b) (c := c) (r := r) (t := t) (F := F) (Z := Z) (hi := hi) (i + 1) k h0 with e | ⟨i', k', e1, e2, h1, h2⟩ | ⟨i', k', j', e1, e2, h1, h2, h3⟩
    · rw [e]
      omega
    · obtain rfl : i' = i := by omega
      subst e2
      rw [show k' + 1 + 1 = k' + 2 from rfl] at *
      rw [band_zero h1 h2]
      dsimp only
      omega
    · obtain rfl : i' = i := by omega
      subst e2
      rw [show k' + 1 + 1 = k' + 2 from rfl] at *
      rw [band_in h1 h2 h3]
      have m := mn3_le ((b + c : Int) + (band a b c r t F Z hi i' (k' + 2)).p) ((b + c : Int) + (band a b c r t F Z hi i' (k' + 2)).r) (c + (band a b c r t F Z hi i' (k' + 2)).q)
      dsimp only
      omega
  · rw [wt_lo h]
    omega
theorem wt_text {hi : Int} (h0 : 0 ≤ hi) (i j : Nat) : (wt a b c r t F Z hi i (j + 1)).r ≤ (wt a b c r t F Z hi i j).p + ((b : Int) + c) ∧ (wt a b c r t F Z hi i (j + 1)).r ≤ (wt a b c r t F Z hi i j).q + ((b : Int) + c) ∧ (wt a b c r t F Z hi i (j + 1)).r ≤ (wt a b c r t F Z hi i j).r + c := by
  have lo := wt_low (a := a) (b := b) (c := c) (r := r) (t := t) (F := F) (Z := Z) h0 i j
  have z : (lo3 b).r = b := rfl
  cases i with
  | zero =>
    rw [wt_zero (j + 1)]
    omega
  | succ i =>
    by_cases h : F + ((i + 1 : Nat) : Int) ≤ ((j + 1 : Nat) : Int)
    · obtain ⟨k, hk⟩ : ∃ k : Nat, F + ((i + 1 : Nat) : Int) + (k : Nat) = ((j + 1 : Nat) : Int) := ⟨(((j + 1 : Nat) : Int) - F - (i + 1 : Nat)).toNat, by omega⟩
      rw [wt_at hk]
      rcases band_cases (a := a) (b := b) (c := c) (r := r) (t := t) (F := F) (Z := Z) (hi := hi) (i + 1) k h0 with e | ⟨i', k', e1, e2, h1, h2⟩ | ⟨i', k', j', e1, e2, h1, h2, h3⟩
      · rw [e]
        omega
      · omega
      · obtain rfl : i' = i := by omega
        subst e2
        rw [wt_at (i := i' + 1) (j := j) (k := k') (by omega), band_in h1 h2 h3]
        have m := mn3_le ((b + c : Int) + (band a b c r t F Z hi (i' + 1) k').p) ((b + c : Int) + (band a b c r t F Z hi (i' + 1) k').q) (c + (band a b c r t F Z hi (i' + 1) k').r)
        dsimp only
        omega
    · rw [wt_lo h]
      omega
end
/-! ### xs[a:c] = ys -/
section
open PySem PySem.Spec PyProof.Rows L2
variable {X : Cx}
def gSl (to : TE) (tl th : TO) : TG := fun v σ H Q => to σ H fun x H1 => tl σ H1 fun i H2 => th σ H2 fun j H3 => ∃ (l b : Addr) (xs ys : List V) (a c : Int), x = .ref l ∧ v = .ref b ∧ i = some a ∧ j = some c ∧ H3 l = some (.lst xs) ∧ H3 b = some (.lst ys) ∧ l ≠ b ∧ 0 ≤ a ∧ a ≤ c ∧ c ≤ xs.length ∧
  xs.length + ys.length ≤ sizeLine ∧ Q σ (upd H3 l (.lst (xs.take a.toNat ++ ys ++ xs.drop c.toNat)))
theorem pg_slice {o : Expr} {lo hi : Option Expr} {to : TE} {tl th : TO} {p2 pos : Pos} (ho : PE X o to) (hl : PO X lo tl) (hu : PO X hi th)
    (ha : ∀ v, assign (.Subscript o (.Slice lo hi none p2) pos) X.env v = (do
      let ov ← holding [v] (eval o X.env)
      let iv ← holding [v, ov] (eval (.Slice lo hi none p2) X.env)
      standAt pos
      holding [v, ov, iv] (setItem ov iv v)
      release [iv, v, ov] []) := by intro _; rfl) : PG X (.Subscript o (.Slice lo hi none p2) pos) (gSl to tl th) := by
  refine ⟨fun pins s σ H v u Q I r h => ?_⟩
  rw [ha]
  refine wpAny_bind (wpAny_holding (thn (ho.run pins s σ H _ I h) fun ov s1 ⟨x, H1, I1, r1, q1⟩ => ?_))
  refine wpAny_bind (wpAny_holding ?_)
  refine wpAny_Slice (thn (hl.run pins s1 σ H1 _ I1 q1) fun vl s2 ⟨ol, H2, I2, pl, q2⟩ => thn (hu.run pins s2 σ H2 _ I2 q2) fun vu s3 ⟨oc, H3, I3, pu, l, b, xs, ys, i, j, ex, ev, eol, eoc, hx, hy, ne, h0, hij, hjl, hz, q3⟩ => ?_)
  rw [evalPart_none]
  refine wpAny_pure ?_
  have I4 : Inv X pins σ H3 { s3 with heap := s3.heap.push { cls := .type "slice", data := .fields #[vl, vu, .none] } } := I3.kept (t' := s3.toks) fun b ob q => Heap.get?_push_of_some _ q
  subst ex ev eol eoc
  obtain rfl : ov = Value.ref l := r1
  obtain rfl : u = Value.ref b := r
  cases pl
  cases pu
  refine wpAny_bind (wpAny_standAt (wpAny_bind (wpAny_holding (set_slice I4 hx hy ne (Heap.IsSliceOf.new ..) ⟨_, rfl⟩ ⟨_, rfl⟩ h0 hij hjl hz fun s' I' => ?_))))
  exact wpAny_release ⟨σ, _, I', q3⟩
end
/-! ### the program: whole tables, papers -/
def cmp3 (w : Nat) (t : C3) : Int := if w = 0 then t.p else if w = 1 then t.q else t.r
theorem splice {Z e A B o : Nat} {v : Int} {h g : Nat → Int} (hAB : A ≤ B) (hB : B ≤ e + 1) (hr : A < B → o + (B - A) ≤ Z) (h1 : ∀ j, j < A → g j = v) (h2 : ∀ j, A ≤ j → j < B → g j = h (o + (j - A))) (h3 : ∀ j, B ≤ j → j ≤ e → g j = v) :
    ((fl (e + 1) fun _ => v).map V.int).take A ++ (((fl Z h).map V.int).drop o).take (B - A) ++ ((fl (e + 1) fun _ => v).map V.int).drop B = (fl (e + 1) g).map V.int := by
  have hl1 : (((fl (e + 1) fun _ => v).map V.int).take A).length = A := by rw [List.length_take, fl_lenV]; omega
  have hl2 : ((((fl Z h).map V.int).drop o).take (B - A)).length = B - A := by
    rw [List.length_take, List.length_drop, fl_lenV]
    by_cases c : A < B
    · have := hr c
      omega
    · omega
  refine List.ext_getElem? fun j => ?_
  by_cases c1 : j < A
  · rw [List.append_assoc, List.getElem?_append_left (by rw [hl1]; exact c1), List.getElem?_take_of_lt c1, fl_at _ (by omega), fl_at _ (by omega), h1 j c1]
  · by_cases c2 : j < B
    · rw [List.getElem?_append_left (by rw [List.length_append, hl1, hl2]; omega), List.getElem?_append_right (by rw [hl1]; omega), hl1, List.getElem?_take_of_lt (by omega), List.getElem?_drop, fl_at _ (by have := hr (by omega); omega), fl_at _ (by omega), h2 j (by omega) c2]
    · rw [List.getElem?_append_right (by rw [List.length_append, hl1, hl2]; omega), List.length_append, hl1, hl2, List.getElem?_drop, show B + (j - (A + (B - A))) = j by omega]
      by_cases c3 : j ≤ e
      · rw [fl_at _ (by omega), fl_at _ (by omega), h3 j (by omega) c3]
      · rw [List.getElem?_eq_none (by rw [fl_lenV]; omega), List.getElem?_eq_none (by rw [fl_lenV]; omega)]
theorem cut_rows (xs : List V) (a k : Nat) : L2.cutV xs (some (a : Int)) (some ((a : Int) + (k : Int))) = (xs.drop a).take k := by
  unfold L2.cutV
  rw [show (a : Int) + (k : Int) = ((a + k : Nat) : Int) by omega, HT.sIx_nat, HT.sIx_nat]
  by_cases h1 : a ≤ xs.length
  · rw [Nat.min_eq_left h1]
    by_cases h2 : a + k ≤ xs.length
    · rw [Nat.min_eq_left h2, show a + k - a = k by omega]
    · rw [Nat.min_eq_right (by omega), List.take_of_length_le (by rw [List.length_drop]; omega), List.take_of_length_le (by rw [List.length_drop]; omega)]
  · rw [Nat.min_eq_right (by omega), Nat.min_eq_right (by omega), Nat.sub_self, List.take_zero, List.drop_of_length_le (by omega), List.take_nil]
/-- a table of n + 1 rows of e + 1 numbers -/
def TabAt (H : Hp) (p : Addr) (n e : Nat) (g : Nat → Nat → Int) : Prop := ∃ vs : List V, H p = some (.lst vs) ∧ vs.length = n + 1 ∧ ∀ i, i ≤ n → ∃ q, vs[i]? = some (.ref q) ∧ H q = some (LI (fl (e + 1) (g i)))
theorem TabAt.same {H H' : Hp} {p : Addr} {n e : Nat} {g : Nat → Nat → Int} (h : TabAt H p n e g) (s : Same H H') : TabAt H' p n e g := by
  obtain ⟨vs, h1, h2, h3⟩ := h
  refine ⟨vs, s _ _ h1, h2, fun i hi => ?_⟩
  obtain ⟨q, e1, e2⟩ := h3 i hi
  exact ⟨q, e1, s _ _ e2⟩
theorem scBWhole : FnScope ["self", "i", "which", "end", "first", "low", "behind", "whole"] ["self", "i", "which", "end"] (defScope mWhole) := ⟨rfl, rfl, rfl, by decide +kernel, rfl, by decide +kernel, by decide +kernel⟩
def NBt : List Str := ["self", "which", "end", "i"]
theorem scBTable : FnScope NBt ["self", "which", "end"] (defScope mTable) := ⟨rfl, rfl, rfl, by decide +kernel, rfl, by decide +kernel, by decide +kernel⟩
theorem scPaper : FnScope ["read", "text", "end", "costs", "band"] ["read", "text", "end", "costs"] (defScope sPaper) := ⟨rfl, rfl, rfl, by decide +kernel, rfl, by decide +kernel, by decide +kernel⟩
section
variable {P : Program} {w : World} {K : PySem.W.Frag} {mg : Str → Option Value} {base : Heap}
def spBWhole (C : Addr) : Sp := fun vs H Q _ => ∃ (x : Addr) (a b c : Nat) (r t : List Nat) (F : Int) (Z : Nat) (hi : Int) (i wh e : Nat), vs = [.ref x, .int (i : Int), .int (wh : Int), .int (e : Int)] ∧ BandAt C H x a b c r t F Z hi ∧ i ≤ r.length ∧ wh < 3 ∧ e ≤ 10000 ∧ Z ≤ 100000 ∧ F + (r.length : Nat) ≤ (e : Int) ∧
  ∀ (H' : Hp) (q : Addr), Same H H' → H' q = some (LI (fl (e + 1) fun j => cmp3 wh (wt a b c r t F Z hi i j))) → Q (.ref q) H'
theorem ok_bwhole {f C : Addr} {fd : FuncData} {k : Nat} (F : Fun K "_whole_row" "Band._whole_row" mWhole f fd) (X : BnT K mg C) (mmin : mg "min" = none) (mmax : mg "max" = none) : FnOk P w K mg base CX0 (k + 1) f fd ["self", "i", "which", "end"] (spBWhole C) := by
  refine F.ok scBWhole (fun vs H Q E h => ?_) (fun cdv A outer s H vs Q E hr h => ?_)
  · obtain ⟨x, a, b, c, r, t, F, Z, hi, i, wh, e, rfl, _⟩ := h
    rfl
  · obtain ⟨x, a, b, c, r, t, F, Z, hi, i, wh, e, rfl, hB, hir, hwh, he, hZ, hF, q⟩ := h
    obtain ⟨dx, aL, aR, vs, hx, hL, hR, hvl, hrows⟩ := hB
    obtain ⟨v, hv, qa, p1, p2, p3, rfl, hq, h1, h2, h3⟩ := hrows i hir
    obtain ⟨pw, hpw, hprow⟩ : ∃ pw, ([V.ref p1, V.ref p2, V.ref p3])[wh]? = some (.ref pw) ∧ H pw = some (LI (fl Z fun k => cmp3 wh (band a b c r t F Z hi i k))) := by
      have : wh = 0 ∨ wh = 1 ∨ wh = 2 := by omega
      rcases this with e | e | e <;> subst e
      · exact ⟨p1, rfl, h1⟩
      · exact ⟨p2, rfl, h2⟩
      · exact ⟨p3, rfl, h3⟩
    have hlw : ([V.int 0, V.int (b : Int), V.int (b : Int)])[wh]? = some (.int (cmp3 wh (lo3 b))) := by
      have : wh = 0 ∨ wh = 1 ∨ wh = 2 := by omega
      rcases this with e | e | e <;> subst e <;> rfl
    refine ⟨_, (pss_cons (ps_set (i := 4) scBWhole.nd rfl (.inl rfl) (pe_op op_add (pe_fld (pv 0) rfl) (pv 1)))
      (pss_cons (ps_set (i := 5) scBWhole.nd rfl (.inl rfl) (pe_callB (call_max2 rfl) (by rfl) mmax (by decide +kernel) (pa_cons pe_int (pa_cons (pv 4) pa_nil))))
      (C8.pss_cut (ps_set (i := 6) scBWhole.nd rfl (.inl rfl) (pe_callB (call_max2 rfl) (by rfl) mmax (by decide +kernel) (pa_cons (pv 5) (pa_cons (pe_callB (call_min2 rfl) (by rfl) mmin (by decide +kernel) (pa_cons (pe_op op_add (pv 3) pe_int) (pa_cons (pe_op op_add (pv 4) (pe_fld (pv 0) rfl)) pa_nil))) pa_nil))))
      (pss_cons (ps_set (i := 7) scBWhole.nd rfl (.inl rfl) (pe_op op_rep (pe_lst (pa_cons (pe_ix ix_tup (pe_fld (pv 0) rfl) (pv 2) (fun _ _ => rfl)) pa_nil)) (pe_op op_add (pv 3) pe_int)))
      (pss_cons (ps_asg (pe_slice sl_list (pe_ix ix_tup (pe_ix ix_list (pe_fld (pv 0) rfl) (pv 1) (fun _ _ => rfl)) (pv 2) (fun _ _ => rfl)) (po_some (pe_op op_sub (pv 5) (pv 4))) (po_some (pe_op op_sub (pv 6) (pv 4)))) (pg_slice (pv 7) (po_some (pv 5)) (po_some (pv 6))))
      (pss_one (ps_ret (pv 7)))))))), ?_⟩
    obtain ⟨fr, hfr⟩ : ∃ fr : Int, fr = F + (i : Nat) := ⟨_, rfl⟩
    obtain ⟨A0, hA⟩ : ∃ A : Nat, (A : Int) = (if fr > 0 then fr else 0) := ⟨(if fr > 0 then fr else 0).toNat, by split <;> omega⟩
    obtain ⟨B0, hBh⟩ : ∃ B0 : Int, B0 = (if fr + Z < (e : Int) + 1 then fr + Z else (e : Int) + 1) := ⟨_, rfl⟩
    obtain ⟨B1, hB1⟩ : ∃ B : Nat, (B : Int) = (if B0 > (A0 : Int) then B0 else (A0 : Int)) := ⟨(if B0 > (A0 : Int) then B0 else (A0 : Int)).toNat, by split <;> omega⟩
    have fA : fr ≤ A0 ∧ (0 : Int) ≤ A0 ∧ ((A0 : Int) = fr ∨ A0 = 0) ∧ (A0 : Int) ≤ e + 1 := by
      refine ⟨?_, ?_, ?_, ?_⟩ <;> split at hA <;> omega
    have fB : A0 ≤ B1 ∧ B1 ≤ e + 1 ∧ (A0 < B1 → (B1 : Int) ≤ fr + Z) ∧ ∀ j : Nat, B1 ≤ j → j ≤ e → fr + Z ≤ (j : Int) := by
      refine ⟨?_, ?_, ?_, ?_⟩
      · split at hB1 <;> omega
      · split at hB1 <;> split at hBh <;> omega
      · split at hB1 <;> split at hBh <;> omega
      · intro j hj hje
        split at hB1 <;> split at hBh <;> omega
    refine ⟨.ref x, rfl, x, C, dx, _, _, rfl, hx, X.cl, X.n3, lkB (i := 2) rfl (by decide +kernel), .int i, rfl, _, _, rfl, rfl, .int (F + (i : Nat)), rfl, 0, _, rfl, ?_⟩
    refine ⟨fun σ H' => H' = H ∧ σ = [some (.ref x), some (.int (i : Int)), some (.int (wh : Int)), some (.int (e : Int)), some (.int fr), some (.int (A0 : Int)), some (.int (B1 : Int)), none], ?_, ?_⟩
    · refine ⟨_, rfl, .int e, rfl, _, 1, rfl, rfl, .int (F + (i : Nat)), rfl, .ref x, rfl, x, C, dx, _, _, rfl, hx, X.cl, X.n2, lkB (i := 1) rfl (by decide +kernel), _, _, rfl, rfl, _, _, rfl, _, _, rfl, rfl, ?_⟩
      rw [hB1, hBh, hA, hfr]
      rfl
    rintro σ H' ⟨hh, rfl⟩
    have hh := hh.symm
    subst hh
    refine ⟨.ref x, rfl, x, C, dx, _, _, rfl, hx, X.cl, X.n1, lkB (i := 0) rfl (by decide +kernel), .int wh, rfl, aL, _, _, .int (cmp3 wh (lo3 b)), rfl, rfl, .inl (.inl hL), atI_nat hlw, by show 1 ≤ sizeLine; decide, fun d1 hd1 => ?_⟩
    have u1 := same_upd (o := .lst [V.int (cmp3 wh (lo3 b))]) hd1
    refine ⟨.int e, rfl, _, 1, rfl, rfl, d1, (e : Int) + 1, _, rfl, rfl, upd_same, by omega, by omega, by rw [show ((e : Int) + 1).toNat = e + 1 by omega]; show 1 * (e + 1) ≤ sizeLine; exact line_ok6 (by omega), fun pl hpl => ?_⟩
    rw [show ((e : Int) + 1).toNat = e + 1 by omega, fl_const]
    have u2 := u1.trans (same_upd (o := .lst ((fl (e + 1) fun _ => cmp3 wh (lo3 b)).map V.int)) hpl)
    have hpl0 : H pl = none := u1.free hpl
    generalize hH2 : upd (upd H d1 (.lst [V.int (cmp3 wh (lo3 b))])) pl (.lst ((fl (e + 1) fun _ => cmp3 wh (lo3 b)).map V.int)) = H2 at u2 ⊢
    have hpl2 : H2 pl = some (LI (fl (e + 1) fun _ => cmp3 wh (lo3 b))) := by rw [← hH2, upd_same]
    clear hH2
    obtain ⟨o, ho⟩ : ∃ o : Nat, (A0 : Int) - fr = (o : Int) := ⟨((A0 : Int) - fr).toNat, by omega⟩
    obtain ⟨kk, hkk⟩ : ∃ kk : Nat, kk = B1 - A0 := ⟨_, rfl⟩
    have ho2 : (B1 : Int) - fr = (o : Int) + (kk : Int) := by omega
    refine ⟨.ref x, rfl, x, C, dx, _, _, rfl, u2 _ _ hx, X.cl, X.n4, lkB (i := 3) rfl (by decide +kernel), .int i, rfl, aR, _, _, .ref qa, rfl, rfl, .inl (.inl (u2 _ _ hR)), atI_nat hv, .int wh, rfl, qa, _, _, .ref pw, rfl, rfl, .inl (.inl (u2 _ _ hq)), atI_nat hpw, .int A0, rfl, .int fr, rfl, _, _, rfl, rfl, _, rfl, .int B1, rfl, .int fr, rfl, _, _, rfl, rfl, _, rfl, pw, _, rfl, .inl (.inl (u2 _ _ hprow)), fun pc hpc => ?_⟩
    dsimp only
    rw [ho, ho2, cut_rows]
    have u3 := same_upd (o := .lst ((((fl Z fun k => cmp3 wh (band a b c r t F Z hi i k)).map V.int).drop o).take kk)) hpc
    generalize hH3 : upd H2 pc (.lst ((((fl Z fun k => cmp3 wh (band a b c r t F Z hi i k)).map V.int).drop o).take kk)) = H3 at u3 ⊢
    have hpc3 : H3 pc = some (.lst ((((fl Z fun k => cmp3 wh (band a b c r t F Z hi i k)).map V.int).drop o).take kk)) := by rw [← hH3, upd_same]
    clear hH3
    refine ⟨.ref pl, rfl, .int A0, rfl, _, rfl, .int B1, rfl, _, rfl, pl, pc, _, _, (A0 : Int), (B1 : Int), rfl, rfl, rfl, rfl, u3 _ _ hpl2, hpc3, ne_of_none hpl2 hpc, by omega, by omega, by rw [fl_lenV]; omega, ?_, ?_⟩
    · rw [fl_lenV]
      have : ((((fl Z fun k => cmp3 wh (band a b c r t F Z hi i k)).map V.int).drop o).take kk).length ≤ kk := List.length_take_le _ _
      exact line_ok6 (by omega)
    rw [Int.toNat_natCast, Int.toNat_natCast, hkk, splice (g := fun j => cmp3 wh (wt a b c r t F Z hi i j)) fB.1 fB.2.1 (fun h => by have := fB.2.2.1 h; omega) (fun j hj => ?_) (fun j h1 h2 => ?_) (fun j h1 h2 => ?_)]
    · exact ⟨.ref pl, rfl, q _ pl (fun y oo ey => by rw [upd_ne (ne_of_none ey hpl0)]; exact u3 _ _ (u2 _ _ ey)) upd_same⟩
    · show cmp3 wh (wt a b c r t F Z hi i j) = _
      rw [wt_lo (by omega)]
    · show cmp3 wh (wt a b c r t F Z hi i j) = _
      rw [wt_at (k := o + (j - A0)) (by omega)]
    · show cmp3 wh (wt a b c r t F Z hi i j) = _
      have h3 := fB.2.2.2 j h1 h2
      rw [wt_at (k := ((j : Int) - F - (i : Nat)).toNat) (by omega), band_out (by omega)]
def spBTable (C : Addr) : Sp := fun vs H Q _ => ∃ (x : Addr) (a b c : Nat) (r t : List Nat) (F : Int) (Z : Nat) (hi : Int) (wh e : Nat), vs = [.ref x, .int (wh : Int), .int (e : Int)] ∧ BandAt C H x a b c r t F Z hi ∧ wh < 3 ∧ e ≤ 10000 ∧ Z ≤ 100000 ∧ r.length ≤ 10000 ∧ F + (r.length : Nat) ≤ (e : Int) ∧
  ∀ (H' : Hp) (p : Addr), Same H H' → TabAt H' p r.length e (fun i j => cmp3 wh (wt a b c r t F Z hi i j)) → Q (.ref p) H'
theorem ok_btable {f C : Addr} {fd : FuncData} {k : Nat} (F : Fun K "table" "Band.table" mTable f fd) (X : BnT K mg C) (mrange : mg "range" = none) (mlen : mg "len" = none) (hW : HasM P w K mg base C (k + 1) "_whole_row" ["self", "i", "which", "end"] (spBWhole C)) : FnOk P w K mg base CX0 (k + 2) f fd ["self", "which", "end"] (spBTable C) := by
  obtain ⟨fM, dM, GM, mM, bM⟩ := hW
  refine F.ok scBTable (fun vs H Q E h => ?_) (fun cdv A outer s H vs Q E hr h => ?_)
  · obtain ⟨x, a, b, c, r, t, F, Z, hi, wh, e, rfl, _⟩ := h
    rfl
  · obtain ⟨x, a, b, c, r, t, F, Z, hi, wh, e, rfl, hB, hwh, he, hZ, hrl, hF, q⟩ := h
    obtain ⟨dx, aL, aR, vs, hx, hL, hR, hvl, hrows⟩ := id hB
    refine ⟨_, (pss_one (ps_ret (pe_lc (own := [("i", 3)]) (g := gName 3) (tt := tYes) (te := tMeth C "_whole_row" (spBWhole C) [] E0 (tVar 0) (tCons (tVar 3) (tCons (tVar 1) (tCons (tVar 2) tNil)))) (by rfl) scBTable.nd (pi_range1 rfl mrange (pa_cons (pe_callB call_len_seq (by rfl) mlen PySem.boot_len (pa_cons (pe_fld (pv 0) rfl) pa_nil)) pa_nil)) (blkOk_by (own := [("i", 3)]) (N := NBt) (sc := defScope mTable) (by decide +kernel)) (fun _ _ _ _ _ => pg_name (i := 3) scBTable.nd rfl (Or.inl rfl)) (fun _ _ _ _ _ => pts_nil) (fun _ _ _ _ _ => (pe_meth (pv 0) X.cl mM GM hr bM .nil pass0 (pa_cons (pv 3) (pa_cons (pv 1) (pa_cons (pv 2) pa_nil)))))))), ?_⟩
    refine ⟨.ref x, rfl, x, C, dx, _, _, rfl, hx, X.cl, X.n4, lkB (i := 3) rfl (by decide +kernel), aR, vs, rfl, .inl (.inl (.inl hR)), _, rfl, by omega, by omega, fun D hD => ?_⟩
    have en : ((vs.length : Nat) : Int).toNat = r.length + 1 := by omega
    refine lc_range (lo := 0) (n := ((vs.length : Nat) : Int).toNat) (fun i H2 => Same H H2 ∧ ∃ ws, H2 D = some (.lst ws) ∧ ws.length = i ∧ ∀ m, m < i → ∃ q, ws[m]? = some (.ref q) ∧ H2 q = some (LI (fl (e + 1) fun j => cmp3 wh (wt a b c r t F Z hi m j))) ∧ q ≠ D) ⟨same_upd hD, [], upd_same, rfl, fun m hm => absurd hm (Nat.not_lt_zero _)⟩ ?_ ?_
    · rintro i H2 hi2 ⟨s2, ws, hD2, hwl, hws⟩
      rw [en] at hi2
      refine ⟨rfl, ?_⟩
      dsimp only [tYes]
      rw [if_pos rfl]
      refine ⟨.ref x, rfl, x, dx, _, rfl, s2 _ _ hx, noB (by decide +kernel), .int (0 + (i : Nat)), rfl, .int wh, rfl, .int e, rfl, x, a, b, c, r, t, F, Z, hi, i, wh, e, by rw [Int.zero_add]; rfl, hB.same s2, by omega, hwh, he, hZ, hF, fun H3 p s3 hp => ?_⟩
      have hD3 := s3 _ _ hD2
      have npD : p ≠ D := fun w => by
        rw [w, hD3] at hp
        have e2 := HO.lst.inj (Option.some.inj hp)
        have e3 := congrArg List.length e2
        cases ws with
        | nil =>
          rw [fl_lenV] at e3
          cases e3
        | cons y ys =>
          obtain ⟨q0, hq0, _⟩ := hws 0 (by rw [← hwl]; exact Nat.succ_pos _)
          obtain rfl : y = .ref q0 := Option.some.inj hq0
          unfold fl at e2
          rw [List.range_succ_eq_map] at e2
          cases e2
      refine ⟨_, hD3, line_lt7 (by omega), ext_same (s2.trans s3) hD, ws ++ [.ref p], upd_same, by rw [List.length_append, hwl]; rfl, fun m hm => ?_⟩
      by_cases c1 : m < i
      · obtain ⟨q0, e1, e2, e3⟩ := hws m c1
        exact ⟨q0, by rw [List.getElem?_append_left (by omega)]; exact e1, by rw [upd_ne e3]; exact s3 _ _ e2, e3⟩
      · obtain rfl : m = i := by omega
        exact ⟨p, by rw [List.getElem?_append_right (by omega), hwl, Nat.sub_self]; rfl, by rw [upd_ne npD]; exact hp, npD⟩
    · rintro H2 ⟨s2, ws, hD2, hwl, hws⟩
      rw [en] at hwl hws
      exact q H2 D s2 ⟨ws, hD2, hwl, fun i hi => by
        obtain ⟨q0, e1, e2, _⟩ := hws i (by omega)
        exact ⟨q0, e1, e2⟩⟩
/-- a paper of the program -/
def spPaper (K : PySem.W.Frag) : Sp := fun vs H Q _ => ∃ (z : Addr) (a b c : Nat) (r t : List Nat) (e : Nat), vs = [.str (T r), .str (T t), .int (e : Int), .ref z] ∧ SqT K H z [.int a, .int b, .int c] ∧ e ≤ t.length ∧ t.length ≤ 10000 ∧ r.length ≤ 2000 ∧ c ≤ 10000 ∧
  ∀ (H' : Hp) (p p1 p2 p3 : Addr) (W : Nat), Same H H' → H' p = some (.tup [.ref p1, .ref p2, .ref p3]) → (∀ wh q, ([p1, p2, p3] : List Addr)[wh]? = some q → TabAt H' q r.length e (fun i j => cmp3 wh (wt a b c r t ((e : Int) - r.length - W - 1) (e - e + 2 * W + 3) e i j))) → ¬ badE b c r.length W (costW a b c r t e e W e) → Q (.ref p) H'
theorem ok_paper {f C : Addr} {fd : FuncData} {k : Nat} (F : Fun K "paper" "paper" sPaper f fd) (X : BnT K mg C) (hE : Has P w K mg base (k + 1) "exact_band" ["read", "text", "low", "high", "costs"] (spExact K C)) (hT : HasM P w K mg base C (k + 1) "table" ["self", "which", "end"] (spBTable C)) : FnOk P w K mg base CX0 (k + 2) f fd ["read", "text", "end", "costs"] (spPaper K) := by
  obtain ⟨fX, dX, GX, gX, kX, bX⟩ := hE
  obtain ⟨fM, dM, GM, mM, bM⟩ := hT
  refine F.ok scPaper (fun vs H Q E h => ?_) (fun cdv A outer s H vs Q E hr h => ?_)
  · obtain ⟨z, a, b, c, r, t, e, rfl, _⟩ := h
    rfl
  · obtain ⟨z, a, b, c, r, t, e, rfl, hz, het, htl, hrl, hc, q⟩ := h
    refine ⟨_, (pss_cons (ps_set (i := 4) scPaper.nd rfl (.inl rfl) (pe_call GX hr (by rfl) gX kX bX .nil pass0 (pa_cons (pv 0) (pa_cons (pv 1) (pa_cons (pv 2) (pa_cons (pv 2) (pa_cons (pv 3) pa_nil)))))))
      (pss_one (ps_ret (pe_tup (pa_cons (pe_meth (pv 4) X.cl mM GM hr bM .nil pass0 (pa_cons pe_int (pa_cons (pv 2) pa_nil))) (pa_cons (pe_meth (pv 4) X.cl mM GM hr bM .nil pass0 (pa_cons pe_int (pa_cons (pv 2) pa_nil))) (pa_cons (pe_meth (pv 4) X.cl mM GM hr bM .nil pass0 (pa_cons pe_int (pa_cons (pv 2) pa_nil))) pa_nil))))))), ?_⟩
    refine ⟨.str (T r), rfl, .str (T t), rfl, .int e, rfl, .int e, rfl, .ref z, rfl, z, a, b, c, r, t, e, e, rfl, hz, Nat.le_refl _, het, htl, hrl, hc, fun H1 x W s1 hB hW hbad => ?_⟩
    have hB' : BandAt C H1 x a b c r t ((e : Int) - r.length - W - 1) (e - e + 2 * W + 3) e := hB
    have noT : ∀ {H'}, Same H1 H' → ∃ dx fs, H' x = some (.ins C dx fs) ∧ fs.lookup ("table" : Str) = none := fun s' => by
      obtain ⟨dx, aL, aR, vs, hx, _⟩ := hB'.same s'
      exact ⟨dx, _, hx, noB (by decide +kernel)⟩
    obtain ⟨d1, f1, x1, y1⟩ := noT (Same.refl _)
    refine ⟨.ref x, rfl, x, d1, f1, rfl, x1, y1, .int e, rfl, x, a, b, c, r, t, _, _, e, 0, e, rfl, hB', by decide, by omega, by omega, by omega, by omega, fun H2 p1 s2 h2 => ?_⟩
    obtain ⟨d2, f2, x2, y2⟩ := noT s2
    refine ⟨.ref x, rfl, x, d2, f2, rfl, x2, y2, .int e, rfl, x, a, b, c, r, t, _, _, e, 1, e, rfl, hB'.same s2, by decide, by omega, by omega, by omega, by omega, fun H3 p2 s3 h3 => ?_⟩
    obtain ⟨d3, f3, x3, y3⟩ := noT (s2.trans s3)
    refine ⟨.ref x, rfl, x, d3, f3, rfl, x3, y3, .int e, rfl, x, a, b, c, r, t, _, _, e, 2, e, rfl, hB'.same (s2.trans s3), by decide, by omega, by omega, by omega, by omega, fun H4 p3 s4 h4 => ?_⟩
    refine ⟨by show 3 ≤ sizeLine; decide, fun p hp => ?_⟩
    have s5 := same_upd (o := .tup [V.ref p1, V.ref p2, V.ref p3]) hp
    refine q _ p p1 p2 p3 W (s1.trans (s2.trans (s3.trans (s4.trans s5)))) upd_same (fun wh y hy => ?_) (hbad e (Nat.le_refl _) (Nat.le_refl _))
    match wh, hy with
    | 0, hy =>
      obtain rfl : p1 = y := Option.some.inj hy
      exact h2.same (s3.trans (s4.trans s5))
    | 1, hy =>
      obtain rfl : p2 = y := Option.some.inj hy
      exact h3.same (s4.trans s5)
    | 2, hy =>
      obtain rfl : p3 = y := Option.some.inj hy
      exact h4.same s5
    | _ + 3, hy => cases hy
end
/-! ### what bounds a cell -/
def rIn1 : List V → Hp → VK → Prop := fun xs H Q => (∃ i, xs = [.int i] ∧ Q (.int i) H) ∨ ∃ k, xs = [.bl k] ∧ Q (.int (if k then 1 else 0)) H
def XL (te : TE) (σ : L2.St) (H0 : Hp) (l : List Int) : Prop := ∀ (H : Hp) (Q : VK), Same H0 H → (∀ (H' : Hp) (D : Addr), Same H H' → H' D = some (LI l) → Q (.ref D) H') → te σ H Q
def XN (te : TE) (σ : L2.St) (H0 : Hp) (v : Int) : Prop := ∀ (H : Hp) (Q : VK), Same H0 H → Q (.int v) H → te σ H Q
def XB (te : TE) (σ : L2.St) (H0 : Hp) (k : Bool) : Prop := ∀ (H : Hp) (Q : VK), Same H0 H → Q (.bl k) H → te σ H Q
def oL (k : Bool) (v : Int) : List Int := if k = true then [v] else []
section
variable {σ : L2.St} {H0 : Hp}
theorem xn_var {i : Nat} {v : Int} (h : σ[i]? = some (some (.int v))) : XN (tVar i) σ H0 v := fun _ _ _ q => ⟨_, h, q⟩
theorem xn_c {v : Int} : XN (tC (.int v)) σ H0 v := fun _ _ _ q => q
theorem xn_op {g : Int → Int → Int} {ta tb : TE} {x y : Int} (ha : XN ta σ H0 x) (hb : XN tb σ H0 y) : XN (tOp (rI0 fun i j => .int (g i j)) ta tb) σ H0 (g x y) := fun H Q s q => ha H _ s (hb H _ s ⟨x, y, rfl, rfl, q⟩)
theorem xb_gt {ta tb : TE} {x y : Int} (ha : XN ta σ H0 x) (hb : XN tb σ H0 y) : XB (tOp (rI0 fun i j => .bl (decide (j < i))) ta tb) σ H0 (decide (y < x)) := fun H Q s q => ha H _ s (hb H _ s ⟨x, y, rfl, rfl, q⟩)
theorem xb_eq {r : R2} {ta tb : TE} {x y : Int} {k : Bool} (ha : XN ta σ H0 x) (hb : XN tb σ H0 y) (hr : ∀ (H : Hp) (Q : VK), Q (.bl k) H → r (.int x) (.int y) H Q) : XB (tOp r ta tb) σ H0 k := fun H Q s q => ha H _ s (hb H _ s (hr H Q q))
theorem xb_or {ta tb : TE} {x y : Bool} (ha : XB ta σ H0 x) (hb : XB tb σ H0 y) : XB (tOrV ta tb) σ H0 (x || y) := fun H Q s q => ha H _ s ⟨x, rfl, by
  cases x with
  | true => exact iteT q
  | false => exact iteF (hb H _ s q)⟩
theorem xn_cell {K : PySem.W.Frag} {a : Nat} {p : Addr} {n e : Nat} {g : Nat → Nat → Int} {ti tj : TE} {i j : Nat} {x y : Int} (hp : σ[a]? = some (some (.ref p))) (ht : TabAt H0 p n e g) (hi : XN ti σ H0 x) (hj : XN tj σ H0 y) (ei : x = (i : Int)) (ej : y = (j : Int)) (hin : i ≤ n) (hje : j ≤ e) : XN (tOp (rIxL K) (tOp (rIxL K) (tVar a) ti) tj) σ H0 (g i j) := fun H Q s q => by
  obtain ⟨vs, hv, hl, hr⟩ := ht.same s
  obtain ⟨qa, e1, e2⟩ := hr i hin
  subst ei ej
  exact ⟨.ref p, hp, hi H _ s ⟨p, _, _, .ref qa, rfl, rfl, .inl (.inl hv), atI_nat e1, hj H _ s ⟨qa, _, _, .int (g i j), rfl, rfl, .inl (.inl e2), fl_ati _ rfl (by omega), q⟩⟩⟩
theorem xl_opt {tb elt : TE} {k : Bool} {v : Int} {s : Nat} (hb : XB tb σ H0 k) (he : k = true → ∀ kv : V, XN elt ((wipe σ [s]).set s (some kv)) H0 v) (hw : ∀ kv : V, wipe ((wipe σ [s]).set s (some kv)) [s] = wipe σ [s]) :
    XL (tLc (iRng1 (tCons (tCB rIn1 (tCons tb tNil)) tNil)) (gName s) tYes elt [s]) σ H0 (oL k v) := fun H Q s0 q => by
  refine hb H _ s0 (.inr ⟨k, rfl, (if k = true then 1 else 0), rfl, by split <;> omega, by split <;> omega, fun D hD => ?_⟩)
  refine lc_range (lo := 0) (n := ((if k = true then 1 else 0 : Int)).toNat) (fun m H' => Same H H' ∧ H' D = some (LI (if 0 < m then oL k v else []))) ⟨same_upd hD, upd_same⟩ ?_ ?_
  · rintro m H' hm ⟨s1, hd⟩
    have hk : k = true := by
      cases k with
      | true => rfl
      | false => exact absurd hm (Nat.not_lt_zero _)
    subst hk
    have hm0 : m = 0 := by
      have : m < 1 := hm
      omega
    subst hm0
    refine ⟨hw _, ?_⟩
    dsimp only [tYes]
    rw [if_pos rfl]
    exact he rfl _ H' _ (s0.trans s1) ⟨_, hd, by show 0 < sizeLine; decide, ext_same s1 hD, upd_same⟩
  · rintro H' ⟨s1, hd⟩
    refine q H' D s1 ?_
    cases k with
    | true => exact hd
    | false => exact hd
theorem xl_cat {ta tb : TE} {l m : List Int} (ha : XL ta σ H0 l) (hb : XL tb σ H0 m) (h : l.length + m.length ≤ 1000000) : XL (tOp rCat ta tb) σ H0 (l ++ m) := fun H Q s q => ha H _ s fun H1 p s1 hp => hb H1 _ (s.trans s1) fun H2 p2 s2 hp2 =>
  ⟨p, p2, _, _, rfl, rfl, s2 _ _ hp, hp2, line_ok6 (by rw [List.length_map, List.length_map]; omega), fun p3 hp3 => q _ p3 ((s1.trans s2).trans (same_upd hp3)) (by rw [upd_same]; show some (HO.lst (l.map V.int ++ m.map V.int)) = some (HO.lst ((l ++ m).map V.int)); rw [List.map_append])⟩
theorem xl_var {i : Nat} {a : Addr} {l : List Int} (hσ : σ[i]? = some (some (.ref a))) (hS : H0 a = some (LI l)) : XL (tVar i) σ H0 l := fun H Q s q => ⟨_, hσ, q H a (Same.refl _) (s _ _ hS)⟩
theorem xs_set {te : TE} {i : Nat} {D : Ends} {σ : L2.St} {H : Hp} {l : List Int} (h : XL te σ H l) (q : ∀ (H' : Hp) (a : Addr), Same H H' → H' a = some (LI l) → D.nx (σ.set i (some (.ref a))) H') : tAsg te (gName i) D σ H := h H _ (Same.refl _) fun H' a s' e => q H' a s' e
theorem xs_two {te : TE} {i : Nat} {b : TS} {D : Ends} {σ : L2.St} {H : Hp} {l : List Int} (h : XL te σ H l) (q : ∀ (H' : Hp) (a : Addr), Same H H' → H' a = some (LI l) → b D (σ.set i (some (.ref a))) H') : tSeq (tAsg te (gName i)) b D σ H := h H _ (Same.refl _) fun H' a s' e => q H' a s' e
theorem xs_seq {a b : TS} {D : Ends} {σ : L2.St} {H : Hp} (h : a { D with nx := b D } σ H) : tSeq a b D σ H := h
end
theorem oL_len (k : Bool) (v : Int) : (oL k v).length ≤ 1 := by
  unfold oL
  split
  · exact Nat.le_refl _
  · exact Nat.zero_le _
section
variable (gp gq gr : Nat → Nat → Int) (i j : Nat) (w o c : Int)
def bP : List Int := if i = 0 then [0] else if j = 0 then [] else oL (decide (V.int (i : Int) = V.int 1) || decide (1 < (j : Int))) (gp (i - 1) (j - 1) + w) ++ oL (decide (1 < (i : Int))) (gq (i - 1) (j - 1) + w) ++ oL (decide (1 < (j : Int))) (gr (i - 1) (j - 1) + w)
def bQ : List Int := if i = 0 then [] else oL (decide (V.int (i : Int) = V.int 1) || decide (0 < (j : Int))) (gp (i - 1) j + o) ++ oL (decide (0 < (j : Int))) (gr (i - 1) j + o) ++ oL (decide (1 < (i : Int))) (gq (i - 1) j + c)
def bR : List Int := if j = 0 then [] else oL (decide (V.int (i : Int) = V.int 0) || decide (1 < (j : Int))) (gp i (j - 1) + o) ++ oL (decide (0 < (i : Int))) (gq i (j - 1) + o) ++ oL (decide (1 < (j : Int))) (gr i (j - 1) + c)
end
def NCb : List Str := ["p", "q", "r", "i", "j", "w", "open_cost", "each", "pair", "extra", "gap", "k"]
theorem scCellB : FnScope NCb ["p", "q", "r", "i", "j", "w", "open_cost", "each"] (defScope sCellB) := ⟨rfl, rfl, rfl, by decide +kernel, rfl, by decide +kernel, by decide +kernel⟩
section
variable {P : Program} {w : World} {K : PySem.W.Frag} {mg : Str → Option Value} {base : Heap}
def spCellB : Sp := fun vs H Q _ => ∃ (p q r : Addr) (n e : Nat) (gp gq gr : Nat → Nat → Int) (i j : Nat) (w o c : Int), vs = [.ref p, .ref q, .ref r, .int (i : Int), .int (j : Int), .int w, .int o, .int c] ∧ TabAt H p n e gp ∧ TabAt H q n e gq ∧ TabAt H r n e gr ∧ i ≤ n ∧ j ≤ e ∧
  ∀ (H' : Hp) (t l1 l2 l3 : Addr), Same H H' → H' t = some (.tup [.ref l1, .ref l2, .ref l3]) → H' l1 = some (LI (bP gp gq gr i j w)) → H' l2 = some (LI (bQ gp gq gr i j o c)) → H' l3 = some (LI (bR gp gq gr i j o c)) → Q (.ref t) H'
theorem ok_cellB {f : Addr} {fd : FuncData} {k : Nat} (F : Fun K "_law_cell_bounds" "_law_cell_bounds" sCellB f fd) (B : Bl mg) : FnOk P w K mg base CX0 (k + 1) f fd ["p", "q", "r", "i", "j", "w", "open_cost", "each"] spCellB := by
  refine F.ok scCellB (fun vs H Q E h => ?_) (fun cdv A outer s H vs Q E hr h => ?_)
  · obtain ⟨p, q, r, n, e, gp, gq, gr, i, j, w, o, c, rfl, _⟩ := h
    rfl
  · obtain ⟨p, q, r, n, e, gp, gq, gr, i, j, w, o, c, rfl, hp, hq, hrr, hin, hje, qq⟩ := h
    refine ⟨_, (pss_cons (ps_set (i := 8) scCellB.nd rfl (.inl rfl) (pe_lst pa_nil))
      (pss_cons (ps_set (i := 9) scCellB.nd rfl (.inl rfl) (pe_lst pa_nil))
      (C8.pss_cut (ps_set (i := 10) scCellB.nd rfl (.inl rfl) (pe_lst pa_nil))
      (C8.pss_cut (ps_if (PW.pt (pw_and (pt_cmpR op_gt (pv 3) pe_int (nomark _)) (pw_and1 (pt_cmpR op_gt (pv 4) pe_int (nomark _))))) (pss_cons (ps_setLc (i := 8) (own := [("k", 11)]) (g := gName 11) (tt := tYes) (te := tOp (rI0 fun i j => V.int (i + j)) (tOp (rIxL K) (tOp (rIxL K) (tVar 0) (tOp (rI0 fun i j => V.int (i - j)) (tVar 3) (tC (.int 1)))) (tOp (rI0 fun i j => V.int (i - j)) (tVar 4) (tC (.int 1)))) (tVar 5)) (by rfl) scCellB.nd rfl rfl (sw_true rfl rfl rfl (by decide +kernel)) (pi_range1 rfl B.range (pa_cons (pe_callTy call_int1 (by rfl) B.int (by decide +kernel) (pa_cons (pe_or (pe_cmpR op_eq (pv 3) pe_int (nomark _)) (pe_one (pe_cmpR op_gt (pv 4) pe_int (nomark _)))) pa_nil)) pa_nil)) (blkOk_by (own := [("k", 11)]) (N := NCb) (sc := defScope sCellB) (by decide +kernel)) (fun _ _ _ _ _ => pg_name (i := 11) scCellB.nd rfl (Or.inl rfl)) (fun _ _ _ _ _ => pts_nil) (fun _ _ _ _ _ => pe_op op_add (pe_ix (r := rIxL K) ix_list (pe_ix (r := rIxL K) ix_list (pv 0) (pe_op op_sub (pv 3) pe_int) (fun _ _ => rfl)) (pe_op op_sub (pv 4) pe_int) (fun _ _ => rfl)) (pv 5)))
      (pss_one (ps_set (i := 8) scCellB.nd rfl (.inl rfl) (pe_op op_cat (pe_op op_cat (pv 8) (pe_lc (own := [("k", 11)]) (g := gName 11) (tt := tYes) (te := tOp (rI0 fun i j => V.int (i + j)) (tOp (rIxL K) (tOp (rIxL K) (tVar 1) (tOp (rI0 fun i j => V.int (i - j)) (tVar 3) (tC (.int 1)))) (tOp (rI0 fun i j => V.int (i - j)) (tVar 4) (tC (.int 1)))) (tVar 5)) (by rfl) scCellB.nd (pi_range1 rfl B.range (pa_cons (pe_callTy call_int1 (by rfl) B.int (by decide +kernel) (pa_cons (pe_cmpR op_gt (pv 3) pe_int (nomark _)) pa_nil)) pa_nil)) (blkOk_by (own := [("k", 11)]) (N := NCb) (sc := defScope sCellB) (by decide +kernel)) (fun _ _ _ _ _ => pg_name (i := 11) scCellB.nd rfl (Or.inl rfl)) (fun _ _ _ _ _ => pts_nil) (fun _ _ _ _ _ => pe_op op_add (pe_ix (r := rIxL K) ix_list (pe_ix (r := rIxL K) ix_list (pv 1) (pe_op op_sub (pv 3) pe_int) (fun _ _ => rfl)) (pe_op op_sub (pv 4) pe_int) (fun _ _ => rfl)) (pv 5)))) (pe_lc (own := [("k", 11)]) (g := gName 11) (tt := tYes) (te := tOp (rI0 fun i j => V.int (i + j)) (tOp (rIxL K) (tOp (rIxL K) (tVar 2) (tOp (rI0 fun i j => V.int (i - j)) (tVar 3) (tC (.int 1)))) (tOp (rI0 fun i j => V.int (i - j)) (tVar 4) (tC (.int 1)))) (tVar 5)) (by rfl) scCellB.nd (pi_range1 rfl B.range (pa_cons (pe_callTy call_int1 (by rfl) B.int (by decide +kernel) (pa_cons (pe_cmpR op_gt (pv 4) pe_int (nomark _)) pa_nil)) pa_nil)) (blkOk_by (own := [("k", 11)]) (N := NCb) (sc := defScope sCellB) (by decide +kernel)) (fun _ _ _ _ _ => pg_name (i := 11) scCellB.nd rfl (Or.inl rfl)) (fun _ _ _ _ _ => pts_nil) (fun _ _ _ _ _ => pe_op op_add (pe_ix (r := rIxL K) ix_list (pe_ix (r := rIxL K) ix_list (pv 2) (pe_op op_sub (pv 3) pe_int) (fun _ _ => rfl)) (pe_op op_sub (pv 4) pe_int) (fun _ _ => rfl)) (pv 5))))))) pss_nil)
      (C8.pss_cut (ps_if (pt_cmpR op_gt (pv 3) pe_int (nomark _)) (pss_cons (ps_setLc (i := 9) (own := [("k", 11)]) (g := gName 11) (tt := tYes) (te := tOp (rI0 fun i j => V.int (i + j)) (tOp (rIxL K) (tOp (rIxL K) (tVar 0) (tOp (rI0 fun i j => V.int (i - j)) (tVar 3) (tC (.int 1)))) (tVar 4)) (tVar 6)) (by rfl) scCellB.nd rfl rfl (sw_true rfl rfl rfl (by decide +kernel)) (pi_range1 rfl B.range (pa_cons (pe_callTy call_int1 (by rfl) B.int (by decide +kernel) (pa_cons (pe_or (pe_cmpR op_eq (pv 3) pe_int (nomark _)) (pe_one (pe_cmpR op_gt (pv 4) pe_int (nomark _)))) pa_nil)) pa_nil)) (blkOk_by (own := [("k", 11)]) (N := NCb) (sc := defScope sCellB) (by decide +kernel)) (fun _ _ _ _ _ => pg_name (i := 11) scCellB.nd rfl (Or.inl rfl)) (fun _ _ _ _ _ => pts_nil) (fun _ _ _ _ _ => pe_op op_add (pe_ix (r := rIxL K) ix_list (pe_ix (r := rIxL K) ix_list (pv 0) (pe_op op_sub (pv 3) pe_int) (fun _ _ => rfl)) (pv 4) (fun _ _ => rfl)) (pv 6)))
      (pss_one (ps_set (i := 9) scCellB.nd rfl (.inl rfl) (pe_op op_cat (pe_op op_cat (pv 9) (pe_lc (own := [("k", 11)]) (g := gName 11) (tt := tYes) (te := tOp (rI0 fun i j => V.int (i + j)) (tOp (rIxL K) (tOp (rIxL K) (tVar 2) (tOp (rI0 fun i j => V.int (i - j)) (tVar 3) (tC (.int 1)))) (tVar 4)) (tVar 6)) (by rfl) scCellB.nd (pi_range1 rfl B.range (pa_cons (pe_callTy call_int1 (by rfl) B.int (by decide +kernel) (pa_cons (pe_cmpR op_gt (pv 4) pe_int (nomark _)) pa_nil)) pa_nil)) (blkOk_by (own := [("k", 11)]) (N := NCb) (sc := defScope sCellB) (by decide +kernel)) (fun _ _ _ _ _ => pg_name (i := 11) scCellB.nd rfl (Or.inl rfl)) (fun _ _ _ _ _ => pts_nil) (fun _ _ _ _ _ => pe_op op_add (pe_ix (r := rIxL K) ix_list (pe_ix (r := rIxL K) ix_list (pv 2) (pe_op op_sub (pv 3) pe_int) (fun _ _ => rfl)) (pv 4) (fun _ _ => rfl)) (pv 6)))) (pe_lc (own := [("k", 11)]) (g := gName 11) (tt := tYes) (te := tOp (rI0 fun i j => V.int (i + j)) (tOp (rIxL K) (tOp (rIxL K) (tVar 1) (tOp (rI0 fun i j => V.int (i - j)) (tVar 3) (tC (.int 1)))) (tVar 4)) (tVar 7)) (by rfl) scCellB.nd (pi_range1 rfl B.range (pa_cons (pe_callTy call_int1 (by rfl) B.int (by decide +kernel) (pa_cons (pe_cmpR op_gt (pv 3) pe_int (nomark _)) pa_nil)) pa_nil)) (blkOk_by (own := [("k", 11)]) (N := NCb) (sc := defScope sCellB) (by decide +kernel)) (fun _ _ _ _ _ => pg_name (i := 11) scCellB.nd rfl (Or.inl rfl)) (fun _ _ _ _ _ => pts_nil) (fun _ _ _ _ _ => pe_op op_add (pe_ix (r := rIxL K) ix_list (pe_ix (r := rIxL K) ix_list (pv 1) (pe_op op_sub (pv 3) pe_int) (fun _ _ => rfl)) (pv 4) (fun _ _ => rfl)) (pv 7))))))) pss_nil)
      (C8.pss_cut (ps_if (pt_cmpR op_gt (pv 4) pe_int (nomark _)) (pss_cons (ps_setLc (i := 10) (own := [("k", 11)]) (g := gName 11) (tt := tYes) (te := tOp (rI0 fun i j => V.int (i + j)) (tOp (rIxL K) (tOp (rIxL K) (tVar 0) (tVar 3)) (tOp (rI0 fun i j => V.int (i - j)) (tVar 4) (tC (.int 1)))) (tVar 6)) (by rfl) scCellB.nd rfl rfl (sw_true rfl rfl rfl (by decide +kernel)) (pi_range1 rfl B.range (pa_cons (pe_callTy call_int1 (by rfl) B.int (by decide +kernel) (pa_cons (pe_or (pe_cmpR op_eq (pv 3) pe_int (nomark _)) (pe_one (pe_cmpR op_gt (pv 4) pe_int (nomark _)))) pa_nil)) pa_nil)) (blkOk_by (own := [("k", 11)]) (N := NCb) (sc := defScope sCellB) (by decide +kernel)) (fun _ _ _ _ _ => pg_name (i := 11) scCellB.nd rfl (Or.inl rfl)) (fun _ _ _ _ _ => pts_nil) (fun _ _ _ _ _ => pe_op op_add (pe_ix (r := rIxL K) ix_list (pe_ix (r := rIxL K) ix_list (pv 0) (pv 3) (fun _ _ => rfl)) (pe_op op_sub (pv 4) pe_int) (fun _ _ => rfl)) (pv 6)))
      (pss_one (ps_set (i := 10) scCellB.nd rfl (.inl rfl) (pe_op op_cat (pe_op op_cat (pv 10) (pe_lc (own := [("k", 11)]) (g := gName 11) (tt := tYes) (te := tOp (rI0 fun i j => V.int (i + j)) (tOp (rIxL K) (tOp (rIxL K) (tVar 1) (tVar 3)) (tOp (rI0 fun i j => V.int (i - j)) (tVar 4) (tC (.int 1)))) (tVar 6)) (by rfl) scCellB.nd (pi_range1 rfl B.range (pa_cons (pe_callTy call_int1 (by rfl) B.int (by decide +kernel) (pa_cons (pe_cmpR op_gt (pv 3) pe_int (nomark _)) pa_nil)) pa_nil)) (blkOk_by (own := [("k", 11)]) (N := NCb) (sc := defScope sCellB) (by decide +kernel)) (fun _ _ _ _ _ => pg_name (i := 11) scCellB.nd rfl (Or.inl rfl)) (fun _ _ _ _ _ => pts_nil) (fun _ _ _ _ _ => pe_op op_add (pe_ix (r := rIxL K) ix_list (pe_ix (r := rIxL K) ix_list (pv 1) (pv 3) (fun _ _ => rfl)) (pe_op op_sub (pv 4) pe_int) (fun _ _ => rfl)) (pv 6)))) (pe_lc (own := [("k", 11)]) (g := gName 11) (tt := tYes) (te := tOp (rI0 fun i j => V.int (i + j)) (tOp (rIxL K) (tOp (rIxL K) (tVar 2) (tVar 3)) (tOp (rI0 fun i j => V.int (i - j)) (tVar 4) (tC (.int 1)))) (tVar 7)) (by rfl) scCellB.nd (pi_range1 rfl B.range (pa_cons (pe_callTy call_int1 (by rfl) B.int (by decide +kernel) (pa_cons (pe_cmpR op_gt (pv 4) pe_int (nomark _)) pa_nil)) pa_nil)) (blkOk_by (own := [("k", 11)]) (N := NCb) (sc := defScope sCellB) (by decide +kernel)) (fun _ _ _ _ _ => pg_name (i := 11) scCellB.nd rfl (Or.inl rfl)) (fun _ _ _ _ _ => pts_nil) (fun _ _ _ _ _ => pe_op op_add (pe_ix (r := rIxL K) ix_list (pe_ix (r := rIxL K) ix_list (pv 2) (pv 3) (fun _ _ => rfl)) (pe_op op_sub (pv 4) pe_int) (fun _ _ => rfl)) (pv 7))))))) pss_nil)
      (C8.pss_cut (ps_if (pt_cmpR op_eq (pv 3) pe_int (nomark _)) (pss_one (ps_set (i := 8) scCellB.nd rfl (.inl rfl) (pe_lst (pa_cons pe_int pa_nil)))) pss_nil)
      (pss_one (ps_ret (pe_tup (pa_cons (pv 8) (pa_cons (pv 9) (pa_cons (pv 10) pa_nil))))))))))))), ?_⟩
    refine ⟨Nat.zero_le _, fun a1 h1 => ?_⟩
    have u1 := same_upd (o := .lst []) h1
    refine ⟨Nat.zero_le _, fun a2 h2 => ?_⟩
    have u2 := same_upd (o := .lst []) h2
    refine ⟨fun σ H' => Same H H' ∧ ∃ a1 a2 a3 : Addr, H' a1 = some (LI []) ∧ H' a2 = some (LI []) ∧ H' a3 = some (LI []) ∧ σ = [some (.ref p), some (.ref q), some (.ref r), some (.int (i : Int)), some (.int (j : Int)), some (.int w), some (.int o), some (.int c), some (.ref a1), some (.ref a2), some (.ref a3), none], ⟨Nat.zero_le _, fun a3 h3 => ⟨(u1.trans u2).trans (same_upd h3), a1, a2, a3, same_upd h3 _ _ (u2 _ _ upd_same), same_upd h3 _ _ upd_same, upd_same, rfl⟩⟩, ?_⟩
    rintro σ H1 ⟨s1, a1, a2, a3, e1, e2, e3, rfl⟩
    clear u1 u2
    -- pair
    refine ⟨fun σ H' => Same H H' ∧ ∃ (a1 : Addr) (v11 : Option V), H' a1 = some (LI (if i = 0 ∨ j = 0 then [] else bP gp gq gr i j w)) ∧ H' a2 = some (LI []) ∧ H' a3 = some (LI []) ∧ σ = [some (.ref p), some (.ref q), some (.ref r), some (.int (i : Int)), some (.int (j : Int)), some (.int w), some (.int o), some (.int c), some (.ref a1), some (.ref a2), some (.ref a3), v11], ?_, ?_⟩
    · refine ⟨.int i, rfl, _, 0, rfl, rfl, _, rfl, ite2 (fun ci => ?_) (fun ci => iteF ⟨s1, a1, none, ?_, e2, e3, rfl⟩)⟩
      rotate_left
      · have ci : ¬ ((i : Int) > 0) := fun y => ci (decide_eq_true y)
        rw [if_pos (.inl (by omega))]
        exact e1
      have ci := of_decide_eq_true ci
      refine ⟨.int j, rfl, _, 0, rfl, rfl, _, rfl, ite2 (fun cj => ?_) (fun cj => ⟨s1, a1, none, ?_, e2, e3, rfl⟩)⟩
      rotate_left
      · have cj : ¬ ((j : Int) > 0) := fun y => cj (decide_eq_true y)
        rw [if_pos (.inr (by omega))]
        exact e1
      have cj := of_decide_eq_true cj
      have ei : (i : Int) - 1 = ((i - 1 : Nat) : Int) := by omega
      have ej : (j : Int) - 1 = ((j - 1 : Nat) : Int) := by omega
      refine xs_two (l := oL (decide (V.int (i : Int) = V.int 1) || decide (1 < (j : Int))) (gp (i - 1) (j - 1) + w)) ?_ fun H2 D s2 hD => ?_
      · exact xl_opt (xb_or (xb_eq (k := decide (V.int (i : Int) = V.int 1)) (xn_var (by rfl)) xn_c (by exact fun _ _ q => ⟨rfl, q⟩)) (xb_gt (xn_var (by rfl)) xn_c)) (fun _ kv => xn_op (xn_cell (a := 0) (by rfl) (hp.same s1) (xn_op (xn_var (by rfl)) xn_c) (xn_op (xn_var (by rfl)) xn_c) ei ej (by omega) (by omega)) (xn_var (by rfl))) (fun _ => by rfl)
      have s12 := s1.trans s2
      refine xs_set (l := oL (decide (V.int (i : Int) = V.int 1) || decide (1 < (j : Int))) (gp (i - 1) (j - 1) + w) ++ oL (decide (1 < (i : Int))) (gq (i - 1) (j - 1) + w) ++ oL (decide (1 < (j : Int))) (gr (i - 1) (j - 1) + w)) ?_ fun H3 D3 s3 hD3 => ?_
      · exact xl_cat (xl_cat (xl_var (by rfl) hD) (xl_opt (xb_gt (xn_var (by rfl)) xn_c) (fun _ kv => xn_op (xn_cell (a := 1) (by rfl) (hq.same s12) (xn_op (xn_var (by rfl)) xn_c) (xn_op (xn_var (by rfl)) xn_c) ei ej (by omega) (by omega)) (xn_var (by rfl))) (fun _ => by rfl)) (by have := oL_len (decide (V.int (i : Int) = V.int 1) || decide (1 < (j : Int))) (gp (i - 1) (j - 1) + w); have := oL_len (decide (1 < (i : Int))) (gq (i - 1) (j - 1) + w); omega)) (xl_opt (xb_gt (xn_var (by rfl)) xn_c) (fun _ kv => xn_op (xn_cell (a := 2) (by rfl) (hrr.same s12) (xn_op (xn_var (by rfl)) xn_c) (xn_op (xn_var (by rfl)) xn_c) ei ej (by omega) (by omega)) (xn_var (by rfl))) (fun _ => by rfl)) (by rw [List.length_append]; have := oL_len (decide (V.int (i : Int) = V.int 1) || decide (1 < (j : Int))) (gp (i - 1) (j - 1) + w); have := oL_len (decide (1 < (i : Int))) (gq (i - 1) (j - 1) + w); have := oL_len (decide (1 < (j : Int))) (gr (i - 1) (j - 1) + w); omega)
      have s23 := s2.trans s3
      refine ⟨s1.trans s23, D3, none, ?_, s23 _ _ e2, s23 _ _ e3, rfl⟩
      rw [if_neg (by omega), hD3]
      unfold bP
      rw [if_neg (by omega), if_neg (by omega)]
    rintro σ H1 ⟨s1, a1, v11, e1, e2, e3, rfl⟩
    -- extra
    refine ⟨fun σ H' => Same H H' ∧ ∃ (a2 : Addr) (v11 : Option V), H' a1 = some (LI (if i = 0 ∨ j = 0 then [] else bP gp gq gr i j w)) ∧ H' a2 = some (LI (bQ gp gq gr i j o c)) ∧ H' a3 = some (LI []) ∧ σ = [some (.ref p), some (.ref q), some (.ref r), some (.int (i : Int)), some (.int (j : Int)), some (.int w), some (.int o), some (.int c), some (.ref a1), some (.ref a2), some (.ref a3), v11], ?_, ?_⟩
    · refine ⟨.int i, rfl, _, 0, rfl, rfl, _, rfl, ite2 (fun ci => ?_) (fun ci => ⟨s1, a2, v11, e1, ?_, e3, rfl⟩)⟩
      rotate_left
      · have ci : ¬ ((i : Int) > 0) := fun y => ci (decide_eq_true y)
        unfold bQ
        rw [if_pos (by omega)]
        exact e2
      have ci := of_decide_eq_true ci
      have ei : (i : Int) - 1 = ((i - 1 : Nat) : Int) := by omega
      refine xs_two (l := oL (decide (V.int (i : Int) = V.int 1) || decide (0 < (j : Int))) (gp (i - 1) j + o)) ?_ fun H2 D s2 hD => ?_
      · exact xl_opt (xb_or (xb_eq (k := decide (V.int (i : Int) = V.int 1)) (xn_var (by rfl)) xn_c (by exact fun _ _ q => ⟨rfl, q⟩)) (xb_gt (xn_var (by rfl)) xn_c)) (fun _ kv => xn_op (xn_cell (a := 0) (by rfl) (hp.same s1) (xn_op (xn_var (by rfl)) xn_c) (xn_var (by rfl)) ei rfl (by omega) (by omega)) (xn_var (by rfl))) (fun _ => by rfl)
      have s12 := s1.trans s2
      refine xs_set (l := oL (decide (V.int (i : Int) = V.int 1) || decide (0 < (j : Int))) (gp (i - 1) j + o) ++ oL (decide (0 < (j : Int))) (gr (i - 1) j + o) ++ oL (decide (1 < (i : Int))) (gq (i - 1) j + c)) ?_ fun H3 D3 s3 hD3 => ?_
      · exact xl_cat (xl_cat (xl_var (by rfl) hD) (xl_opt (xb_gt (xn_var (by rfl)) xn_c) (fun _ kv => xn_op (xn_cell (a := 2) (by rfl) (hrr.same s12) (xn_op (xn_var (by rfl)) xn_c) (xn_var (by rfl)) ei rfl (by omega) (by omega)) (xn_var (by rfl))) (fun _ => by rfl)) (by have := oL_len (decide (V.int (i : Int) = V.int 1) || decide (0 < (j : Int))) (gp (i - 1) j + o); have := oL_len (decide (0 < (j : Int))) (gr (i - 1) j + o); omega)) (xl_opt (xb_gt (xn_var (by rfl)) xn_c) (fun _ kv => xn_op (xn_cell (a := 1) (by rfl) (hq.same s12) (xn_op (xn_var (by rfl)) xn_c) (xn_var (by rfl)) ei rfl (by omega) (by omega)) (xn_var (by rfl))) (fun _ => by rfl)) (by rw [List.length_append]; have := oL_len (decide (V.int (i : Int) = V.int 1) || decide (0 < (j : Int))) (gp (i - 1) j + o); have := oL_len (decide (0 < (j : Int))) (gr (i - 1) j + o); have := oL_len (decide (1 < (i : Int))) (gq (i - 1) j + c); omega)
      have s23 := s2.trans s3
      refine ⟨s1.trans s23, D3, v11, s23 _ _ e1, ?_, s23 _ _ e3, rfl⟩
      rw [hD3]
      unfold bQ
      rw [if_neg (by omega)]
    rintro σ H1 ⟨s1, a2, v11, e1, e2, e3, rfl⟩
    -- gap
    refine ⟨fun σ H' => Same H H' ∧ ∃ (a3 : Addr) (v11 : Option V), H' a1 = some (LI (if i = 0 ∨ j = 0 then [] else bP gp gq gr i j w)) ∧ H' a2 = some (LI (bQ gp gq gr i j o c)) ∧ H' a3 = some (LI (bR gp gq gr i j o c)) ∧ σ = [some (.ref p), some (.ref q), some (.ref r), some (.int (i : Int)), some (.int (j : Int)), some (.int w), some (.int o), some (.int c), some (.ref a1), some (.ref a2), some (.ref a3), v11], ?_, ?_⟩
    · refine ⟨.int j, rfl, _, 0, rfl, rfl, _, rfl, ite2 (fun cj => ?_) (fun cj => ⟨s1, a3, v11, e1, e2, ?_, rfl⟩)⟩
      rotate_left
      · have cj : ¬ ((j : Int) > 0) := fun y => cj (decide_eq_true y)
        unfold bR
        rw [if_pos (by omega)]
        exact e3
      have cj := of_decide_eq_true cj
      have ej : (j : Int) - 1 = ((j - 1 : Nat) : Int) := by omega
      refine xs_two (l := oL (decide (V.int (i : Int) = V.int 0) || decide (1 < (j : Int))) (gp i (j - 1) + o)) ?_ fun H2 D s2 hD => ?_
      · exact xl_opt (xb_or (xb_eq (k := decide (V.int (i : Int) = V.int 0)) (xn_var (by rfl)) xn_c (by exact fun _ _ q => ⟨rfl, q⟩)) (xb_gt (xn_var (by rfl)) xn_c)) (fun _ kv => xn_op (xn_cell (a := 0) (by rfl) (hp.same s1) (xn_var (by rfl)) (xn_op (xn_var (by rfl)) xn_c) rfl ej (by omega) (by omega)) (xn_var (by rfl))) (fun _ => by rfl)
      have s12 := s1.trans s2
      refine xs_set (l := oL (decide (V.int (i : Int) = V.int 0) || decide (1 < (j : Int))) (gp i (j - 1) + o) ++ oL (decide (0 < (i : Int))) (gq i (j - 1) + o) ++ oL (decide (1 < (j : Int))) (gr i (j - 1) + c)) ?_ fun H3 D3 s3 hD3 => ?_
      · exact xl_cat (xl_cat (xl_var (by rfl) hD) (xl_opt (xb_gt (xn_var (by rfl)) xn_c) (fun _ kv => xn_op (xn_cell (a := 1) (by rfl) (hq.same s12) (xn_var (by rfl)) (xn_op (xn_var (by rfl)) xn_c) rfl ej (by omega) (by omega)) (xn_var (by rfl))) (fun _ => by rfl)) (by have := oL_len (decide (V.int (i : Int) = V.int 0) || decide (1 < (j : Int))) (gp i (j - 1) + o); have := oL_len (decide (0 < (i : Int))) (gq i (j - 1) + o); omega)) (xl_opt (xb_gt (xn_var (by rfl)) xn_c) (fun _ kv => xn_op (xn_cell (a := 2) (by rfl) (hrr.same s12) (xn_var (by rfl)) (xn_op (xn_var (by rfl)) xn_c) rfl ej (by omega) (by omega)) (xn_var (by rfl))) (fun _ => by rfl)) (by rw [List.length_append]; have := oL_len (decide (V.int (i : Int) = V.int 0) || decide (1 < (j : Int))) (gp i (j - 1) + o); have := oL_len (decide (0 < (i : Int))) (gq i (j - 1) + o); have := oL_len (decide (1 < (j : Int))) (gr i (j - 1) + c); omega)
      have s23 := s2.trans s3
      refine ⟨s1.trans s23, D3, v11, s23 _ _ e1, s23 _ _ e2, ?_, rfl⟩
      rw [hD3]
      unfold bR
      rw [if_neg (by omega)]
    rintro σ H1 ⟨s1, a3, v11, e1, e2, e3, rfl⟩
    refine ⟨fun σ H' => Same H H' ∧ ∃ (a1 : Addr) (v11 : Option V), H' a1 = some (LI (bP gp gq gr i j w)) ∧ H' a2 = some (LI (bQ gp gq gr i j o c)) ∧ H' a3 = some (LI (bR gp gq gr i j o c)) ∧ σ = [some (.ref p), some (.ref q), some (.ref r), some (.int (i : Int)), some (.int (j : Int)), some (.int w), some (.int o), some (.int c), some (.ref a1), some (.ref a2), some (.ref a3), v11], ?_, ?_⟩
    · refine ⟨.int i, rfl, rfl, _, rfl, ite2 (fun ci => ?_) (fun ci => ⟨s1, a1, v11, ?_, e2, e3, rfl⟩)⟩
      · have ci : (i : Int) = 0 := V.int.inj (of_decide_eq_true ci)
        refine ⟨by show 1 ≤ sizeLine; decide, fun D hD => ?_⟩
        have u := same_upd (o := .lst [V.int 0]) hD
        refine ⟨s1.trans u, D, v11, ?_, u _ _ e2, u _ _ e3, rfl⟩
        unfold bP
        rw [if_pos (by omega), upd_same]
        rfl
      · have ci : ¬ ((i : Int) = 0) := fun y => ci (decide_eq_true (congrArg V.int y))
        rw [e1]
        by_cases cj : j = 0
        · unfold bP
          rw [if_pos (.inr cj), if_neg (by omega), if_pos cj]
        · rw [if_neg (by omega)]
    rintro σ H1 ⟨s1, a1, v11, e1, e2, e3, rfl⟩
    refine ⟨.ref a1, rfl, .ref a2, rfl, .ref a3, rfl, by show 3 ≤ sizeLine; decide, fun t ht => ?_⟩
    have u := same_upd (o := .tup [V.ref a1, V.ref a2, V.ref a3]) ht
    exact qq _ t a1 a2 a3 (s1.trans u) upd_same (u _ _ e1) (u _ _ e2) (u _ _ e3)
end
theorem at_T {l : List Nat} {i : Nat} (h : i < l.length) : atI (T l).cps.toList (i : Int) = some l[i] := atI_nat (List.getElem?_eq_getElem h)
theorem cut_some (l : List Nat) (lo hi : Option Int) : ∃ m : List Nat, cutS (T l) lo hi = T m ∧ (∀ c ∈ m, c ∈ l) ∧ m.length ≤ l.length := by
  refine ⟨_, rfl, fun c hc => List.mem_of_mem_drop (List.mem_of_mem_take hc), ?_⟩
  rw [List.length_take, List.length_drop, T_list]
  omega
theorem scLRead : FnScope ["cell", "text", "size", "x", "start", "read", "k", "y", "at", "letter"] ["cell", "text", "size"] (defScope sLRead) := ⟨rfl, rfl, rfl, by decide +kernel, rfl, by decide +kernel, by decide +kernel⟩
theorem sg_at (x : Int) : ∃ c, Sg c ∧ atI (Str.ofString "ACGTN").cps.toList (x % 5) = some c := by
  have h : x % 5 = 0 ∨ x % 5 = 1 ∨ x % 5 = 2 ∨ x % 5 = 3 ∨ x % 5 = 4 := by omega
  rcases h with h | h | h | h | h <;> rw [h]
  · exact ⟨65, .inl rfl, by decide +kernel⟩
  · exact ⟨67, .inr (.inl rfl), by decide +kernel⟩
  · exact ⟨71, .inr (.inr (.inl rfl)), by decide +kernel⟩
  · exact ⟨84, .inr (.inr (.inr (.inl rfl))), by decide +kernel⟩
  · exact ⟨78, .inr (.inr (.inr (.inr rfl))), by decide +kernel⟩
section
variable {P : Program} {w : World} {K : PySem.W.Frag} {mg : Str → Option Value} {base : Heap}
def spLRead : Sp := fun vs H Q _ => ∃ (c : Int) (t : List Nat) (z : Nat), vs = [.int c, .str (T t), .int (z : Int)] ∧ Dna t ∧ 1 ≤ t.length ∧ t.length ≤ 1000 ∧ 1 ≤ z ∧ ∀ l : List Nat, Dna l → 1 ≤ l.length → l.length ≤ 8 * (t.length + 1) → Q (.str (T l)) H
theorem cut_fromR (l : List Nat) (k : Nat) : cutS (T l) (some (k : Int)) none = T (l.drop k) := by
  unfold cutS
  rw [HT.sIx_nat, HT.sIx_none, T_len, T_list]
  show Str.mk _ = Str.mk _
  congr 2
  rw [List.take_of_length_le (by rw [List.length_drop]; omega)]
  by_cases h : k ≤ l.length
  · rw [Nat.min_eq_left h]
  · rw [Nat.min_eq_right (by omega), List.drop_of_length_le (Nat.le_refl _), List.drop_of_length_le (by omega)]
theorem cut_dna {l : List Nat} (h : Dna l) (lo hi : Option Int) : ∃ m : List Nat, cutS (T l) lo hi = T m ∧ Dna m ∧ m.length ≤ l.length := by
  obtain ⟨m, e, hm, hl⟩ := cut_some l lo hi
  exact ⟨m, e, fun c hc => h c (hm c hc), hl⟩
theorem ok_lread {f : Addr} {fd : FuncData} {k : Nat} (F : Fun K "_law_read" "_law_read" sLRead f fd) (B : Bl mg) (hU : Has P w K mg base (k + 1) "_law_turned" ["text"] spLTurned) : FnOk P w K mg base CX0 (k + 2) f fd ["cell", "text", "size"] spLRead := by
  obtain ⟨fU, dU, GU, gU, kU, bU⟩ := hU
  refine F.ok scLRead (fun vs H Q E h => ?_) (fun cdv A outer s H vs Q E hr h => ?_)
  · obtain ⟨c, t, z, rfl, _⟩ := h
    rfl
  · obtain ⟨c, t, z, rfl, dt, ht1, htl, hz1, q⟩ := h
    refine ⟨_, (C8.pss_cut (ps_set (i := 3) scLRead.nd rfl (.inl rfl) (pe_callB call_abs (by rfl) B.abs (by decide +kernel) (pa_cons (pe_callTy call_int1 (by rfl) B.int (by decide +kernel) (pa_cons (pv 0) pa_nil)) pa_nil)))
      (pss_cons (ps_set (i := 4) scLRead.nd rfl (.inl rfl) (pe_op op_mod (pv 3) (pe_callB call_len_str (by rfl) B.len PySem.boot_len (pa_cons (pv 1) pa_nil))))
      (C8.pss_cut (ps_set (i := 5) scLRead.nd rfl (.inl rfl) (pe_slice sl_str (pv 1) (po_some (pv 4)) (po_some (pe_op op_add (pv 4) (pv 2)))))
      (pss_cons (ps_for PassesOwn.never rfl (pi_range1 rfl B.range (pa_cons (pe_op op_mod (pe_op op_fdiv (pv 3) pe_int) pe_int) pa_nil)) (pg_name (i := 6) scLRead.nd rfl (.inl rfl))
        (C8.pss_cut (ps_set (i := 7) scLRead.nd rfl (.inl rfl) (pe_op op_fdiv (pv 3) (pe_op op_add pe_int (pe_op op_mul pe_int (pv 6)))))
      (C8.pss_cut (ps_set (i := 8) scLRead.nd rfl (.inl rfl) (pe_op op_mod (pv 7) (pe_op op_add (pe_callB call_len_str (by rfl) B.len PySem.boot_len (pa_cons (pv 5) pa_nil)) pe_int)))
      (C8.pss_cut (ps_set (i := 9) scLRead.nd rfl (.inl rfl) (pe_ix ix_str pe_str (pe_op op_mod (pe_op op_fdiv (pv 7) pe_int) pe_int) (fun _ _ => rfl)))
      (pss_one (ps_if (pt_cmpR op_eq (pe_op op_mod (pe_op op_fdiv (pv 7) pe_int) pe_int) pe_int (nomark _)) (pss_one (ps_set (i := 5) scLRead.nd rfl (.inl rfl) (pe_op op_add_str (pe_op op_add_str (pe_slice sl_str (pv 5) po_none (po_some (pv 8))) (pv 9)) (pe_slice sl_str (pv 5) (po_some (pv 8)) po_none)))) (pss_one (ps_if (PW.pt (pw_and (pt_cmpR op_eq (pe_op op_mod (pe_op op_fdiv (pv 7) pe_int) pe_int) pe_int (nomark _)) (pw_and1 (pt_cmpR op_gt (pe_callB call_len_str (by rfl) B.len PySem.boot_len (pa_cons (pv 5) pa_nil)) pe_int (nomark _))))) (pss_one (ps_set (i := 5) scLRead.nd rfl (.inl rfl) (pe_op op_add_str (pe_slice sl_str (pv 5) po_none (po_some (pv 8))) (pe_slice sl_str (pv 5) (po_some (pe_op op_add (pv 8) pe_int)) po_none)))) (pss_one (ps_set (i := 5) scLRead.nd rfl (.inl rfl) (pe_op op_add_str (pe_op op_add_str (pe_slice sl_str (pv 5) po_none (po_some (pv 8))) (pv 9)) (pe_slice sl_str (pv 5) (po_some (pe_op op_add (pv 8) pe_int)) po_none))))))))))))
      (pss_cons (ps_if (pt_cmpR op_eq (pe_op op_mod (pe_op op_fdiv (pv 3) pe_int) pe_int) pe_int (nomark _)) (pss_one (ps_ret (pe_call GU hr (by rfl) gU kU bU .nil pass0 (pa_cons (pv 5) pa_nil)))) pss_nil)
      (pss_one (ps_ret (pv 5)))))))), ?_⟩
    have hz : (T t).length ≤ sizeLine := line_ok (by rw [T_len]; omega)
    refine ⟨fun σ H1 => H1 = H ∧ ∃ x : Int, 0 ≤ x ∧ σ = [some (.int c), some (.str (T t)), some (.int z), some (.int x), none, none, none, none, none, none], ⟨.int c, rfl, .inl ⟨c, rfl, c, rfl, rfl, if c < 0 then -c else c, by split <;> omega, rfl⟩⟩, ?_⟩
    rintro σ H1 ⟨rfl, x, x0, rfl⟩
    refine ⟨_, rfl, _, rfl, T t, rfl, hz, _, _, rfl, rfl, by show (0 : Int) < ((T t).length : Nat); rw [T_len]; omega, ?_⟩
    refine ⟨fun σ H2 => H2 = H1 ∧ ∃ (l : List Nat) (v4 : Option V), Dna l ∧ l.length ≤ t.length ∧ 1 ≤ l.length ∧ σ = [some (.int c), some (.str (T t)), some (.int z), some (.int x), v4, some (.str (T l)), none, none, none, none], ?_, ?_⟩
    · obtain ⟨m, em, dm, lm, lm1⟩ : ∃ m : List Nat, cutS (T t) (some (x % ((T t).length : Nat))) (some (x % ((T t).length : Nat) + z)) = T m ∧ Dna m ∧ m.length ≤ t.length ∧ 1 ≤ m.length := by
        have y0 := Int.emod_nonneg x (show (((T t).length : Nat) : Int) ≠ 0 by rw [T_len]; omega)
        have y1 := Int.emod_lt_of_pos x (show (0 : Int) < ((T t).length : Nat) by rw [T_len]; omega)
        obtain ⟨n, hn⟩ : ∃ n : Nat, x % ((T t).length : Nat) = (n : Int) := ⟨(x % ((T t).length : Nat)).toNat, by omega⟩
        rw [hn] at y1 ⊢
        rw [T_len] at y1
        refine ⟨(t.drop n).take (n + z - n), by rw [← Int.natCast_add]; exact cut_mid t n (n + z), fun c hc => dt c (List.mem_of_mem_drop (List.mem_of_mem_take hc)), ?_, ?_⟩
        · rw [List.length_take, List.length_drop]
          omega
        · rw [List.length_take, List.length_drop]
          omega
      refine ⟨_, rfl, _, rfl, _, rfl, _, rfl, _, rfl, _, _, rfl, rfl, _, rfl, T t, rfl, hz, rfl, m, some (.int (x % ((T t).length : Nat))), dm, lm, lm1, ?_⟩
      rw [em]
      rfl
    rintro σ H2 ⟨rfl, l0, v4, dl0, ll0, ll01, rfl⟩
    have b0 := Int.emod_nonneg (x / 101) (show (4 : Int) ≠ 0 by decide)
    have b1 := Int.emod_lt_of_pos (x / 101) (show (0 : Int) < 4 by decide)
    refine ⟨_, rfl, _, 101, rfl, rfl, ⟨by decide, by decide⟩, _, 4, rfl, rfl, (show (0 : Int) < 4 by decide), _, rfl, by omega, by omega, ?_⟩
    refine for_range (lo := 0) (n := (x / 101 % 4).toNat) (fun i σ H' => H' = H2 ∧ ∃ (l : List Nat) (v6 v7 v8 v9 : Option V), Dna l ∧ l.length + 1 ≤ (t.length + 1) * 2 ^ i ∧ 1 ≤ l.length ∧ σ = [some (.int c), some (.str (T t)), some (.int z), some (.int x), v4, some (.str (T l)), v6, v7, v8, v9]) ⟨rfl, l0, none, none, none, none, dl0, by rw [Nat.pow_zero]; omega, ll01, rfl⟩ ?_ ?_
    · rintro i σ H' hi ⟨rfl, l, v6, v7, v8, v9, dl, ll, lo1, rfl⟩
      have hi4 : i < 4 := by omega
      have hll : l.length + 1 ≤ 8 * (t.length + 1) := by
        have : (2 : Nat) ^ i ≤ 2 ^ 3 := Nat.pow_le_pow_right (by decide) (by omega)
        have h2 := Nat.mul_le_mul_left (t.length + 1) this
        omega
      have hpow : (t.length + 1) * 2 ^ (i + 1) = 2 * ((t.length + 1) * 2 ^ i) := by
        rw [Nat.pow_succ, ← Nat.mul_assoc, Nat.mul_comm]
      have hzl : (T l).length ≤ sizeLine := line_ok (by rw [T_len]; omega)
      refine ⟨fun σ H3 => H3 = H' ∧ ∃ y : Int, σ = [some (.int c), some (.str (T t)), some (.int z), some (.int x), v4, some (.str (T l)), some (.int (0 + (i : Nat))), some (.int y), v8, v9], ⟨_, rfl, _, rfl, 17, _, rfl, rfl, .inl ⟨by decide, by decide⟩, 303, _, rfl, rfl, x, _, rfl, rfl, ⟨by omega, by omega⟩, rfl, _, rfl⟩, ?_⟩
      rintro σ H3 ⟨rfl, y, rfl⟩
      refine ⟨fun σ H4 => H4 = H3 ∧ ∃ a : Int, 0 ≤ a ∧ a ≤ l.length ∧ σ = [some (.int c), some (.str (T t)), some (.int z), some (.int x), v4, some (.str (T l)), some (.int (0 + (i : Nat))), some (.int y), some (.int a), v9], ⟨_, rfl, _, rfl, T l, rfl, hzl, _, 1, rfl, rfl, _, _, rfl, rfl, by show (0 : Int) < ((T l).length : Nat) + 1; omega, rfl, _, Int.emod_nonneg _ (by show (((T l).length : Nat) : Int) + 1 ≠ 0; omega), by have h := Int.emod_lt_of_pos y (show (0 : Int) < ((T l).length : Nat) + 1 by omega); rw [T_len] at h ⊢; omega, rfl⟩, ?_⟩
      rintro σ H4 ⟨rfl, a, ha0, ha1, rfl⟩
      refine ⟨fun σ H5 => H5 = H4 ∧ ∃ d : Nat, Sg d ∧ σ = [some (.int c), some (.str (T t)), some (.int z), some (.int x), v4, some (.str (T l)), some (.int (0 + (i : Nat))), some (.int y), some (.int a), some (.str (T [d]))], ?_, ?_⟩
      · obtain ⟨d, hd, hat⟩ := sg_at (y / 7)
        exact ⟨_, rfl, y, 7, rfl, rfl, ⟨by decide, by decide⟩, _, 5, rfl, rfl, (show (0 : Int) < 5 by decide), _, _, d, rfl, rfl, by decide, hat, rfl, d, hd, rfl⟩
      rintro σ H5 ⟨rfl, d, hd, rfl⟩
      obtain ⟨m1, em1, dm1, lm1⟩ := cut_dna dl none (some a)
      obtain ⟨m2, em2, dm2, lm2⟩ := cut_dna dl (some a) none
      obtain ⟨m3, em3, dm3, lm3⟩ := cut_dna dl (some (a + 1)) none
      have three : ∀ m : List Nat, m.length ≤ l.length → (T m1).length + (T [d]).length ≤ sizeLine ∧ (T m1 ++ T [d]).length + (T m).length ≤ sizeLine ∧ (m1 ++ [d] ++ m).length + 1 ≤ (t.length + 1) * 2 ^ (i + 1) ∧ 1 ≤ (m1 ++ [d] ++ m).length := fun m hm => by
        refine ⟨line_ok (by rw [T_len, T_len, List.length_singleton]; omega), line_ok (by rw [T_app, T_len, T_len, List.length_append, List.length_singleton]; omega), ?_, ?_⟩
        · rw [hpow, List.length_append, List.length_append, List.length_singleton]
          omega
        · rw [List.length_append, List.length_append, List.length_singleton]
          omega
      refine ⟨_, rfl, y, 35, rfl, rfl, ⟨by decide, by decide⟩, _, 3, rfl, rfl, (show (0 : Int) < 3 by decide), rfl, _, rfl, ite2 (fun _ => ?_) (fun _ => ?_)⟩
      · obtain ⟨h1, h2, h3, h4⟩ := three m2 lm2
        refine ⟨_, rfl, _, rfl, a, rfl, T l, rfl, hzl, _, rfl, _, _, rfl, rfl, by rw [em1]; exact h1, _, rfl, _, rfl, a, rfl, T l, rfl, hzl, _, _, rfl, rfl, by rw [em1, em2]; exact h2, rfl, m1 ++ [d] ++ m2, some (.int (0 + (i : Nat))), some (.int y), some (.int a), some (.str (T [d])), (dm1.app (.one hd)).app dm2, h3, h4, ?_⟩
        rw [em1, em2, ← T_app, ← T_app]
        rfl
      have other : ∃ _ : True, True := ⟨trivial, trivial⟩
      refine ⟨_, rfl, y, 35, rfl, rfl, ⟨by decide, by decide⟩, _, 3, rfl, rfl, (show (0 : Int) < 3 by decide), rfl, _, rfl, ite2 (fun _ => ?_) (fun _ => ?_)⟩
      · refine ⟨_, rfl, T l, rfl, hzl, _, 1, rfl, rfl, _, rfl, ite2 (fun cl => ?_) (fun _ => ?_)⟩
        · refine ⟨_, rfl, _, rfl, a, rfl, T l, rfl, hzl, _, rfl, _, rfl, _, 1, rfl, rfl, a + 1, rfl, T l, rfl, hzl, _, _, rfl, rfl, ?_, rfl, m1 ++ m3, some (.int (0 + (i : Nat))), some (.int y), some (.int a), some (.str (T [d])), dm1.app dm3, ?_, ?_, ?_⟩
          · rw [em1, em3]
            exact line_ok (by rw [T_len, T_len]; omega)
          · rw [hpow, List.length_append]
            omega
          · have cl := of_decide_eq_true cl
            rw [T_len] at cl
            obtain ⟨n, rfl⟩ : ∃ n : Nat, a = (n : Int) := ⟨a.toNat, by omega⟩
            have x1 : m1 = l.take n := T_inj (em1.symm.trans (cut_head l n))
            have x3 : m3 = l.drop (n + 1) := T_inj (em3.symm.trans (by rw [show (n : Int) + 1 = ((n + 1 : Nat) : Int) by omega]; exact cut_fromR l (n + 1)))
            rw [x1, x3, List.length_append, List.length_take, List.length_drop]
            omega
          · rw [em1, em3, ← T_app]
            rfl
        · obtain ⟨h1, h2, h3, h4⟩ := three m3 lm3
          refine ⟨_, rfl, _, rfl, a, rfl, T l, rfl, hzl, _, rfl, _, _, rfl, rfl, by rw [em1]; exact h1, _, rfl, _, rfl, _, 1, rfl, rfl, a + 1, rfl, T l, rfl, hzl, _, _, rfl, rfl, by rw [em1, em3]; exact h2, rfl, m1 ++ [d] ++ m3, some (.int (0 + (i : Nat))), some (.int y), some (.int a), some (.str (T [d])), (dm1.app (.one hd)).app dm3, h3, h4, ?_⟩
          rw [em1, em3, ← T_app, ← T_app]
          rfl
      · obtain ⟨h1, h2, h3, h4⟩ := three m3 lm3
        refine ⟨_, rfl, _, rfl, a, rfl, T l, rfl, hzl, _, rfl, _, _, rfl, rfl, by rw [em1]; exact h1, _, rfl, _, rfl, _, 1, rfl, rfl, a + 1, rfl, T l, rfl, hzl, _, _, rfl, rfl, by rw [em1, em3]; exact h2, rfl, m1 ++ [d] ++ m3, some (.int (0 + (i : Nat))), some (.int y), some (.int a), some (.str (T [d])), (dm1.app (.one hd)).app dm3, h3, h4, ?_⟩
        rw [em1, em3, ← T_app, ← T_app]
        rfl
    · rintro σ H' ⟨rfl, l, v6, v7, v8, v9, dl, ll, lo1, rfl⟩
      have hll : l.length ≤ 8 * (t.length + 1) := by
        have : (2 : Nat) ^ (x / 101 % 4).toNat ≤ 2 ^ 3 := Nat.pow_le_pow_right (by decide) (by omega)
        have h2 := Nat.mul_le_mul_left (t.length + 1) this
        omega
      refine ⟨_, rfl, x, 7777, rfl, rfl, ⟨by decide, by decide⟩, _, 2, rfl, rfl, (show (0 : Int) < 2 by decide), rfl, _, rfl, ite2 (fun _ => ?_) (fun _ => ?_)⟩
      · exact ⟨_, rfl, l, rfl, dl, by omega, q _ (turn_dna dl) (by rw [turn_len]; exact lo1) (by rw [turn_len]; exact hll)⟩
      · exact ⟨_, rfl, q l dl lo1 hll⟩
end
/-! ### the law's own defs -/
theorem beqT (a b : Nat) : ((T [a] : Str) == T [b]) = decide (a = b) := by
  by_cases h : a = b
  · subst h
    rw [decide_eq_true rfl]
    exact beq_self_eq_true _
  · rw [decide_eq_false h]
    exact beq_eq_false_iff_ne.mpr fun z => h (by have := T_inj z; simpa using this)
theorem inV_ones (c : Nat) (ds : List Nat) : inV (.str (T [c])) (ds.map fun d => .str (T [d])) = decide (c ∈ ds) := by
  unfold inV
  rw [List.any_map]
  show (ds.any fun d => ((T [d] : Str) == T [c])) = _
  induction ds with
  | nil => rfl
  | cons d r ih =>
    rw [List.any_cons, ih, beqT]
    by_cases h : d = c
    · rw [decide_eq_true h, Bool.true_or, decide_eq_true (by rw [h]; exact List.mem_cons_self)]
    · rw [decide_eq_false h, Bool.false_or]
      by_cases h2 : c ∈ r
      · rw [decide_eq_true h2, decide_eq_true (List.mem_cons_of_mem _ h2)]
      · rw [decide_eq_false h2, decide_eq_false fun z => by
          rcases List.mem_cons.mp z with e | e
          · exact h e.symm
          · exact h2 e]
theorem flat_ones (ds : List Nat) : (ds.map fun d => V.str (T [d])).all flatV = true := by
  induction ds with
  | nil => rfl
  | cons d r ih => exact ih
theorem scLAgree : FnScope ["a", "b"] ["a", "b"] (defScope sLAgree) := ⟨rfl, rfl, rfl, by decide +kernel, rfl, by decide +kernel, by decide +kernel⟩
theorem scPriced : FnScope ["path", "costs", "total", "k"] ["path", "costs"] (defScope sPriced) := ⟨rfl, rfl, rfl, by decide +kernel, rfl, by decide +kernel, by decide +kernel⟩
theorem scWalks : FnScope ["read", "piece", "path", "i", "j", "step"] ["read", "piece", "path"] (defScope sWalks) := ⟨rfl, rfl, rfl, by decide +kernel, rfl, by decide +kernel, by decide +kernel⟩
theorem scLCosts : FnScope ["cell", "row"] ["cell"] (defScope sLCosts) := ⟨rfl, rfl, rfl, by decide +kernel, rfl, by decide +kernel, by decide +kernel⟩
section
variable {P : Program} {w : World} {K : PySem.W.Frag} {mg : Str → Option Value} {base : Heap}
theorem ok_lagree {f : Addr} {fd : FuncData} {k : Nat} (F : Fun K "_law_agree" "_law_agree" sLAgree f fd) : FnOk P w K mg base CX0 (k + 1) f fd ["a", "b"] spAg := by
  refine F.ok scLAgree (fun vs H Q E h => ?_) (fun cdv A outer s H vs Q E hr h => ?_)
  · obtain ⟨a, b, rfl, _⟩ := h
    rfl
  · obtain ⟨a, b, rfl, q⟩ := h
    refine ⟨_, pss_one (ps_ret (pe_and (pe_cmpR op_eq (pv 0) (pv 1) (nomark _)) (pe_one (pe_cmpR op_ne (pv 0) pe_str (nomark _))))), ?_⟩
    refine ⟨_, rfl, _, rfl, rfl, _, rfl, ite2 (fun e => ?_) (fun e => ?_)⟩
    · have e2 := (one_eq rfl).mp (of_decide_eq_true e)
      refine ⟨_, rfl, rfl, ?_⟩
      unfold agB at q
      rw [decide_eq_true e2, Bool.true_and] at q
      have e3 : (!decide (V.str (T [a]) = V.str (Str.ofString "N"))) = decide (a ≠ 78) := by
        by_cases h : a = 78
        · rw [decide_eq_true ((one_eq tN).mpr h), decide_eq_false (fun z => z h)]
          rfl
        · rw [decide_eq_false (fun z => h ((one_eq tN).mp z)), decide_eq_true h]
          rfl
      show Q (.bl (!decide (V.str (T [a]) = V.str (Str.ofString "N")))) H
      rw [e3]
      exact q
    · have e2 : ¬ a = b := fun z => e (decide_eq_true ((one_eq rfl).mpr z))
      unfold agB at q
      rw [decide_eq_false e2, Bool.false_and] at q
      exact q
def spPriced (K : PySem.W.Frag) : Sp := fun vs H Q _ => ∃ (l : List Nat) (z : Addr) (a b c : Nat), vs = [.str (T l), .ref z] ∧ l.length ≤ 100000 ∧ SqT K H z [.int a, .int b, .int c] ∧ ∀ H', Same H H' → Q (.int (prc a b c none l : Nat)) H'
theorem seqT {K : PySem.W.Frag} {H H' : Hp} {a : Addr} {xs : List V} (e : Same H H') (h : SqT K H a xs) : SqT K H' a xs := by
  rcases h with (h | ⟨o, h⟩) | h
  · exact .inl (.inl (e _ _ h))
  · exact .inl (.inr ⟨o, e _ _ h⟩)
  · exact .inr h
def prv (l : List Nat) (i : Nat) : Option Nat := if i = 0 then none else l[i - 1]?
theorem ok_priced {f : Addr} {fd : FuncData} {k : Nat} (F : Fun K "_law_priced" "_law_priced" sPriced f fd) (B : Bl mg) : FnOk P w K mg base CX0 (k + 1) f fd ["path", "costs"] (spPriced K) := by
  refine F.ok scPriced (fun vs H Q E h => ?_) (fun cdv A outer s H vs Q E hr h => ?_)
  · obtain ⟨l, z, a, b, c, rfl, _⟩ := h
    rfl
  · obtain ⟨l, z, a, b, c, rfl, hl, hS, q⟩ := h
    refine ⟨_, pss_cons (ps_set (i := 2) scPriced.nd rfl (.inl rfl) pe_int)
      (pss_cons (ps_for PassesOwn.never rfl (pi_range1 rfl B.range (pa_cons (pe_callB call_len_str (by rfl) B.len PySem.boot_len (pa_cons (pv 0) pa_nil)) pa_nil)) (pg_name (i := 3) scPriced.nd rfl (.inl rfl))
        (C8.pss_cut (ps_if (pt_cmpR op_eq (pe_ix ix_str (pv 0) (pv 3) (fun _ _ => rfl)) pe_str (nomark _)) (pss_one (ps_set (i := 2) scPriced.nd rfl (.inl rfl) (pe_op op_add (pv 2) (pe_ix ix_tup (pv 1) pe_int (fun _ _ => rfl))))) pss_nil)
        (pss_one (ps_if (pt_cmpR op_in_seq (pe_ix ix_str (pv 0) (pv 3) (fun _ _ => rfl)) (pe_lst (pa_cons pe_str (pa_cons pe_str pa_nil))) (by rfl))
          (C8.pss_cut (ps_set (i := 2) scPriced.nd rfl (.inl rfl) (pe_op op_add (pv 2) (pe_ix ix_tup (pv 1) pe_int (fun _ _ => rfl))))
          (pss_one (ps_if (PW.pt (pw_or (pt_cmpR op_eq (pv 3) pe_int (nomark _)) (pw_or1 (pt_cmpR op_ne (pe_ix ix_str (pv 0) (pe_op op_sub (pv 3) pe_int) (fun _ _ => rfl)) (pe_ix ix_str (pv 0) (pv 3) (fun _ _ => rfl)) (nomark _)))))
            (pss_one (ps_set (i := 2) scPriced.nd rfl (.inl rfl) (pe_op op_add (pv 2) (pe_ix ix_tup (pv 1) pe_int (fun _ _ => rfl))))) pss_nil))) pss_nil))))
      (pss_one (ps_ret (pv 2)))), ?_⟩
    have hz : (T l).length ≤ sizeLine := line_ok (by rw [T_len]; exact hl)
    refine ⟨.str (T l), rfl, T l, rfl, hz, _, rfl, by rw [T_len]; omega, by rw [T_len]; omega, ?_⟩
    rw [T_len, Int.toNat_natCast]
    refine for_range (lo := 0) (n := l.length) (fun i σ H' => Same H H' ∧ ∃ (tt : Nat) (v3 : Option V), tt + prc a b c (prv l i) (l.drop i) = prc a b c none l ∧ σ = [some (.str (T l)), some (.ref z), some (.int (tt : Int)), v3]) ⟨Same.refl _, 0, none, Nat.zero_add _, rfl⟩ ?_ ?_
    · rintro i σ H1 hi ⟨s1, tt, v3, ht, rfl⟩
      have a0 : (0 : Int) + (i : Nat) = (i : Nat) := by omega
      have ai := at_T hi
      rw [← a0] at ai
      have hS1 := seqT s1 hS
      rw [List.drop_eq_getElem_cons hi] at ht
      have e1 : prc a b c (prv l i) (l[i] :: l.drop (i + 1)) = (if l[i] = 88 then a else 0) + (if l[i] = 73 ∨ l[i] = 68 then c + (if prv l i = some l[i] then 0 else b) else 0) + prc a b c (some l[i]) (l.drop (i + 1)) := rfl
      rw [e1] at ht
      have e2 : prv l (i + 1) = some l[i] := by
        unfold prv
        rw [if_neg (by omega), Nat.add_sub_cancel, List.getElem?_eq_getElem hi]
      generalize hx : l[i] = x at *
      refine ⟨fun σ H2 => H2 = H1 ∧ σ = [some (.str (T l)), some (.ref z), some (.int ((tt + (if x = 88 then a else 0) : Nat) : Int)), some (.int (0 + (i : Nat)))], ?_, ?_⟩
      · refine ⟨.str (T l), rfl, .int (0 + (i : Nat)), rfl, T l, _, _, rfl, rfl, hz, ai, rfl, _, rfl, ite2 (fun e => ?_) (fun e => ?_)⟩
        · have e3 : x = 88 := (one_eq tX).mp (of_decide_eq_true e)
          refine ⟨_, rfl, .ref z, rfl, z, _, _, .int a, rfl, rfl, hS1, rfl, _, _, rfl, rfl, rfl, ?_⟩
          rw [if_pos e3]
          rfl
        · rw [if_neg (fun z => e (decide_eq_true ((one_eq tX).mpr z)))]
          exact ⟨rfl, rfl⟩
      rintro σ H2 ⟨rfl, rfl⟩
      refine ⟨.str (T l), rfl, .int (0 + (i : Nat)), rfl, T l, _, _, rfl, rfl, hz, ai, by show 2 ≤ sizeLine; decide, fun pl hpl => ⟨pl, _, rfl, .inl (.inl (.inl upd_same)), rfl, rfl, _, rfl, ?_⟩⟩
      have einv : inV (.str ⟨#[x]⟩) [.str (Str.ofString "I"), .str (Str.ofString "D")] = decide (x ∈ [73, 68]) := by
        rw [tI, tD]
        exact inV_ones x [73, 68]
      show if (inV (.str ⟨#[x]⟩) [.str (Str.ofString "I"), .str (Str.ofString "D")]) = true then _ else _
      rw [einv]
      have s2 := s1.trans (same_upd (o := .lst [.str (Str.ofString "I"), .str (Str.ofString "D")]) hpl)
      generalize upd H2 pl (.lst [.str (Str.ofString "I"), .str (Str.ofString "D")]) = H3 at s2 ⊢
      have hS3 := seqT s2 hS
      refine ite2 (fun e => ?_) (fun e => ?_)
      · have e3 : x = 73 ∨ x = 68 := by
          have := of_decide_eq_true e
          simpa using this
        rw [if_pos e3] at ht
        refine ⟨fun σ H4 => H4 = H3 ∧ σ = [some (.str (T l)), some (.ref z), some (.int ((tt + (if x = 88 then a else 0) + c : Nat) : Int)), some (.int (0 + (i : Nat)))], ⟨_, rfl, .ref z, rfl, z, _, _, .int c, rfl, rfl, hS3, rfl, _, _, rfl, rfl, rfl, rfl⟩, ?_⟩
        rintro σ H4 ⟨rfl, rfl⟩
        have more : prv l i ≠ some x → (∃ tt' : Nat, ((tt + (if x = 88 then a else 0) + c : Nat) : Int) + (b : Int) = (tt' : Int) ∧ tt' + prc a b c (prv l (i + 1)) (l.drop (i + 1)) = prc a b c none l) := fun hne => by
          rw [if_neg hne] at ht
          exact ⟨tt + (if x = 88 then a else 0) + c + b, by omega, by rw [e2]; omega⟩
        refine ⟨.int (0 + (i : Nat)), rfl, rfl, _, rfl, ite2 (fun e => ?_) (fun e => ?_)⟩
        · have hi0 : i = 0 := by
            have := V.int.inj (of_decide_eq_true e)
            omega
          obtain ⟨tt', e5, e6⟩ := more (by unfold prv; rw [if_pos hi0]; exact fun z => nomatch z)
          refine ⟨_, rfl, .ref z, rfl, z, _, _, .int b, rfl, rfl, hS3, rfl, _, _, rfl, rfl, s2, tt', some (.int (0 + (i : Nat))), e6, ?_⟩
          rw [← e5]
          rfl
        · have hi0 : ¬ i = 0 := fun z => e (decide_eq_true (by rw [z]; rfl))
          have him : i - 1 < l.length := by omega
          have am := at_T him
          have a1 : (0 : Int) + (i : Nat) - 1 = ((i - 1 : Nat) : Int) := by omega
          rw [← a1] at am
          have ep : prv l i = some l[i - 1] := by
            unfold prv
            rw [if_neg hi0, List.getElem?_eq_getElem him]
          refine ⟨.str (T l), rfl, .int (0 + (i : Nat)), rfl, _, 1, rfl, rfl, T l, _, _, rfl, rfl, hz, am, .str (T l), rfl, .int (0 + (i : Nat)), rfl, T l, _, _, rfl, rfl, hz, ai, rfl, _, rfl, iteN (fun e => ?_) (fun e => ?_)⟩
          · obtain ⟨tt', e5, e6⟩ := more (by rw [ep]; exact fun z => e ((one_eq rfl).mpr (Option.some.inj z)))
            refine ⟨_, rfl, .ref z, rfl, z, _, _, .int b, rfl, rfl, hS3, rfl, _, _, rfl, rfl, s2, tt', some (.int (0 + (i : Nat))), e6, ?_⟩
            rw [← e5]
            rfl
          · have e7 : l[i - 1] = x := (one_eq rfl).mp e
            rw [ep, e7, if_pos rfl] at ht
            exact ⟨s2, _, some (.int (0 + (i : Nat))), by rw [e2]; omega, rfl⟩
      · have e3 : ¬ (x = 73 ∨ x = 68) := fun z => e (decide_eq_true (by simpa using z))
        rw [if_neg e3] at ht
        exact ⟨s2, _, some (.int (0 + (i : Nat))), by rw [e2]; omega, rfl⟩
    · rintro σ H1 ⟨s1, tt, v3, ht, rfl⟩
      rw [List.drop_length] at ht
      have e : tt = prc a b c none l := by
        rw [← ht]
        rfl
      rw [e]
      exact ⟨_, rfl, q H1 s1⟩
end
section
variable {P : Program} {w : World} {K : PySem.W.Frag} {mg : Str → Option Value} {base : Heap}
def spWalks : Sp := fun vs H Q _ => ∃ r t p : List Nat, vs = [.str (T r), .str (T t), .str (T p)] ∧ r.length ≤ 100000 ∧ t.length ≤ 100000 ∧ ∀ H', Same H H' → Q (.bl (fitB r t p)) H'
theorem ok_walks {f : Addr} {fd : FuncData} {k : Nat} (F : Fun K "_law_walks" "_law_walks" sWalks f fd) (B : Bl mg) (hA : Has P w K mg base (k + 1) "_law_agree" ["a", "b"] spAg) : FnOk P w K mg base CX0 (k + 2) f fd ["read", "piece", "path"] spWalks := by
  obtain ⟨fS, dS, GS, gS, kS, bS⟩ := hA
  refine F.ok scWalks (fun vs H Q E h => ?_) (fun cdv A outer s H vs Q E hr h => ?_)
  · obtain ⟨r, t, p, rfl, _⟩ := h
    rfl
  · obtain ⟨r, t, p, rfl, hrl, htl, q⟩ := h
    refine ⟨_, pss_cons (ps_set (i := 3) scWalks.nd rfl (.inl rfl) pe_int)
      (pss_cons (ps_set (i := 4) scWalks.nd rfl (.inl rfl) pe_int)
      (pss_cons (ps_for PassesOwn.never rfl (pi_str (pv 2)) (pg_name (i := 5) scWalks.nd rfl (.inl rfl))
        (C8.pss_cut (ps_if (pt_cmpR op_in_seq (pv 5) (pe_lst (pa_cons pe_str (pa_cons pe_str pa_nil))) (by rfl))
          (pss_one (ps_if (PW.pt (pw_or (pt_cmpR op_ge (pv 3) (pe_callB call_len_str (by rfl) B.len PySem.boot_len (pa_cons (pv 0) pa_nil)) (nomark _)) (pw_or (pt_cmpR op_ge (pv 4) (pe_callB call_len_str (by rfl) B.len PySem.boot_len (pa_cons (pv 1) pa_nil)) (nomark _))
            (pw_or1 (pt_cmpR op_ne (pe_call GS hr (by rfl) gS kS bS .nil pass0 (pa_cons (pe_ix ix_str (pv 0) (pv 3) (fun _ _ => rfl)) (pa_cons (pe_ix ix_str (pv 1) (pv 4) (fun _ _ => rfl)) pa_nil))) (pe_cmpR op_eq (pv 5) pe_str (nomark _)) (nomark _)))))) (pss_one (ps_ret pe_bl)) pss_nil)) pss_nil)
        (C8.pss_cut (ps_if (pt_cmpR op_notIn_seq (pv 5) (pe_lst (pa_cons pe_str (pa_cons pe_str (pa_cons pe_str (pa_cons pe_str pa_nil))))) (by rfl)) (pss_one (ps_ret pe_bl)) pss_nil)
        (pss_cons (ps_set (i := 3) scWalks.nd rfl (.inl rfl) (pe_op op_add (pv 3) (pe_callTy call_int1 (by rfl) B.int (by decide +kernel) (pa_cons (pe_cmpR op_ne (pv 5) pe_str (nomark _)) pa_nil))))
        (pss_one (ps_set (i := 4) scWalks.nd rfl (.inl rfl) (pe_op op_add (pv 4) (pe_callTy call_int1 (by rfl) B.int (by decide +kernel) (pa_cons (pe_cmpR op_ne (pv 5) pe_str (nomark _)) pa_nil)))))))))
      (pss_one (ps_ret (pe_and (pe_cmpR op_eq (pv 3) (pe_callB call_len_str (by rfl) B.len PySem.boot_len (pa_cons (pv 0) pa_nil)) (nomark _)) (pe_one (pe_cmpR op_eq (pv 4) (pe_callB call_len_str (by rfl) B.len PySem.boot_len (pa_cons (pv 1) pa_nil)) (nomark _)))))))), ?_⟩
    have hzr : (T r).length ≤ sizeLine := line_ok (by rw [T_len]; exact hrl)
    have hzt : (T t).length ≤ sizeLine := line_ok (by rw [T_len]; exact htl)
    refine ⟨_, rfl, _, rfl, ?_⟩
    refine for_str (z := T p) (fun n σ H' => Same H H' ∧ n ≤ p.length ∧ ∃ (i j : Nat) (v5 : Option V), wk r t p 0 0 = wk r t (p.drop n) i j ∧ σ = [some (.str (T r)), some (.str (T t)), some (.str (T p)), some (.int (i : Int)), some (.int (j : Int)), v5]) ⟨Same.refl _, Nat.zero_le _, 0, 0, none, rfl, rfl⟩ ?_ ?_
    · rintro n c σ H1 hc ⟨s1, _, i, j, v5, hw, rfl⟩
      rw [T_at] at hc
      obtain ⟨hn, hce⟩ := List.getElem?_eq_some_iff.mp hc
      have hdr : p.drop n = c :: p.drop (n + 1) := by rw [List.drop_eq_getElem_cons hn, hce]
      rw [hdr, wk_cons] at hw
      have bad : c ≠ 73 → c ≠ 68 → ¬ (i < r.length ∧ j < t.length ∧ c = pst (r.getD i 0) (t.getD j 0)) → ∀ H', Same H H' → Q (.bl false) H' := fun n1 n2 z H' s' => by
        rw [if_neg n1, if_neg n2, if_neg z] at hw
        unfold fitB at q
        rw [hw] at q
        exact q H' s'
      refine ⟨fun σ H2 => Same H H2 ∧ (c = 61 ∨ c = 88 → i < r.length ∧ j < t.length ∧ c = pst (r.getD i 0) (t.getD j 0)) ∧ σ = [some (.str (T r)), some (.str (T t)), some (.str (T p)), some (.int (i : Int)), some (.int (j : Int)), some (.str (T [c]))], ?_, ?_⟩
      · refine ⟨_, rfl, by show 2 ≤ sizeLine; decide, fun pl hpl => ⟨pl, _, rfl, .inl (.inl (.inl upd_same)), rfl, rfl, _, rfl, ?_⟩⟩
        have einv : inV (.str ⟨#[c]⟩) [.str (Str.ofString "="), .str (Str.ofString "X")] = decide (c ∈ [61, 88]) := by
          rw [tE, tX]
          exact inV_ones c [61, 88]
        show if (inV (.str ⟨#[c]⟩) [.str (Str.ofString "="), .str (Str.ofString "X")]) = true then _ else _
        rw [einv]
        have s2 := s1.trans (same_upd (o := .lst [.str (Str.ofString "="), .str (Str.ofString "X")]) hpl)
        generalize upd H1 pl (.lst [.str (Str.ofString "="), .str (Str.ofString "X")]) = H3 at s2 ⊢
        refine ite2 (fun e => ?_) (fun e => ?_)
        · have ec : c = 61 ∨ c = 88 := by
            have := of_decide_eq_true e
            simpa using this
          have n1 : c ≠ 73 := by omega
          have n2 : c ≠ 68 := by omega
          refine ⟨_, rfl, _, rfl, T r, rfl, hzr, _, _, rfl, rfl, _, rfl, ite2 (fun e => ?_) (fun e => ?_)⟩
          · refine bad n1 n2 (fun z => ?_) _ s2
            have := of_decide_eq_true e
            rw [T_len] at this
            omega
          · have hi : i < r.length := by
              have : ¬ ((i : Int) ≥ ((T r).length : Nat)) := fun z => e (decide_eq_true z)
              rw [T_len] at this
              omega
            refine ⟨_, rfl, _, rfl, T t, rfl, hzt, _, _, rfl, rfl, _, rfl, ite2 (fun e => ?_) (fun e => ?_)⟩
            · refine bad n1 n2 (fun z => ?_) _ s2
              have := of_decide_eq_true e
              rw [T_len] at this
              omega
            · have hj : j < t.length := by
                have : ¬ ((j : Int) ≥ ((T t).length : Nat)) := fun z => e (decide_eq_true z)
                rw [T_len] at this
                omega
              have gr : r.getD i 0 = r[i] := by rw [List.getD_eq_getElem?_getD, List.getElem?_eq_getElem hi]; rfl
              have gt : t.getD j 0 = t[j] := by rw [List.getD_eq_getElem?_getD, List.getElem?_eq_getElem hj]; rfl
              refine ⟨_, rfl, _, rfl, T r, _, _, rfl, rfl, hzr, at_T hi, _, rfl, _, rfl, T t, _, _, rfl, rfl, hzt, at_T hj, r[i], t[j], rfl, _, rfl, rfl, rfl, _, rfl, iteN (fun e => ?_) (fun e => ?_)⟩
              · refine bad n1 n2 (fun z => e ?_) _ s2
                have e3 := z.2.2
                rw [gr, gt] at e3
                unfold pst at e3
                show V.bl (agB r[i] t[j]) = V.bl (decide (V.str (T [c]) = V.str (Str.ofString "=")))
                by_cases hb : agB r[i] t[j] = true
                · rw [if_pos hb] at e3
                  rw [hb, decide_eq_true ((one_eq tE).mpr e3)]
                · rw [if_neg hb] at e3
                  rw [Bool.eq_false_iff.mpr hb, decide_eq_false (fun z => by have := (one_eq tE).mp z; omega)]
              · refine ⟨s2, fun _ => ⟨hi, hj, ?_⟩, rfl⟩
                rw [gr, gt]
                have e3 : agB r[i] t[j] = decide (V.str (T [c]) = V.str (Str.ofString "=")) := V.bl.inj e
                unfold pst
                rw [e3]
                by_cases h61 : c = 61
                · rw [decide_eq_true ((one_eq tE).mpr h61), if_pos rfl]
                  exact h61
                · rw [decide_eq_false (fun z => h61 ((one_eq tE).mp z)), if_neg Bool.false_ne_true]
                  omega
        · have ec : ¬ (c = 61 ∨ c = 88) := fun z => e (decide_eq_true (by simpa using z))
          exact ⟨s2, fun z => absurd z ec, rfl⟩
      rintro σ H2 ⟨s2, hgood, rfl⟩
      refine ⟨fun σ H3 => Same H H3 ∧ (c = 61 ∨ c = 88 ∨ c = 73 ∨ c = 68) ∧ σ = [some (.str (T r)), some (.str (T t)), some (.str (T p)), some (.int (i : Int)), some (.int (j : Int)), some (.str (T [c]))], ?_, ?_⟩
      · refine ⟨_, rfl, by show 4 ≤ sizeLine; decide, fun pl hpl => ⟨pl, _, rfl, .inl (.inl (.inl upd_same)), rfl, rfl, _, rfl, ?_⟩⟩
        have einv : inV (.str (T [c])) [.str (Str.ofString "="), .str (Str.ofString "X"), .str (Str.ofString "I"), .str (Str.ofString "D")] = decide (c ∈ [61, 88, 73, 68]) := by
          rw [tE, tX, tI, tD]
          exact inV_ones c [61, 88, 73, 68]
        show if (!inV (.str (T [c])) [.str (Str.ofString "="), .str (Str.ofString "X"), .str (Str.ofString "I"), .str (Str.ofString "D")]) = true then _ else _
        rw [einv]
        have s3 := s2.trans (same_upd (o := .lst [.str (Str.ofString "="), .str (Str.ofString "X"), .str (Str.ofString "I"), .str (Str.ofString "D")]) hpl)
        refine iteN (fun e => ?_) (fun e => ?_)
        · have ec : ¬ (c = 61 ∨ c = 88 ∨ c = 73 ∨ c = 68) := fun z => e (by simpa using z)
          refine bad (by omega) (by omega) (fun z => ?_) _ s3
          rcases pst_two (r.getD i 0) (t.getD j 0) with e4 | e4
          · have := z.2.2
            omega
          · have := z.2.2
            omega
        · exact ⟨s3, by simpa using e, rfl⟩
      rintro σ H3 ⟨s3, hcc, rfl⟩
      have dN : ∀ {d : Nat} {s : Str}, s = T [d] → (!decide (V.str (T [c]) = V.str s)) = decide (c ≠ d) := fun {d s} hs => by
        by_cases h : c = d
        · rw [decide_eq_true ((one_eq hs).mpr h), decide_eq_false (fun z => z h)]
          rfl
        · rw [decide_eq_false (fun z => h ((one_eq hs).mp z)), decide_eq_true h]
          rfl
      refine ⟨_, rfl, _, rfl, rfl, .inr ⟨_, rfl, _, _, rfl, rfl, ?_⟩⟩
      refine ⟨_, rfl, _, rfl, rfl, .inr ⟨_, rfl, _, _, rfl, rfl, ?_⟩⟩
      refine ⟨s3, hn, if c = 68 then i else i + 1, if c = 73 then j else j + 1, some (.str (T [c])), ?_, ?_⟩
      · rw [hw]
        rcases hcc with e | e | e | e
        · rw [if_neg (by omega), if_neg (by omega), if_pos (hgood (.inl e)), if_neg (by omega), if_neg (by omega)]
        · rw [if_neg (by omega), if_neg (by omega), if_pos (hgood (.inr e)), if_neg (by omega), if_neg (by omega)]
        · rw [if_pos e, if_neg (by omega), if_pos e]
        · rw [if_neg (by omega), if_pos e, if_pos e, if_neg (by omega)]
      · have e1 : ((i : Int) + (if (!decide (V.str (T [c]) = V.str (Str.ofString "D"))) = true then 1 else 0)) = ((if c = 68 then i else i + 1 : Nat) : Int) := by
          rw [dN tD]
          by_cases h : c = 68
          · rw [decide_eq_false (fun z => z h), if_pos h, if_neg Bool.false_ne_true]
            omega
          · rw [decide_eq_true h, if_neg h, if_pos rfl]
            omega
        have e2 : ((j : Int) + (if (!decide (V.str (T [c]) = V.str (Str.ofString "I"))) = true then 1 else 0)) = ((if c = 73 then j else j + 1 : Nat) : Int) := by
          rw [dN tI]
          by_cases h : c = 73
          · rw [decide_eq_false (fun z => z h), if_pos h, if_neg Bool.false_ne_true]
            omega
          · rw [decide_eq_true h, if_neg h, if_pos rfl]
            omega
        rw [← e1, ← e2]
        rfl
    · rintro σ H' ⟨s1, _, i, j, v5, hw, rfl⟩
      rw [T_size, List.drop_length, wk_nil] at hw
      unfold fitB at q
      rw [hw] at q
      refine ⟨_, rfl, _, rfl, T r, rfl, hzr, rfl, _, rfl, ite2 (fun e => ?_) (fun e => ?_)⟩
      · have hi : i = r.length := by
          have := V.int.inj (of_decide_eq_true e)
          rw [T_len] at this
          omega
        refine ⟨_, rfl, _, rfl, T t, rfl, hzt, rfl, ?_⟩
        have e3 : decide (V.int (j : Int) = V.int ((T t).length : Nat)) = decide (some (i, j) = some (r.length, t.length)) := by
          rw [T_len, hi]
          by_cases hj : j = t.length
          · rw [hj, decide_eq_true rfl, decide_eq_true rfl]
          · rw [decide_eq_false (fun z => hj (by have := V.int.inj z; omega)), decide_eq_false (fun z => hj (by have := Option.some.inj z; exact congrArg (·.2) this))]
        rw [← e3] at q
        exact q _ s1
      · have hi : ¬ i = r.length := fun z => e (decide_eq_true (by rw [T_len, z]))
        rw [decide_eq_false (fun z => hi (by have := Option.some.inj z; exact congrArg (·.1) this))] at q
        exact q _ s1
def spLCosts : Sp := fun vs H Q _ => ∃ x : Int, vs = [.int x] ∧ ∀ (H' : Hp) (z : Addr) (a b c : Nat), Same H H' → H' z = some (.tup [.int a, .int b, .int c]) → a ≤ 100 → b ≤ 100 → c ≤ 100 → Q (.ref z) H'
theorem ok_lcosts {f : Addr} {fd : FuncData} (F : Fun K "_law_costs" "_law_costs" sLCosts f fd) (hO : Has P w K mg base 2 "_law_row" ["cell", "count", "bound"] (spRow K)) : FnOk P w K mg base CX0 3 f fd ["cell"] spLCosts := by
  obtain ⟨fO, dO, GO, gO, kO, bO⟩ := hO
  refine F.ok scLCosts (fun vs H Q E h => ?_) (fun cdv A outer s H vs Q E hr h => ?_)
  · obtain ⟨c, rfl, _⟩ := h
    rfl
  · obtain ⟨x, rfl, q⟩ := h
    refine ⟨_, pss_cons (ps_set (i := 1) scLCosts.nd rfl (.inl rfl) (pe_call GO hr (by rfl) gO kO bO .nil pass0 (pa_cons (pv 0) (pa_cons pe_int (pa_cons pe_int pa_nil)))))
      (pss_cons (ps_if (pt_cmpR op_eq (pe_op op_mod (pe_ix ix_list (pv 1) pe_int (fun _ _ => rfl)) pe_int) pe_int (nomark _))
        (pss_one (ps_ret (pe_tup (pa_cons (pe_op op_mod (pe_ix ix_list (pv 1) pe_int (fun _ _ => rfl)) pe_int) (pa_cons (pe_op op_mod (pe_ix ix_list (pv 1) pe_int (fun _ _ => rfl)) pe_int) (pa_cons (pe_op op_mod (pe_ix ix_list (pv 1) pe_int (fun _ _ => rfl)) pe_int) pa_nil)))))) pss_nil)
      (pss_one (ps_ret (pe_tup (pa_cons (pe_op op_mod (pe_ix ix_list (pv 1) pe_int (fun _ _ => rfl)) pe_int) (pa_cons (pe_op op_mod (pe_ix ix_list (pv 1) pe_int (fun _ _ => rfl)) pe_int) (pa_cons (pe_op op_mod (pe_ix ix_list (pv 1) pe_int (fun _ _ => rfl)) pe_int) pa_nil))))))), ?_⟩
    refine ⟨_, rfl, x, 4, 1000003, rfl, by decide, by decide, by decide, by decide, fun H1 p xs s1 hp hx hl hb => ?_⟩
    match xs, hl, hb, hx with
    | [x0, x1, x2, x3], _, hb, hx =>
      have pS : SqL K H1 p [.int x0, .int x1, .int x2, .int x3] := .inl (.inl hx)
      have fin : ∀ (m0 m1 m2 : Int), 0 < m0 → m0 ≤ 101 → 0 < m1 → m1 ≤ 101 → 0 < m2 → m2 ≤ 101 → ∀ z, H1 z = none → Q (.ref z) (upd H1 z (.tup [.int (x0 % m0), .int (x1 % m1), .int (x2 % m2)])) := fun m0 m1 m2 a0 b0 a1 b1 a2 b2 z hz => by
        have c0 := Int.emod_nonneg x0 (show m0 ≠ 0 by omega)
        have c1 := Int.emod_nonneg x1 (show m1 ≠ 0 by omega)
        have c2 := Int.emod_nonneg x2 (show m2 ≠ 0 by omega)
        have d0 := Int.emod_lt_of_pos x0 a0
        have d1 := Int.emod_lt_of_pos x1 a1
        have d2 := Int.emod_lt_of_pos x2 a2
        refine q _ z (x0 % m0).toNat (x1 % m1).toNat (x2 % m2).toNat (s1.trans (same_upd hz)) ?_ (by omega) (by omega) (by omega)
        rw [upd_same, Int.toNat_of_nonneg c0, Int.toNat_of_nonneg c1, Int.toNat_of_nonneg c2]
      refine ⟨_, rfl, p, _, 3, .int x3, rfl, rfl, pS, rfl, _, 4, rfl, rfl, (show (0 : Int) < 4 by decide), rfl, _, rfl, ite2 (fun _ => ?_) (fun _ => ?_)⟩
      · exact ⟨_, rfl, p, _, 0, .int x0, rfl, rfl, pS, rfl, _, 3, rfl, rfl, (show (0 : Int) < 3 by decide), _, rfl, p, _, 1, .int x1, rfl, rfl, pS, rfl, _, 3, rfl, rfl, (show (0 : Int) < 3 by decide), _, rfl, p, _, 2, .int x2, rfl, rfl, pS, rfl, _, 2, rfl, rfl, (show (0 : Int) < 2 by decide), by show 3 ≤ sizeLine; decide,
          fin 3 3 2 (by decide) (by decide) (by decide) (by decide) (by decide) (by decide)⟩
      · exact ⟨_, rfl, p, _, 0, .int x0, rfl, rfl, pS, rfl, _, 101, rfl, rfl, (show (0 : Int) < 101 by decide), _, rfl, p, _, 1, .int x1, rfl, rfl, pS, rfl, _, 101, rfl, rfl, (show (0 : Int) < 101 by decide), _, rfl, p, _, 2, .int x2, rfl, rfl, pS, rfl, _, 101, rfl, rfl, (show (0 : Int) < 101 by decide), by show 3 ≤ sizeLine; decide,
          fin 101 101 101 (by decide) (by decide) (by decide) (by decide) (by decide) (by decide)⟩
end
/-! ### the least cost as the law finds it -/
theorem mn2_fold (x y : Int) : (if y < x then y else x) = mn2 x y := rfl
theorem wgt_mul (a x y : Nat) : (a : Int) * (if (!agB x y) = true then 1 else 0) = wgt a x y := by
  unfold wgt
  cases agB x y <;> simp
def NLs : List Str := ["read", "text", "end", "costs", "replace", "start", "each", "far", "p", "q", "r", "j", "letter", "news", "extra", "gaps"]
theorem scLeast : FnScope NLs ["read", "text", "end", "costs"] (defScope sLeast) := ⟨rfl, rfl, rfl, by decide +kernel, rfl, by decide +kernel, by decide +kernel⟩
section
variable {P : Program} {w : World} {K : PySem.W.Frag} {mg : Str → Option Value} {base : Heap}
def spLeast (K : PySem.W.Frag) : Sp := fun vs H Q _ => ∃ (z : Addr) (a b c : Nat) (r t : List Nat) (e : Nat), vs = [.str (T r), .str (T t), .int (e : Int), .ref z] ∧ SqT K H z [.int a, .int b, .int c] ∧ e ≤ t.length ∧ t.length ≤ 10000 ∧ r.length ≤ 10000 ∧ a ≤ 10000 ∧ ∀ H', Same H H' → Q (.int (dp a b c r t r.length e).mn) H'
theorem ok_least {f : Addr} {fd : FuncData} {k : Nat} (F : Fun K "_law_least" "_law_least" sLeast f fd) (B : Bl mg) (mmin : mg "min" = none) (hA : Has P w K mg base (k + 1) "_law_agree" ["a", "b"] spAg) : FnOk P w K mg base CX0 (k + 2) f fd ["read", "text", "end", "costs"] (spLeast K) := by
  obtain ⟨fA, dA, GA, gA, kA, bA⟩ := hA
  refine F.ok scLeast (fun vs H Q E h => ?_) (fun cdv A outer s H vs Q E hr h => ?_)
  · obtain ⟨z, a, b, c, r, t, e, rfl, _⟩ := h
    rfl
  · obtain ⟨z, a, b, c, r, t, e, rfl, hz, het, htl, hrl, ha, q⟩ := h
    refine ⟨_, (pss_cons (ps_asg (pv 3) (pg_tup rfl (pgs_cons (pg_name (i := 4) scLeast.nd rfl (.inl rfl)) (pgs_cons (pg_name (i := 5) scLeast.nd rfl (.inl rfl)) (pgs_cons (pg_name (i := 6) scLeast.nd rfl (.inl rfl)) pgs_nil)))))
      (pss_cons (ps_set (i := 7) scLeast.nd rfl (.inl rfl) pe_int)
      (pss_cons (ps_set (i := 8) scLeast.nd rfl (.inl rfl) (pe_op op_rep (pe_lst (pa_cons pe_int pa_nil)) (pe_op op_add (pv 2) pe_int)))
      (pss_cons (ps_set (i := 9) scLeast.nd rfl (.inl rfl) (pe_op op_rep (pe_lst (pa_cons (pv 7) pa_nil)) (pe_op op_add (pv 2) pe_int)))
      (C8.pss_cut (ps_set (i := 10) scLeast.nd rfl (.inl rfl) (pe_op op_rep (pe_lst (pa_cons (pv 7) pa_nil)) (pe_op op_add (pv 2) pe_int)))
      (C8.pss_cut (ps_for PassesOwn.never rfl (pi_range2 rfl B.range (pa_cons pe_int (pa_cons (pe_op op_add (pv 2) pe_int) pa_nil))) (pg_name (i := 11) scLeast.nd rfl (.inl rfl))
        (pss_one (ps_asg (pe_op op_add (pe_callB (call_min2 rfl) (by rfl) mmin (by decide +kernel) (pa_cons (pe_op op_add (pe_ix ix_list (pv 8) (pe_op op_sub (pv 11) pe_int) (fun _ _ => rfl)) (pv 5)) (pa_cons (pe_ix ix_list (pv 10) (pe_op op_sub (pv 11) pe_int) (fun _ _ => rfl)) pa_nil))) (pv 6)) (pg_sub (pv 10) (pv 11) set_list))))
      (pss_cons (ps_for PassesOwn.never rfl (pi_str (pv 0)) (pg_name (i := 12) scLeast.nd rfl (.inl rfl))
        (pss_cons (ps_set (i := 13) scLeast.nd rfl (.inl rfl) (pe_op op_rep (pe_lst (pa_cons (pv 7) pa_nil)) (pe_op op_add (pv 2) pe_int)))
      (pss_cons (ps_set (i := 14) scLeast.nd rfl (.inl rfl) (pe_op op_rep (pe_lst (pa_cons (pv 7) pa_nil)) (pe_op op_add (pv 2) pe_int)))
      (C8.pss_cut (ps_set (i := 15) scLeast.nd rfl (.inl rfl) (pe_op op_rep (pe_lst (pa_cons (pv 7) pa_nil)) (pe_op op_add (pv 2) pe_int)))
      (C8.pss_cut (ps_for PassesOwn.never rfl (pi_range1 rfl B.range (pa_cons (pe_op op_add (pv 2) pe_int) pa_nil)) (pg_name (i := 11) scLeast.nd rfl (.inl rfl))
        (pss_cons (ps_asg (pe_op op_add (pe_callB (call_min2 rfl) (by rfl) mmin (by decide +kernel) (pa_cons (pe_op op_add (pe_callB (call_min2 rfl) (by rfl) mmin (by decide +kernel) (pa_cons (pe_ix ix_list (pv 8) (pv 11) (fun _ _ => rfl)) (pa_cons (pe_ix ix_list (pv 10) (pv 11) (fun _ _ => rfl)) pa_nil))) (pv 5)) (pa_cons (pe_ix ix_list (pv 9) (pv 11) (fun _ _ => rfl)) pa_nil))) (pv 6)) (pg_sub (pv 14) (pv 11) set_list))
      (pss_one (ps_if (pt_cmpR op_gt (pv 11) pe_int (nomark _)) (pss_cons (ps_asg (pe_op op_add (pe_callB (call_min3Nu rfl) (by rfl) mmin (by decide +kernel) (pa_cons (pe_ix ix_list (pv 8) (pe_op op_sub (pv 11) pe_int) (fun _ _ => rfl)) (pa_cons (pe_ix ix_list (pv 9) (pe_op op_sub (pv 11) pe_int) (fun _ _ => rfl)) (pa_cons (pe_ix ix_list (pv 10) (pe_op op_sub (pv 11) pe_int) (fun _ _ => rfl)) pa_nil)))) (pe_op op_mul (pv 4) (pe_callTy call_int1 (by rfl) B.int (by decide +kernel) (pa_cons (pe_not (pe_call GA hr (by rfl) gA kA bA .nil pass0 (pa_cons (pv 12) (pa_cons (pe_ix ix_str (pv 1) (pe_op op_sub (pv 11) pe_int) (fun _ _ => rfl)) pa_nil)))) pa_nil)))) (pg_sub (pv 13) (pv 11) set_list))
      (pss_one (ps_asg (pe_op op_add (pe_callB (call_min2 rfl) (by rfl) mmin (by decide +kernel) (pa_cons (pe_op op_add (pe_callB (call_min2 rfl) (by rfl) mmin (by decide +kernel) (pa_cons (pe_ix ix_list (pv 13) (pe_op op_sub (pv 11) pe_int) (fun _ _ => rfl)) (pa_cons (pe_ix ix_list (pv 14) (pe_op op_sub (pv 11) pe_int) (fun _ _ => rfl)) pa_nil))) (pv 5)) (pa_cons (pe_ix ix_list (pv 15) (pe_op op_sub (pv 11) pe_int) (fun _ _ => rfl)) pa_nil))) (pv 6)) (pg_sub (pv 15) (pv 11) set_list)))) pss_nil))))
      (pss_cons (ps_set (i := 8) scLeast.nd rfl (.inl rfl) (pv 13))
      (pss_cons (ps_set (i := 9) scLeast.nd rfl (.inl rfl) (pv 14))
      (pss_one (ps_set (i := 10) scLeast.nd rfl (.inl rfl) (pv 15))))))))))
      (pss_one (ps_ret (pe_callB (call_min3Nu rfl) (by rfl) mmin (by decide +kernel) (pa_cons (pe_ix ix_list (pv 8) (pv 2) (fun _ _ => rfl)) (pa_cons (pe_ix ix_list (pv 9) (pv 2) (fun _ _ => rfl)) (pa_cons (pe_ix ix_list (pv 10) (pv 2) (fun _ _ => rfl)) pa_nil))))))))))))), ?_⟩
    obtain ⟨Z, hZ⟩ : ∃ Z : Nat, Z = e + 1 := ⟨_, rfl⟩
    have eZ : ((e : Int) + 1).toNat = Z := by omega
    have hZb : Z ≤ 10001 := by omega
    have repF : ∀ {v : V} {H1 : Hp} {R : VK} {d : Addr}, H1 d = some (.lst [v]) → (∀ p, H1 p = none → R (.ref p) (upd H1 p (.lst (List.replicate Z [v]).flatten))) → rRep (.ref d) (.int ((e : Int) + 1)) H1 R := fun {v H1 R d} hd h => ⟨d, (e : Int) + 1, [v], rfl, rfl, hd, by omega, by omega, by rw [eZ]; show 1 * Z ≤ sizeLine; exact line_ok6 (by omega), fun p hp => by rw [eZ]; exact h p hp⟩
    refine ⟨.ref z, rfl, z, _, rfl, hz, rfl, _, _, rfl, _, _, rfl, _, _, rfl, rfl, ?_⟩
    -- the first rows
    refine ⟨by show 1 ≤ sizeLine; decide, fun d1 hd1 => ⟨.int e, rfl, _, 1, rfl, rfl, repF upd_same fun p1 hp1 => ?_⟩⟩
    have u1 := (same_upd (o := .lst [V.int 0]) hd1).trans (same_upd (o := .lst (List.replicate Z [V.int 0]).flatten) hp1)
    have h1 : (upd (upd H d1 (.lst [V.int 0])) p1 (.lst (List.replicate Z [V.int 0]).flatten)) p1 = some (LI (fl Z fun _ => 0)) := by rw [upd_same, fl_const]
    generalize upd (upd H d1 (.lst [V.int 0])) p1 (.lst (List.replicate Z [V.int 0]).flatten) = H1 at u1 h1 ⊢
    refine ⟨_, rfl, by show 1 ≤ sizeLine; decide, fun d2 hd2 => ⟨.int e, rfl, _, 1, rfl, rfl, repF upd_same fun p2 hp2 => ?_⟩⟩
    have u2 := (same_upd (o := .lst [V.int 1000000000]) hd2).trans (same_upd (o := .lst (List.replicate Z [V.int 1000000000]).flatten) hp2)
    have h2 : (upd (upd H1 d2 (.lst [V.int 1000000000])) p2 (.lst (List.replicate Z [V.int 1000000000]).flatten)) p2 = some (LI (fl Z fun _ => far)) := by rw [upd_same, fl_const]; rfl
    have hp2' : H1 p2 = none := new_old hp2
    generalize upd (upd H1 d2 (.lst [V.int 1000000000])) p2 (.lst (List.replicate Z [V.int 1000000000]).flatten) = H2 at u2 h2 ⊢
    refine ⟨fun σ H' => Same H2 H' ∧ ∃ p3, H2 p3 = none ∧ H' p3 = some (LI (fl Z fun _ => far)) ∧ σ = [some (.str (T r)), some (.str (T t)), some (.int (e : Int)), some (.ref z), some (.int a), some (.int b), some (.int c), some (.int far), some (.ref p1), some (.ref p2), some (.ref p3), none, none, none, none, none], ⟨_, rfl, by show 1 ≤ sizeLine; decide, fun d3 hd3 => ⟨.int e, rfl, _, 1, rfl, rfl, repF upd_same fun p3 hp3 => ⟨(same_upd hd3).trans (same_upd hp3), p3, new_old hp3, by rw [upd_same, fl_const]; rfl, rfl⟩⟩⟩, ?_⟩
    rintro σ H3 ⟨u3, p3, hp3, h33, rfl⟩
    have n13 : p1 ≠ p3 := ne_of_none (u2 _ _ h1) hp3
    have n23 : p2 ≠ p3 := ne_of_none h2 hp3
    have hp3H : H p3 = none := u1.free (u2.free hp3)
    refine ⟨fun σ H' => (∀ y o, y ≠ p3 → H3 y = some o → H' y = some o) ∧ H' p3 = some (LI (fl Z fun k => (row0 b c k).r)) ∧ ∃ v11 : Option V, σ = [some (.str (T r)), some (.str (T t)), some (.int (e : Int)), some (.ref z), some (.int a), some (.int b), some (.int c), some (.int far), some (.ref p1), some (.ref p2), some (.ref p3), v11, none, none, none, none], ?_, ?_⟩
    · refine ⟨.int e, rfl, _, 1, rfl, rfl, _, _, rfl, ⟨by omega, by omega, by omega, by omega⟩, ?_⟩
      have en : ((e : Int) + 1 - 1).toNat = e := by omega
      have z0 : ∀ k, k < 0 + 1 → (fun _ : Nat => far) k = (row0 b c k).r := fun k hk => by
        have hk0 : k = 0 := by omega
        subst hk0
        rfl
      refine for_range (lo := 1) (n := ((e : Int) + 1 - 1).toNat) (fun i σ H' => (∀ y o, y ≠ p3 → H3 y = some o → H' y = some o) ∧ (∃ g : Nat → Int, H' p3 = some (LI (fl Z g)) ∧ (∀ k, k < i + 1 → g k = (row0 b c k).r) ∧ ∀ k, i + 1 ≤ k → g k = far) ∧ ∃ v11 : Option V, σ = [some (.str (T r)), some (.str (T t)), some (.int (e : Int)), some (.ref z), some (.int a), some (.int b), some (.int c), some (.int far), some (.ref p1), some (.ref p2), some (.ref p3), v11, none, none, none, none]) ⟨fun y o _ ey => ey, ⟨fun _ => far, h33, z0, fun k _ => rfl⟩, none, rfl⟩ ?_ ?_
      · rintro i σ H4 hi ⟨k4, ⟨g, hg, hlt, hge⟩, v11, rfl⟩
        rw [en] at hi
        have h14 := k4 _ _ n13 (u3 _ _ (u2 _ _ h1))
        have ej : (1 : Int) + (i : Nat) - 1 = (i : Int) := by omega
        have ei : (1 : Int) + (i : Nat) = ((i + 1 : Nat) : Int) := by omega
        refine ⟨.ref p1, rfl, .int (1 + (i : Nat)), rfl, _, 1, rfl, rfl, p1, _, _, .int 0, rfl, rfl, .inl (.inl h14), fl_ati _ ej (by omega), .int b, rfl, _, _, rfl, rfl, .ref p3, rfl, .int (1 + (i : Nat)), rfl, _, 1, rfl, rfl, p3, _, _, .int (g i), rfl, rfl, .inl (.inl hg), fl_ati _ ej (by omega), _, _, rfl, .int c, rfl, _, _, rfl, rfl, .ref p3, rfl, .int (1 + (i : Nat)), rfl, p3, _, _, i + 1, rfl, rfl, hg, ix_set ei (by rw [fl_lenV]; omega), ?_⟩
        rw [fl_set]
        refine ⟨fun y o ny ey => by rw [upd_ne ny]; exact k4 y o ny ey, ⟨_, upd_same, fun k hk => ?_, fun k hk => ?_⟩, _, rfl⟩
        · by_cases e1 : k = i + 1
          · subst e1
            rw [if_pos rfl, hlt i (by omega)]
            rfl
          · rw [if_neg e1]
            exact hlt k (by omega)
        · rw [if_neg (by omega)]
          exact hge k (by omega)
      · rintro σ H4 ⟨k4, ⟨g, hg, hlt, hge⟩, v11, rfl⟩
        rw [en] at hlt
        refine ⟨k4, ?_, v11, rfl⟩
        rw [hg, fl_ext fun k hk => hlt k (by omega)]
    rintro σ H4 ⟨k4, h43, v11, rfl⟩
    have s04 : Same H H4 := fun y o ey => k4 y o (ne_of_none ey hp3H) (u3 _ _ (u2 _ _ (u1 _ _ ey)))
    have h41 : H4 p1 = some (LI (fl Z fun k => (dp a b c r t 0 k).p)) := by
      rw [k4 _ _ n13 (u3 _ _ (u2 _ _ h1))]
      exact congrArg (fun l => some (LI l)) (fl_ext fun k _ => by cases k <;> rfl)
    have h42 : H4 p2 = some (LI (fl Z fun k => (dp a b c r t 0 k).q)) := by
      rw [k4 _ _ n23 (u3 _ _ h2)]
      exact congrArg (fun l => some (LI l)) (fl_ext fun k _ => by cases k <;> rfl)
    refine ⟨.str (T r), rfl, T r, rfl, ?_⟩
    refine for_str (z := T r) (fun i σ H' => Same H H' ∧ ∃ (pp pq pr : Addr) (v11 v12 v13 v14 v15 : Option V), H' pp = some (LI (fl Z fun k => (dp a b c r t i k).p)) ∧ H' pq = some (LI (fl Z fun k => (dp a b c r t i k).q)) ∧ H' pr = some (LI (fl Z fun k => (dp a b c r t i k).r)) ∧ σ = [some (.str (T r)), some (.str (T t)), some (.int (e : Int)), some (.ref z), some (.int a), some (.int b), some (.int c), some (.int far), some (.ref pp), some (.ref pq), some (.ref pr), v11, v12, v13, v14, v15]) ⟨s04, p1, p2, p3, v11, none, none, none, none, h41, h42, h43, rfl⟩ ?_ ?_
    · rintro i ch σ H5 hch ⟨s5, pp, pq, pr, v11, v12, v13, v14, v15, hp5, hq5, hr5, rfl⟩
      rw [T_at] at hch
      have ech : r.getD i 0 = ch := by
        rw [List.getD_eq_getElem?_getD, hch]
        rfl
      refine ⟨_, rfl, by show 1 ≤ sizeLine; decide, fun d1 hd1 => ⟨.int e, rfl, _, 1, rfl, rfl, repF upd_same fun n1 hn1 => ?_⟩⟩
      have w1 := (same_upd (o := .lst [V.int far]) hd1).trans (same_upd (o := .lst (List.replicate Z [V.int far]).flatten) hn1)
      have g1 : (upd (upd H5 d1 (.lst [V.int far])) n1 (.lst (List.replicate Z [V.int far]).flatten)) n1 = some (LI (fl Z fun _ => far)) := by rw [upd_same, fl_const]
      have hn15 : H5 n1 = none := new_old hn1
      generalize upd (upd H5 d1 (.lst [V.int far])) n1 (.lst (List.replicate Z [V.int far]).flatten) = H6 at w1 g1 ⊢
      refine ⟨_, rfl, by show 1 ≤ sizeLine; decide, fun d2 hd2 => ⟨.int e, rfl, _, 1, rfl, rfl, repF upd_same fun n2 hn2 => ?_⟩⟩
      have w2 := (same_upd (o := .lst [V.int far]) hd2).trans (same_upd (o := .lst (List.replicate Z [V.int far]).flatten) hn2)
      have g2 : (upd (upd H6 d2 (.lst [V.int far])) n2 (.lst (List.replicate Z [V.int far]).flatten)) n2 = some (LI (fl Z fun _ => far)) := by rw [upd_same, fl_const]
      have hn26 : H6 n2 = none := new_old hn2
      generalize upd (upd H6 d2 (.lst [V.int far])) n2 (.lst (List.replicate Z [V.int far]).flatten) = H7 at w2 g2 ⊢
      refine ⟨fun σ H' => Same H7 H' ∧ ∃ n3, H7 n3 = none ∧ H' n3 = some (LI (fl Z fun _ => far)) ∧ σ = [some (.str (T r)), some (.str (T t)), some (.int (e : Int)), some (.ref z), some (.int a), some (.int b), some (.int c), some (.int far), some (.ref pp), some (.ref pq), some (.ref pr), v11, some (.str ⟨#[ch]⟩), some (.ref n1), some (.ref n2), some (.ref n3)], ⟨_, rfl, by show 1 ≤ sizeLine; decide, fun d3 hd3 => ⟨.int e, rfl, _, 1, rfl, rfl, repF upd_same fun n3 hn3 => ⟨(same_upd hd3).trans (same_upd hn3), n3, new_old hn3, by rw [upd_same, fl_const], rfl⟩⟩⟩, ?_⟩
      rintro σ H8 ⟨w3, n3, hn37, g3, rfl⟩
      have m12 : n1 ≠ n2 := ne_of_none g1 hn26
      have m13 : n1 ≠ n3 := ne_of_none (w2 _ _ g1) hn37
      have m23 : n2 ≠ n3 := ne_of_none g2 hn37
      have hn25 : H5 n2 = none := w1.free hn26
      have hn35 : H5 n3 = none := w1.free (w2.free hn37)
      have w58 : Same H5 H8 := w1.trans (w2.trans w3)
      have old : ∀ {H9 : Hp} {y : Addr} {o : HO}, (∀ y o, y ≠ n1 → y ≠ n2 → y ≠ n3 → H8 y = some o → H9 y = some o) → H5 y = some o → H9 y = some o := fun h ey => h _ _ (ne_of_none ey hn15) (ne_of_none ey hn25) (ne_of_none ey hn35) (w58 _ _ ey)
      refine ⟨fun σ H' => (∀ y o, y ≠ n1 → y ≠ n2 → y ≠ n3 → H8 y = some o → H' y = some o) ∧ H' n1 = some (LI (fl Z fun k => (dp a b c r t (i + 1) k).p)) ∧ H' n2 = some (LI (fl Z fun k => (dp a b c r t (i + 1) k).q)) ∧ H' n3 = some (LI (fl Z fun k => (dp a b c r t (i + 1) k).r)) ∧ ∃ v11 : Option V, σ = [some (.str (T r)), some (.str (T t)), some (.int (e : Int)), some (.ref z), some (.int a), some (.int b), some (.int c), some (.int far), some (.ref pp), some (.ref pq), some (.ref pr), v11, some (.str ⟨#[ch]⟩), some (.ref n1), some (.ref n2), some (.ref n3)], ?_, ?_⟩
      · refine ⟨.int e, rfl, _, 1, rfl, rfl, _, rfl, by omega, by omega, ?_⟩
        refine for_range (lo := 0) (n := ((e : Int) + 1).toNat) (fun m σ H' => (∀ y o, y ≠ n1 → y ≠ n2 → y ≠ n3 → H8 y = some o → H' y = some o) ∧ (∃ f1 f2 f3 : Nat → Int, H' n1 = some (LI (fl Z f1)) ∧ H' n2 = some (LI (fl Z f2)) ∧ H' n3 = some (LI (fl Z f3)) ∧ (∀ k, k < m → f1 k = (dp a b c r t (i + 1) k).p ∧ f2 k = (dp a b c r t (i + 1) k).q ∧ f3 k = (dp a b c r t (i + 1) k).r) ∧ ∀ k, m ≤ k → f1 k = far ∧ f2 k = far ∧ f3 k = far) ∧ ∃ v11 : Option V, σ = [some (.str (T r)), some (.str (T t)), some (.int (e : Int)), some (.ref z), some (.int a), some (.int b), some (.int c), some (.int far), some (.ref pp), some (.ref pq), some (.ref pr), v11, some (.str ⟨#[ch]⟩), some (.ref n1), some (.ref n2), some (.ref n3)]) ⟨fun y o _ _ _ ey => ey, ⟨_, _, _, w3 _ _ (w2 _ _ g1), w3 _ _ g2, g3, fun k hk => absurd hk (Nat.not_lt_zero _), fun k _ => ⟨rfl, rfl, rfl⟩⟩, v11, rfl⟩ ?_ ?_
        · rintro m σ H9 hm ⟨k9, ⟨f1, f2, f3, e1, e2, e3, hlt, hge⟩, v11, rfl⟩
          rw [eZ] at hm
          have hp9 := old k9 hp5
          have hq9 := old k9 hq5
          have hr9 := old k9 hr5
          have em : (0 : Int) + (m : Nat) = (m : Int) := Int.zero_add _
          refine ⟨.ref pp, rfl, .int (0 + (m : Nat)), rfl, pp, _, _, .int (dp a b c r t i m).p, rfl, rfl, .inl (.inl hp9), fl_ati _ em hm, .ref pr, rfl, .int (0 + (m : Nat)), rfl, pr, _, _, .int (dp a b c r t i m).r, rfl, rfl, .inl (.inl hr9), fl_ati _ em hm, _, _, rfl, .int b, rfl, _, _, rfl, rfl, .ref pq, rfl, .int (0 + (m : Nat)), rfl, pq, _, _, .int (dp a b c r t i m).q, rfl, rfl, .inl (.inl hq9), fl_ati _ em hm, _, _, rfl, .int c, rfl, _, _, rfl, rfl, .ref n2, rfl, .int (0 + (m : Nat)), rfl, n2, _, _, m, rfl, rfl, e2, ix_set em (by rw [fl_lenV]; omega), ?_⟩
          rw [fl_set]
          have eq2 : (dp a b c r t (i + 1) m).q = mn2 (mn2 (dp a b c r t i m).p (dp a b c r t i m).r + b) (dp a b c r t i m).q + c := by cases m <;> rfl
          have x1 := (upd_ne (H := H9) (o := .lst ((fl Z fun k => if k = m then ((if (dp a b c r t i m).q < (if (dp a b c r t i m).r < (dp a b c r t i m).p then (dp a b c r t i m).r else (dp a b c r t i m).p) + (b : Int) then (dp a b c r t i m).q else (if (dp a b c r t i m).r < (dp a b c r t i m).p then (dp a b c r t i m).r else (dp a b c r t i m).p) + (b : Int)) + (c : Int)) else f2 k).map V.int)) m12).trans e1
          have x3 := (upd_ne (H := H9) (o := .lst ((fl Z fun k => if k = m then ((if (dp a b c r t i m).q < (if (dp a b c r t i m).r < (dp a b c r t i m).p then (dp a b c r t i m).r else (dp a b c r t i m).p) + (b : Int) then (dp a b c r t i m).q else (if (dp a b c r t i m).r < (dp a b c r t i m).p then (dp a b c r t i m).r else (dp a b c r t i m).p) + (b : Int)) + (c : Int)) else f2 k).map V.int)) m23.symm).trans e3
          obtain ⟨Ha, hHa⟩ : ∃ Ha, Ha = upd H9 n2 (.lst ((fl Z fun k => if k = m then ((if (dp a b c r t i m).q < (if (dp a b c r t i m).r < (dp a b c r t i m).p then (dp a b c r t i m).r else (dp a b c r t i m).p) + (b : Int) then (dp a b c r t i m).q else (if (dp a b c r t i m).r < (dp a b c r t i m).p then (dp a b c r t i m).r else (dp a b c r t i m).p) + (b : Int)) + (c : Int)) else f2 k).map V.int)) := ⟨_, rfl⟩
          have x2 : Ha n2 = some (LI (fl Z fun k => if k = m then ((if (dp a b c r t i m).q < (if (dp a b c r t i m).r < (dp a b c r t i m).p then (dp a b c r t i m).r else (dp a b c r t i m).p) + (b : Int) then (dp a b c r t i m).q else (if (dp a b c r t i m).r < (dp a b c r t i m).p then (dp a b c r t i m).r else (dp a b c r t i m).p) + (b : Int)) + (c : Int)) else f2 k)) := by rw [hHa, upd_same]
          rw [← hHa] at x1 x3
          have raw : ((if (dp a b c r t i m).q < (if (dp a b c r t i m).r < (dp a b c r t i m).p then (dp a b c r t i m).r else (dp a b c r t i m).p) + (b : Int) then (dp a b c r t i m).q else (if (dp a b c r t i m).r < (dp a b c r t i m).p then (dp a b c r t i m).r else (dp a b c r t i m).p) + (b : Int)) + (c : Int)) = mn2 (mn2 (dp a b c r t i m).p (dp a b c r t i m).r + b) (dp a b c r t i m).q + c := rfl
          have ka : ∀ y o, y ≠ n1 → y ≠ n2 → y ≠ n3 → H8 y = some o → Ha y = some o := fun y o y1 y2 y3 ey => by rw [hHa, upd_ne y2]; exact k9 y o y1 y2 y3 ey
          dsimp only
          rw [← hHa]
          clear hHa
          rw [raw] at x2
          refine ⟨.int (0 + (m : Nat)), rfl, _, 0, rfl, rfl, _, rfl, ite2 (fun cm => ?_) (fun cm => ?_)⟩
          · have cm := of_decide_eq_true cm
            obtain ⟨m, rfl⟩ : ∃ m', m = m' + 1 := ⟨m - 1, by omega⟩
            have ej : (0 : Int) + ((m + 1 : Nat) : Int) - 1 = (m : Int) := by omega
            have hmt : m < t.length := by omega
            have gt : atI (T t).cps.toList ((0 : Int) + ((m + 1 : Nat) : Int) - 1) = some (t.getD m 0) := by
              rw [ej, T_list]
              exact atI_nat (by rw [List.getD_eq_getElem?_getD, List.getElem?_eq_getElem hmt]; rfl)
            obtain ⟨y1, y2, y3⟩ := hlt m (by omega)
            refine ⟨.ref pp, rfl, .int (0 + ((m + 1 : Nat) : Int)), rfl, _, 1, rfl, rfl, pp, _, _, .int (dp a b c r t i m).p, rfl, rfl, .inl (.inl (old ka hp5)), fl_ati _ ej (by omega), .ref pq, rfl, .int (0 + ((m + 1 : Nat) : Int)), rfl, _, 1, rfl, rfl, pq, _, _, .int (dp a b c r t i m).q, rfl, rfl, .inl (.inl (old ka hq5)), fl_ati _ ej (by omega), .ref pr, rfl, .int (0 + ((m + 1 : Nat) : Int)), rfl, _, 1, rfl, rfl, pr, _, _, .int (dp a b c r t i m).r, rfl, rfl, .inl (.inl (old ka hr5)), fl_ati _ ej (by omega), _, _, _, _, rfl, mn3_nu _ _ _, ?_⟩
            refine ⟨.int a, rfl, .str (T [ch]), rfl, .str (T t), rfl, .int (0 + ((m + 1 : Nat) : Int)), rfl, _, 1, rfl, rfl, T t, _, t.getD m 0, rfl, rfl, line_ok6 (by rw [T_len]; omega), gt, ch, t.getD m 0, rfl, _, rfl, .inr ⟨_, rfl, _, _, rfl, rfl, .inl ⟨by omega, by omega⟩, _, _, rfl, rfl, .ref n1, rfl, .int (0 + ((m + 1 : Nat) : Int)), rfl, n1, _, _, m + 1, rfl, rfl, x1, ix_set em (by rw [fl_lenV]; omega), ?_⟩⟩
            rw [fl_set]
            dsimp only
            rw [wgt_mul]
            have eq1 : (dp a b c r t (i + 1) (m + 1)).p = mn3 (dp a b c r t i m).p (dp a b c r t i m).q (dp a b c r t i m).r + wgt a (r.getD i 0) (t.getD m 0) := rfl
            rw [ech] at eq1
            rw [← eq1]
            have z2 := (upd_ne (H := Ha) (o := .lst ((fl Z fun k => if k = m + 1 then (dp a b c r t (i + 1) (m + 1)).p else f1 k).map V.int)) m12.symm).trans x2
            have z3 := (upd_ne (H := Ha) (o := .lst ((fl Z fun k => if k = m + 1 then (dp a b c r t (i + 1) (m + 1)).p else f1 k).map V.int)) m13.symm).trans x3
            obtain ⟨Hb, hHb⟩ : ∃ Hb, Hb = upd Ha n1 (.lst ((fl Z fun k => if k = m + 1 then (dp a b c r t (i + 1) (m + 1)).p else f1 k).map V.int)) := ⟨_, rfl⟩
            have z1 : Hb n1 = some (LI (fl Z fun k => if k = m + 1 then (dp a b c r t (i + 1) (m + 1)).p else f1 k)) := by rw [hHb, upd_same]
            rw [← hHb] at z2 z3
            have kb : ∀ y o, y ≠ n1 → y ≠ n2 → y ≠ n3 → H8 y = some o → Hb y = some o := fun y o y1 y2 y3 ey => by rw [hHb, upd_ne y1]; exact ka y o y1 y2 y3 ey
            rw [← hHb]
            clear hHb
            have gw : ∀ {g : Nat → Int} {v : Int} {i : Int}, i = (m : Int) → atI ((fl Z fun i => if i = m + 1 then v else g i).map V.int) i = some (.int (g m)) := fun {g v i} e => by
              rw [fl_ati (k := m) _ e (by omega), if_neg (by omega)]
            refine ⟨.ref n1, rfl, .int (0 + ((m + 1 : Nat) : Int)), rfl, _, 1, rfl, rfl, n1, _, _, .int (f1 m), rfl, rfl, .inl (.inl z1), gw ej, .ref n2, rfl, .int (0 + ((m + 1 : Nat) : Int)), rfl, _, 1, rfl, rfl, n2, _, _, .int (f2 m), rfl, rfl, .inl (.inl z2), gw ej, _, _, rfl, .int b, rfl, _, _, rfl, rfl, .ref n3, rfl, .int (0 + ((m + 1 : Nat) : Int)), rfl, _, 1, rfl, rfl, n3, _, _, .int (f3 m), rfl, rfl, .inl (.inl z3), fl_ati _ ej (by omega), _, _, rfl, .int c, rfl, _, _, rfl, rfl, .ref n3, rfl, .int (0 + ((m + 1 : Nat) : Int)), rfl, n3, _, _, m + 1, rfl, rfl, z3, ix_set em (by rw [fl_lenV]; omega), ?_⟩
            rw [fl_set]
            refine ⟨fun y o y1 y2 y3 ey => by rw [upd_ne y3]; exact kb y o y1 y2 y3 ey, ⟨_, _, _, by rw [upd_ne m13]; exact z1, by rw [upd_ne m23]; exact z2, upd_same, fun k hk => ?_, fun k hk => ?_⟩, _, rfl⟩
            · by_cases ek : k = m + 1
              · subst ek
                rw [if_pos rfl, if_pos rfl, if_pos rfl, ← eq2, y1, y2, y3]
                exact ⟨rfl, rfl, rfl⟩
              · rw [if_neg ek, if_neg ek, if_neg ek]
                exact hlt k (by omega)
            · rw [if_neg (by omega), if_neg (by omega), if_neg (by omega)]
              exact hge k (by omega)
          · have cm : ¬ (0 + ((m : Nat) : Int) > 0) := fun y => cm (decide_eq_true y)
            have hm0 : m = 0 := by omega
            subst hm0
            refine ⟨ka, ⟨_, _, _, x1, x2, x3, fun k hk => ?_, fun k hk => ?_⟩, _, rfl⟩
            · have hk0 : k = 0 := by omega
              subst hk0
              rw [if_pos rfl, ← eq2]
              obtain ⟨y1, _, y3⟩ := hge 0 (Nat.le_refl _)
              exact ⟨y1, rfl, y3⟩
            · rw [if_neg (by omega)]
              exact hge k (by omega)
        · rintro σ H9 ⟨k9, ⟨f1, f2, f3, e1, e2, e3, hlt, hge⟩, v11, rfl⟩
          rw [eZ] at hlt
          refine ⟨k9, ?_, ?_, ?_, v11, rfl⟩
          · rw [e1, fl_ext fun k hk => (hlt k hk).1]
          · rw [e2, fl_ext fun k hk => (hlt k hk).2.1]
          · rw [e3, fl_ext fun k hk => (hlt k hk).2.2]
      rintro σ H9 ⟨k9, e1, e2, e3, v11', rfl⟩
      exact ⟨.ref n1, rfl, .ref n2, rfl, .ref n3, rfl, fun y o ey => old k9 (s5 _ _ ey), n1, n2, n3, _, _, _, _, _, e1, e2, e3, rfl⟩
    · rintro σ H5 ⟨s5, pp, pq, pr, v11, v12, v13, v14, v15, hp5, hq5, hr5, rfl⟩
      rw [T_size] at hp5 hq5 hr5
      exact ⟨.ref pp, rfl, .int e, rfl, pp, _, _, .int (dp a b c r t r.length e).p, rfl, rfl, .inl (.inl hp5), fl_ati _ rfl (by omega), .ref pq, rfl, .int e, rfl, pq, _, _, .int (dp a b c r t r.length e).q, rfl, rfl, .inl (.inl hq5), fl_ati _ rfl (by omega), .ref pr, rfl, .int e, rfl, pr, _, _, .int (dp a b c r t r.length e).r, rfl, rfl, .inl (.inl hr5), fl_ati _ rfl (by omega), _, _, _, _, rfl, mn3_nu _ _ _, q _ s5⟩
end
/-! ### a paper is judged -/
section
open PySem.W PySem.SeqAt
def rMinL (K : PySem.W.Frag) : List V → Hp → VK → Prop := fun vs H Q => ∃ (p : Addr) (n : Int) (ms : List Int), vs = [V.ref p] ∧ SqL K H p ((n :: ms).map V.int) ∧ Q (.int (ms.foldl min n)) H
theorem cr_minL {X : Cx} (hc : X.calm = true) (hu : X.A.units + 64 < cLine) : CallR X (.builtin "min") (rMinL X.K) := by
  intro pins s σ H vs us Q I r h
  obtain ⟨p, n, ms, rfl, hs, q⟩ := h
  obtain ⟨its, rv, ht, _⟩ := I.list hs
  obtain rfl := Vals.ref1 r
  refine min_list_data (I.ok.hd hc) (vs := its.toArray) ht.isList (by simpa using ints_readAll s.heap rv.ints) (alike_ints (n :: ms)) (by rw [show PyData.depthAll (PyData.int n :: ms.map PyData.int) = 0 from depth_ints (n :: ms)]; omega) fun i v h' tk bs _ hr kp => ?_
  rw [minD_ints] at hr
  cases hr
  exact ⟨.int _, H, I.kept kp, ⟨_, rfl⟩, q⟩
end
theorem fold_le (v : Int) : ∀ (ms : List Int) (n : Int), v ≤ n → (∀ x ∈ ms, v ≤ x) → v ≤ ms.foldl min n
  | [], _, h, _ => h
  | m :: ms, n, h, hm => fold_le v ms (min n m) (by have := hm m List.mem_cons_self; omega) fun x hx => hm x (List.mem_cons_of_mem _ hx)
def XT (tt : TT) (σ : L2.St) (H0 : Hp) (k : Bool) : Prop := ∀ (H : Hp) (R : Bool → Hp → Prop), Same H0 H → R k H → tt σ H R
theorem xt_bound {K : PySem.W.Frag} {rl : List V → Hp → VK → Prop} {σ : L2.St} {H0 : Hp} {tc : TE} {la : Nat} {l : Addr} {L : List Int} {v : Int} (hσ : σ[la]? = some (some (.ref l))) (hL : H0 l = some (LI L)) (hv : XN tc σ H0 v) (h : ∀ x ∈ L, v ≤ x) (hr : ∀ (H : Hp) (Q : VK), H l = some (LI L) → Q (.int (L.length : Nat)) H → rl [.ref l] H Q) :
    XT (tAnd (tTest (tOp (rI0 fun i j => .bl (decide (j < i))) (tCB rl (tCons (tVar la) tNil)) (tC (.int 0)))) (tTest (tOp (rI0 fun i j => .bl (decide (j < i))) tc (tCB (rMinL K) (tCons (tVar la) tNil))))) σ H0 false := fun H R s q => by
  refine ⟨.ref l, hσ, hr _ _ (s _ _ hL) ⟨_, 0, rfl, rfl, _, rfl, ite2 (fun c => ?_) (fun c => ?_)⟩⟩
  · refine hv H _ s ⟨.ref l, hσ, ?_⟩
    cases L with
    | nil => exact absurd (of_decide_eq_true c) (by decide)
    | cons n ms =>
      refine ⟨l, n, ms, rfl, .inl (.inl (s _ _ hL)), v, _, rfl, rfl, _, rfl, ?_⟩
      have hf := fold_le v ms n (h n List.mem_cons_self) fun x hx => h x (List.mem_cons_of_mem _ hx)
      rw [decide_eq_false (by omega)]
      exact q
  · exact q
theorem xs_if2 {t1 t2 : TT} {u b : TS} {D : Ends} {σ : L2.St} {H : Hp} (h1 : XT t1 σ H false) (h2 : XT t2 σ H false) (q : b D σ H) : tSeq (tIfS (tOr t1 t2) u tNext) b D σ H := h1 H _ (Same.refl _) (iteF (h2 H _ (Same.refl _) (iteF q)))
theorem xs_if1 {t1 : TT} {u : TS} {D : Ends} {σ : L2.St} {H : Hp} (h1 : XT t1 σ H false) (q : D.nx σ H) : tIfS t1 u tNext D σ H := h1 H _ (Same.refl _) (iteF q)
theorem xs_ret {te : TE} {D : Ends} {σ : L2.St} {H : Hp} {v : Int} (h : XN te σ H v) (q : D.rt (.int v) H) : tRet te D σ H := h H _ (Same.refl _) q
theorem xn_min3 {σ : L2.St} {H0 : Hp} {t1 t2 t3 : TE} {x y z : Int} (h1 : XN t1 σ H0 x) (h2 : XN t2 σ H0 y) (h3 : XN t3 σ H0 z) : XN (tCB (rNuC3 nuMin3) (tCons t1 (tCons t2 (tCons t3 tNil)))) σ H0 (mn3 x y z) := fun H Q s q => h1 H _ s (h2 H _ s (h3 H _ s ⟨_, _, _, _, rfl, mn3_nu _ _ _, q⟩))
def ww (a : Nat) (r t : List Nat) (i j : Nat) : Int := if 0 < i ∧ 0 < j then wgt a (r.getD (i - 1) 0) (t.getD (j - 1) 0) else 0
/-! ### what a paper shows: the conditions of point 28, with and without the cells that bound nothing -/
def mP (M : Int) (g : Nat → Nat → Int) (i j : Nat) : Int := if 0 < i ∧ j = 0 then M else g i j
def mQ (M : Int) (g : Nat → Nat → Int) (i j : Nat) : Int := if i = 0 then M else g i j
def mR (M : Int) (g : Nat → Nat → Int) (i j : Nat) : Int := if j = 0 then M else g i j
theorem mP_s {M : Int} {g : Nat → Nat → Int} {i j : Nat} : mP M g i (j + 1) = g i (j + 1) := by
  unfold mP
  rw [if_neg (by omega)]
theorem mP_z {M : Int} {g : Nat → Nat → Int} {j : Nat} : mP M g 0 j = g 0 j := by
  unfold mP
  rw [if_neg (by omega)]
theorem mQ_s {M : Int} {g : Nat → Nat → Int} {i j : Nat} : mQ M g (i + 1) j = g (i + 1) j := by
  unfold mQ
  rw [if_neg (by omega)]
theorem mR_s {M : Int} {g : Nat → Nat → Int} {i j : Nat} : mR M g i (j + 1) = g i (j + 1) := by
  unfold mR
  rw [if_neg (by omega)]
section
variable (a b c : Nat) (r t : List Nat) (P Q R : Nat → Nat → Int)
def cT (i j : Nat) : Prop := R i (j + 1) ≤ c + mn3 (b + P i j) (b + Q i j) (R i j)
def cP (i j : Nat) : Prop := P (i + 1) (j + 1) ≤ wgt a (r.getD i 0) (t.getD j 0) + mn3 (P i j) (Q i j) (R i j)
def cQ (i j : Nat) : Prop := Q (i + 1) j ≤ c + mn3 (b + P i j) (Q i j) (b + R i j)
/-- the conditions, all cells bound -/
def HoldM (n e : Nat) : Prop := (∀ j, j ≤ e → P 0 j ≤ 0) ∧ (∀ i, i ≤ n → ∀ j, j < e → cT b c P Q R i j) ∧ (∀ i, i < n → ∀ j, j < e → cP a r t P Q R i j) ∧ ∀ i, i < n → ∀ j, j ≤ e → cQ b c P Q R i j
/-- the conditions of point 28 -/
def HoldL (n e : Nat) : Prop := ∀ i j, i ≤ n → j ≤ e → (∀ x ∈ bP P Q R i j (ww a r t i j), P i j ≤ x) ∧ (∀ x ∈ bQ P Q R i j ((b : Int) + c) c, Q i j ≤ x) ∧ ∀ x ∈ bR P Q R i j ((b : Int) + c) c, R i j ≤ x
end
theorem ww_s {a : Nat} {r t : List Nat} {i j : Nat} : ww a r t (i + 1) (j + 1) = wgt a (r.getD i 0) (t.getD j 0) := by
  unfold ww
  rw [if_pos ⟨by omega, by omega⟩]
  rfl
theorem mem_oL {k : Bool} {v x : Int} (h : x ∈ oL k v) : k = true ∧ x = v := by
  unfold oL at h
  split at h
  · exact ⟨by assumption, by simpa using h⟩
  · cases h
theorem oL_mem {k : Bool} {v : Int} (h : k = true) : v ∈ oL k v := by
  unfold oL
  rw [if_pos h]
  exact List.mem_singleton.mpr rfl
theorem wgt_le (a x y : Nat) : wgt a x y ≤ a := by
  unfold wgt
  split <;> omega
theorem dec_eqI {i j : Int} : decide (V.int i = V.int j) = decide (i = j) := by
  by_cases h : i = j
  · subst h
    rw [decide_eq_true rfl, decide_eq_true rfl]
  · rw [decide_eq_false h, decide_eq_false fun y => h (V.int.inj y)]
section
variable {a b c : Nat} {r t : List Nat} {P Q R : Nat → Nat → Int} {M : Int} {n e : Nat}
/-- what is asked of a cell, in numbers -/
theorem holdL_iff : HoldL a b c r t P Q R n e ↔ (∀ j, j ≤ e → P 0 j ≤ 0) ∧
    (∀ i j, i < n → j < e → (i = 0 ∨ 0 < j → P (i + 1) (j + 1) ≤ wgt a (r.getD i 0) (t.getD j 0) + P i j) ∧ (0 < i → P (i + 1) (j + 1) ≤ wgt a (r.getD i 0) (t.getD j 0) + Q i j) ∧ (0 < j → P (i + 1) (j + 1) ≤ wgt a (r.getD i 0) (t.getD j 0) + R i j)) ∧
    (∀ i j, i < n → j ≤ e → (i = 0 ∨ 0 < j → Q (i + 1) j ≤ P i j + (b + c)) ∧ (0 < j → Q (i + 1) j ≤ R i j + (b + c)) ∧ (0 < i → Q (i + 1) j ≤ Q i j + c)) ∧
    ∀ i j, i ≤ n → j < e → (i = 0 ∨ 0 < j → R i (j + 1) ≤ P i j + (b + c)) ∧ (0 < i → R i (j + 1) ≤ Q i j + (b + c)) ∧ (0 < j → R i (j + 1) ≤ R i j + c) := by
  have k1 : ∀ i : Nat, decide (V.int ((i + 1 : Nat) : Int) = V.int 1) = decide (i = 0) := fun i => by
    rw [dec_eqI]
    exact decide_eq_decide.mpr ⟨fun h => by omega, fun h => by omega⟩
  have k0 : ∀ i : Nat, decide (V.int (i : Int) = V.int 0) = decide (i = 0) := fun i => by
    rw [dec_eqI]
    exact decide_eq_decide.mpr ⟨fun h => by omega, fun h => by omega⟩
  have k2 : ∀ j : Nat, decide ((1 : Int) < ((j + 1 : Nat) : Int)) = decide (0 < j) := fun j => decide_eq_decide.mpr ⟨fun h => by omega, fun h => by omega⟩
  have k3 : ∀ j : Nat, decide ((0 : Int) < (j : Int)) = decide (0 < j) := fun j => decide_eq_decide.mpr ⟨fun h => by omega, fun h => by omega⟩
  have eP : ∀ i j : Nat, bP P Q R (i + 1) (j + 1) (ww a r t (i + 1) (j + 1)) = oL (decide (i = 0) || decide (0 < j)) (P i j + wgt a (r.getD i 0) (t.getD j 0)) ++ oL (decide (0 < i)) (Q i j + wgt a (r.getD i 0) (t.getD j 0)) ++ oL (decide (0 < j)) (R i j + wgt a (r.getD i 0) (t.getD j 0)) := fun i j => by
    unfold bP
    rw [if_neg (by omega), if_neg (by omega), ww_s, k1, k2, k2]
    rfl
  have eQ : ∀ i j : Nat, bQ P Q R (i + 1) j ((b : Int) + c) c = oL (decide (i = 0) || decide (0 < j)) (P i j + ((b : Int) + c)) ++ oL (decide (0 < j)) (R i j + ((b : Int) + c)) ++ oL (decide (0 < i)) (Q i j + c) := fun i j => by
    unfold bQ
    rw [if_neg (by omega), k1, k2, k3]
    rfl
  have eR : ∀ i j : Nat, bR P Q R i (j + 1) ((b : Int) + c) c = oL (decide (i = 0) || decide (0 < j)) (P i j + ((b : Int) + c)) ++ oL (decide (0 < i)) (Q i j + ((b : Int) + c)) ++ oL (decide (0 < j)) (R i j + c) := fun i j => by
    unfold bR
    rw [if_neg (by omega), k0, k2, k3]
    rfl
  have or1 : ∀ {i j : Nat}, (i = 0 ∨ 0 < j) → (decide (i = 0) || decide (0 < j)) = true := fun h => by
    rcases h with h | h
    · rw [decide_eq_true h]
      rfl
    · rw [decide_eq_true h, Bool.or_true]
  have or2 : ∀ {i j : Nat}, (decide (i = 0) || decide (0 < j)) = true → (i = 0 ∨ 0 < j) := fun h => by
    rcases Bool.or_eq_true _ _ |>.mp h with h | h
    · exact .inl (of_decide_eq_true h)
    · exact .inr (of_decide_eq_true h)
  constructor
  · intro h
    refine ⟨fun j hj => ?_, fun i j hi hj => ?_, fun i j hi hj => ?_, fun i j hi hj => ?_⟩
    · refine (h 0 j (Nat.zero_le _) hj).1 0 ?_
      unfold bP
      rw [if_pos rfl]
      exact List.mem_singleton.mpr rfl
    · have h1 := (h (i + 1) (j + 1) (by omega) (by omega)).1
      rw [eP] at h1
      refine ⟨fun y => ?_, fun y => ?_, fun y => ?_⟩
      · have := h1 _ (List.mem_append_left _ (List.mem_append_left _ (oL_mem (or1 y))))
        omega
      · have := h1 _ (List.mem_append_left _ (List.mem_append_right _ (oL_mem (decide_eq_true y))))
        omega
      · have := h1 _ (List.mem_append_right _ (oL_mem (decide_eq_true y)))
        omega
    · have h1 := (h (i + 1) j (by omega) (by omega)).2.1
      rw [eQ] at h1
      exact ⟨fun y => h1 _ (List.mem_append_left _ (List.mem_append_left _ (oL_mem (or1 y)))), fun y => h1 _ (List.mem_append_left _ (List.mem_append_right _ (oL_mem (decide_eq_true y)))), fun y => h1 _ (List.mem_append_right _ (oL_mem (decide_eq_true y)))⟩
    · have h1 := (h i (j + 1) (by omega) (by omega)).2.2
      rw [eR] at h1
      exact ⟨fun y => h1 _ (List.mem_append_left _ (List.mem_append_left _ (oL_mem (or1 y)))), fun y => h1 _ (List.mem_append_left _ (List.mem_append_right _ (oL_mem (decide_eq_true y)))), fun y => h1 _ (List.mem_append_right _ (oL_mem (decide_eq_true y)))⟩
  · rintro ⟨h0, hP, hQ, hR⟩ i j hi hj
    refine ⟨fun x hx => ?_, fun x hx => ?_, fun x hx => ?_⟩
    · cases i with
      | zero =>
        unfold bP at hx
        rw [if_pos rfl] at hx
        obtain rfl : x = 0 := by simpa using hx
        exact h0 j hj
      | succ i =>
        cases j with
        | zero =>
          unfold bP at hx
          rw [if_neg (by omega), if_pos rfl] at hx
          cases hx
        | succ j =>
          obtain ⟨q1, q2, q3⟩ := hP i j (by omega) (by omega)
          rw [eP] at hx
          rcases List.mem_append.mp hx with hx | hx
          · rcases List.mem_append.mp hx with hx | hx
            · obtain ⟨k, rfl⟩ := mem_oL hx
              have := q1 (or2 k)
              omega
            · obtain ⟨k, rfl⟩ := mem_oL hx
              have := q2 (of_decide_eq_true k)
              omega
          · obtain ⟨k, rfl⟩ := mem_oL hx
            have := q3 (of_decide_eq_true k)
            omega
    · cases i with
      | zero =>
        unfold bQ at hx
        rw [if_pos rfl] at hx
        cases hx
      | succ i =>
        obtain ⟨q1, q2, q3⟩ := hQ i j (by omega) (by omega)
        rw [eQ] at hx
        rcases List.mem_append.mp hx with hx | hx
        · rcases List.mem_append.mp hx with hx | hx
          · obtain ⟨k, rfl⟩ := mem_oL hx
            exact q1 (or2 k)
          · obtain ⟨k, rfl⟩ := mem_oL hx
            exact q2 (of_decide_eq_true k)
        · obtain ⟨k, rfl⟩ := mem_oL hx
          exact q3 (of_decide_eq_true k)
    · cases j with
      | zero =>
        unfold bR at hx
        rw [if_pos rfl] at hx
        cases hx
      | succ j =>
        obtain ⟨q1, q2, q3⟩ := hR i j (by omega) (by omega)
        rw [eR] at hx
        rcases List.mem_append.mp hx with hx | hx
        · rcases List.mem_append.mp hx with hx | hx
          · obtain ⟨k, rfl⟩ := mem_oL hx
            exact q1 (or2 k)
          · obtain ⟨k, rfl⟩ := mem_oL hx
            exact q2 (of_decide_eq_true k)
        · obtain ⟨k, rfl⟩ := mem_oL hx
          exact q3 (of_decide_eq_true k)
theorem q_bound (h : HoldL a b c r t P Q R n e) : ∀ i j, i < n → j ≤ e → Q (i + 1) j ≤ ((i + 1 : Nat) : Int) * ((a : Int) + b + c) := by
  obtain ⟨h0, hP, hQ, hR⟩ := holdL_iff.mp h
  intro i
  induction i with
  | zero =>
    intro j hi hj
    have h1 := (hQ 0 j hi hj).1 (.inl rfl)
    have h2 := h0 j hj
    omega
  | succ i ih =>
    intro j hi hj
    have h1 := (hQ (i + 1) j hi hj).2.2 (by omega)
    have h2 := ih j (by omega) hj
    have e1 : ((i + 1 + 1 : Nat) : Int) * ((a : Int) + b + c) = ((i + 1 : Nat) : Int) * ((a : Int) + b + c) + ((a : Int) + b + c) := by
      rw [Int.natCast_add (i + 1) 1, Int.add_mul]
      omega
    omega
theorem p_bound (h : HoldL a b c r t P Q R n e) : ∀ i j, i < n → j < e → P (i + 1) (j + 1) ≤ ((i + 1 : Nat) : Int) * ((a : Int) + b + c) := by
  obtain ⟨h0, hP, hQ, hR⟩ := holdL_iff.mp h
  intro i j hi hj
  have hw := wgt_le a (r.getD i 0) (t.getD j 0)
  cases i with
  | zero =>
    have h1 := (hP 0 j hi hj).1 (.inl rfl)
    have h2 := h0 j (by omega)
    omega
  | succ i =>
    have h1 := (hP (i + 1) j hi hj).2.1 (by omega)
    have h2 := q_bound h i j (by omega) (by omega)
    have e1 : ((i + 1 + 1 : Nat) : Int) * ((a : Int) + b + c) = ((i + 1 : Nat) : Int) * ((a : Int) + b + c) + ((a : Int) + b + c) := by
      rw [Int.natCast_add (i + 1) 1, Int.add_mul]
      omega
    omega
theorem r_bound (h : HoldL a b c r t P Q R n e) : ∀ i j, i ≤ n → j < e → R i (j + 1) ≤ ((i + 1 : Nat) : Int) * ((a : Int) + b + c) := by
  obtain ⟨h0, hP, hQ, hR⟩ := holdL_iff.mp h
  intro i j hi hj
  cases i with
  | zero =>
    have h1 := (hR 0 j hi hj).1 (.inl rfl)
    have h2 := h0 j (by omega)
    omega
  | succ i =>
    have h1 := (hR (i + 1) j hi hj).2.1 (by omega)
    have h2 := q_bound h i j (by omega) (by omega)
    have e1 : ((i + 1 + 1 : Nat) : Int) * ((a : Int) + b + c) = ((i + 1 : Nat) : Int) * ((a : Int) + b + c) + ((a : Int) + b + c) := by
      rw [Int.natCast_add (i + 1) 1, Int.add_mul]
      omega
    omega
theorem up_bound {S : Int} {i m : Nat} (hS : 0 ≤ S) (h : i ≤ m) : (i : Int) * S ≤ (m : Int) * S := Int.mul_le_mul_of_nonneg_right (by omega) hS
/-- with a great number in the cells that bound nothing, the conditions are the same -/
theorem hold_iff (hM : M = ((n : Int) + e) * ((a : Int) + b + c)) : HoldM a b c r t (mP M P) (mQ M Q) (mR M R) n e ↔ HoldL a b c r t P Q R n e := by
  have hS : (0 : Int) ≤ (a : Int) + b + c := by omega
  have hM2 : M = ((n + e : Nat) : Int) * ((a : Int) + b + c) := by rw [hM, Int.natCast_add]
  constructor
  · rintro ⟨h0, hT, hP, hQ⟩
    refine holdL_iff.mpr ⟨fun j hj => ?_, fun i j hi hj => ?_, fun i j hi hj => ?_, fun i j hi hj => ?_⟩
    · have := h0 j hj
      rw [mP_z] at this
      exact this
    · have h1 := hP i hi j hj
      unfold cP at h1
      rw [mP_s] at h1
      have m := mn3_le (mP M P i j) (mQ M Q i j) (mR M R i j)
      refine ⟨fun y => ?_, fun y => ?_, fun y => ?_⟩
      · have e1 : mP M P i j = P i j := by
          unfold mP
          rw [if_neg (by omega)]
        omega
      · have e1 : mQ M Q i j = Q i j := by
          unfold mQ
          rw [if_neg (by omega)]
        omega
      · have e1 : mR M R i j = R i j := by
          unfold mR
          rw [if_neg (by omega)]
        omega
    · have h1 := hQ i hi j hj
      unfold cQ at h1
      rw [mQ_s] at h1
      have m := mn3_le (b + mP M P i j) (mQ M Q i j) (b + mR M R i j)
      refine ⟨fun y => ?_, fun y => ?_, fun y => ?_⟩
      · have e1 : mP M P i j = P i j := by
          unfold mP
          rw [if_neg (by omega)]
        omega
      · have e1 : mR M R i j = R i j := by
          unfold mR
          rw [if_neg (by omega)]
        omega
      · have e1 : mQ M Q i j = Q i j := by
          unfold mQ
          rw [if_neg (by omega)]
        omega
    · have h1 := hT i hi j hj
      unfold cT at h1
      rw [mR_s] at h1
      have m := mn3_le (b + mP M P i j) (b + mQ M Q i j) (mR M R i j)
      refine ⟨fun y => ?_, fun y => ?_, fun y => ?_⟩
      · have e1 : mP M P i j = P i j := by
          unfold mP
          rw [if_neg (by omega)]
        omega
      · have e1 : mQ M Q i j = Q i j := by
          unfold mQ
          rw [if_neg (by omega)]
        omega
      · have e1 : mR M R i j = R i j := by
          unfold mR
          rw [if_neg (by omega)]
        omega
  · intro h
    obtain ⟨h0, hP, hQ, hR⟩ := holdL_iff.mp h
    refine ⟨fun j hj => ?_, fun i hi j hj => ?_, fun i hi j hj => ?_, fun i hi j hj => ?_⟩
    · rw [mP_z]
      exact h0 j hj
    · obtain ⟨q1, q2, q3⟩ := hR i j hi hj
      have bd := r_bound h i j hi hj
      have up := up_bound (i := i + 1) (m := n + e) hS (by omega)
      unfold cT
      rw [mR_s]
      have m := mn3_le (b + mP M P i j) (b + mQ M Q i j) (mR M R i j)
      have t1 : R i (j + 1) ≤ mP M P i j + (b + c) := by
        unfold mP
        split
        · omega
        · exact q1 (by omega)
      have t2 : R i (j + 1) ≤ mQ M Q i j + (b + c) := by
        unfold mQ
        split
        · omega
        · exact q2 (by omega)
      have t3 : R i (j + 1) ≤ mR M R i j + c := by
        unfold mR
        split
        · omega
        · exact q3 (by omega)
      omega
    · obtain ⟨q1, q2, q3⟩ := hP i j hi hj
      have bd := p_bound h i j hi hj
      have up := up_bound (i := i + 1) (m := n + e) hS (by omega)
      have hw := wgt_nn (a := a) (r.getD i 0) (t.getD j 0)
      unfold cP
      rw [mP_s]
      have m := mn3_le (mP M P i j) (mQ M Q i j) (mR M R i j)
      have t1 : P (i + 1) (j + 1) ≤ wgt a (r.getD i 0) (t.getD j 0) + mP M P i j := by
        unfold mP
        split
        · omega
        · exact q1 (by omega)
      have t2 : P (i + 1) (j + 1) ≤ wgt a (r.getD i 0) (t.getD j 0) + mQ M Q i j := by
        unfold mQ
        split
        · omega
        · exact q2 (by omega)
      have t3 : P (i + 1) (j + 1) ≤ wgt a (r.getD i 0) (t.getD j 0) + mR M R i j := by
        unfold mR
        split
        · omega
        · exact q3 (by omega)
      omega
    · obtain ⟨q1, q2, q3⟩ := hQ i j hi hj
      have bd := q_bound h i j hi hj
      have up := up_bound (i := i + 1) (m := n + e) hS (by omega)
      unfold cQ
      rw [mQ_s]
      have m := mn3_le (b + mP M P i j) (mQ M Q i j) (b + mR M R i j)
      have t1 : Q (i + 1) j ≤ mP M P i j + (b + c) := by
        unfold mP
        split
        · omega
        · exact q1 (by omega)
      have t2 : Q (i + 1) j ≤ mR M R i j + (b + c) := by
        unfold mR
        split
        · omega
        · exact q2 (by omega)
      have t3 : Q (i + 1) j ≤ mQ M Q i j + c := by
        unfold mQ
        split
        · omega
        · exact q3 (by omega)
      omega
/-- what holds shows no more than the least cost -/
theorem hold_le (h : HoldM a b c r t P Q R n e) (fP : ∀ i, 0 < i → P i 0 ≤ far) (fQ : ∀ j, Q 0 j ≤ far) (fR : ∀ i, R i 0 ≤ far) : ∀ i, i ≤ n → ∀ j, j ≤ e → P i j ≤ (dp a b c r t i j).p ∧ Q i j ≤ (dp a b c r t i j).q ∧ R i j ≤ (dp a b c r t i j).r := by
  obtain ⟨h0, hT, hP, hQ⟩ := h
  have tt : ∀ i j (p q s : Int), i ≤ n → j < e → P i j ≤ p → Q i j ≤ q → R i j ≤ s → R i (j + 1) ≤ mn2 (mn2 p q + b) s + c := fun i j p q s hi hj l1 l2 l3 => by
    have h1 := hT i hi j hj
    unfold cT at h1
    have m := mn3_le (b + P i j) (b + Q i j) (R i j)
    have m1 := mn2_le (mn2 p q + b) s
    have m2 := mn2_le p q
    omega
  intro i
  induction i with
  | zero =>
    intro _ j
    induction j with
    | zero => exact fun _ => ⟨h0 0 (Nat.zero_le _), fQ 0, fR 0⟩
    | succ j ih =>
      intro hj
      obtain ⟨l1, l2, l3⟩ := ih (by omega)
      refine ⟨h0 _ hj, fQ _, ?_⟩
      have h1 := hT 0 (Nat.zero_le _) j hj
      unfold cT at h1
      have m := mn3_le (b + P 0 j) (b + Q 0 j) (R 0 j)
      have p0 := h0 j (by omega)
      have l3 : R 0 j ≤ (row0 b c j).r := l3
      show R 0 (j + 1) ≤ mn2 (0 + b) (row0 b c j).r + c
      have m1 := mn2_le (0 + b : Int) (row0 b c j).r
      omega
  | succ i ihi =>
    intro hi j
    have qq : ∀ j, j ≤ e → Q (i + 1) j ≤ mn2 (mn2 (dp a b c r t i j).p (dp a b c r t i j).r + b) (dp a b c r t i j).q + c := fun j hj => by
      obtain ⟨l1, l2, l3⟩ := ihi (by omega) j hj
      have h1 := hQ i (by omega) j hj
      unfold cQ at h1
      have m := mn3_le (b + P i j) (Q i j) (b + R i j)
      have m1 := mn2_le (mn2 (dp a b c r t i j).p (dp a b c r t i j).r + b) (dp a b c r t i j).q
      have m2 := mn2_le (dp a b c r t i j).p (dp a b c r t i j).r
      omega
    induction j with
    | zero => exact fun hj => ⟨fP _ (by omega), qq 0 hj, fR _⟩
    | succ j ih =>
      intro hj
      obtain ⟨l1, l2, l3⟩ := ih (by omega)
      obtain ⟨k1, k2, k3⟩ := ihi (by omega) j (by omega)
      refine ⟨?_, qq _ hj, tt (i + 1) j _ _ _ hi hj l1 l2 l3⟩
      have h1 := hP i (by omega) j (by omega)
      unfold cP at h1
      have m := mn3_le (P i j) (Q i j) (R i j)
      show P (i + 1) (j + 1) ≤ mn3 (dp a b c r t i j).p (dp a b c r t i j).q (dp a b c r t i j).r + wgt a (r.getD i 0) (t.getD j 0)
      have m1 := mn3_le (dp a b c r t i j).p (dp a b c r t i j).q (dp a b c r t i j).r
      omega
/-- the number that is shown -/
def shN (gp gq gr : Nat → Nat → Int) (n e : Nat) : Int := if e = 0 then gq n 0 else mn3 (gp n e) (gq n e) (gr n e)
theorem shN_eq (h : HoldL a b c r t P Q R n e) (hn : 1 ≤ n) (hM : M = ((n : Int) + e) * ((a : Int) + b + c)) : mn3 (mP M P n e) (mQ M Q n e) (mR M R n e) = shN P Q R n e := by
  obtain ⟨n, rfl⟩ : ∃ m, n = m + 1 := ⟨n - 1, by omega⟩
  have hS : (0 : Int) ≤ (a : Int) + b + c := by omega
  have hM2 : M = ((n + 1 + e : Nat) : Int) * ((a : Int) + b + c) := by rw [hM, Int.natCast_add (n + 1) e]
  unfold shN
  cases e with
  | zero =>
    rw [if_pos rfl, mQ_s]
    have bd := q_bound h n 0 (by omega) (Nat.le_refl _)
    have up := up_bound (i := n + 1) (m := n + 1 + 0) hS (by omega)
    have e1 : mP M P (n + 1) 0 = M := by
      unfold mP
      rw [if_pos ⟨by omega, rfl⟩]
    have e2 : mR M R (n + 1) 0 = M := by
      unfold mR
      rw [if_pos rfl]
    rw [e1, e2]
    have m := mn3_le M (Q (n + 1) 0) M
    omega
  | succ e =>
    rw [if_neg (by omega), mQ_s, mP_s, mR_s]
theorem shN_le (h : HoldL a b c r t P Q R n e) (hn : 1 ≤ n) (hM : M = ((n : Int) + e) * ((a : Int) + b + c)) (hf : M ≤ far) : shN P Q R n e ≤ (dp a b c r t n e).mn := by
  rw [← shN_eq h hn hM]
  have hh := (hold_iff hM).mpr h
  obtain ⟨l1, l2, l3⟩ := hold_le hh (fun i hi => by
    unfold mP
    rw [if_pos ⟨hi, rfl⟩]
    exact hf) (fun j => hf) (fun i => by
    unfold mR
    rw [if_pos rfl]
    exact hf) n (Nat.le_refl _) e (Nat.le_refl _)
  unfold C3.mn
  have m1 := mn3_le (mP M P n e) (mQ M Q n e) (mR M R n e)
  have m2 := mn3_le (dp a b c r t n e).p (dp a b c r t n e).q (dp a b c r t n e).r
  omega
end
/-! ### the program: the parts of shown -/
section
open PySem.W PySem.SeqAt Builtin
variable {prog : Program} {w : World} {A : Around} {E : Value → Shared → Prop} {s : Shared}
theorem sum_intTup {Q : Value → Shared → Prop} {l : Addr} {xs : Array (Int × Tok)} (hh : A.handled = none) (hl : s.heap.IsTuple l (intItems xs))
    (h : ∀ h' tk t', (∀ b o, s.heap.get? b = some o → h'.get? b = some o) → Q (.int (preSum (numAt xs) xs.size) t') { s with heap := h', toks := tk }) :
    wpAny (model prog w) A (call (.builtin "sum") [.ref l]) Q E s := by
  have hlt : l < s.heap.objs.size := by obtain ⟨_, e, _⟩ := hl; exact Heap.lt_size e
  refine call_sum_walkG (wpAny_pyIter_tuple hl ?_)
  refine ⟨_, _, _, _, _, _, numAt xs, rfl, Walks.tuple (A := A.in1) hh _ l (Nat.ne_of_lt hlt) (intItems xs), ⟨⟨_, Heap.get?_push_size _ rfl, rfl, rfl⟩, hl.push _⟩, fun b hb => ?_, (fun _ _ => intItems_at), fun h' tk t' hk => ?_⟩
  · show b < (s.heap.push _).objs.size
    rw [Heap.size_push]
    rcases List.mem_cons.mp hb with rfl | hb
    · exact Nat.lt_succ_self _
    · rcases List.mem_cons.mp hb with rfl | hb
      · exact Nat.lt_succ_of_lt hlt
      · cases hb
  · have := h h' tk t' (fun b o e => hk b o (fun hm => by rw [List.mem_singleton.mp hm] at e; exact Nat.lt_irrefl _ (Heap.lt_size e)) (Heap.get?_push_of_some _ e))
    simpa [intItems] using this
def rSumT (K : PySem.W.Frag) : List V → Hp → VK → Prop := fun vs H Q => ∃ (a : Addr) (ns : List Int), vs = [V.ref a] ∧ SqT K H a (ns.map V.int) ∧ Q (.int ns.sum) H
theorem cr_sumT {X : Cx} (hc : X.calm = true) : CallR X (.builtin "sum") (rSumT X.K) := by
  intro pins s σ H vs us Q I r h
  obtain ⟨a, ns, rfl, hs, q⟩ := h
  obtain ⟨its, rv, hl, _⟩ := I.tuple hs
  rw [Vals.ref1 r]
  have hi := rv.ints
  obtain ⟨xs, e⟩ := hi.allInts.items
  have hn : numsOf (intItems xs).toList = ns := by rw [← e]; exact hi.numsOf
  rw [nums_intItems] at hn
  rw [e] at hl
  refine sum_intTup (I.ok.hd hc) hl fun h' tk t' hk => ?_
  rw [preSum_eq, List.take_of_length_le (by simp), hn]
  exact ⟨.int _, H, I.kept hk, ⟨_, rfl⟩, q⟩
end
def rLnQ (K : PySem.W.Frag) : List V → Hp → VK → Prop := fun xs H Q => ∃ p ys, xs = [V.ref p] ∧ (SqL K H p ys ∨ SqT K H p ys) ∧ Q (V.int ((ys.length : Nat) : Int)) H
/-- any table of numbers -/
def TabL (H : Hp) (p : Addr) (X : List (List Int)) : Prop := ∃ vs : List V, H p = some (.lst vs) ∧ vs.length = X.length ∧ ∀ (i : Nat) (row : List Int), X[i]? = some row → ∃ q : Addr, vs[i]? = some (V.ref q) ∧ H q = some (LI row)
theorem TabL.same {H H' : Hp} {p : Addr} {X : List (List Int)} (h : TabL H p X) (s : Same H H') : TabL H' p X := by
  obtain ⟨vs, h1, h2, h3⟩ := h
  refine ⟨vs, s _ _ h1, h2, fun i row hi => ?_⟩
  obtain ⟨q, e1, e2⟩ := h3 i row hi
  exact ⟨q, e1, s _ _ e2⟩
/-- a table has the right sizes -/
def Sz (h w : Nat) (X : List (List Int)) : Prop := X.length = h ∧ ∀ row ∈ X, row.length = w
def gf (X : List (List Int)) (i j : Nat) : Int := (X.getD i []).getD j 0
theorem fl_getD (l : List Int) : fl l.length (fun j => l.getD j 0) = l := by
  refine List.ext_getElem? fun i => ?_
  by_cases hi : i < l.length
  · rw [fl, List.getElem?_map, List.getElem?_range hi]
    show some (l.getD i 0) = _
    rw [List.getD_eq_getElem?_getD, List.getElem?_eq_getElem hi]
    rfl
  · rw [List.getElem?_eq_none (by rw [fl_len]; omega), List.getElem?_eq_none (by omega)]
theorem TabL.at_ {H : Hp} {p : Addr} {X : List (List Int)} {n e : Nat} (h : TabL H p X) (z : Sz (n + 1) (e + 1) X) : TabAt H p n e (gf X) := by
  obtain ⟨vs, h1, h2, h3⟩ := h
  refine ⟨vs, h1, h2.trans z.1, fun i hi => ?_⟩
  have hi2 : i < X.length := by rw [z.1]; omega
  have ex : X[i]? = some X[i] := List.getElem?_eq_getElem hi2
  obtain ⟨q, e1, e2⟩ := h3 i _ ex
  refine ⟨q, e1, ?_⟩
  rw [e2]
  have hl := z.2 _ (List.getElem_mem hi2)
  have := fl_getD X[i]
  rw [hl] at this
  have e0 : X.getD i [] = X[i] := by
    rw [List.getD_eq_getElem?_getD, ex]
    rfl
  rw [show gf X i = fun j => (X[i]).getD j 0 from funext fun j => by unfold gf; rw [e0], this]
theorem flX {P' : Prop} {k : Bool} (h : k = true ↔ P') (hp : P') : k = true := h.mpr hp
theorem scHasSz : FnScope ["paper", "height", "width", "table", "row"] ["paper", "height", "width"] (defScope sHasSz) := ⟨rfl, rfl, rfl, by decide +kernel, rfl, by decide +kernel, by decide +kernel⟩
def NHs : List Str := ["paper", "height", "width", "table", "row"]
theorem scPairs : FnScope ["above", "row", "weights", "pairs_above", "reads_above", "texts_above", "pairs", "_", "j", "weight"] ["above", "row", "weights"] (defScope sPairs) := ⟨rfl, rfl, rfl, by decide +kernel, rfl, by decide +kernel, by decide +kernel⟩
theorem scLeavesR : FnScope ["above", "row", "costs", "_", "start", "each", "pairs_above", "reads_above", "texts_above", "reads", "j", "number"] ["above", "row", "costs"] (defScope sLeavesR) := ⟨rfl, rfl, rfl, by decide +kernel, rfl, by decide +kernel, by decide +kernel⟩
theorem scLeavesT : FnScope ["row", "costs", "_", "start", "each", "pairs", "reads", "texts", "j"] ["row", "costs"] (defScope sLeavesT) := ⟨rfl, rfl, rfl, by decide +kernel, rfl, by decide +kernel, by decide +kernel⟩
section
variable {P : Program} {w : World} {K : PySem.W.Frag} {mg : Str → Option Value} {base : Heap}
theorem keepT {H H' : Hp} {y : Addr} {xs : List V} (s' : Same H H') (hy : SqT K H y xs) : SqT K H' y xs := by
  rcases hy with (z0 | ⟨o, z0⟩) | z0
  · exact .inl (.inl (s' _ _ z0))
  · exact .inl (.inr ⟨o, s' _ _ z0⟩)
  · exact .inr z0
def spHasSz (K : PySem.W.Frag) : Sp := fun vs H Q _ => ∃ (tp p0 p1 p2 : Addr) (X0 X1 X2 : List (List Int)) (h wd : Nat), vs = [.ref tp, .int (h : Int), .int (wd : Int)] ∧ SqT K H tp [.ref p0, .ref p1, .ref p2] ∧ TabL H p0 X0 ∧ TabL H p1 X1 ∧ TabL H p2 X2 ∧ h ≤ 100000 ∧ ∀ (k : Bool) (H' : Hp), Same H H' → (k = true ↔ Sz h wd X0 ∧ Sz h wd X1 ∧ Sz h wd X2) → Q (.bl k) H'
theorem ok_hasSz {f : Addr} {fd : FuncData} {k : Nat} (F : Fun K "_has_sizes" "_has_sizes" sHasSz f fd) (mlen : mg "len" = none) : FnOk P w K mg base CX0 (k + 1) f fd ["paper", "height", "width"] (spHasSz K) := by
  refine F.ok scHasSz (fun vs H Q E h => ?_) (fun cdv A outer s H vs Q E hr h => ?_)
  · obtain ⟨tp, p0, p1, p2, X0, X1, X2, h, wd, rfl, _⟩ := h
    rfl
  · obtain ⟨tp, p0, p1, p2, X0, X1, X2, h, wd, rfl, htp, h0, h1, h2, hb, q⟩ := h
    refine ⟨_, (pss_cons (ps_for PassesOwn.never rfl (pi_tup (pv 0)) (pg_name (i := 3) scHasSz.nd rfl (.inl rfl))
        (pss_one (ps_if (PW.pt (pw_or (pt_cmpR op_ne (pe_callB call_len_seq (by rfl) mlen PySem.boot_len (pa_cons (pv 3) pa_nil)) (pv 1) (nomark _)) (pw_or1 (pt_truth (pe_lc (own := [("row", 4)]) (g := gName 4) (tt := tTest (tOp rNe (tCB (rLnQ K) (tCons (tVar 4) tNil)) (tVar 2))) (te := tVar 4) (by rfl) scHasSz.nd (pi_list (pv 3)) (blkOk_by (own := [("row", 4)]) (N := NHs) (sc := defScope sHasSz) (by decide +kernel)) (fun _ _ _ _ _ => pg_name (i := 4) scHasSz.nd rfl (Or.inl rfl)) (fun _ _ _ _ _ => pts_one (pt_cmpR op_ne (pe_callB (r := rLnQ K) call_len_seq (by rfl) mlen PySem.boot_len (pa_cons (pv 4) pa_nil)) (pv 2) (nomark _))) (fun _ _ _ _ _ => (pv 4))) (fun _ => rfl))))) (pss_one (ps_ret pe_bl)) pss_nil)))
      (pss_one (ps_ret pe_bl))), ?_⟩
    have hx : ∀ (m : Nat) (y : V), ([V.ref p0, V.ref p1, V.ref p2])[m]? = some y → ∃ p X, y = .ref p ∧ TabL H p X ∧ [X0, X1, X2][m]? = some X := fun m y hy => by
      have hm := (List.getElem?_eq_some_iff.mp hy).1
      have : m = 0 ∨ m = 1 ∨ m = 2 := by
        have : m < 3 := hm
        omega
      rcases this with e | e | e <;> subst e
      · exact ⟨p0, X0, (Option.some.inj hy).symm, h0, rfl⟩
      · exact ⟨p1, X1, (Option.some.inj hy).symm, h1, rfl⟩
      · exact ⟨p2, X2, (Option.some.inj hy).symm, h2, rfl⟩
    have all3 : (∀ X ∈ [X0, X1, X2], Sz h wd X) ↔ Sz h wd X0 ∧ Sz h wd X1 ∧ Sz h wd X2 := by
      constructor
      · exact fun a => ⟨a _ (by simp), a _ (by simp), a _ (by simp)⟩
      · rintro ⟨a, b, c⟩ X hX
        rcases List.mem_cons.mp hX with rfl | hX
        · exact a
        rcases List.mem_cons.mp hX with rfl | hX
        · exact b
        rcases List.mem_cons.mp hX with rfl | hX
        · exact c
        cases hX
    refine ⟨.ref tp, rfl, tp, rfl, ⟨_, htp⟩, ?_⟩
    refine for_tup (K := K) (xs := [.ref p0, .ref p1, .ref p2]) (fun m σ H' => Same H H' ∧ (∀ i X, i < m → [X0, X1, X2][i]? = some X → Sz h wd X) ∧ ∃ v3 : Option V, σ = [some (.ref tp), some (.int (h : Int)), some (.int (wd : Int)), v3, none]) ⟨Same.refl _, fun i X hi => absurd hi (Nat.not_lt_zero _), none, rfl⟩ (fun m σ H' _ h => keepT h.1 htp) ?_ ?_
    · rintro m y σ H1 hy ⟨s1, hsz, v3, rfl⟩
      obtain ⟨p, X, rfl, hX, eX⟩ := hx m y hy
      obtain ⟨vs, hv, hvl, hrow⟩ := hX.same s1
      have no : ∀ H', Same H H' → ¬ Sz h wd X → Q (.bl false) H' := fun H' s' nz => q false H' s' ⟨fun z => absurd z Bool.false_ne_true, fun z => absurd ((all3.mpr z) X (List.mem_iff_getElem?.mpr ⟨m, eX⟩)) nz⟩
      refine ⟨.ref p, rfl, p, vs, rfl, .inl (.inl (.inl hv)), .int (h : Int), rfl, rfl, _, rfl, iteN (fun hne => ?_) (fun heq => ?_)⟩
      · exact no _ s1 fun z => hne (by rw [hvl, z.1])
      have hvh : vs.length = h := by
        have := V.int.inj heq
        omega
      refine ⟨.ref p, rfl, p, rfl, ⟨_, .inl (.inl hv)⟩, fun D hD => ?_⟩
      refine lc_list (K := K) (xs := vs) (fun j H2 => Same H1 H2 ∧ ∃ ws : List V, H2 D = some (.lst ws) ∧ ws.length ≤ j ∧ (ws = [] ↔ ∀ i row, i < j → X[i]? = some row → row.length = wd)) ⟨same_upd hD, [], upd_same, Nat.le_refl _, ⟨fun _ i row hi => absurd hi (Nat.not_lt_zero _), fun _ => rfl⟩⟩ (fun j H2 _ h => .inl (.inl (h.1 _ _ hv))) ?_ ?_
      · rintro j y H2 hjy ⟨s2, ws, hws, hwl, hall⟩
        have hj : j < vs.length := (List.getElem?_eq_some_iff.mp hjy).1
        have ex : X[j]? = some X[j] := List.getElem?_eq_getElem (by omega)
        obtain ⟨qa, ea, ha2⟩ := hrow j _ ex
        rw [ea] at hjy
        obtain rfl : V.ref qa = y := Option.some.inj hjy
        refine ⟨rfl, ?_⟩
        refine ⟨.ref qa, rfl, qa, _, rfl, .inl (.inl (.inl (s2 _ _ ha2))), .int (wd : Int), rfl, rfl, _, rfl, iteN (fun hne => ?_) (fun heq => ?_)⟩
        · refine ⟨_, rfl, ws, hws, by show ws.length < sizeLine; exact Nat.lt_of_le_of_lt hwl (line_ok7 (by omega)), ext_same s2 hD, ws ++ [.ref qa], upd_same, by rw [List.length_append]; exact Nat.succ_le_succ hwl, ?_⟩
          constructor
          · intro y
            exact absurd y (by simp)
          · intro y
            have := y j _ (Nat.lt_succ_self j) ex
            exact absurd (by rw [List.length_map, this]) hne
        · refine ⟨s2, ws, hws, Nat.le_succ_of_le hwl, ?_⟩
          have hjl : (X[j]).length = wd := by
            have := V.int.inj heq
            rw [List.length_map] at this
            omega
          rw [hall]
          constructor
          · intro y i row hi hr
            rcases Nat.lt_succ_iff_lt_or_eq.mp hi with hi | hi
            · exact y i row hi hr
            · subst hi
              rw [ex] at hr
              obtain rfl := Option.some.inj hr
              exact hjl
          · exact fun y i row hi hr => y i row (Nat.lt_succ_of_lt hi) hr
      · rintro H2 ⟨s2, ws, hws, hwl, hall⟩
        refine ⟨!ws.isEmpty, .inl ⟨ws, .inl (.inl hws), rfl⟩, ?_⟩
        cases ws with
        | nil =>
          refine ⟨s1.trans s2, fun i X' hi hX' => ?_, _, rfl⟩
          rcases Nat.lt_succ_iff_lt_or_eq.mp hi with hi | hi
          · exact hsz i X' hi hX'
          · subst hi
            rw [eX] at hX'
            obtain rfl := Option.some.inj hX'
            refine ⟨by omega, fun row hr => ?_⟩
            obtain ⟨i2, hi2⟩ := List.mem_iff_getElem?.mp hr
            exact hall.mp rfl i2 row (by rw [hvl]; exact (List.getElem?_eq_some_iff.mp hi2).1) hi2
        | cons u us =>
          refine no _ (s1.trans s2) fun z => ?_
          have := hall.mpr fun i row hi hr => z.2 row (List.mem_iff_getElem?.mpr ⟨i, hr⟩)
          exact absurd this (by simp)
    · rintro σ H1 ⟨s1, hsz, v3, rfl⟩
      exact q true H1 s1 ⟨fun _ => all3.mp fun X hX => by
        obtain ⟨i, hi⟩ := List.mem_iff_getElem?.mp hX
        exact hsz i X (List.getElem?_eq_some_iff.mp hi).1 hi, fun _ => rfl⟩
def spPairs : Sp := fun vs H Q _ => ∃ (va vr : V) (wl : Addr) (Z : Nat) (f g : Nat → C3) (ws : List Int), vs = [va, vr, .ref wl] ∧ RowAt H va Z f ∧ RowAt H vr Z g ∧ H wl = some (LI ws) ∧ ws.length + 1 ≤ Z ∧ ∀ (k : Bool) (H' : Hp), Same H H' → (k = true ↔ ∀ j x, ws[j]? = some x → (g (j + 1)).p ≤ x + mn3 (f j).p (f j).q (f j).r) → Q (.bl k) H'
theorem ok_pairs {f : Addr} {fd : FuncData} {k : Nat} (F : Fun K "_pairs" "_pairs" sPairs f fd) (mmin : mg "min" = none) (menum : mg "enumerate" = none) : FnOk P w K mg base CX0 (k + 1) f fd ["above", "row", "weights"] spPairs := by
  refine F.ok scPairs (fun vs H Q E h => ?_) (fun cdv A outer s H vs Q E hr h => ?_)
  · obtain ⟨va, vr, wl, Z, f, g, ws, rfl, _⟩ := h
    rfl
  · obtain ⟨va, vr, wl, Z, f, g, ws, rfl, ⟨qa, p1, p2, p3, rfl, hqa, hp1, hp2, hp3⟩, ⟨qb, r1, r2, r3, rfl, hqb, hr1, hr2, hr3⟩, hw, hZ, q⟩ := h
    refine ⟨_, (pss_cons (ps_asg (pv 0) (pg_tup rfl (pgs_cons (pg_name (i := 3) scPairs.nd rfl (.inl rfl)) (pgs_cons (pg_name (i := 4) scPairs.nd rfl (.inl rfl)) (pgs_cons (pg_name (i := 5) scPairs.nd rfl (.inl rfl)) pgs_nil)))))
      (C8.pss_cut (ps_asg (pv 1) (pg_tup rfl (pgs_cons (pg_name (i := 6) scPairs.nd rfl (.inl rfl)) (pgs_cons (pg_name (i := 7) scPairs.nd rfl (.inl rfl)) (pgs_cons (pg_name (i := 7) scPairs.nd rfl (.inl rfl)) pgs_nil)))))
      (pss_cons (ps_for PassesOwn.never rfl (pi_enum (by rfl) menum (pa_cons (pv 2) pa_nil)) (pg_tup rfl (pgs_cons (pg_name (i := 8) scPairs.nd rfl (.inl rfl)) (pgs_cons (pg_name (i := 9) scPairs.nd rfl (.inl rfl)) pgs_nil)))
        (pss_one (ps_if (pt_cmpR op_gt (pe_ix ix_list (pv 6) (pe_op op_add (pv 8) pe_int) (fun _ _ => rfl)) (pe_op op_add (pv 9) (pe_callB (call_min3Nu rfl) (by rfl) mmin (by decide +kernel) (pa_cons (pe_ix ix_list (pv 3) (pv 8) (fun _ _ => rfl)) (pa_cons (pe_ix ix_list (pv 4) (pv 8) (fun _ _ => rfl)) (pa_cons (pe_ix ix_list (pv 5) (pv 8) (fun _ _ => rfl)) pa_nil))))) (nomark _)) (pss_one (ps_ret pe_bl)) pss_nil)))
      (pss_one (ps_ret pe_bl))))), ?_⟩
    refine ⟨.ref qa, rfl, qa, _, rfl, .inl (.inl hqa), rfl, _, _, rfl, _, _, rfl, _, _, rfl, rfl, ?_⟩
    refine ⟨fun σ H' => H' = H ∧ σ = [some (.ref qa), some (.ref qb), some (.ref wl), some (.ref p1), some (.ref p2), some (.ref p3), some (.ref r1), some (.ref r3), none, none], ⟨.ref qb, rfl, qb, _, rfl, .inl (.inl hqb), rfl, _, _, rfl, _, _, rfl, _, _, rfl, rfl, rfl, rfl⟩, ?_⟩
    rintro σ H' ⟨hh, rfl⟩
    have hh := hh.symm
    subst hh
    refine ⟨.ref wl, rfl, wl, _, rfl, .inl (.inl hw), ?_⟩
    refine for_gen (J := Ite K wl) (n := ws.length) (fun i σ H' => Same H H' ∧ (∀ j x, j < i → ws[j]? = some x → (g (j + 1)).p ≤ x + mn3 (f j).p (f j).q (f j).r) ∧ ∃ v8 v9 : Option V, σ = [some (.ref qa), some (.ref qb), some (.ref wl), some (.ref p1), some (.ref p2), some (.ref p3), some (.ref r1), some (.ref r3), v8, v9]) ⟨Same.refl _, fun j x hj => absurd hj (Nat.not_lt_zero _), none, none, rfl⟩ ?_ ?_ ?_ ?_
    · rintro i σ H2 hi ⟨s2, _⟩
      exact ⟨_, _, .inl (.inl (s2 _ _ hw)), map_int_at hi⟩
    · rintro σ H2 ⟨s2, _⟩
      exact ⟨_, .inl (.inl (s2 _ _ hw)), by rw [List.length_map]; exact Nat.le_refl _⟩
    · rintro i σ H2 v H3 hi ⟨s2, hlt, v8, v9, rfl⟩ ⟨U, x, rfl, hU, rfl, hx⟩
      have ex := hx _ (.inl (.inl (s2 _ _ hw)))
      rw [map_int_at hi] at ex
      obtain rfl : V.int ws[i] = x := Option.some.inj ex
      have s3 := s2.trans (same_upd (o := .tup [.int (i : Nat), V.int ws[i]]) hU)
      refine ⟨U, _, rfl, .inl (.inl upd_same), rfl, _, _, rfl, _, _, rfl, rfl, ?_⟩
      generalize upd H2 U (.tup [.int (i : Nat), V.int ws[i]]) = H3 at s3
      refine ⟨.ref r1, rfl, .int (i : Nat), rfl, _, 1, rfl, rfl, r1, _, _, .int (g (i + 1)).p, rfl, rfl, .inl (.inl (s3 _ _ hr1)), fl_ati (fun k => (g k).p) (k := i + 1) (by omega) (by omega), .int ws[i], rfl, ?_⟩
      refine ⟨.ref p1, rfl, .int (i : Nat), rfl, p1, _, _, .int (f i).p, rfl, rfl, .inl (.inl (s3 _ _ hp1)), fl_ati (fun k => (f k).p) rfl (by omega), .ref p2, rfl, .int (i : Nat), rfl, p2, _, _, .int (f i).q, rfl, rfl, .inl (.inl (s3 _ _ hp2)), fl_ati (fun k => (f k).q) rfl (by omega), .ref p3, rfl, .int (i : Nat), rfl, p3, _, _, .int (f i).r, rfl, rfl, .inl (.inl (s3 _ _ hp3)), fl_ati (fun k => (f k).r) rfl (by omega), _, _, _, _, rfl, mn3_nu _ _ _, _, _, rfl, rfl, _, _, rfl, rfl, _, rfl, ite2 (fun c => ?_) (fun c => ?_)⟩
      · have c := of_decide_eq_true c
        refine q false H3 s3 ⟨fun z => absurd z Bool.false_ne_true, fun z => ?_⟩
        have := z i ws[i] (List.getElem?_eq_getElem hi)
        exact absurd this (Int.not_le.mpr c)
      · refine ⟨s3, fun j x hj hxx => ?_, _, _, rfl⟩
        rcases Nat.lt_succ_iff_lt_or_eq.mp hj with hj | hj
        · exact hlt j x hj hxx
        · subst hj
          rw [List.getElem?_eq_getElem hi] at hxx
          obtain rfl := Option.some.inj hxx
          exact Int.not_lt.mp fun y => c (decide_eq_true y)
    · rintro σ H2 ⟨s2, hlt, v8, v9, rfl⟩
      exact q true H2 s2 ⟨fun _ j x hx => hlt j x (List.getElem?_eq_some_iff.mp hx).1 hx, fun _ => rfl⟩
def spLeavesR (K : PySem.W.Frag) : Sp := fun vs H Q _ => ∃ (va vr : V) (z : Addr) (a b c : Nat) (Z : Nat) (f g : Nat → C3), vs = [va, vr, .ref z] ∧ SqT K H z [.int a, .int b, .int c] ∧ RowAt H va Z f ∧ RowAt H vr Z g ∧ ∀ (k : Bool) (H' : Hp), Same H H' → (k = true ↔ ∀ j, j < Z → (g j).q ≤ c + mn3 (b + (f j).p) (f j).q (b + (f j).r)) → Q (.bl k) H'
theorem ok_leavesR {f : Addr} {fd : FuncData} {k : Nat} (F : Fun K "_leaves_read_out" "_leaves_read_out" sLeavesR f fd) (mmin : mg "min" = none) (menum : mg "enumerate" = none) : FnOk P w K mg base CX0 (k + 1) f fd ["above", "row", "costs"] (spLeavesR K) := by
  refine F.ok scLeavesR (fun vs H Q E h => ?_) (fun cdv A outer s H vs Q E hr h => ?_)
  · obtain ⟨va, vr, z, a, b, c, Z, f, g, rfl, _⟩ := h
    rfl
  · obtain ⟨va, vr, z, a, b, c, Z, f, g, rfl, hz, ⟨qa, p1, p2, p3, rfl, hqa, hp1, hp2, hp3⟩, ⟨qb, r1, r2, r3, rfl, hqb, hr1, hr2, hr3⟩, q⟩ := h
    refine ⟨_, (pss_cons (ps_asg (pv 2) (pg_tup rfl (pgs_cons (pg_name (i := 3) scLeavesR.nd rfl (.inl rfl)) (pgs_cons (pg_name (i := 4) scLeavesR.nd rfl (.inl rfl)) (pgs_cons (pg_name (i := 5) scLeavesR.nd rfl (.inl rfl)) pgs_nil)))))
      (pss_cons (ps_asg (pv 0) (pg_tup rfl (pgs_cons (pg_name (i := 6) scLeavesR.nd rfl (.inl rfl)) (pgs_cons (pg_name (i := 7) scLeavesR.nd rfl (.inl rfl)) (pgs_cons (pg_name (i := 8) scLeavesR.nd rfl (.inl rfl)) pgs_nil)))))
      (C8.pss_cut (ps_asg (pv 1) (pg_tup rfl (pgs_cons (pg_name (i := 3) scLeavesR.nd rfl (.inl rfl)) (pgs_cons (pg_name (i := 9) scLeavesR.nd rfl (.inl rfl)) (pgs_cons (pg_name (i := 3) scLeavesR.nd rfl (.inl rfl)) pgs_nil)))))
      (pss_cons (ps_for PassesOwn.never rfl (pi_enum (by rfl) menum (pa_cons (pv 9) pa_nil)) (pg_tup rfl (pgs_cons (pg_name (i := 10) scLeavesR.nd rfl (.inl rfl)) (pgs_cons (pg_name (i := 11) scLeavesR.nd rfl (.inl rfl)) pgs_nil)))
        (pss_one (ps_if (pt_cmpR op_gt (pv 11) (pe_op op_add (pv 5) (pe_callB (call_min3Nu rfl) (by rfl) mmin (by decide +kernel) (pa_cons (pe_op op_add (pv 4) (pe_ix ix_list (pv 6) (pv 10) (fun _ _ => rfl))) (pa_cons (pe_ix ix_list (pv 7) (pv 10) (fun _ _ => rfl)) (pa_cons (pe_op op_add (pv 4) (pe_ix ix_list (pv 8) (pv 10) (fun _ _ => rfl))) pa_nil))))) (nomark _)) (pss_one (ps_ret pe_bl)) pss_nil)))
      (pss_one (ps_ret pe_bl)))))), ?_⟩
    refine ⟨.ref z, rfl, z, _, rfl, hz, rfl, _, _, rfl, _, _, rfl, _, _, rfl, rfl, ?_⟩
    refine ⟨.ref qa, rfl, qa, _, rfl, .inl (.inl hqa), rfl, _, _, rfl, _, _, rfl, _, _, rfl, rfl, ?_⟩
    refine ⟨fun σ H' => H' = H ∧ σ = [some (.ref qa), some (.ref qb), some (.ref z), some (.ref r3), some (.int b), some (.int c), some (.ref p1), some (.ref p2), some (.ref p3), some (.ref r2), none, none], ⟨.ref qb, rfl, qb, _, rfl, .inl (.inl hqb), rfl, _, _, rfl, _, _, rfl, _, _, rfl, rfl, rfl, rfl⟩, ?_⟩
    rintro σ H' ⟨hh, rfl⟩
    have hh := hh.symm
    subst hh
    refine ⟨.ref r2, rfl, r2, _, rfl, .inl (.inl hr2), ?_⟩
    refine for_gen (J := Ite K r2) (n := Z) (fun i σ H' => Same H H' ∧ (∀ j, j < i → (g j).q ≤ c + mn3 (b + (f j).p) (f j).q (b + (f j).r)) ∧ ∃ v10 v11 : Option V, σ = [some (.ref qa), some (.ref qb), some (.ref z), some (.ref r3), some (.int b), some (.int c), some (.ref p1), some (.ref p2), some (.ref p3), some (.ref r2), v10, v11]) ⟨Same.refl _, fun j hj => absurd hj (Nat.not_lt_zero _), none, none, rfl⟩ ?_ ?_ ?_ ?_
    · rintro i σ H2 hi ⟨s2, _⟩
      exact ⟨_, _, .inl (.inl (s2 _ _ hr2)), fl_at _ hi⟩
    · rintro σ H2 ⟨s2, _⟩
      exact ⟨_, .inl (.inl (s2 _ _ hr2)), by rw [fl_lenV]; exact Nat.le_refl _⟩
    · rintro i σ H2 v H3 hi ⟨s2, hlt, v10, v11, rfl⟩ ⟨U, x, rfl, hU, rfl, hx⟩
      have ex := hx _ (.inl (.inl (s2 _ _ hr2)))
      rw [fl_at _ hi] at ex
      obtain rfl : V.int (g i).q = x := Option.some.inj ex
      have s3 := s2.trans (same_upd (o := .tup [.int (i : Nat), V.int (g i).q]) hU)
      refine ⟨U, _, rfl, .inl (.inl upd_same), rfl, _, _, rfl, _, _, rfl, rfl, ?_⟩
      generalize upd H2 U (.tup [.int (i : Nat), V.int (g i).q]) = H3 at s3
      refine ⟨.int (g i).q, rfl, .int c, rfl, .int b, rfl, ?_⟩
      refine ⟨.ref p1, rfl, .int (i : Nat), rfl, p1, _, _, .int (f i).p, rfl, rfl, .inl (.inl (s3 _ _ hp1)), fl_ati (fun k => (f k).p) rfl (by omega), _, _, rfl, rfl, .ref p2, rfl, .int (i : Nat), rfl, p2, _, _, .int (f i).q, rfl, rfl, .inl (.inl (s3 _ _ hp2)), fl_ati (fun k => (f k).q) rfl (by omega), .int b, rfl, .ref p3, rfl, .int (i : Nat), rfl, p3, _, _, .int (f i).r, rfl, rfl, .inl (.inl (s3 _ _ hp3)), fl_ati (fun k => (f k).r) rfl (by omega), _, _, rfl, rfl, _, _, _, _, rfl, mn3_nu _ _ _, _, _, rfl, rfl, _, _, rfl, rfl, _, rfl, ite2 (fun c => ?_) (fun c => ?_)⟩
      · have c := of_decide_eq_true c
        refine q false H3 s3 ⟨fun z => absurd z Bool.false_ne_true, fun z => ?_⟩
        exact absurd (z i hi) (Int.not_le.mpr c)
      · refine ⟨s3, fun j hj => ?_, _, _, rfl⟩
        rcases Nat.lt_succ_iff_lt_or_eq.mp hj with hj | hj
        · exact hlt j hj
        · subst hj
          exact Int.not_lt.mp fun y => c (decide_eq_true y)
    · rintro σ H2 ⟨s2, hlt, v10, v11, rfl⟩
      exact q true H2 s2 ⟨fun _ j hj => hlt j hj, fun _ => rfl⟩
def spLeavesT (K : PySem.W.Frag) : Sp := fun vs H Q _ => ∃ (vr : V) (z : Addr) (a b c : Nat) (Z : Nat) (g : Nat → C3), vs = [vr, .ref z] ∧ SqT K H z [.int a, .int b, .int c] ∧ RowAt H vr (Z + 1) g ∧ Z ≤ 100000 ∧ ∀ (k : Bool) (H' : Hp), Same H H' → (k = true ↔ ∀ j, j < Z → (g (j + 1)).r ≤ c + mn3 (b + (g j).p) (b + (g j).q) (g j).r) → Q (.bl k) H'
theorem ok_leavesT {f : Addr} {fd : FuncData} {k : Nat} (F : Fun K "_leaves_text_out" "_leaves_text_out" sLeavesT f fd) (mmin : mg "min" = none) (mlen : mg "len" = none) (mrange : mg "range" = none) : FnOk P w K mg base CX0 (k + 1) f fd ["row", "costs"] (spLeavesT K) := by
  refine F.ok scLeavesT (fun vs H Q E h => ?_) (fun cdv A outer s H vs Q E hr h => ?_)
  · obtain ⟨vr, z, a, b, c, Z, g, rfl, _⟩ := h
    rfl
  · obtain ⟨vr, z, a, b, c, Z, g, rfl, hz, ⟨qb, r1, r2, r3, rfl, hqb, hr1, hr2, hr3⟩, hZ, q⟩ := h
    refine ⟨_, (pss_cons (ps_asg (pv 1) (pg_tup rfl (pgs_cons (pg_name (i := 2) scLeavesT.nd rfl (.inl rfl)) (pgs_cons (pg_name (i := 3) scLeavesT.nd rfl (.inl rfl)) (pgs_cons (pg_name (i := 4) scLeavesT.nd rfl (.inl rfl)) pgs_nil)))))
      (C8.pss_cut (ps_asg (pv 0) (pg_tup rfl (pgs_cons (pg_name (i := 5) scLeavesT.nd rfl (.inl rfl)) (pgs_cons (pg_name (i := 6) scLeavesT.nd rfl (.inl rfl)) (pgs_cons (pg_name (i := 7) scLeavesT.nd rfl (.inl rfl)) pgs_nil)))))
      (pss_cons (ps_for PassesOwn.never rfl (pi_range2 rfl mrange (pa_cons pe_int (pa_cons (pe_callB call_len_seq (by rfl) mlen PySem.boot_len (pa_cons (pv 7) pa_nil)) pa_nil))) (pg_name (i := 8) scLeavesT.nd rfl (.inl rfl))
        (pss_one (ps_if (pt_cmpR op_gt (pe_ix ix_list (pv 7) (pv 8) (fun _ _ => rfl)) (pe_op op_add (pv 4) (pe_callB (call_min3Nu rfl) (by rfl) mmin (by decide +kernel) (pa_cons (pe_op op_add (pv 3) (pe_ix ix_list (pv 5) (pe_op op_sub (pv 8) pe_int) (fun _ _ => rfl))) (pa_cons (pe_op op_add (pv 3) (pe_ix ix_list (pv 6) (pe_op op_sub (pv 8) pe_int) (fun _ _ => rfl))) (pa_cons (pe_ix ix_list (pv 7) (pe_op op_sub (pv 8) pe_int) (fun _ _ => rfl)) pa_nil))))) (nomark _)) (pss_one (ps_ret pe_bl)) pss_nil)))
      (pss_one (ps_ret pe_bl))))), ?_⟩
    refine ⟨.ref z, rfl, z, _, rfl, hz, rfl, _, _, rfl, _, _, rfl, _, _, rfl, rfl, ?_⟩
    refine ⟨fun σ H' => H' = H ∧ σ = [some (.ref qb), some (.ref z), some (.int a), some (.int b), some (.int c), some (.ref r1), some (.ref r2), some (.ref r3), none], ⟨.ref qb, rfl, qb, _, rfl, .inl (.inl hqb), rfl, _, _, rfl, _, _, rfl, _, _, rfl, rfl, rfl, rfl⟩, ?_⟩
    rintro σ H' ⟨hh, rfl⟩
    have hh := hh.symm
    subst hh
    refine ⟨.ref r3, rfl, r3, _, rfl, .inl (.inl (.inl hr3)), 1, _, rfl, ⟨by omega, by omega, by rw [fl_lenV]; omega, by rw [fl_lenV]; omega⟩, ?_⟩
    have en : ((((fl (Z + 1) fun k => (g k).r).map V.int).length : Nat) : Int) - 1 = (Z : Int) := by rw [fl_lenV]; omega
    rw [en]
    refine for_range (lo := 1) (n := (Z : Int).toNat) (fun i σ H' => H' = H ∧ (∀ j, j < i → (g (j + 1)).r ≤ c + mn3 (b + (g j).p) (b + (g j).q) (g j).r) ∧ ∃ v8 : Option V, σ = [some (.ref qb), some (.ref z), some (.int a), some (.int b), some (.int c), some (.ref r1), some (.ref r2), some (.ref r3), v8]) ⟨rfl, fun j hj => absurd hj (Nat.not_lt_zero _), none, rfl⟩ ?_ ?_
    · rintro i σ H2 hi ⟨hh, hlt, v8, rfl⟩
      have hh := hh.symm
      subst hh
      have hi : i < Z := by omega
      have e1 : (1 : Int) + (i : Nat) = ((i + 1 : Nat) : Int) := by omega
      have e2 : (1 : Int) + (i : Nat) - 1 = (i : Int) := by omega
      refine ⟨.ref r3, rfl, .int (1 + (i : Nat)), rfl, r3, _, _, .int (g (i + 1)).r, rfl, rfl, .inl (.inl hr3), fl_ati (fun k => (g k).r) e1 (by omega), .int c, rfl, .int b, rfl, ?_⟩
      refine ⟨.ref r1, rfl, .int (1 + (i : Nat)), rfl, _, 1, rfl, rfl, r1, _, _, .int (g i).p, rfl, rfl, .inl (.inl hr1), fl_ati (fun k => (g k).p) e2 (by omega), _, _, rfl, rfl, .int b, rfl, .ref r2, rfl, .int (1 + (i : Nat)), rfl, _, 1, rfl, rfl, r2, _, _, .int (g i).q, rfl, rfl, .inl (.inl hr2), fl_ati (fun k => (g k).q) e2 (by omega), _, _, rfl, rfl, .ref r3, rfl, .int (1 + (i : Nat)), rfl, _, 1, rfl, rfl, r3, _, _, .int (g i).r, rfl, rfl, .inl (.inl hr3), fl_ati (fun k => (g k).r) e2 (by omega), _, _, _, _, rfl, mn3_nu _ _ _, _, _, rfl, rfl, _, _, rfl, rfl, _, rfl, ite2 (fun c => ?_) (fun c => ?_)⟩
      · have c := of_decide_eq_true c
        refine q false H (Same.refl _) ⟨fun z => absurd z Bool.false_ne_true, fun z => ?_⟩
        exact absurd (z i hi) (Int.not_le.mpr c)
      · refine ⟨rfl, fun j hj => ?_, _, rfl⟩
        rcases Nat.lt_succ_iff_lt_or_eq.mp hj with hj | hj
        · exact hlt j hj
        · subst hj
          exact Int.not_lt.mp fun y => c (decide_eq_true y)
    · rintro σ H2 ⟨hh, hlt, v8, rfl⟩
      have hh := hh.symm
      subst hh
      exact q true H (Same.refl _) ⟨fun _ j hj => hlt j (by omega), fun _ => rfl⟩
end
/-! ### the program: shown -/
def NBr : List Str := ["paper", "most", "pairs", "reads", "texts", "rows", "i"]
theorem scBRows : FnScope ["paper", "most", "pairs", "reads", "texts", "rows", "i"] ["paper", "most"] (defScope sBRows) := ⟨rfl, rfl, rfl, by decide +kernel, rfl, by decide +kernel, by decide +kernel⟩
def NSh : List Str := ["read", "text", "end", "costs", "paper", "most", "rows", "i", "letter", "above", "weights", "other", "numbers"]
theorem scShown : FnScope NSh ["read", "text", "end", "costs", "paper"] (defScope sShown) := ⟨rfl, rfl, rfl, by decide +kernel, rfl, by decide +kernel, by decide +kernel⟩
theorem fl_tail (e : Nat) (g : Nat → Int) (M : Int) : [M] ++ (fl (e + 1) g).drop 1 = fl (e + 1) (fun k => if k = 0 then M else g k) := by
  refine List.ext_getElem? fun i => ?_
  cases i with
  | zero =>
    rw [fl, fl, List.getElem?_map, List.getElem?_range (by omega)]
    rfl
  | succ i =>
    rw [List.getElem?_append_right (by show 1 ≤ i + 1; omega), List.getElem?_drop]
    show (fl (e + 1) g)[1 + (i + 1 - 1)]? = _
    rw [show 1 + (i + 1 - 1) = i + 1 by omega]
    by_cases h : i + 1 < e + 1
    · rw [fl, fl, List.getElem?_map, List.getElem?_map, List.getElem?_range h]
      rfl
    · rw [List.getElem?_eq_none (by rw [fl_len]; omega), List.getElem?_eq_none (by rw [fl_len]; omega)]
def m3 (M : Int) (gp gq gr : Nat → Nat → Int) (i : Nat) : Nat → C3 := fun k => ⟨mP M gp i k, mQ M gq i k, mR M gr i k⟩
section
variable {σ : L2.St} {H0 : Hp} {K : PySem.W.Frag}
theorem xl_rowT {a : Nat} {p : Addr} {n e : Nat} {g : Nat → Nat → Int} {ti : TE} {i : Nat} {x : Int} (hp : σ[a]? = some (some (.ref p))) (ht : TabAt H0 p n e g) (hi : XN ti σ H0 x) (ei : x = (i : Int)) (hin : i ≤ n) : XL (tOp (rIxL K) (tVar a) ti) σ H0 (fl (e + 1) (g i)) := fun H Q s q => by
  obtain ⟨vs, hv, hl, hr⟩ := ht.same s
  obtain ⟨qa, e1, e2⟩ := hr i hin
  subst ei
  exact ⟨.ref p, hp, hi H _ s ⟨p, _, _, .ref qa, rfl, rfl, .inl (.inl hv), atI_nat e1, q H qa (Same.refl _) e2⟩⟩
theorem xl_sl {te : TE} {l : List Int} (h : XL te σ H0 l) : XL (tSl (rSlL K) te (tPart (tC (.int 1))) tNoPart) σ H0 (l.drop 1) := fun H Q s q => h H _ s fun H1 p s1 hp => ⟨1, rfl, p, _, rfl, .inl (.inl hp), fun p2 hp2 => q _ p2 (s1.trans (same_upd hp2)) (by
  have e1 : L2.cutV (l.map V.int) (some 1) none = (l.drop 1).map V.int := by
    rw [show (1 : Int) = ((1 : Nat) : Int) from rfl, cutV_from, List.map_drop]
  rw [e1, upd_same])⟩
theorem xl_one {te : TE} {x : Int} (h : XN te σ H0 x) : XL (tLst (tCons te tNil)) σ H0 [x] := fun H Q s q => h H _ s ⟨by show 1 ≤ sizeLine; decide, fun p hp => q _ p (same_upd hp) upd_same⟩
theorem xl_rep {te tr : TE} {x : Int} {l : List Int} {rl : List V → Hp → VK → Prop} (h : XL te σ H0 [x]) (hl : XL tr σ H0 l) (hb : l.length ≤ 1000000) (hr : ∀ (H : Hp) (p : Addr) (Q : VK), H p = some (LI l) → Q (.int ((l.length : Nat) : Int)) H → rl [.ref p] H Q) : XL (tOp rRep te (tCB rl (tCons tr tNil))) σ H0 (fl l.length fun _ => x) := fun H Q s q => h H _ s fun H1 p s1 hp => hl H1 _ (s.trans s1) fun H2 p2 s2 hp2 => hr _ _ _ hp2 ⟨p, _, _, rfl, rfl, s2 _ _ hp, by omega, by omega, by rw [Int.toNat_natCast]; show 1 * _ ≤ sizeLine; exact line_ok6 (by omega), fun p3 hp3 => q _ p3 ((s1.trans s2).trans (same_upd hp3)) (by
  rw [upd_same]
  show some (HO.lst (List.replicate _ [V.int x]).flatten) = _
  rw [Int.toNat_natCast, fl_const])⟩
theorem xs_setL {te : TE} {i : Nat} {D : Ends} {σ : L2.St} {H : Hp} (h : te σ H fun x H1 => [x].length ≤ sizeLine ∧ ∀ p, H1 p = none → D.nx (σ.set i (some (.ref p))) (upd H1 p (.lst [x]))) : tAsg (tLst (tCons te tNil)) (gName i) D σ H := h
theorem xl_tup {ta tb tc : TE} {la lb lc : List Int} (ha : XL ta σ H0 la) (hb : XL tb σ H0 lb) (hc : XL tc σ H0 lc) {H : Hp} {Q : VK} (s : Same H0 H) (q : ∀ (H' : Hp) (p a b c : Addr), Same H H' → H' p = some (.tup [.ref a, .ref b, .ref c]) → H' a = some (LI la) → H' b = some (LI lb) → H' c = some (LI lc) → Q (.ref p) H') : tTup (tCons ta (tCons tb (tCons tc tNil))) σ H Q :=
  ha H _ s fun H1 a s1 e1 => hb H1 _ (s.trans s1) fun H2 b s2 e2 => hc H2 _ ((s.trans s1).trans s2) fun H3 c s3 e3 => ⟨by show 3 ≤ sizeLine; decide, fun p hp => by
    have u := same_upd (o := .tup [V.ref a, .ref b, .ref c]) hp
    exact q _ p a b c (((s1.trans s2).trans s3).trans u) upd_same (u _ _ (s3 _ _ (s2 _ _ e1))) (u _ _ (s3 _ _ e2)) (u _ _ e3)⟩
end
section
variable {P : Program} {w : World} {K : PySem.W.Frag} {mg : Str → Option Value} {base : Heap}
/-- the rows side by side -/
def RowsAt (H : Hp) (d : Addr) (n e : Nat) (M : Int) (gp gq gr : Nat → Nat → Int) : Prop := ∃ ws : List V, H d = some (.lst ws) ∧ ws.length = n + 1 ∧ ∀ i, i ≤ n → ∃ v, ws[i]? = some v ∧ RowAt H v (e + 1) (m3 M gp gq gr i)
theorem RowsAt.same {H H' : Hp} {d : Addr} {n e : Nat} {M : Int} {gp gq gr : Nat → Nat → Int} (h : RowsAt H d n e M gp gq gr) (s : Same H H') : RowsAt H' d n e M gp gq gr := by
  obtain ⟨ws, h1, h2, h3⟩ := h
  refine ⟨ws, s _ _ h1, h2, fun i hi => ?_⟩
  obtain ⟨v, e1, e2⟩ := h3 i hi
  exact ⟨v, e1, e2.same s⟩
def spBRows (K : PySem.W.Frag) : Sp := fun vs H Q _ => ∃ (tp p q r' : Addr) (n e : Nat) (M : Int) (gp gq gr : Nat → Nat → Int), vs = [.ref tp, .int M] ∧ SqT K H tp [.ref p, .ref q, .ref r'] ∧ TabAt H p n e gp ∧ TabAt H q n e gq ∧ TabAt H r' n e gr ∧ n ≤ 10000 ∧ e ≤ 10000 ∧ ∀ (H' : Hp) (d : Addr), Same H H' → RowsAt H' d n e M gp gq gr → Q (.ref d) H'
theorem ok_bRows {f : Addr} {fd : FuncData} {k : Nat} (F : Fun K "_bounding_rows" "_bounding_rows" sBRows f fd) (mlen : mg "len" = none) (mrange : mg "range" = none) : FnOk P w K mg base CX0 (k + 1) f fd ["paper", "most"] (spBRows K) := by
  refine F.ok scBRows (fun vs H Q E h => ?_) (fun cdv A outer s H vs Q E hr h => ?_)
  · obtain ⟨tp, p, q, r', n, e, M, gp, gq, gr, rfl, _⟩ := h
    rfl
  · obtain ⟨tp, p, q, r', n, e, M, gp, gq, gr, rfl, htp, hp, hq, hrr, hn, he, qq⟩ := h
    refine ⟨_, (C8.pss_cut (ps_asg (pv 0) (pg_tup rfl (pgs_cons (pg_name (i := 2) scBRows.nd rfl (.inl rfl)) (pgs_cons (pg_name (i := 3) scBRows.nd rfl (.inl rfl)) (pgs_cons (pg_name (i := 4) scBRows.nd rfl (.inl rfl)) pgs_nil)))))
      (C8.pss_cut (ps_set (i := 5) scBRows.nd rfl (.inl rfl) (pe_lst (pa_cons (pe_tup (pa_cons (pe_ix ix_list (pv 2) pe_int (fun _ _ => rfl)) (pa_cons (pe_op op_rep (pe_lst (pa_cons (pv 1) pa_nil)) (pe_callB call_len_seq (by rfl) mlen PySem.boot_len (pa_cons (pe_ix ix_list (pv 3) pe_int (fun _ _ => rfl)) pa_nil))) (pa_cons (pe_op op_cat (pe_lst (pa_cons (pv 1) pa_nil)) (pe_slice sl_list (pe_ix ix_list (pv 4) pe_int (fun _ _ => rfl)) (po_some pe_int) po_none)) pa_nil)))) pa_nil)))
      (pss_cons (ps_for PassesOwn.never rfl (pi_range2 rfl mrange (pa_cons pe_int (pa_cons (pe_callB call_len_seq (by rfl) mlen PySem.boot_len (pa_cons (pv 2) pa_nil)) pa_nil))) (pg_name (i := 6) scBRows.nd rfl (.inl rfl))
        (pss_one (ps_expr (pe_bm PySem.F.plainAttrs_list PySem.F.slot_list_append PySem.F.type_list_append mt_append (pv 5) (pa_cons (pe_tup (pa_cons (pe_op op_cat (pe_lst (pa_cons (pv 1) pa_nil)) (pe_slice sl_list (pe_ix ix_list (pv 2) (pv 6) (fun _ _ => rfl)) (po_some pe_int) po_none)) (pa_cons (pe_ix ix_list (pv 3) (pv 6) (fun _ _ => rfl)) (pa_cons (pe_op op_cat (pe_lst (pa_cons (pv 1) pa_nil)) (pe_slice sl_list (pe_ix ix_list (pv 4) (pv 6) (fun _ _ => rfl)) (po_some pe_int) po_none)) pa_nil)))) pa_nil)))))
      (pss_one (ps_ret (pv 5)))))), ?_⟩
    refine ⟨fun σ H' => H' = H ∧ σ = [some (.ref tp), some (.int M), some (.ref p), some (.ref q), some (.ref r'), none, none], ⟨.ref tp, rfl, tp, _, rfl, htp, rfl, _, _, rfl, _, _, rfl, _, _, rfl, rfl, rfl, rfl⟩, ?_⟩
    rintro σ H' ⟨hh, rfl⟩
    have hh := hh.symm
    subst hh
    have f0 : ∀ i, fl (e + 1) (fun k => mP M gp (i + 1) k) = [M] ++ (fl (e + 1) (gp (i + 1))).drop 1 := fun i => by
      rw [fl_tail]
      refine fl_ext fun k _ => ?_
      unfold mP
      by_cases h : k = 0
      · rw [if_pos ⟨by omega, h⟩, if_pos h]
      · rw [if_neg (by omega), if_neg h]
    have f2 : ∀ i, fl (e + 1) (fun k => mR M gr i k) = [M] ++ (fl (e + 1) (gr i)).drop 1 := fun i => by
      rw [fl_tail]
      rfl
    have f1 : ∀ i, fl (e + 1) (fun k => mQ M gq (i + 1) k) = fl (e + 1) (gq (i + 1)) := fun i => fl_ext fun k _ => mQ_s
    have g0 : fl (e + 1) (fun k => mP M gp 0 k) = fl (e + 1) (gp 0) := fl_ext fun k _ => mP_z
    have g1 : fl (e + 1) (fun k => mQ M gq 0 k) = fl (fl (e + 1) (gq 0)).length (fun _ => M) := by
      rw [fl_len]
      rfl
    have lenR : ∀ {l : List Int} (H : Hp) (p : Addr) (Q : VK), H p = some (LI l) → Q (.int ((l.length : Nat) : Int)) H → (fun xs H Q => ∃ p ys, xs = [V.ref p] ∧ (SqL K H p ys ∨ SqT K H p ys) ∧ Q (V.int ((ys.length : Nat) : Int)) H) [V.ref p] H Q := fun H p Q hl q => ⟨p, _, rfl, .inl (.inl (.inl hl)), by rw [List.length_map]; exact q⟩
    have lt1 : ∀ g : Nat → Int, [M].length + ((fl (e + 1) g).drop 1).length ≤ 1000000 := fun g => by
      rw [List.length_drop, fl_len]
      show 1 + _ ≤ _
      omega
    refine ⟨fun σ H' => Same H H' ∧ ∃ (d : Addr) (v6 : Option V) (v : V), H d = none ∧ H' d = some (.lst [v]) ∧ RowAt H' v (e + 1) (m3 M gp gq gr 0) ∧ σ = [some (.ref tp), some (.int M), some (.ref p), some (.ref q), some (.ref r'), some (.ref d), v6], ?_, ?_⟩
    · refine xs_setL (xl_tup (H0 := H) (la := fl (e + 1) (gp 0)) (lb := fl (fl (e + 1) (gq 0)).length (fun _ => M)) (lc := [M] ++ (fl (e + 1) (gr 0)).drop 1) ?_ ?_ ?_ (Same.refl _) fun H1 pt a b c s1 ht ha hb hc => ⟨by show 1 ≤ sizeLine; decide, fun d hd => ?_⟩)
      · exact xl_rowT (K := K) (a := 2) (by rfl) hp xn_c rfl (Nat.zero_le _)
      · exact xl_rep (xl_one (xn_var (by rfl))) (xl_rowT (K := K) (a := 3) (by rfl) hq xn_c rfl (Nat.zero_le _)) (by rw [fl_len]; omega) lenR
      · exact xl_cat (xl_one (xn_var (by rfl))) (xl_sl (K := K) (xl_rowT (K := K) (a := 4) (by rfl) hrr xn_c rfl (Nat.zero_le _))) (lt1 _)
      have u := same_upd (o := .lst [V.ref pt]) hd
      refine ⟨s1.trans u, d, none, _, s1.free hd, upd_same, ⟨pt, a, b, c, rfl, u _ _ ht, ?_, ?_, ?_⟩, rfl⟩
      · show _ = some (LI (fl (e + 1) fun k => mP M gp 0 k))
        rw [g0]
        exact u _ _ ha
      · show _ = some (LI (fl (e + 1) fun k => mQ M gq 0 k))
        rw [g1]
        exact u _ _ hb
      · show _ = some (LI (fl (e + 1) fun k => mR M gr 0 k))
        rw [f2]
        exact u _ _ hc
    rintro σ H1 ⟨s1, d, v6, v, hdn, hd, hv, rfl⟩
    obtain ⟨vs, hvp, hvl, _⟩ := hp.same s1
    refine ⟨.ref p, rfl, p, vs, rfl, .inl (.inl (.inl hvp)), 1, _, rfl, ⟨by omega, by omega, by omega, by omega⟩, ?_⟩
    have en : ((vs.length : Nat) : Int) - 1 = (n : Int) := by omega
    rw [en]
    refine for_range (lo := 1) (n := (n : Int).toNat) (fun i σ H' => Same H H' ∧ (∃ ws : List V, H' d = some (.lst ws) ∧ ws.length = i + 1 ∧ ∀ m, m < i + 1 → ∃ v, ws[m]? = some v ∧ RowAt H' v (e + 1) (m3 M gp gq gr m)) ∧ ∃ v6 : Option V, σ = [some (.ref tp), some (.int M), some (.ref p), some (.ref q), some (.ref r'), some (.ref d), v6]) ⟨s1, ⟨[v], hd, rfl, fun m hm => by
      obtain rfl : m = 0 := by omega
      exact ⟨v, rfl, hv⟩⟩, v6, rfl⟩ ?_ ?_
    · rintro i σ H2 hi ⟨s2, ⟨ws, hws, hwl, hrows⟩, v6, rfl⟩
      have hi : i < n := by omega
      have e1 : (1 : Int) + (i : Nat) = ((i + 1 : Nat) : Int) := by omega
      refine ⟨_, rfl, .inl ⟨rfl, ws, .inl (.inl hws)⟩, ?_⟩
      refine xl_tup (H0 := H2) (la := [M] ++ (fl (e + 1) (gp (i + 1))).drop 1) (lb := fl (e + 1) (gq (i + 1))) (lc := [M] ++ (fl (e + 1) (gr (i + 1))).drop 1) ?_ ?_ ?_ (Same.refl _) fun H3 pt a b c s3 ht ha hb hc => ⟨d, ws, _, rfl, rfl, s3 _ _ hws, line_ok7 (by omega), ?_⟩
      · exact xl_cat (xl_one (xn_var (by rfl))) (xl_sl (K := K) (xl_rowT (K := K) (a := 2) (by rfl) (hp.same s2) (xn_var (by rfl)) e1 (by omega))) (lt1 _)
      · exact xl_rowT (K := K) (a := 3) (by rfl) (hq.same s2) (xn_var (by rfl)) e1 (by omega)
      · exact xl_cat (xl_one (xn_var (by rfl))) (xl_sl (K := K) (xl_rowT (K := K) (a := 4) (by rfl) (hrr.same s2) (xn_var (by rfl)) e1 (by omega))) (lt1 _)
      have nd : ∀ {y : Addr} {o : HO}, H3 y = some o → (∀ l, o ≠ .lst l) ∨ (∃ f, o = LI (fl (e + 1) f)) → y ≠ d := fun {y o} hy ho hyd => by
        subst hyd
        rw [s3 _ _ hws] at hy
        rcases ho with ho | ⟨f, ho⟩
        · exact ho ws (Option.some.inj hy).symm
        · obtain ⟨v0, e0, hv0⟩ := hrows 0 (by omega)
          have ee := (Option.some.inj hy).trans ho
          have ew : ws = (fl (e + 1) f).map V.int := HO.lst.inj ee
          obtain ⟨qa, _, _, _, rfl, _⟩ := hv0
          rw [ew, fl_at _ (by omega)] at e0
          cases e0
      have kp : ∀ {v : V} {f : Nat → C3}, RowAt H3 v (e + 1) f → RowAt (upd H3 d (.lst (ws ++ [V.ref pt]))) v (e + 1) f := fun {v f} ⟨qa, a1, a2, a3, ev, h1, h2, h3, h4⟩ => ⟨qa, a1, a2, a3, ev, by rw [upd_ne (nd h1 (.inl fun l z => nomatch z))]; exact h1, by rw [upd_ne (nd h2 (.inr ⟨_, rfl⟩))]; exact h2, by rw [upd_ne (nd h3 (.inr ⟨_, rfl⟩))]; exact h3, by rw [upd_ne (nd h4 (.inr ⟨_, rfl⟩))]; exact h4⟩
      refine ⟨fun y o ey => ?_, ⟨_, upd_same, by rw [List.length_append, hwl]; rfl, fun m hm => ?_⟩, _, rfl⟩
      · rw [upd_ne (ne_of_none ey hdn)]
        exact s3 _ _ (s2 _ _ ey)
      · rcases Nat.lt_succ_iff_lt_or_eq.mp hm with hm | hm
        · obtain ⟨v, e0, hv⟩ := hrows m hm
          exact ⟨v, by rw [List.getElem?_append_left (by omega)]; exact e0, kp (hv.same s3)⟩
        · subst hm
          refine ⟨.ref pt, by rw [List.getElem?_append_right (by omega), hwl, Nat.sub_self]; rfl, kp ⟨pt, a, b, c, rfl, ht, ?_, ?_, ?_⟩⟩
          · show _ = some (LI (fl (e + 1) fun k => mP M gp (i + 1) k))
            rw [f0]
            exact ha
          · show _ = some (LI (fl (e + 1) fun k => mQ M gq (i + 1) k))
            rw [f1]
            exact hb
          · show _ = some (LI (fl (e + 1) fun k => mR M gr (i + 1) k))
            rw [f2]
            exact hc
    · rintro σ H2 ⟨s2, ⟨ws, hws, hwl, hrows⟩, v6, rfl⟩
      exact ⟨.ref d, rfl, qq H2 d s2 ⟨ws, hws, by omega, fun i hi => hrows i (by omega)⟩⟩
end
section
variable {P : Program} {w : World} {K : PySem.W.Frag} {mg : Str → Option Value} {base : Heap}
/-- what is judged: the sizes and the conditions -/
def PapOk (a b c : Nat) (r t : List Nat) (e : Nat) (X0 X1 X2 : List (List Int)) : Prop := (Sz (r.length + 1) (e + 1) X0 ∧ Sz (r.length + 1) (e + 1) X1 ∧ Sz (r.length + 1) (e + 1) X2) ∧ HoldL a b c r t (gf X0) (gf X1) (gf X2) r.length e
def spShown (K : PySem.W.Frag) : Sp := fun vs H Q _ => ∃ (z tp p0 p1 p2 : Addr) (a b c : Nat) (r t : List Nat) (e : Nat) (X0 X1 X2 : List (List Int)), vs = [.str (T r), .str (T t), .int (e : Int), .ref z, .ref tp] ∧ SqT K H z [.int a, .int b, .int c] ∧ SqT K H tp [.ref p0, .ref p1, .ref p2] ∧ TabL H p0 X0 ∧ TabL H p1 X1 ∧ TabL H p2 X2 ∧
  e ≤ t.length ∧ t.length ≤ 10000 ∧ r.length ≤ 10000 ∧ 1 ≤ r.length ∧ a ≤ 10000 ∧ b ≤ 10000 ∧ c ≤ 10000 ∧
  ∀ (v : V) (H' : Hp), Same H H' → (PapOk a b c r t e X0 X1 X2 → v = .int (shN (gf X0) (gf X1) (gf X2) r.length e)) → (¬ PapOk a b c r t e X0 X1 X2 → v = .non) → Q v H'
theorem fold_mn3 (x y z : Int) : [y, z].foldl min x = mn3 x y z := by
  have h := mn3_le x y z
  show min (min x y) z = _
  omega
theorem ok_shown {f : Addr} {fd : FuncData} {k : Nat} (F : Fun K "shown" "shown" sShown f fd) (mlen : mg "len" = none) (mmin : mg "min" = none) (mmax : mg "max" = none) (msum : mg "sum" = none) (menum : mg "enumerate" = none)
    (hA : Has P w K mg base (k + 1) "agree" ["first", "second"] spAg) (hH : Has P w K mg base (k + 1) "_has_sizes" ["paper", "height", "width"] (spHasSz K)) (hB : Has P w K mg base (k + 1) "_bounding_rows" ["paper", "most"] (spBRows K)) (hP : Has P w K mg base (k + 1) "_pairs" ["above", "row", "weights"] spPairs)
    (hR : Has P w K mg base (k + 1) "_leaves_read_out" ["above", "row", "costs"] (spLeavesR K)) (hT : Has P w K mg base (k + 1) "_leaves_text_out" ["row", "costs"] (spLeavesT K)) : FnOk P w K mg base CX0 (k + 2) f fd ["read", "text", "end", "costs", "paper"] (spShown K) := by
  obtain ⟨fA, dA, GA, gA, kA, bA⟩ := hA
  obtain ⟨fH, dH, GH, gH, kH, bH⟩ := hH
  obtain ⟨fB, dB, GB, gB, kB, bB⟩ := hB
  obtain ⟨fP, dP, GP, gP, kP, bP'⟩ := hP
  obtain ⟨fR, dR', GR, gR, kR, bR'⟩ := hR
  obtain ⟨fT, dT', GT, gT, kT, bT⟩ := hT
  have bP := bP'
  have bR := bR'
  refine F.ok scShown (fun vs H Q E h => ?_) (fun cdv A outer s H vs Q E hr h => ?_)
  · obtain ⟨z, tp, p0, p1, p2, a, b, c, r, t, e, X0, X1, X2, rfl, _⟩ := h
    rfl
  · obtain ⟨z, tp, p0, p1, p2, a, b, c, r, t, e, X0, X1, X2, rfl, hz, htp, h0, h1, h2, het, htl, hrl, hr1, ha, hb, hc, q⟩ := h
    refine ⟨_, (C8.pss_cut (ps_if (pt_not (pt_val (pe_call GH hr (by rfl) gH kH bH .nil pass0 (pa_cons (pv 4) (pa_cons (pe_op op_add (pe_callB call_len_str (by rfl) mlen PySem.boot_len (pa_cons (pv 0) pa_nil)) pe_int) (pa_cons (pe_op op_add (pv 2) pe_int) pa_nil)))))) (pss_one (ps_ret pe_non)) pss_nil)
      (C8.pss_cut (ps_set (i := 5) scShown.nd rfl (.inl rfl) (pe_op op_mul (pe_op op_add (pe_callB call_len_str (by rfl) mlen PySem.boot_len (pa_cons (pv 0) pa_nil)) (pv 2)) (pe_callB (cr_sumT rfl) (by rfl) msum (by decide +kernel) (pa_cons (pv 3) pa_nil))))
      (C8.pss_cut (ps_set (i := 6) scShown.nd rfl (.inl rfl) (pe_call GB hr (by rfl) gB kB bB .nil pass0 (pa_cons (pv 4) (pa_cons (pv 5) pa_nil))))
      (C8.pss_cut (ps_if (PW.pt (pw_or (pt_cmpR op_gt (pe_callB (cr_max rfl) (by rfl) mmax (by decide +kernel) (pa_cons (pe_ix ix_tup (pe_ix ix_list (pv 6) pe_int (fun _ _ => rfl)) pe_int (fun _ _ => rfl)) pa_nil)) pe_int (nomark _)) (pw_or1 (pt_not (pt_val (pe_call GT hr (by rfl) gT kT bT .nil pass0 (pa_cons (pe_ix ix_list (pv 6) pe_int (fun _ _ => rfl)) (pa_cons (pv 3) pa_nil)))))))) (pss_one (ps_ret pe_non)) pss_nil)
      (C8.pss_cut (ps_for PassesOwn.never rfl (pi_enumTS (by rfl) menum (pa_cons (pv 0) pa_nil) (pk_cons pe_int pk_nil)) (pg_tup rfl (pgs_cons (pg_name (i := 7) scShown.nd rfl (.inl rfl)) (pgs_cons (pg_name (i := 8) scShown.nd rfl (.inr rfl)) pgs_nil)))
        (pss_cons (ps_set (i := 9) scShown.nd rfl (.inl rfl) (pe_ix ix_list (pv 6) (pe_op op_sub (pv 7) pe_int) (fun _ _ => rfl)))
      (C8.pss_cut (ps_setLc (i := 10) (own := [("other", 11)]) (g := gName 11) (tt := tYes) (te := tIf (tB (tCall spAg [] E0 (tCons (tVar 8) (tCons (tVar 11) tNil)))) (tC (.int 0)) (tOp (rIxT K) (tVar 3) (tC (.int 0)))) (by rfl) scShown.nd rfl rfl (sw_true rfl rfl rfl (by decide +kernel)) (pi_str (pe_slice sl_str (pv 1) po_none (po_some (pv 2)))) (blkOk_by (own := [("other", 11)]) (N := NSh) (sc := defScope sShown) (by decide +kernel)) (fun _ _ _ _ _ => pg_name (i := 11) scShown.nd rfl (Or.inl rfl)) (fun _ _ _ _ _ => pts_nil) (fun _ _ _ _ _ => (pe_ifExp (pt_val (pe_call GA hr (by rfl) gA kA bA .nil pass0 (pa_cons (pv 8) (pa_cons (pv 11) pa_nil)))) pe_int (pe_ix (r := rIxT K) ix_tup (pv 3) pe_int (fun _ _ => rfl)))))
      (C8.pss_cut (ps_if (pt_not (PW.pt (pw_and (pt_val (pe_call GP hr (by rfl) gP kP bP .nil pass0 (pa_cons (pv 9) (pa_cons (pe_ix ix_list (pv 6) (pv 7) (fun _ _ => rfl)) (pa_cons (pv 10) pa_nil))))) (pw_and1 (pt_val (pe_call GR hr (by rfl) gR kR bR .nil pass0 (pa_cons (pv 9) (pa_cons (pe_ix ix_list (pv 6) (pv 7) (fun _ _ => rfl)) (pa_cons (pv 3) pa_nil))))))))) (pss_one (ps_ret pe_non)) pss_nil)
      (pss_one (ps_if (pt_not (pt_val (pe_call GT hr (by rfl) gT kT bT .nil pass0 (pa_cons (pe_ix ix_list (pv 6) (pv 7) (fun _ _ => rfl)) (pa_cons (pv 3) pa_nil))))) (pss_one (ps_ret pe_non)) pss_nil))))))
      (pss_one (ps_ret (pe_callB (cr_minL rfl hr.units) (by rfl) mmin (by decide +kernel) (pa_cons (pe_lc (own := [("numbers", 12)]) (g := gName 12) (tt := tYes) (te := tOp (rIxL K) (tVar 12) (tVar 2)) (by rfl) scShown.nd (pi_tup (pe_ix ix_list (pv 6) (pe_un un_neg pe_int) (fun _ _ => rfl))) (blkOk_by (own := [("numbers", 12)]) (N := NSh) (sc := defScope sShown) (by decide +kernel)) (fun _ _ _ _ _ => pg_name (i := 12) scShown.nd rfl (Or.inl rfl)) (fun _ _ _ _ _ => pts_nil) (fun _ _ _ _ _ => pe_ix (r := rIxL K) ix_list (pv 12) (pv 2) (fun _ _ => rfl))) pa_nil))))))))), ?_⟩
    have no : ∀ H', Same H H' → ¬ PapOk a b c r t e X0 X1 X2 → Q .non H' := fun H' s' n => q .non H' s' (fun y => absurd y n) fun _ => rfl
    obtain ⟨M, hM⟩ : ∃ M : Int, M = ((r.length : Int) + e) * ((a : Int) + b + c) := ⟨_, rfl⟩
    have ler : (T r).length ≤ sizeLine := line_ok6 (by rw [T_len]; omega)
    have nat1 : ∀ n : Nat, (n : Int) + 1 = ((n + 1 : Nat) : Int) := fun n => by omega
    -- the sizes
    refine ⟨fun σ H' => Same H H' ∧ (Sz (r.length + 1) (e + 1) X0 ∧ Sz (r.length + 1) (e + 1) X1 ∧ Sz (r.length + 1) (e + 1) X2) ∧ σ = [some (.str (T r)), some (.str (T t)), some (.int (e : Int)), some (.ref z), some (.ref tp), none, none, none, none, none, none, none, none], ?_, ?_⟩
    · refine ⟨.ref tp, rfl, .str (T r), rfl, T r, rfl, ler, _, 1, rfl, rfl, .int e, rfl, _, 1, rfl, rfl, tp, p0, p1, p2, X0, X1, X2, r.length + 1, e + 1, by rw [T_len]; show [V.ref tp, V.int ((r.length : Int) + 1), V.int ((e : Int) + 1)] = _; rw [nat1 r.length, nat1 e], htp, h0, h1, h2, by omega, fun kk H1 s1 hk => ?_⟩
      cases kk with
      | true => exact ⟨_, rfl, iteF ⟨s1, hk.mp rfl, rfl⟩⟩
      | false => exact ⟨_, rfl, iteT (no _ s1 fun y => absurd (hk.mpr y.1) Bool.false_ne_true)⟩
    rintro σ H1 ⟨s1, hsz, rfl⟩
    obtain ⟨z0, z1, z2⟩ := id hsz
    have t0 := (h0.same s1).at_ z0
    have t1 := (h1.same s1).at_ z1
    have t2 := (h2.same s1).at_ z2
    refine ⟨fun σ H' => H' = H1 ∧ σ = [some (.str (T r)), some (.str (T t)), some (.int (e : Int)), some (.ref z), some (.ref tp), some (.int M), none, none, none, none, none, none, none], ?_, ?_⟩
    · refine ⟨.str (T r), rfl, T r, rfl, ler, .int e, rfl, _, _, rfl, rfl, .ref z, rfl, z, [(a : Int), b, c], rfl, keepT s1 hz, _, _, rfl, rfl, .inl ⟨by rw [T_len]; omega, by rw [T_len]; omega⟩, rfl, ?_⟩
      rw [hM]
      have e1 : (((T r).length : Nat) : Int) = (r.length : Int) := by rw [T_len]
      rw [e1, show ([(a : Int), b, c]).sum = (a : Int) + b + c by simp only [List.sum_cons, List.sum_nil]; omega]
      rfl
    rintro σ H' ⟨hh, rfl⟩
    have hh := hh.symm
    subst hh
    refine ⟨fun σ H' => Same H H' ∧ ∃ d : Addr, RowsAt H' d r.length e M (gf X0) (gf X1) (gf X2) ∧ σ = [some (.str (T r)), some (.str (T t)), some (.int (e : Int)), some (.ref z), some (.ref tp), some (.int M), some (.ref d), none, none, none, none, none, none], ?_, ?_⟩
    · exact ⟨.ref tp, rfl, .int M, rfl, tp, p0, p1, p2, r.length, e, M, gf X0, gf X1, gf X2, rfl, keepT s1 htp, t0, t1, t2, by omega, by omega, fun H2 d s2 hd => ⟨s1.trans s2, d, hd, rfl⟩⟩
    rintro σ H2 ⟨s2, d, hd, rfl⟩
    have bad : ∀ H', Same H H' → ¬ HoldM a b c r t (mP M (gf X0)) (mQ M (gf X1)) (mR M (gf X2)) r.length e → Q .non H' := fun H' s' n => no H' s' fun y => n ((hold_iff hM).mpr y.2)
    have row : ∀ {H'}, Same H2 H' → ∀ i, i ≤ r.length → ∃ (ws : List V) (v : V), H' d = some (.lst ws) ∧ ws.length = r.length + 1 ∧ ws[i]? = some v ∧ RowAt H' v (e + 1) (m3 M (gf X0) (gf X1) (gf X2) i) := fun s' i hi => by
      obtain ⟨ws, w1, w2, w3⟩ := hd.same s'
      obtain ⟨v, e1, e2⟩ := w3 i hi
      exact ⟨ws, v, w1, w2, e1, e2⟩
    -- the first row
    refine ⟨fun σ H' => Same H2 H' ∧ (∀ j, j ≤ e → mP M (gf X0) 0 j ≤ 0) ∧ (∀ j, j < e → cT b c (mP M (gf X0)) (mQ M (gf X1)) (mR M (gf X2)) 0 j) ∧ σ = [some (.str (T r)), some (.str (T t)), some (.int (e : Int)), some (.ref z), some (.ref tp), some (.int M), some (.ref d), none, none, none, none, none, none], ?_, ?_⟩
    · obtain ⟨ws, v, w1, w2, e1, hv⟩ := row (Same.refl _) 0 (Nat.zero_le _)
      obtain ⟨qa, a1, a2, a3, rfl, hqa, ha1, ha2, ha3⟩ := id hv
      refine ⟨.ref d, rfl, d, ws, 0, .ref qa, rfl, rfl, .inl (.inl w1), atI_nat e1, qa, _, 0, .ref a1, rfl, rfl, .inl (.inl hqa), rfl, a1, _, rfl, .inl (.inl ha1), by rw [fl_len]; omega, fun m hm hle => ⟨_, 0, rfl, rfl, _, rfl, ite2 (fun c1 => ?_) (fun c1 => ?_)⟩⟩
      · have c1 := of_decide_eq_true c1
        refine bad _ s2 fun y => ?_
        obtain ⟨j, hj, ej⟩ := List.mem_map.mp (show m ∈ (List.range (e + 1)).map _ from hm)
        have := y.1 j (by have := List.mem_range.mp hj; omega)
        have ej : mP M (gf X0) 0 j = m := ej
        omega
      · have c1 : ¬ (m > 0) := fun y => c1 (decide_eq_true y)
        have hp0 : ∀ j, j ≤ e → mP M (gf X0) 0 j ≤ 0 := fun j hj => by
          have := hle (mP M (gf X0) 0 j) (show _ ∈ (List.range (e + 1)).map _ from List.mem_map.mpr ⟨j, List.mem_range.mpr (by omega), rfl⟩)
          omega
        refine ⟨.ref d, rfl, d, ws, 0, .ref qa, rfl, rfl, .inl (.inl w1), atI_nat e1, .ref z, rfl, .ref qa, z, a, b, c, e, _, rfl, keepT s2 hz, hv, by omega, fun kk H3 s3 hk => ?_⟩
        cases kk with
        | true => exact ⟨_, rfl, iteF ⟨s3, hp0, hk.mp rfl, rfl⟩⟩
        | false => exact ⟨_, rfl, iteT (bad _ (s2.trans s3) fun y => absurd (hk.mpr (y.2.1 0 (Nat.zero_le _))) Bool.false_ne_true)⟩
    rintro σ H3 ⟨s3, hp0, hT0, rfl⟩
    -- the rows below
    refine ⟨fun σ H' => Same H2 H' ∧ HoldM a b c r t (mP M (gf X0)) (mQ M (gf X1)) (mR M (gf X2)) r.length e ∧ ∃ v7 v8 v9 v10 : Option V, σ = [some (.str (T r)), some (.str (T t)), some (.int (e : Int)), some (.ref z), some (.ref tp), some (.int M), some (.ref d), v7, v8, v9, v10, none, none], ?_, ?_⟩
    · refine ⟨.str (T r), rfl, T r, 1, rfl, rfl, by omega, by omega, ?_⟩
      refine for_gen (J := ItT (1 : Int) (T r)) (n := r.length) (fun i σ H' => Same H2 H' ∧ ((∀ i', i' ≤ i → ∀ j, j < e → cT b c (mP M (gf X0)) (mQ M (gf X1)) (mR M (gf X2)) i' j) ∧ (∀ i', i' < i → ∀ j, j < e → cP a r t (mP M (gf X0)) (mQ M (gf X1)) (mR M (gf X2)) i' j) ∧ ∀ i', i' < i → ∀ j, j ≤ e → cQ b c (mP M (gf X0)) (mQ M (gf X1)) (mR M (gf X2)) i' j) ∧ ∃ v7 v8 v9 v10 : Option V, σ = [some (.str (T r)), some (.str (T t)), some (.int (e : Int)), some (.ref z), some (.ref tp), some (.int M), some (.ref d), v7, v8, v9, v10, none, none])
        ⟨s3, ⟨fun i' hi' j hj => by
          obtain rfl : i' = 0 := by omega
          exact hT0 j hj, fun i' hi' => absurd hi' (Nat.not_lt_zero _), fun i' hi' => absurd hi' (Nat.not_lt_zero _)⟩, none, none, none, none, rfl⟩ (fun i σ H' hi _ => by show i < (T r).cps.size; rw [T_size]; exact hi) (fun σ H' _ => by show (T r).cps.size ≤ _; rw [T_size]; exact Nat.le_refl _) ?_ ?_
      · rintro i σ H4 xv H5 hi ⟨s4, ⟨hT1, hP1, hQ1⟩, v7, v8, v9, v10, rfl⟩ ⟨U, y, rfl, hU, rfl, hy⟩
        rw [T_at] at hy
        have ey : r.getD i 0 = y := by
          rw [List.getD_eq_getElem?_getD, hy]
          rfl
        subst ey
        have s5 := s4.trans (same_upd (o := .tup [.int (1 + (i : Nat)), .str ⟨#[r.getD i 0]⟩]) hU)
        refine ⟨U, _, rfl, .inl (.inl upd_same), rfl, _, _, rfl, _, _, rfl, rfl, ?_⟩
        generalize upd H4 U (.tup [.int (1 + (i : Nat)), .str ⟨#[r.getD i 0]⟩]) = H5 at s5
        rw [show (1 : Int) + (i : Nat) = ((i + 1 : Nat) : Int) by omega]
        obtain ⟨ws, va, w1, w2, e1, hva⟩ := row s5 i (by omega)
        obtain ⟨ws', vb, w1', w2', e1', hvb⟩ := row s5 (i + 1) (by omega)
        obtain rfl : ws = ws' := HO.lst.inj (Option.some.inj (w1.symm.trans w1'))
        refine ⟨.ref d, rfl, .int ((i + 1 : Nat) : Int), rfl, _, 1, rfl, rfl, d, ws, _, va, rfl, rfl, .inl (.inl w1), ?_, ?_⟩
        · rw [show ((i + 1 : Nat) : Int) - 1 = (i : Int) by omega]
          exact atI_nat e1
        refine ⟨fun σ H' => Same H5 H' ∧ ∃ wl : Addr, H' wl = some (LI (fl e fun j => wgt a (r.getD i 0) (t.getD j 0))) ∧ σ = [some (.str (T r)), some (.str (T t)), some (.int (e : Int)), some (.ref z), some (.ref tp), some (.int M), some (.ref d), some (.int ((i + 1 : Nat) : Int)), some (.str (T [r.getD i 0])), some va, some (.ref wl), none, none], ?_, ?_⟩
        · refine ⟨.str (T t), rfl, .int e, rfl, (e : Int), rfl, T t, rfl, line_ok6 (by rw [T_len]; omega), ?_⟩
          rw [cut_head]
          refine ⟨T (t.take e), rfl, fun D hD => ?_⟩
          refine lc_gen (J := Its (T (t.take e))) (n := e) (fun j H' => Same H5 H' ∧ H' D = some (LI (fl j fun j => wgt a (r.getD i 0) (t.getD j 0)))) ⟨same_upd hD, upd_same⟩ ?_ ?_ ?_ ?_
          · intro j H' hj _
            show j < (T (t.take e)).cps.size
            rw [T_size, List.length_take]
            omega
          · intro H' _
            show (T (t.take e)).cps.size ≤ e
            rw [T_size, List.length_take]
            omega
          · rintro j H6 x H7 hj ⟨s6, hd6⟩ ⟨rfl, ch, hch, rfl⟩
            rw [T_at, List.getElem?_take_of_lt hj] at hch
            have ec : t.getD j 0 = ch := by
              rw [List.getD_eq_getElem?_getD, hch]
              rfl
            subst ec
            refine ⟨rfl, ?_⟩
            dsimp only [tYes]
            rw [if_pos rfl]
            refine ⟨.str (T [r.getD i 0]), rfl, .str ⟨#[t.getD j 0]⟩, rfl, r.getD i 0, t.getD j 0, rfl, _, rfl, ?_⟩
            have fin : ∀ x : Int, x = wgt a (r.getD i 0) (t.getD j 0) → ∃ acc, H7 D = some (.lst acc) ∧ acc.length < sizeLine ∧ (Same H5 (upd H7 D (.lst (acc ++ [.int x]))) ∧ (upd H7 D (.lst (acc ++ [.int x]))) D = some (LI (fl (j + 1) fun j => wgt a (r.getD i 0) (t.getD j 0)))) := fun x hx => ⟨_, hd6, line_ok7 (by rw [fl_lenV]; omega), ext_same s6 hD, by
              rw [upd_same, hx]
              show some (HO.lst _) = some (HO.lst _)
              rw [fl, fl, List.range_succ, List.map_append, List.map_append]
              rfl⟩
            unfold wgt at fin
            cases hag : agB (r.getD i 0) (t.getD j 0) with
            | true => exact iteT (fin 0 (by rw [hag, if_pos rfl]))
            | false => exact iteF ⟨.ref z, rfl, z, _, 0, .int a, rfl, rfl, keepT (s2.trans (s5.trans s6)) hz, rfl, fin a (by rw [hag, if_neg Bool.false_ne_true])⟩
          · rintro H6 ⟨s6, hd6⟩
            exact ⟨s6, D, hd6, rfl⟩
        rintro σ H6 ⟨s6, wl, hwl, rfl⟩
        have s26 := s5.trans s6
        have eP : (∀ j x, (fl e fun j => wgt a (r.getD i 0) (t.getD j 0))[j]? = some x → (m3 M (gf X0) (gf X1) (gf X2) (i + 1) (j + 1)).p ≤ x + mn3 (m3 M (gf X0) (gf X1) (gf X2) i j).p (m3 M (gf X0) (gf X1) (gf X2) i j).q (m3 M (gf X0) (gf X1) (gf X2) i j).r) ↔ ∀ j, j < e → cP a r t (mP M (gf X0)) (mQ M (gf X1)) (mR M (gf X2)) i j := by
          constructor
          · intro y j hj
            exact y j _ (by rw [fl, List.getElem?_map, List.getElem?_range hj]; rfl)
          · intro y j x hx
            have hj := (List.getElem?_eq_some_iff.mp hx).1
            rw [fl_len] at hj
            rw [fl, List.getElem?_map, List.getElem?_range hj] at hx
            obtain rfl := Option.some.inj hx
            exact y j hj
        refine ⟨fun σ H' => Same H6 H' ∧ (∀ j, j < e → cP a r t (mP M (gf X0)) (mQ M (gf X1)) (mR M (gf X2)) i j) ∧ (∀ j, j < e + 1 → cQ b c (mP M (gf X0)) (mQ M (gf X1)) (mR M (gf X2)) i j) ∧ σ = [some (.str (T r)), some (.str (T t)), some (.int (e : Int)), some (.ref z), some (.ref tp), some (.int M), some (.ref d), some (.int ((i + 1 : Nat) : Int)), some (.str (T [r.getD i 0])), some va, some (.ref wl), none, none], ?_, ?_⟩
        · refine ⟨va, rfl, .ref d, rfl, .int ((i + 1 : Nat) : Int), rfl, d, ws, _, vb, rfl, rfl, .inl (.inl (s6 _ _ w1)), atI_nat e1', .ref wl, rfl, va, vb, wl, e + 1, _, _, _, rfl, hva.same s6, hvb.same s6, hwl, by rw [fl_len]; exact Nat.le_refl _, fun kk H7 s7 hk => ?_⟩
          cases kk with
          | false => exact ⟨_, rfl, iteF (iteT (bad _ (s2.trans (s26.trans s7)) fun y => absurd (hk.mpr (eP.mpr (y.2.2.1 i hi))) Bool.false_ne_true))⟩
          | true =>
            refine ⟨_, rfl, iteT ?_⟩
            refine ⟨va, rfl, .ref d, rfl, .int ((i + 1 : Nat) : Int), rfl, d, ws, _, vb, rfl, rfl, .inl (.inl (s7 _ _ (s6 _ _ w1))), atI_nat e1', .ref z, rfl, va, vb, z, a, b, c, e + 1, _, _, rfl, keepT (s2.trans (s26.trans s7)) hz, (hva.same s6).same s7, (hvb.same s6).same s7, fun kk H8 s8 hk2 => ?_⟩
            cases kk with
            | false => exact ⟨_, rfl, iteT (bad _ (s2.trans (s26.trans (s7.trans s8))) fun y => absurd (hk2.mpr fun j hj => y.2.2.2 i hi j (by omega)) Bool.false_ne_true)⟩
            | true => exact ⟨_, rfl, iteF ⟨s7.trans s8, eP.mp (hk.mp rfl), hk2.mp rfl, rfl⟩⟩
        rintro σ H7 ⟨s7, cp, cq, rfl⟩
        refine ⟨.ref d, rfl, .int ((i + 1 : Nat) : Int), rfl, d, ws, _, vb, rfl, rfl, .inl (.inl (s7 _ _ (s6 _ _ w1))), atI_nat e1', .ref z, rfl, vb, z, a, b, c, e, _, rfl, keepT (s2.trans (s26.trans s7)) hz, (hvb.same s6).same s7, by omega, fun kk H8 s8 hk => ?_⟩
        cases kk with
        | false => exact ⟨_, rfl, iteT (bad _ (s2.trans (s26.trans (s7.trans s8))) fun y => absurd (hk.mpr (y.2.1 (i + 1) (by omega))) Bool.false_ne_true)⟩
        | true =>
          refine ⟨_, rfl, iteF ⟨s26.trans (s7.trans s8), ⟨fun i' hi' j hj => ?_, fun i' hi' j hj => ?_, fun i' hi' j hj => ?_⟩, _, _, _, _, rfl⟩⟩
          · rcases Nat.le_succ_iff.mp hi' with h | h
            · exact hT1 i' h j hj
            · subst h
              exact hk.mp rfl j hj
          · rcases Nat.lt_succ_iff_lt_or_eq.mp hi' with h | h
            · exact hP1 i' h j hj
            · subst h
              exact cp j hj
          · rcases Nat.lt_succ_iff_lt_or_eq.mp hi' with h | h
            · exact hQ1 i' h j hj
            · subst h
              exact cq j (by omega)
      · rintro σ H4 ⟨s4, ⟨hT1, hP1, hQ1⟩, v7, v8, v9, v10, rfl⟩
        exact ⟨s4, ⟨hp0, hT1, hP1, hQ1⟩, v7, v8, v9, v10, rfl⟩
    rintro σ H4 ⟨s4, hold, v7, v8, v9, v10, rfl⟩
    have hL := (hold_iff hM).mp hold
    obtain ⟨ws, v, w1, w2, e1, ⟨qa, a1, a2, a3, rfl, hqa, ha1, ha2, ha3⟩⟩ := row s4 r.length (Nat.le_refl _)
    have hit : ∀ (m : Nat) (y : V), ([V.ref a1, V.ref a2, V.ref a3])[m]? = some y → ∃ (p : Addr) (g : Nat → Int), y = .ref p ∧ H4 p = some (LI (fl (e + 1) g)) ∧ [mP M (gf X0) r.length e, mQ M (gf X1) r.length e, mR M (gf X2) r.length e][m]? = some (g e) := fun m y hy => by
      have hm := (List.getElem?_eq_some_iff.mp hy).1
      have : m = 0 ∨ m = 1 ∨ m = 2 := by
        have : m < 3 := hm
        omega
      rcases this with e | e | e <;> subst e
      · exact ⟨a1, _, (Option.some.inj hy).symm, ha1, rfl⟩
      · exact ⟨a2, _, (Option.some.inj hy).symm, ha2, rfl⟩
      · exact ⟨a3, _, (Option.some.inj hy).symm, ha3, rfl⟩
    refine ⟨.ref d, rfl, 1, rfl, d, ws, _, .ref qa, rfl, rfl, .inl (.inl w1), atI_neg1' w2 e1, qa, rfl, ⟨_, .inl (.inl hqa)⟩, fun D hD => ?_⟩
    refine lc_tup (K := K) (xs := [.ref a1, .ref a2, .ref a3]) (fun m H' => Same H4 H' ∧ H' D = some (LI ([mP M (gf X0) r.length e, mQ M (gf X1) r.length e, mR M (gf X2) r.length e].take m))) ⟨same_upd hD, upd_same⟩ (fun m H' _ h => .inl (.inl (h.1 _ _ hqa))) ?_ ?_
    · rintro m y H5 hy ⟨s5, hd5⟩
      obtain ⟨p, g, rfl, hp, eg⟩ := hit m y hy
      have hm : m < 3 := (List.getElem?_eq_some_iff.mp hy).1
      refine ⟨rfl, ?_⟩
      dsimp only [tYes]
      rw [if_pos rfl]
      refine ⟨.ref p, rfl, .int e, rfl, p, _, _, .int (g e), rfl, rfl, .inl (.inl (s5 _ _ hp)), fl_ati g rfl (by omega), _, hd5, line_ok7 (by rw [List.length_map, List.length_take]; exact Nat.le_trans (Nat.succ_le_succ (Nat.min_le_left _ _)) (by omega)), ext_same s5 hD, ?_⟩
      rw [upd_same, List.take_add_one, eg]
      show some (HO.lst _) = some (HO.lst _)
      rw [List.map_append]
      rfl
    · rintro H5 ⟨s5, hd5⟩
      refine ⟨D, _, [_, _], rfl, .inl (.inl hd5), ?_⟩
      rw [fold_mn3, shN_eq hL hr1 hM]
      exact q _ H5 (s2.trans (s4.trans s5)) (fun _ => rfl) fun y => absurd ⟨hsz, hL⟩ y
end
/-! ### any paper is judged -/
def NJd : List Str := ["read", "text", "end", "costs", "told", "p", "q", "r", "table", "i", "j", "w", "pair", "extra", "gap", "n", "row"]
theorem scJudged : FnScope NJd ["read", "text", "end", "costs", "told"] (defScope sJudged) := ⟨rfl, rfl, rfl, by decide +kernel, rfl, by decide +kernel, by decide +kernel⟩
theorem min_le_of {x : Int} : ∀ (ms : List Int) (n : Int), x ∈ n :: ms → ms.foldl min n ≤ x
  | [], n, h => by
    obtain rfl : x = n := by simpa using h
    exact Int.le_refl _
  | m :: ms, n, h => by
    show ms.foldl min (min n m) ≤ x
    rcases List.mem_cons.mp h with rfl | h
    · have := min_le_of (x := min x m) ms (min x m) List.mem_cons_self
      omega
    · rcases List.mem_cons.mp h with rfl | h
      · have := min_le_of (x := min n x) ms (min n x) List.mem_cons_self
        omega
      · exact min_le_of ms _ (List.mem_cons_of_mem _ h)
theorem xt_boundT {K : PySem.W.Frag} {rl : List V → Hp → VK → Prop} {σ : L2.St} {H0 : Hp} {tc : TE} {la : Nat} {l : Addr} {L : List Int} {v : Int} (hσ : σ[la]? = some (some (.ref l))) (hL : H0 l = some (LI L)) (hv : XN tc σ H0 v) (h : ¬ ∀ x ∈ L, v ≤ x) (hr : ∀ (H : Hp) (Q : VK), H l = some (LI L) → Q (.int (L.length : Nat)) H → rl [.ref l] H Q) :
    XT (tAnd (tTest (tOp (rI0 fun i j => .bl (decide (j < i))) (tCB rl (tCons (tVar la) tNil)) (tC (.int 0)))) (tTest (tOp (rI0 fun i j => .bl (decide (j < i))) tc (tCB (rMinL K) (tCons (tVar la) tNil))))) σ H0 true := fun H R s q => by
  cases L with
  | nil => exact absurd (fun x hx => nomatch hx) h
  | cons n ms =>
    refine ⟨.ref l, hσ, hr _ _ (s _ _ hL) ⟨_, 0, rfl, rfl, _, rfl, ite2 (fun c => ?_) (fun c => ?_)⟩⟩
    · refine hv H _ s ⟨.ref l, hσ, ?_⟩
      refine ⟨l, n, ms, rfl, .inl (.inl (s _ _ hL)), v, _, rfl, rfl, _, rfl, ?_⟩
      have hf : ms.foldl min n < v := Int.not_le.mp fun y => h fun x hx => Int.le_trans y (min_le_of ms n hx)
      rw [decide_eq_true hf]
      exact q
    · exact absurd (decide_eq_true (show (0 : Int) < (((n :: ms).length : Nat) : Int) by rw [List.length_cons]; omega)) c
theorem xs_if2T {t1 t2 : TT} {u b : TS} {D : Ends} {σ : L2.St} {H : Hp} (h1 : XT t1 σ H true) (q : u { D with nx := b D } σ H) : tSeq (tIfS (tOr t1 t2) u tNext) b D σ H := h1 H _ (Same.refl _) (iteT (iteT q))
theorem xs_if2F {t1 t2 : TT} {u b : TS} {D : Ends} {σ : L2.St} {H : Hp} (h1 : XT t1 σ H false) (h2 : XT t2 σ H true) (q : u { D with nx := b D } σ H) : tSeq (tIfS (tOr t1 t2) u tNext) b D σ H := h1 H _ (Same.refl _) (iteF (h2 H _ (Same.refl _) (iteT q)))
theorem xs_if1T {t1 : TT} {u : TS} {D : Ends} {σ : L2.St} {H : Hp} (h1 : XT t1 σ H true) (q : u D σ H) : tIfS t1 u tNext D σ H := h1 H _ (Same.refl _) (iteT q)
section
variable {P : Program} {w : World} {K : PySem.W.Frag} {mg : Str → Option Value} {base : Heap}
def spJudged (K : PySem.W.Frag) : Sp := spShown K
theorem ok_judged {f : Addr} {fd : FuncData} {k : Nat} (F : Fun K "_law_judged" "_law_judged" sJudged f fd) (B : Bl mg) (mmin : mg "min" = none) (mall : mg "all" = none) (hA : Has P w K mg base (k + 1) "_law_agree" ["a", "b"] spAg) (hC : Has P w K mg base (k + 1) "_law_cell_bounds" ["p", "q", "r", "i", "j", "w", "open_cost", "each"] spCellB) : FnOk P w K mg base CX0 (k + 2) f fd ["read", "text", "end", "costs", "told"] (spJudged K) := by
  obtain ⟨fA, dA, GA, gA, kA, bA⟩ := hA
  obtain ⟨fC, dC, GC, gC, kC, bC⟩ := hC
  refine F.ok scJudged (fun vs H Q E h => ?_) (fun cdv A outer s H vs Q E hr h => ?_)
  · obtain ⟨z, tp, p, q, r', a, b, c, r, t, e, X0, X1, X2, rfl, _⟩ := h
    rfl
  · obtain ⟨z, tp, p, q, r', a, b, c, r, t, e, X0, X1, X2, rfl, hz, htp, h0, h1, h2, het, htl, hrl, hr1, ha, hb, hc, q0⟩ := h
    refine ⟨_, (C8.pss_cut (ps_asg (pv 4) (pg_tup rfl (pgs_cons (pg_name (i := 5) scJudged.nd rfl (.inl rfl)) (pgs_cons (pg_name (i := 6) scJudged.nd rfl (.inl rfl)) (pgs_cons (pg_name (i := 7) scJudged.nd rfl (.inl rfl)) pgs_nil)))))
      (C8.pss_cut (ps_for PassesOwn.never rfl (pi_tup (pv 4)) (pg_name (i := 8) scJudged.nd rfl (.inl rfl))
        (pss_one (ps_if (PW.pt (pw_or (pt_cmpR op_ne (pe_callB call_len_seq (by rfl) B.len PySem.boot_len (pa_cons (pv 8) pa_nil)) (pe_op op_add (pe_callB call_len_str (by rfl) B.len PySem.boot_len (pa_cons (pv 0) pa_nil)) pe_int) (nomark _)) (pw_or1 (pt_not (pt_val (pe_callB (cr_all rfl) (by rfl) mall (by decide +kernel) (pa_cons (pe_lc (own := [("row", 16)]) (g := gName 16) (tt := tYes) (te := tOp rEq (tCB (fun xs H Q => ∃ p ys, xs = [V.ref p] ∧ (SqL K H p ys ∨ SqT K H p ys) ∧ Q (V.int ((ys.length : Nat) : Int)) H) (tCons (tVar 16) tNil)) (tOp (rI0 fun i j => V.int (i + j)) (tVar 2) (tC (.int 1)))) (by rfl) scJudged.nd (pi_list (pv 8)) (blkOk_by (own := [("row", 16)]) (N := NJd) (sc := defScope sJudged) (by decide +kernel)) (fun _ _ _ _ _ => pg_name (i := 16) scJudged.nd rfl (Or.inl rfl)) (fun _ _ _ _ _ => pts_nil) (fun _ _ _ _ _ => pe_cmpR op_eq (pe_callB call_len_seq (by rfl) B.len PySem.boot_len (pa_cons (pv 16) pa_nil)) (pe_op op_add (pv 2) pe_int) (nomark _))) pa_nil))))))) (pss_one (ps_ret pe_non)) pss_nil)))
      (C8.pss_cut (ps_for PassesOwn.never rfl (pi_range1 rfl B.range (pa_cons (pe_op op_add (pe_callB call_len_str (by rfl) B.len PySem.boot_len (pa_cons (pv 0) pa_nil)) pe_int) pa_nil)) (pg_name (i := 9) scJudged.nd rfl (.inl rfl))
        (pss_one (ps_for PassesOwn.never rfl (pi_range1 rfl B.range (pa_cons (pe_op op_add (pv 2) pe_int) pa_nil)) (pg_name (i := 10) scJudged.nd rfl (.inl rfl))
        (pss_cons (ps_set (i := 11) scJudged.nd rfl (.inl rfl) pe_int)
      (C8.pss_cut (ps_if (PW.pt (pw_and (pt_cmpR op_gt (pv 9) pe_int (nomark _)) (pw_and1 (pt_cmpR op_gt (pv 10) pe_int (nomark _))))) (pss_one (ps_set (i := 11) scJudged.nd rfl (.inl rfl) (pe_op op_mul (pe_ix ix_tup (pv 3) pe_int (fun _ _ => rfl)) (pe_callTy call_int1 (by rfl) B.int (by decide +kernel) (pa_cons (pe_not (pe_call GA hr (by rfl) gA kA bA .nil pass0 (pa_cons (pe_ix ix_str (pv 0) (pe_op op_sub (pv 9) pe_int) (fun _ _ => rfl)) (pa_cons (pe_ix ix_str (pv 1) (pe_op op_sub (pv 10) pe_int) (fun _ _ => rfl)) pa_nil)))) pa_nil))))) pss_nil)
      (C8.pss_cut (ps_asg (pe_call GC hr (by rfl) gC kC bC .nil pass0 (pa_cons (pv 5) (pa_cons (pv 6) (pa_cons (pv 7) (pa_cons (pv 9) (pa_cons (pv 10) (pa_cons (pv 11) (pa_cons (pe_op op_add (pe_ix ix_tup (pv 3) pe_int (fun _ _ => rfl)) (pe_ix ix_tup (pv 3) pe_int (fun _ _ => rfl))) (pa_cons (pe_ix ix_tup (pv 3) pe_int (fun _ _ => rfl)) pa_nil))))))))) (pg_tup rfl (pgs_cons (pg_name (i := 12) scJudged.nd rfl (.inl rfl)) (pgs_cons (pg_name (i := 13) scJudged.nd rfl (.inl rfl)) (pgs_cons (pg_name (i := 14) scJudged.nd rfl (.inl rfl)) pgs_nil)))))
      (pss_cons (ps_if (PW.pt (pw_or (PW.pt (pw_and (pt_cmpR op_gt (pe_callB call_len_seq (by rfl) B.len PySem.boot_len (pa_cons (pv 12) pa_nil)) pe_int (nomark _)) (pw_and1 (pt_cmpR op_gt (pe_ix ix_list (pe_ix ix_list (pv 5) (pv 9) (fun _ _ => rfl)) (pv 10) (fun _ _ => rfl)) (pe_callB (cr_minL rfl hr.units) (by rfl) mmin (by decide +kernel) (pa_cons (pv 12) pa_nil)) (nomark _))))) (pw_or1 (PW.pt (pw_and (pt_cmpR op_gt (pe_callB call_len_seq (by rfl) B.len PySem.boot_len (pa_cons (pv 13) pa_nil)) pe_int (nomark _)) (pw_and1 (pt_cmpR op_gt (pe_ix ix_list (pe_ix ix_list (pv 6) (pv 9) (fun _ _ => rfl)) (pv 10) (fun _ _ => rfl)) (pe_callB (cr_minL rfl hr.units) (by rfl) mmin (by decide +kernel) (pa_cons (pv 13) pa_nil)) (nomark _)))))))) (pss_one (ps_ret pe_non)) pss_nil)
      (pss_one (ps_if (PW.pt (pw_and (pt_cmpR op_gt (pe_callB call_len_seq (by rfl) B.len PySem.boot_len (pa_cons (pv 14) pa_nil)) pe_int (nomark _)) (pw_and1 (pt_cmpR op_gt (pe_ix ix_list (pe_ix ix_list (pv 7) (pv 9) (fun _ _ => rfl)) (pv 10) (fun _ _ => rfl)) (pe_callB (cr_minL rfl hr.units) (by rfl) mmin (by decide +kernel) (pa_cons (pv 14) pa_nil)) (nomark _))))) (pss_one (ps_ret pe_non)) pss_nil)))))))))
      (pss_cons (ps_set (i := 15) scJudged.nd rfl (.inl rfl) (pe_callB call_len_str (by rfl) B.len PySem.boot_len (pa_cons (pv 0) pa_nil)))
      (pss_cons (ps_if (pt_cmpR op_eq (pv 2) pe_int (nomark _)) (pss_one (ps_ret (pe_ix ix_list (pe_ix ix_list (pv 6) (pv 15) (fun _ _ => rfl)) pe_int (fun _ _ => rfl)))) pss_nil)
      (pss_one (ps_ret (pe_callB (call_min3Nu rfl) (by rfl) mmin (by decide +kernel) (pa_cons (pe_ix ix_list (pe_ix ix_list (pv 5) (pv 15) (fun _ _ => rfl)) (pv 2) (fun _ _ => rfl)) (pa_cons (pe_ix ix_list (pe_ix ix_list (pv 6) (pv 15) (fun _ _ => rfl)) (pv 2) (fun _ _ => rfl)) (pa_cons (pe_ix ix_list (pe_ix ix_list (pv 7) (pv 15) (fun _ _ => rfl)) (pv 2) (fun _ _ => rfl)) pa_nil))))))))))), ?_⟩
    have no : ∀ H', Same H H' → ¬ PapOk a b c r t e X0 X1 X2 → Q .non H' := fun H' s' n => q0 .non H' s' (fun y => absurd y n) fun _ => rfl
    have hx : ∀ (m : Nat) (y : V), ([V.ref p, V.ref q, V.ref r'])[m]? = some y → ∃ p X, y = .ref p ∧ TabL H p X ∧ [X0, X1, X2][m]? = some X := fun m y hy => by
      have hm := (List.getElem?_eq_some_iff.mp hy).1
      have : m = 0 ∨ m = 1 ∨ m = 2 := by
        have : m < 3 := hm
        omega
      rcases this with e | e | e <;> subst e
      · exact ⟨p, X0, (Option.some.inj hy).symm, h0, rfl⟩
      · exact ⟨q, X1, (Option.some.inj hy).symm, h1, rfl⟩
      · exact ⟨r', X2, (Option.some.inj hy).symm, h2, rfl⟩
    have all3 : (∀ X ∈ [X0, X1, X2], Sz (r.length + 1) (e + 1) X) ↔ Sz (r.length + 1) (e + 1) X0 ∧ Sz (r.length + 1) (e + 1) X1 ∧ Sz (r.length + 1) (e + 1) X2 := by
      constructor
      · exact fun a => ⟨a _ (by simp), a _ (by simp), a _ (by simp)⟩
      · rintro ⟨a, b, c⟩ X hX
        rcases List.mem_cons.mp hX with rfl | hX
        · exact a
        rcases List.mem_cons.mp hX with rfl | hX
        · exact b
        rcases List.mem_cons.mp hX with rfl | hX
        · exact c
        cases hX
    refine ⟨fun σ H' => H' = H ∧ σ = [some (.str (T r)), some (.str (T t)), some (.int (e : Int)), some (.ref z), some (.ref tp), some (.ref p), some (.ref q), some (.ref r'), none, none, none, none, none, none, none, none, none], ⟨.ref tp, rfl, tp, _, rfl, htp, rfl, _, _, rfl, _, _, rfl, _, _, rfl, rfl, rfl, rfl⟩, ?_⟩
    rintro σ H' ⟨hh, rfl⟩
    have hh := hh.symm
    subst hh
    -- the sizes
    refine ⟨fun σ H' => Same H H' ∧ (∀ X ∈ [X0, X1, X2], Sz (r.length + 1) (e + 1) X) ∧ ∃ v8 : Option V, σ = [some (.str (T r)), some (.str (T t)), some (.int (e : Int)), some (.ref z), some (.ref tp), some (.ref p), some (.ref q), some (.ref r'), v8, none, none, none, none, none, none, none, none], ?_, ?_⟩
    · refine ⟨.ref tp, rfl, tp, rfl, ⟨_, htp⟩, ?_⟩
      refine for_tup (K := K) (xs := [.ref p, .ref q, .ref r']) (fun m σ H' => Same H H' ∧ (∀ i X, i < m → [X0, X1, X2][i]? = some X → Sz (r.length + 1) (e + 1) X) ∧ ∃ v8 : Option V, σ = [some (.str (T r)), some (.str (T t)), some (.int (e : Int)), some (.ref z), some (.ref tp), some (.ref p), some (.ref q), some (.ref r'), v8, none, none, none, none, none, none, none, none]) ⟨Same.refl _, fun i X hi => absurd hi (Nat.not_lt_zero _), none, rfl⟩ (fun m σ H' _ h => keepT h.1 htp) ?_ ?_
      rotate_left
      · rintro σ H' ⟨s', hsz, hσ⟩
        exact ⟨s', fun X hX => by
          obtain ⟨i, hi⟩ := List.mem_iff_getElem?.mp hX
          exact hsz i X (List.getElem?_eq_some_iff.mp hi).1 hi, hσ⟩
      rintro m y σ H1 hy ⟨s1, hsz, v8, rfl⟩
      obtain ⟨pt, X, rfl, hX, eX⟩ := hx m y hy
      obtain ⟨vs, hv, hvl, hrow⟩ := hX.same s1
      have nsz : ∀ H', Same H H' → ¬ Sz (r.length + 1) (e + 1) X → Q .non H' := fun H' s' nz => no H' s' fun y => nz ((all3.mpr y.1) X (List.mem_iff_getElem?.mpr ⟨m, eX⟩))
      have eT : (((T r).length : Nat) : Int) + 1 = ((r.length + 1 : Nat) : Int) := by
        rw [T_len]
        omega
      refine ⟨.ref pt, rfl, pt, vs, rfl, .inl (.inl (.inl hv)), .str (T r), rfl, T r, rfl, line_ok6 (by rw [T_len]; omega), _, 1, rfl, rfl, rfl, _, rfl, iteN (fun hne => ?_) (fun heq => ?_)⟩
      · exact nsz _ s1 fun z => hne (congrArg V.int (show ((vs.length : Nat) : Int) = (((T r).length : Nat) : Int) + 1 by rw [eT, hvl, z.1]))
      have hvh : vs.length = r.length + 1 := by
        have heq : ((vs.length : Nat) : Int) = (((T r).length : Nat) : Int) + 1 := V.int.inj heq
        omega
      refine ⟨.ref pt, rfl, pt, rfl, ⟨_, .inl (.inl hv)⟩, fun D hD => ?_⟩
      refine lc_list (K := K) (xs := vs) (fun j H2 => Same H1 H2 ∧ j ≤ vs.length ∧ H2 D = some (.lst (((X.take j).map fun row => decide (row.length = e + 1)).map V.bl))) ⟨same_upd hD, Nat.zero_le _, upd_same⟩ (fun j H2 _ h => .inl (.inl (h.1 _ _ hv))) ?_ ?_
      · rintro j y H2 hjy ⟨s2, _, hd⟩
        have hj : j < vs.length := (List.getElem?_eq_some_iff.mp hjy).1
        have ex : X[j]? = some X[j] := List.getElem?_eq_getElem (by omega)
        obtain ⟨qa, ea, ha2⟩ := hrow j _ ex
        rw [ea] at hjy
        obtain rfl : V.ref qa = y := Option.some.inj hjy
        refine ⟨rfl, ?_⟩
        dsimp only [tYes]
        rw [if_pos rfl]
        refine ⟨.ref qa, rfl, qa, _, rfl, .inl (.inl (.inl (s2 _ _ ha2))), .int e, rfl, _, 1, rfl, rfl, rfl, _, hd, line_ok7 (by rw [List.length_map, List.length_map, List.length_take]; omega), ext_same s2 hD, hj, ?_⟩
        rw [upd_same, List.take_add_one, ex, List.map_append, List.map_append, List.length_map]
        have e5 : decide (V.int (((X[j]).length : Nat) : Int) = V.int ((e : Int) + 1)) = decide ((X[j]).length = e + 1) := by
          rw [dec_eqI]
          exact decide_eq_decide.mpr ⟨fun h => by omega, fun h => by omega⟩
        show some (HO.lst (_ ++ [V.bl (decide (V.int (((X[j]).length : Nat) : Int) = V.int ((e : Int) + 1)))])) = _
        rw [e5]
        rfl
      · rintro H2 ⟨s2, _, hd⟩
        rw [List.take_of_length_le (by omega)] at hd
        refine ⟨D, _, rfl, .inl (.inl hd), ?_⟩
        have eA : (X.map fun row => decide (row.length = e + 1)).all id = true ↔ ∀ row ∈ X, row.length = e + 1 := by
          rw [List.all_map, List.all_eq_true]
          exact ⟨fun h row hr => of_decide_eq_true (h row hr), fun h row hr => decide_eq_true (h row hr)⟩
        cases hA : (X.map fun row => decide (row.length = e + 1)).all id with
        | false =>
          refine ⟨_, rfl, iteT (nsz _ (s1.trans s2) fun z => ?_)⟩
          have := eA.mpr z.2
          rw [hA] at this
          exact Bool.false_ne_true this
        | true =>
          refine ⟨_, rfl, iteF ⟨s1.trans s2, fun i X' hi hX' => ?_, _, rfl⟩⟩
          rcases Nat.lt_succ_iff_lt_or_eq.mp hi with hi | hi
          · exact hsz i X' hi hX'
          · subst hi
            rw [eX] at hX'
            obtain rfl := Option.some.inj hX'
            exact ⟨by omega, eA.mp hA⟩
    rintro σ H1 ⟨s1, hall, v8, rfl⟩
    have hsz := all3.mp hall
    obtain ⟨z0, z1, z2⟩ := id hsz
    have hp := h0.at_ z0
    have hq := h1.at_ z1
    have hrr := h2.at_ z2
    have bad : ∀ H', Same H H' → ¬ HoldL a b c r t (gf X0) (gf X1) (gf X2) r.length e → Q .non H' := fun H' s' n => no H' s' fun y => n y.2
    let CB : Nat → Nat → Prop := fun i j => (∀ x ∈ bP (gf X0) (gf X1) (gf X2) i j (ww a r t i j), gf X0 i j ≤ x) ∧ (∀ x ∈ bQ (gf X0) (gf X1) (gf X2) i j ((b : Int) + c) c, gf X1 i j ≤ x) ∧ ∀ x ∈ bR (gf X0) (gf X1) (gf X2) i j ((b : Int) + c) c, gf X2 i j ≤ x
    have nat : ∀ n : Nat, ((n : Int) + 1).toNat = n + 1 := fun n => by omega
    refine ⟨fun σ H' => Same H H' ∧ HoldL a b c r t (gf X0) (gf X1) (gf X2) r.length e ∧ ∃ v9 v10 v11 v12 v13 v14 : Option V, σ = [some (.str (T r)), some (.str (T t)), some (.int (e : Int)), some (.ref z), some (.ref tp), some (.ref p), some (.ref q), some (.ref r'), v8, v9, v10, v11, v12, v13, v14, none, none], ?_, ?_⟩
    · refine ⟨.str (T r), rfl, T r, rfl, line_ok6 (by rw [T_len]; omega), _, 1, rfl, rfl, _, rfl, by rw [T_len]; omega, by rw [T_len]; omega, ?_⟩
      refine for_range (lo := 0) (n := ((((T r).length : Nat) : Int) + 1).toNat) (fun i σ H' => Same H H' ∧ (∀ i' j', i' < i → j' ≤ e → CB i' j') ∧ ∃ v9 v10 v11 v12 v13 v14 : Option V, σ = [some (.str (T r)), some (.str (T t)), some (.int (e : Int)), some (.ref z), some (.ref tp), some (.ref p), some (.ref q), some (.ref r'), v8, v9, v10, v11, v12, v13, v14, none, none]) ⟨s1, fun i' j' hi' => absurd hi' (Nat.not_lt_zero _), none, none, none, none, none, none, rfl⟩ ?_ (fun σ H' ⟨s', h, hσ⟩ => ⟨s', fun i j hi hj => h i j (by rw [T_len, nat]; omega) hj, hσ⟩)
      rintro i σ H2 hi ⟨s2, hrows, v9, v10, v11, v12, v13, v14, rfl⟩
      rw [T_len, nat] at hi
      refine ⟨.int e, rfl, _, 1, rfl, rfl, _, rfl, by omega, by omega, ?_⟩
      refine for_range (lo := 0) (n := ((e : Int) + 1).toNat) (fun j σ H' => Same H H' ∧ (∀ j', j' < j → CB i j') ∧ ∃ v10 v11 v12 v13 v14 : Option V, σ = [some (.str (T r)), some (.str (T t)), some (.int (e : Int)), some (.ref z), some (.ref tp), some (.ref p), some (.ref q), some (.ref r'), v8, some (.int (0 + (i : Nat))), v10, v11, v12, v13, v14, none, none]) ⟨s2, fun j' hj' => absurd hj' (Nat.not_lt_zero _), v10, v11, v12, v13, v14, rfl⟩ ?_ (fun σ H' ⟨s', h, v10, v11, v12, v13, v14, hσ⟩ => ⟨s', fun i' j' hi' hj' => by
        rcases Nat.lt_succ_iff_lt_or_eq.mp hi' with hi' | hi'
        · exact hrows i' j' hi' hj'
        · subst hi'
          exact h j' (by rw [nat]; omega), _, v10, v11, v12, v13, v14, hσ⟩)
      rintro j σ H3 hj ⟨s3, hcols, v10, v11, v12, v13, v14, rfl⟩
      rw [nat] at hj
      have ei : (0 : Int) + (i : Nat) = (i : Int) := Int.zero_add _
      have ej : (0 : Int) + (j : Nat) = (j : Int) := Int.zero_add _
      refine ⟨fun σ H' => H' = H3 ∧ σ = [some (.str (T r)), some (.str (T t)), some (.int (e : Int)), some (.ref z), some (.ref tp), some (.ref p), some (.ref q), some (.ref r'), v8, some (.int (0 + (i : Nat))), some (.int (0 + (j : Nat))), some (.int (ww a r t i j)), v12, v13, v14, none, none], ?_, ?_⟩
      · have noW : ¬ (0 < i ∧ 0 < j) → ww a r t i j = 0 := fun h => by
          unfold ww
          rw [if_neg h]
        refine ⟨.int (0 + (i : Nat)), rfl, _, 0, rfl, rfl, _, rfl, ite2 (fun ci => ?_) (fun ci => iteF ⟨rfl, ?_⟩)⟩
        rotate_left
        · have ci : ¬ ((0 : Int) + (i : Nat) > 0) := fun y => ci (decide_eq_true y)
          rw [noW (by omega)]
          rfl
        have ci := of_decide_eq_true ci
        refine ⟨.int (0 + (j : Nat)), rfl, _, 0, rfl, rfl, _, rfl, ite2 (fun cj => ?_) (fun cj => ⟨rfl, ?_⟩)⟩
        rotate_left
        · have cj : ¬ ((0 : Int) + (j : Nat) > 0) := fun y => cj (decide_eq_true y)
          rw [noW (by omega)]
          rfl
        have cj := of_decide_eq_true cj
        have hi2 : i - 1 < r.length := by omega
        have hj2 : j - 1 < t.length := by omega
        have gi : atI (T r).cps.toList ((0 : Int) + (i : Nat) - 1) = some (r.getD (i - 1) 0) := by
          rw [show (0 : Int) + (i : Nat) - 1 = ((i - 1 : Nat) : Int) by omega, T_list]
          exact atI_nat (by rw [List.getD_eq_getElem?_getD, List.getElem?_eq_getElem hi2]; rfl)
        have gj : atI (T t).cps.toList ((0 : Int) + (j : Nat) - 1) = some (t.getD (j - 1) 0) := by
          rw [show (0 : Int) + (j : Nat) - 1 = ((j - 1 : Nat) : Int) by omega, T_list]
          exact atI_nat (by rw [List.getD_eq_getElem?_getD, List.getElem?_eq_getElem hj2]; rfl)
        refine ⟨.ref z, rfl, z, _, 0, .int a, rfl, rfl, keepT s3 hz, rfl, .str (T r), rfl, .int (0 + (i : Nat)), rfl, _, 1, rfl, rfl, T r, _, r.getD (i - 1) 0, rfl, rfl, line_ok6 (by rw [T_len]; omega), gi, .str (T t), rfl, .int (0 + (j : Nat)), rfl, _, 1, rfl, rfl, T t, _, t.getD (j - 1) 0, rfl, rfl, line_ok6 (by rw [T_len]; omega), gj, r.getD (i - 1) 0, t.getD (j - 1) 0, rfl, _, rfl, .inr ⟨_, rfl, _, _, rfl, rfl, .inl ⟨by omega, by omega⟩, rfl, ?_⟩⟩
        have ew : ww a r t i j = wgt a (r.getD (i - 1) 0) (t.getD (j - 1) 0) := by
          unfold ww
          rw [if_pos ⟨by omega, by omega⟩]
        rw [ew, ← wgt_mul]
        rfl
      rintro σ H4 ⟨hh, rfl⟩
      have hh := hh.symm
      subst hh
      refine ⟨fun σ H' => Same H H' ∧ ∃ l1 l2 l3 : Addr, H' l1 = some (LI (bP (gf X0) (gf X1) (gf X2) i j (ww a r t i j))) ∧ H' l2 = some (LI (bQ (gf X0) (gf X1) (gf X2) i j ((b : Int) + c) c)) ∧ H' l3 = some (LI (bR (gf X0) (gf X1) (gf X2) i j ((b : Int) + c) c)) ∧ σ = [some (.str (T r)), some (.str (T t)), some (.int (e : Int)), some (.ref z), some (.ref tp), some (.ref p), some (.ref q), some (.ref r'), v8, some (.int (0 + (i : Nat))), some (.int (0 + (j : Nat))), some (.int (ww a r t i j)), some (.ref l1), some (.ref l2), some (.ref l3), none, none], ?_, ?_⟩
      · refine ⟨.ref p, rfl, .ref q, rfl, .ref r', rfl, .int (0 + (i : Nat)), rfl, .int (0 + (j : Nat)), rfl, .int (ww a r t i j), rfl, .ref z, rfl, z, _, 1, .int b, rfl, rfl, keepT s3 hz, rfl, .ref z, rfl, z, _, 2, .int c, rfl, rfl, keepT s3 hz, rfl, _, _, rfl, rfl, .ref z, rfl, z, _, 2, .int c, rfl, rfl, keepT s3 hz, rfl, p, q, r', r.length, e, gf X0, gf X1, gf X2, i, j, ww a r t i j, (b : Int) + c, (c : Int), by rw [ei, ej]; rfl, hp.same s3, hq.same s3, hrr.same s3, by omega, by omega, fun H4 tt l1 l2 l3 s4 ht4 h1 h2 h3 => ?_⟩
        exact ⟨tt, _, rfl, .inl (.inl ht4), rfl, _, _, rfl, _, _, rfl, _, _, rfl, rfl, s3.trans s4, l1, l2, l3, h1, h2, h3, rfl⟩
      rintro σ H4 ⟨s4, l1, l2, l3, h1, h2, h3, rfl⟩
      have hlen : ∀ {l : Addr} {L : List Int} (H : Hp) (Q : VK), H l = some (LI L) → Q (.int (L.length : Nat)) H → (fun xs H Q => ∃ p ys, xs = [V.ref p] ∧ (SqL K H p ys ∨ SqT K H p ys) ∧ Q (V.int ((ys.length : Nat) : Int)) H) [V.ref l] H Q := fun {l L} H Q hl q => ⟨l, _, rfl, .inl (.inl (.inl hl)), by rw [List.length_map]; exact q⟩
      have c1 := fun (n : ¬ CB i j) => bad H4 s4 fun y => n (y i j (by omega) (by omega))
      have cellP := xn_cell (K := K) (σ := [some (.str (T r)), some (.str (T t)), some (.int (e : Int)), some (.ref z), some (.ref tp), some (.ref p), some (.ref q), some (.ref r'), v8, some (.int (0 + (i : Nat))), some (.int (0 + (j : Nat))), some (.int (ww a r t i j)), some (.ref l1), some (.ref l2), some (.ref l3), none, none]) (H0 := H4) (a := 5) (by rfl) (hp.same s4) (xn_var (i := 9) (v := 0 + (i : Nat)) (by rfl)) (xn_var (i := 10) (v := 0 + (j : Nat)) (by rfl)) ei ej (by omega) (by omega)
      have cellQ := xn_cell (K := K) (σ := [some (.str (T r)), some (.str (T t)), some (.int (e : Int)), some (.ref z), some (.ref tp), some (.ref p), some (.ref q), some (.ref r'), v8, some (.int (0 + (i : Nat))), some (.int (0 + (j : Nat))), some (.int (ww a r t i j)), some (.ref l1), some (.ref l2), some (.ref l3), none, none]) (H0 := H4) (a := 6) (by rfl) (hq.same s4) (xn_var (i := 9) (v := 0 + (i : Nat)) (by rfl)) (xn_var (i := 10) (v := 0 + (j : Nat)) (by rfl)) ei ej (by omega) (by omega)
      have cellR := xn_cell (K := K) (σ := [some (.str (T r)), some (.str (T t)), some (.int (e : Int)), some (.ref z), some (.ref tp), some (.ref p), some (.ref q), some (.ref r'), v8, some (.int (0 + (i : Nat))), some (.int (0 + (j : Nat))), some (.int (ww a r t i j)), some (.ref l1), some (.ref l2), some (.ref l3), none, none]) (H0 := H4) (a := 7) (by rfl) (hrr.same s4) (xn_var (i := 9) (v := 0 + (i : Nat)) (by rfl)) (xn_var (i := 10) (v := 0 + (j : Nat)) (by rfl)) ei ej (by omega) (by omega)
      by_cases b1 : ∀ x ∈ bP (gf X0) (gf X1) (gf X2) i j (ww a r t i j), gf X0 i j ≤ x
      rotate_left
      · refine xs_if2T ?_ ?_
        · exact xt_boundT (K := K) (la := 12) (by rfl) h1 cellP b1 hlen
        · exact c1 fun y => b1 y.1
      by_cases b2 : ∀ x ∈ bQ (gf X0) (gf X1) (gf X2) i j ((b : Int) + c) c, gf X1 i j ≤ x
      rotate_left
      · refine xs_if2F ?_ ?_ ?_
        · exact xt_bound (K := K) (la := 12) (by rfl) h1 cellP b1 hlen
        · exact xt_boundT (K := K) (la := 13) (by rfl) h2 cellQ b2 hlen
        · exact c1 fun y => b2 y.2.1
      refine xs_if2 ?_ ?_ ?_
      · exact xt_bound (K := K) (la := 12) (by rfl) h1 cellP b1 hlen
      · exact xt_bound (K := K) (la := 13) (by rfl) h2 cellQ b2 hlen
      by_cases b3 : ∀ x ∈ bR (gf X0) (gf X1) (gf X2) i j ((b : Int) + c) c, gf X2 i j ≤ x
      rotate_left
      · refine xs_if1T ?_ ?_
        · exact xt_boundT (K := K) (la := 14) (by rfl) h3 cellR b3 hlen
        · exact c1 fun y => b3 y.2.2
      refine xs_if1 ?_ ?_
      · exact xt_bound (K := K) (la := 14) (by rfl) h3 cellR b3 hlen
      refine ⟨s4, fun j' hj' => ?_, _, _, _, _, _, rfl⟩
      rcases Nat.lt_succ_iff_lt_or_eq.mp hj' with hj' | hj'
      · exact hcols j' hj'
      · subst hj'
        exact ⟨b1, b2, b3⟩
    rintro σ H2 ⟨s2, hold, v9, v10, v11, v12, v13, v14, rfl⟩
    have qq : ∀ H', Same H H' → Q (.int (shN (gf X0) (gf X1) (gf X2) r.length e)) H' := fun H' s' => q0 _ H' s' (fun _ => rfl) fun y => absurd ⟨hsz, hold⟩ y
    unfold shN at qq
    refine ⟨.str (T r), rfl, T r, rfl, line_ok6 (by rw [T_len]; omega), ?_⟩
    have en : (((T r).length : Nat) : Int) = (r.length : Int) := by rw [T_len]
    refine ⟨.int e, rfl, rfl, _, rfl, ite2 (fun ce => ?_) (fun ce => ?_)⟩
    · have ce : (e : Int) = 0 := V.int.inj (of_decide_eq_true ce)
      have q1 := qq _ s2
      rw [if_pos (by omega)] at q1
      refine xs_ret (v := gf X1 r.length 0) ?_ q1
      exact xn_cell (a := 6) (by rfl) (hq.same s2) (xn_var (by rfl)) xn_c en (j := 0) rfl (Nat.le_refl _) (by omega)
    · have ce : ¬ (e : Int) = 0 := fun y => ce (decide_eq_true (congrArg V.int y))
      have q1 := qq _ s2
      rw [if_neg (by omega)] at q1
      unfold tNext
      dsimp only
      refine xs_ret (v := mn3 (gf X0 r.length e) (gf X1 r.length e) (gf X2 r.length e)) ?_ ?_
      rotate_left
      · exact q1
      exact xn_min3 (xn_cell (a := 5) (by rfl) (hp.same s2) (xn_var (by rfl)) (xn_var (by rfl)) en rfl (Nat.le_refl _) (Nat.le_refl _)) (xn_cell (a := 6) (by rfl) (hq.same s2) (xn_var (by rfl)) (xn_var (by rfl)) en rfl (Nat.le_refl _) (Nat.le_refl _)) (xn_cell (a := 7) (by rfl) (hrr.same s2) (xn_var (by rfl)) (xn_var (by rfl)) en rfl (Nat.le_refl _) (Nat.le_refl _))
end
/-! ### lists of new lists, made by comprehensions, changed in place -/
theorem blkOk_in {N : List Str} {env : Env} {sc outer scope : Scope} {own : List (Str × Nat)} (he : env.scope = sc) (h : blkC N (relS outer sc) scope own = true) : BlkOk N (relabel outer env) scope own := by
  subst he
  exact blkOk_by h
structure Kd (E : Hp → Hp → Addr → Prop) : Prop where
  mono : ∀ {B0 B H : Hp} {q : Addr}, (∀ b, B b = none → B0 b = none) → E B H q → E B0 H q
  keep : ∀ {B H H' : Hp} {q : Addr}, (∀ b o, B b = none → H b = some o → H' b = some o) → E B H q → E B H' q
def ER (l : List Int) : Hp → Hp → Addr → Prop := fun B H q => B q = none ∧ H q = some (LI l)
def E1 (w : Nat) : Hp → Hp → Addr → Prop := fun B H q => B q = none ∧ ∃ l : List Int, l.length = w ∧ H q = some (LI l)
def EL (n : Nat) (E : Nat → Hp → Hp → Addr → Prop) : Hp → Hp → Addr → Prop := fun B H p => B p = none ∧ ∃ qs : List Addr, qs.length = n ∧ H p = some (.lst (qs.map V.ref)) ∧ ∀ (i : Nat) (q : Addr), qs[i]? = some q → E i B H q
theorem kd_R (l : List Int) : Kd (ER l) := ⟨fun h e => ⟨h _ e.1, e.2⟩, fun h e => ⟨e.1, h _ _ e.1 e.2⟩⟩
theorem kd_1 (w : Nat) : Kd (E1 w) := ⟨fun h e => ⟨h _ e.1, e.2⟩, fun h ⟨e, l, e1, e2⟩ => ⟨e, l, e1, h _ _ e e2⟩⟩
theorem kd_L {n : Nat} {E : Nat → Hp → Hp → Addr → Prop} (k : ∀ i, Kd (E i)) : Kd (EL n E) := ⟨fun h ⟨e, qs, e1, e2, e3⟩ => ⟨h _ e, qs, e1, e2, fun i q hq => (k i).mono h (e3 i q hq)⟩, fun h ⟨e, qs, e1, e2, e3⟩ => ⟨e, qs, e1, h _ _ e e2, fun i q hq => (k i).keep h (e3 i q hq)⟩⟩
/-- an expression that gives something new -/
def XF (te : TE) (σ : L2.St) (H0 : Hp) (E : Hp → Hp → Addr → Prop) : Prop := ∀ (H : Hp) (Q : VK), Same H0 H → (∀ (H' : Hp) (D : Addr), Same H H' → E H H' D → Q (.ref D) H') → te σ H Q
def CI (H1 : Hp) (D : Addr) (E : Nat → Hp → Hp → Addr → Prop) (i : Nat) (H : Hp) : Prop := Same H1 H ∧ ∃ qs : List Addr, qs.length = i ∧ H D = some (.lst (qs.map V.ref)) ∧ ∀ (j : Nat) (q : Addr), qs[j]? = some q → E j (upd H1 D (.lst [])) H q
theorem CI.zero {H1 : Hp} {D : Addr} {E : Nat → Hp → Hp → Addr → Prop} (hD : H1 D = none) : CI H1 D E 0 (upd H1 D (.lst [])) := ⟨same_upd hD, [], rfl, upd_same, fun j q h => nomatch h⟩
theorem none_of {H H' : Hp} (s : Same H H') {b : Addr} (h : H' b = none) : H b = none := by
  cases e : H b with
  | none => rfl
  | some o =>
    rw [s _ _ e] at h
    cases h
theorem CI.succ {H1 H H' : Hp} {D q : Addr} {E : Nat → Hp → Hp → Addr → Prop} {i : Nat} (kE : ∀ i, Kd (E i)) (hD : H1 D = none) (hi : i < 10000) (h : CI H1 D E i H) (s : Same H H') (e : E i H H' q) : ∃ acc, H' D = some (.lst acc) ∧ acc.length < sizeLine ∧ CI H1 D E (i + 1) (upd H' D (.lst (acc ++ [.ref q]))) := by
  obtain ⟨s1, qs, h1, h2, h3⟩ := h
  refine ⟨qs.map V.ref, s _ _ h2, line_ok7 (by rw [List.length_map]; omega), ext_same (s1.trans s) hD, qs ++ [q], by rw [List.length_append, h1]; rfl, by rw [upd_same, List.map_append]; rfl, fun j q' hq => ?_⟩
  have nD : ∀ b, (upd H1 D (.lst [])) b = none → b ≠ D := fun b hb z => by
    subst z
    rw [upd_same] at hb
    cases hb
  rcases Nat.lt_or_ge j i with hj | hj
  · rw [List.getElem?_append_left (by omega)] at hq
    refine (kE j).keep (fun b o hb hbo => ?_) (h3 j q' hq)
    rw [upd_ne (nD b hb)]
    exact s _ _ hbo
  · rw [List.getElem?_append_right (by omega)] at hq
    have hjl : j - qs.length = 0 := by
      rcases Nat.eq_zero_or_pos (j - qs.length) with z | z
      · exact z
      · rw [List.getElem?_eq_none (by show 1 ≤ j - qs.length; omega)] at hq
        cases hq
    rw [hjl] at hq
    obtain rfl : q = q' := Option.some.inj hq
    obtain rfl : j = i := by omega
    refine (kE j).keep (fun b o hb hbo => ?_) ((kE j).mono (fun b hb => ?_) e)
    · rw [upd_ne (nD b hb)]
      exact hbo
    · have nb : b ≠ D := fun z => by
        subst z
        rw [h2] at hb
        cases hb
      rw [upd_ne nb]
      exact none_of s1 hb
theorem CI.done {H1 H H0 : Hp} {D : Addr} {E : Nat → Hp → Hp → Addr → Prop} {n : Nat} (kE : ∀ i, Kd (E i)) (s0 : Same H0 H1) (hD : H1 D = none) (h : CI H1 D E n H) : EL n E H0 H D := by
  obtain ⟨s1, qs, h1, h2, h3⟩ := h
  refine ⟨none_of s0 hD, qs, h1, h2, fun i q hq => (kE i).mono (fun b hb => ?_) (h3 i q hq)⟩
  have nb : b ≠ D := fun z => by
    subst z
    rw [upd_same] at hb
    cases hb
  rw [upd_ne nb] at hb
  exact none_of s0 hb
section
variable {K : PySem.W.Frag} {σ : L2.St} {H0 : Hp} {E : Nat → Hp → Hp → Addr → Prop}
theorem set_none_set {σ : L2.St} {s : Nat} {v : Option V} : ((σ.set s none).set s v).set s none = σ.set s none := by
  rw [List.set_set, List.set_set]
theorem xf_rng {n s : Nat} {ta : TA} {te : TE} (kE : ∀ i, Kd (E i)) (hn : n < 10000) (ha : ∀ (H : Hp) (R : List V → Hp → Prop), Same H0 H → R [.int (n : Int)] H → ta σ H R)
    (he : ∀ i, i < n → XF te ((σ.set s none).set s (some (.int ((0 : Int) + (i : Nat))))) H0 (E i)) : XF (tLc (iRng1 ta) (gName s) tYes te [s]) σ H0 (EL n E) := by
  intro H Q s0 q
  refine ha H _ s0 ⟨n, rfl, by omega, by omega, fun D hD => ?_⟩
  refine lc_range (lo := 0) (n := n) (CI H D E) (CI.zero hD) ?_ (fun H' h => q H' D h.1 (CI.done kE (Same.refl _) hD h))
  intro i H' hi h
  refine ⟨set_none_set, ?_⟩
  dsimp only [tYes]
  rw [if_pos rfl]
  exact he i hi H' _ (s0.trans h.1) fun H2 D2 s2 e2 => CI.succ kE hD (by omega) h s2 e2
theorem xf_list {xs : List V} {s : Nat} {wi : TI} {te : TE} (kE : ∀ i, Kd (E i)) (hn : xs.length < 10000) (hw : ∀ (H : Hp) (R : It → Hp → Prop), Same H0 H → (∀ (H2 : Hp) (a : Addr), Same H H2 → SqL K H2 a xs → R (Itl K a) H2) → wi σ H R)
    (he : ∀ i x, xs[i]? = some x → XF te ((σ.set s none).set s (some x)) H0 (E i)) : XF (tLc wi (gName s) tYes te [s]) σ H0 (EL xs.length E) := by
  intro H Q s0 q
  refine hw H _ s0 fun H2 a s2 ha D hD => ?_
  refine lc_list (K := K) (a := a) (xs := xs) (CI H2 D E) (CI.zero hD) (fun i H' _ h => h.1.seq ha) ?_ (fun H' h => q H' D (s2.trans h.1) (CI.done kE s2 hD h))
  intro i x H' hx h
  refine ⟨set_none_set, ?_⟩
  dsimp only [tYes]
  rw [if_pos rfl]
  have hi := (List.getElem?_eq_some_iff.mp hx).1
  exact he i x hx H' _ ((s0.trans s2).trans h.1) fun H3 D3 s3 e3 => CI.succ kE hD (by omega) h s3 e3
theorem xf_tup {xs : List V} {s : Nat} {wi : TI} {te : TE} (kE : ∀ i, Kd (E i)) (hn : xs.length < 10000) (hw : ∀ (H : Hp) (R : It → Hp → Prop), Same H0 H → (∀ (H2 : Hp) (a : Addr), Same H H2 → SqT K H2 a xs → R (Itt K a) H2) → wi σ H R)
    (he : ∀ (H2 : Hp) (i : Nat) (x : V), Same H0 H2 → xs[i]? = some x → XF te ((σ.set s none).set s (some x)) H2 (E i)) : XF (tLc wi (gName s) tYes te [s]) σ H0 (EL xs.length E) := by
  intro H Q s0 q
  refine hw H _ s0 fun H2 a s2 ha D hD => ?_
  refine lc_tup (K := K) (a := a) (xs := xs) (CI H2 D E) (CI.zero hD) (fun i H' _ h => keepT h.1 ha) ?_ (fun H' h => q H' D (s2.trans h.1) (CI.done kE s2 hD h))
  intro i x H' hx h
  refine ⟨set_none_set, ?_⟩
  dsimp only [tYes]
  rw [if_pos rfl]
  have hi := (List.getElem?_eq_some_iff.mp hx).1
  exact he H2 i x (s0.trans s2) hx H' _ h.1 fun H3 D3 s3 e3 => CI.succ kE hD (by omega) h s3 e3
theorem xf_tupE {n s : Nat} {wi : TI} {te : TE} {Pq : Hp → List V → Prop} (kE : ∀ i, Kd (E i)) (hn : n < 10000) (hw : ∀ (H : Hp) (R : It → Hp → Prop), Same H0 H → (∀ (H2 : Hp) (a : Addr) (xs : List V), Same H H2 → SqT K H2 a xs → xs.length = n → Pq H2 xs → R (Itt K a) H2) → wi σ H R)
    (he : ∀ (H2 : Hp) (xs : List V) (i : Nat) (x : V), Same H0 H2 → Pq H2 xs → xs[i]? = some x → XF te ((σ.set s none).set s (some x)) H2 (E i)) : XF (tLc wi (gName s) tYes te [s]) σ H0 (EL n E) := by
  intro H Q s0 q
  refine hw H _ s0 fun H2 a xs s2 ha hl hP D hD => ?_
  subst hl
  refine lc_tup (K := K) (a := a) (xs := xs) (CI H2 D E) (CI.zero hD) (fun i H' _ h => keepT h.1 ha) ?_ (fun H' h => q H' D (s2.trans h.1) (CI.done kE s2 hD h))
  intro i x H' hx h
  refine ⟨set_none_set, ?_⟩
  dsimp only [tYes]
  rw [if_pos rfl]
  have hi := (List.getElem?_eq_some_iff.mp hx).1
  exact he H2 xs i x (s0.trans s2) hP hx H' _ h.1 fun H3 D3 s3 e3 => CI.succ kE hD (by omega) h s3 e3
/-- whole numbers for the items of a list -/
theorem xi_list {xs : List V} {s : Nat} {wi : TI} {te : TE} {f : Nat → Int} (hn : xs.length < 10000) (hw : ∀ (H : Hp) (R : It → Hp → Prop), Same H0 H → (∀ (H2 : Hp) (a : Addr), Same H H2 → SqL K H2 a xs → R (Itl K a) H2) → wi σ H R)
    (he : ∀ i x, xs[i]? = some x → XN te ((σ.set s none).set s (some x)) H0 (f i)) : XF (tLc wi (gName s) tYes te [s]) σ H0 (E1 xs.length) := by
  intro H Q s0 q
  refine hw H _ s0 fun H2 a s2 ha D hD => ?_
  refine lc_list (K := K) (a := a) (xs := xs) (fun i H' => Same H2 H' ∧ i ≤ xs.length ∧ ∃ l : List Int, l.length = i ∧ H' D = some (LI l)) ⟨same_upd hD, Nat.zero_le _, [], rfl, upd_same⟩ (fun i H' _ h => h.1.seq ha) ?_ (fun H' ⟨h1, _, l, h2, h3⟩ => q H' D (s2.trans h1) ⟨none_of s2 hD, l, h2, h3⟩)
  rintro i x H' hx ⟨h1, _, l, h2, h3⟩
  refine ⟨set_none_set, ?_⟩
  dsimp only [tYes]
  rw [if_pos rfl]
  have hi := (List.getElem?_eq_some_iff.mp hx).1
  refine he i x hx H' _ ((s0.trans s2).trans h1) ⟨_, h3, line_ok7 (by rw [List.length_map]; omega), ext_same h1 hD, hi, l ++ [f i], by rw [List.length_append, h2]; rfl, ?_⟩
  rw [upd_same]
  show some (HO.lst _) = some (HO.lst _)
  rw [List.map_append]
  rfl
def rLsN (K : PySem.W.Frag) : List V → Hp → VK → Prop := fun xs H Q => ∃ p ys, xs = [.ref p] ∧ (SqL K H p ys ∨ SqT K H p ys) ∧ ∀ l, H l = none → Q (.ref l) (upd H l (.lst ys))
/-- list(xs) -/
theorem xf_copy {s : Nat} {q : Addr} {l : List Int} (hσ : σ[s]? = some (some (.ref q))) (hq : H0 q = some (LI l)) : XF (tCB (rLsN K) (tCons (tVar s) tNil)) σ H0 (ER l) := fun H Q s0 k => ⟨.ref q, hσ, q, l.map V.int, rfl, .inl (.inl (.inl (s0 _ _ hq))), fun D hD => k _ D (same_upd hD) ⟨hD, upd_same⟩⟩
theorem xf_weak {te : TE} {E E' : Hp → Hp → Addr → Prop} (h : XF te σ H0 E) (k : ∀ B H q, E B H q → E' B H q) : XF te σ H0 E' := fun H Q s0 q => h H Q s0 fun H' D s e => q H' D s (k _ _ _ e)
end
/-- three tables with rows of one length -/
def TM (n w : Nat) : Hp → Hp → Addr → Prop := EL 3 fun _ => EL n fun _ => E1 w
theorem kd_M (n w : Nat) : Kd (TM n w) := kd_L fun _ => kd_L fun _ => kd_1 w
def EX : Hp → Hp → Addr → Prop := fun B H p => B p = none ∧ ∃ qs : List Addr, qs.length ≤ 1000 ∧ H p = some (.lst (qs.map V.ref)) ∧ ∀ q ∈ qs, ∃ l : List Int, l.length ≤ 1000 ∧ H q = some (LI l)
/-- three tables of any sizes -/
def TW : Hp → Hp → Addr → Prop := fun B H D => B D = none ∧ ∃ p0 p1 p2 : Addr, H D = some (.lst [.ref p0, .ref p1, .ref p2]) ∧ EX B H p0 ∧ EX B H p1 ∧ EX B H p2
theorem three_of {ps : List Addr} (h : ps.length = 3) : ∃ p0 p1 p2, ps = [p0, p1, p2] := by
  match ps, h with
  | [p0, p1, p2], _ => exact ⟨p0, p1, p2, rfl⟩
theorem TM.weak {n w : Nat} {B H : Hp} {D : Addr} (hn : n ≤ 1000) (hw : w ≤ 1000) (h : TM n w B H D) : TW B H D := by
  obtain ⟨h0, ps, h1, h2, h3⟩ := h
  obtain ⟨p0, p1, p2, rfl⟩ := three_of h1
  have k : ∀ p, EL n (fun _ => E1 w) B H p → EX B H p := fun p ⟨a, qs, b, c, d⟩ => ⟨a, qs, by omega, c, fun q hq => by
    obtain ⟨i, hi⟩ := List.mem_iff_getElem?.mp hq
    obtain ⟨_, l, l1, l2⟩ := d i q hi
    exact ⟨l, by omega, l2⟩⟩
  exact ⟨h0, p0, p1, p2, h2, k _ (h3 0 _ rfl), k _ (h3 1 _ rfl), k _ (h3 2 _ rfl)⟩
theorem refs_ints {ps : List Addr} {l : List Int} (h : ps ≠ []) : HO.lst (ps.map V.ref) ≠ LI l := fun e => by
  cases ps with
  | nil => exact h rfl
  | cons p ps =>
    cases l with
    | nil => exact absurd (HO.lst.inj e) (fun z => nomatch z)
    | cons x l =>
      have := (List.cons.inj (HO.lst.inj e)).1
      cases this
theorem at_three {D : Addr} {H : Hp} {p0 p1 p2 : Addr} {i : Nat} (hi : i < 3) : ∃ p : Addr, atI [V.ref p0, V.ref p1, V.ref p2] (i : Int) = some (.ref p) ∧ ([p0, p1, p2] : List Addr)[i]? = some p := by
  have : i = 0 ∨ i = 1 ∨ i = 2 := by omega
  rcases this with e | e | e <;> subst e
  · exact ⟨p0, rfl, rfl⟩
  · exact ⟨p1, rfl, rfl⟩
  · exact ⟨p2, rfl, rfl⟩
section
variable {n w : Nat} {B H : Hp} {D : Addr}
theorem TM.table (h : TM n w B H D) {i : Nat} (hi : i < 3) : ∃ (xs : List V) (p : Addr), H D = some (.lst xs) ∧ xs.length = 3 ∧ atI xs (i : Int) = some (.ref p) ∧ EL n (fun _ => E1 w) B H p := by
  obtain ⟨h0, ps, h1, h2, h3⟩ := h
  have e : ps[i]? = some ps[i] := List.getElem?_eq_getElem (by omega)
  exact ⟨_, ps[i], h2, by rw [List.length_map]; exact h1, atI_nat (by rw [List.getElem?_map, e]; rfl), h3 i _ e⟩
theorem EL.row {p : Addr} (h : EL n (fun _ => E1 w) B H p) {j : Nat} (hj : j < n) : ∃ (xs : List V) (q : Addr) (l : List Int), H p = some (.lst xs) ∧ atI xs (j : Int) = some (.ref q) ∧ B q = none ∧ l.length = w ∧ H q = some (LI l) := by
  obtain ⟨h0, qs, h1, h2, h3⟩ := h
  have e : qs[j]? = some qs[j] := List.getElem?_eq_getElem (by omega)
  obtain ⟨b0, l, l1, l2⟩ := h3 j _ e
  exact ⟨_, qs[j], l, h2, atI_nat (by rw [List.getElem?_map, e]; rfl), b0, l1, l2⟩
theorem TM.upd_row (hw : 0 < n) (h : TM n w B H D) {q : Addr} {l l' : List Int} (hq : H q = some (LI l)) (hl : l'.length = w) : TM n w B (upd H q (LI l')) D := by
  obtain ⟨h0, ps, h1, h2, h3⟩ := h
  have ne : ∀ {ps : List Addr} {a : Addr}, ps ≠ [] → H a = some (.lst (ps.map V.ref)) → a ≠ q := fun hp ha z => by
    subst z
    rw [hq] at ha
    exact refs_ints hp (Option.some.inj ha).symm
  refine ⟨h0, ps, h1, ?_, fun i p hp => ?_⟩
  · rw [upd_ne (ne (fun z => by rw [z] at h1; cases h1) h2)]
    exact h2
  · obtain ⟨b0, qs, k1, k2, k3⟩ := h3 i p hp
    refine ⟨b0, qs, k1, ?_, fun j q' hq' => ?_⟩
    · rw [upd_ne (ne (fun z => by rw [z] at k1; subst k1; exact absurd hw (Nat.lt_irrefl _)) k2)]
      exact k2
    · obtain ⟨c0, l0, l1, l2⟩ := k3 j q' hq'
      by_cases e : q' = q
      · subst e
        exact ⟨c0, l', hl, upd_same⟩
      · exact ⟨c0, l0, l1, by rw [upd_ne e]; exact l2⟩
/-- a row gets another length -/
theorem TM.any_row (hn0 : 0 < n) (hn : n ≤ 1000) (hw : w ≤ 1000) (h : TM n w B H D) {q : Addr} {l l' : List Int} (hq : H q = some (LI l)) (hl : l'.length ≤ 1000) : TW B (upd H q (LI l')) D := by
  obtain ⟨h0, ps, h1, h2, h3⟩ := h
  have ne : ∀ {ps : List Addr} {a : Addr}, ps ≠ [] → H a = some (.lst (ps.map V.ref)) → a ≠ q := fun hp ha z => by
    subst z
    rw [hq] at ha
    exact refs_ints hp (Option.some.inj ha).symm
  obtain ⟨p0, p1, p2, rfl⟩ := three_of h1
  have k : ∀ (i : Nat) (p : Addr), ([p0, p1, p2] : List Addr)[i]? = some p → EX B (upd H q (LI l')) p := fun i p hp => by
    obtain ⟨b0, qs, k1, k2, k3⟩ := h3 i p hp
    refine ⟨b0, qs, by omega, ?_, fun q' hq' => ?_⟩
    · rw [upd_ne (ne (fun z => by rw [z] at k1; subst k1; exact absurd hn0 (Nat.lt_irrefl _)) k2)]
      exact k2
    · obtain ⟨j, hj⟩ := List.mem_iff_getElem?.mp hq'
      obtain ⟨c0, l0, l1, l2⟩ := k3 j q' hj
      by_cases e : q' = q
      · subst e
        exact ⟨l', hl, upd_same⟩
      · exact ⟨l0, by omega, by rw [upd_ne e]; exact l2⟩
  exact ⟨h0, p0, p1, p2, by rw [upd_ne (ne (ps := [p0, p1, p2]) (fun z => nomatch z) h2)]; exact h2, k 0 _ rfl, k 1 _ rfl, k 2 _ rfl⟩
/-- a table gets other rows -/
theorem TM.any_table (hn0 : 0 < n) (hn : n ≤ 1000) (hw : w ≤ 1000) (h : TM n w B H D) {p : Addr} (hp : EL n (fun _ => E1 w) B H p) {qs' : List Addr} (hl : qs'.length ≤ 1000) (hr : ∀ q ∈ qs', ∃ l : List Int, l.length ≤ 1000 ∧ H q = some (LI l)) : TW B (upd H p (.lst (qs'.map V.ref))) D := by
  obtain ⟨h0, ps, h1, h2, h3⟩ := h
  obtain ⟨b0, qs, k1, k2, k3⟩ := hp
  have nr : ∀ {q : Addr} {l : List Int}, H q = some (LI l) → q ≠ p := fun hq z => by
    subst z
    rw [hq] at k2
    exact refs_ints (fun z => by rw [z] at k1; subst k1; exact absurd hn0 (Nat.lt_irrefl _)) (Option.some.inj k2).symm
  obtain ⟨p0, p1, p2, rfl⟩ := three_of h1
  have nD : D ≠ p := fun z => by
    subst z
    rw [h2] at k2
    have e := HO.lst.inj (Option.some.inj k2)
    have e0 : qs[0]? = some p0 := by
      cases qs with
      | nil => cases e
      | cons a r => exact congrArg some (V.ref.inj (List.cons.inj e).1).symm
    obtain ⟨_, l, _, l2⟩ := k3 0 p0 e0
    obtain ⟨_, qs0, m1, m2, _⟩ := h3 0 p0 rfl
    rw [l2] at m2
    exact refs_ints (fun z => by rw [z] at m1; subst m1; exact absurd hn0 (Nat.lt_irrefl _)) (Option.some.inj m2).symm
  have k : ∀ (i : Nat) (a : Addr), ([p0, p1, p2] : List Addr)[i]? = some a → EX B (upd H p (.lst (qs'.map V.ref))) a := fun i a ha => by
    by_cases e : a = p
    · subst e
      exact ⟨b0, qs', hl, upd_same, fun q hq => by
        obtain ⟨l, l1, l2⟩ := hr q hq
        exact ⟨l, l1, by rw [upd_ne (nr l2)]; exact l2⟩⟩
    · obtain ⟨c0, qs, m1, m2, m3⟩ := h3 i a ha
      refine ⟨c0, qs, by omega, by rw [upd_ne e]; exact m2, fun q hq => ?_⟩
      obtain ⟨j, hj⟩ := List.mem_iff_getElem?.mp hq
      obtain ⟨_, l, l1, l2⟩ := m3 j q hj
      exact ⟨l, by omega, by rw [upd_ne (nr l2)]; exact l2⟩
  exact ⟨h0, p0, p1, p2, by rw [upd_ne nD]; exact h2, k 0 _ rfl, k 1 _ rfl, k 2 _ rfl⟩
/-- one table becomes an empty list -/
theorem TM.empty (hn0 : 0 < n) (hn : n ≤ 1000) (hw : w ≤ 1000) (h : TM n w B H D) {a : Addr} (ha : B a = none) (ea : H a = some (.lst [])) {i : Nat} (hi : i < 3) : ∃ xs, H D = some (.lst xs) ∧ xs.length = 3 ∧ TW B (upd H D (.lst (xs.set i (.ref a)))) D := by
  obtain ⟨h0, ps, h1, h2, h3⟩ := h
  refine ⟨_, h2, by rw [List.length_map]; exact h1, ?_⟩
  have old : ∀ p, EL n (fun _ => E1 w) B H p → ∃ qs : List Addr, qs.length = n ∧ H p = some (.lst (qs.map V.ref)) := fun p ⟨_, qs, a, b, _⟩ => ⟨qs, a, b⟩
  obtain ⟨p0, p1, p2, rfl⟩ := three_of h1
  have nD : ∀ (i : Nat) (p : Addr), ([p0, p1, p2] : List Addr)[i]? = some p → p ≠ D := fun i p hp z => by
    subst z
    obtain ⟨_, qs, m1, m2, m3⟩ := h3 i p hp
    rw [h2] at m2
    have e := HO.lst.inj (Option.some.inj m2)
    have e0 : qs[0]? = some p0 := by
      cases qs with
      | nil => cases e
      | cons a r => exact congrArg some (V.ref.inj (List.cons.inj e).1).symm
    obtain ⟨_, l, _, l2⟩ := m3 0 p0 e0
    obtain ⟨_, qs0, m1, m2, _⟩ := h3 0 p0 rfl
    rw [l2] at m2
    exact refs_ints (fun z => by rw [z] at m1; subst m1; exact absurd hn0 (Nat.lt_irrefl _)) (Option.some.inj m2).symm
  have k : ∀ (xs : List V) (i : Nat) (p : Addr), ([p0, p1, p2] : List Addr)[i]? = some p → EX B (upd H D (.lst xs)) p := fun xs i p hp => by
    have n1 := nD i p hp
    obtain ⟨c0, qs, m1, m2, m3⟩ := h3 i p hp
    refine ⟨c0, qs, by omega, by rw [upd_ne n1]; exact m2, fun q hq => ?_⟩
    obtain ⟨j, hj⟩ := List.mem_iff_getElem?.mp hq
    obtain ⟨_, l, l1, l2⟩ := m3 j q hj
    refine ⟨l, by omega, ?_⟩
    rw [upd_ne fun z => by
      subst z
      rw [h2] at l2
      exact refs_ints (ps := [p0, p1, p2]) (fun z => nomatch z) (Option.some.inj l2)]
    exact l2
  have na : a ≠ D := fun z => by
    subst z
    rw [h2] at ea
    cases ea
  have ke : ∀ xs : List V, EX B (upd H D (.lst xs)) a := fun xs => ⟨ha, [], Nat.zero_le _, by rw [upd_ne na]; exact ea, fun q hq => nomatch hq⟩
  have : i = 0 ∨ i = 1 ∨ i = 2 := by omega
  rcases this with e | e | e <;> subst e
  · exact ⟨h0, a, p1, p2, upd_same, ke _, k _ 1 _ rfl, k _ 2 _ rfl⟩
  · exact ⟨h0, p0, a, p2, upd_same, k _ 0 _ rfl, ke _, k _ 2 _ rfl⟩
  · exact ⟨h0, p0, p1, a, upd_same, k _ 0 _ rfl, k _ 1 _ rfl, ke _⟩
end
theorem EX.tab {B H : Hp} {p : Addr} (h : EX B H p) : ∃ X : List (List Int), TabL H p X ∧ X.length ≤ 1000 ∧ ∀ row ∈ X, row.length ≤ 1000 := by
  obtain ⟨_, qs, h1, h2, h3⟩ := h
  have k : ∀ qs : List Addr, (∀ q ∈ qs, ∃ l : List Int, l.length ≤ 1000 ∧ H q = some (LI l)) → ∃ X : List (List Int), X.length = qs.length ∧ (∀ (i : Nat) (row : List Int), X[i]? = some row → ∃ q : Addr, qs[i]? = some q ∧ H q = some (LI row)) ∧ ∀ row ∈ X, row.length ≤ 1000 := by
    intro qs
    induction qs with
    | nil => exact fun _ => ⟨[], rfl, fun i row h => (nomatch h), fun row h => (nomatch h)⟩
    | cons q qs ih =>
      intro h
      obtain ⟨X, x1, x2, x3⟩ := ih fun q' hq => h q' (List.mem_cons_of_mem _ hq)
      obtain ⟨l, l1, l2⟩ := h q List.mem_cons_self
      refine ⟨l :: X, by rw [List.length_cons, List.length_cons, x1], fun i row hi => ?_, fun row hr => ?_⟩
      · cases i with
        | zero =>
          obtain rfl : l = row := Option.some.inj hi
          exact ⟨q, rfl, l2⟩
        | succ i => exact x2 i row hi
      · rcases List.mem_cons.mp hr with rfl | hr
        · exact l1
        · exact x3 row hr
  obtain ⟨X, x1, x2, x3⟩ := k qs h3
  refine ⟨X, ⟨_, h2, by rw [List.length_map, x1], fun i row hi => ?_⟩, by omega, x3⟩
  obtain ⟨q, q1, q2⟩ := x2 i row hi
  exact ⟨q, by rw [List.getElem?_map, q1]; rfl, q2⟩
/-! ### tables of all kinds -/
def NLp : List Str := ["read", "text", "end", "costs", "cell", "x", "great", "row", "tables", "drawn", "t", "base", "k", "y", "table", "v", "i"]
theorem scLPaper : FnScope NLp ["read", "text", "end", "costs", "cell"] (defScope sLPaper) := ⟨rfl, rfl, rfl, by decide +kernel, rfl, by decide +kernel, by decide +kernel⟩
theorem xf_rep {σ : L2.St} {H0 : Hp} {tv tk : TE} {v : Int} {k : Nat} (hv : XN tv σ H0 v) (hk : XN tk σ H0 (k : Int)) (h : k ≤ 1000) : XF (tOp rRep (tLst (tCons tv tNil)) tk) σ H0 (E1 k) := fun H Q s q => hv H _ s ⟨by show 1 ≤ sizeLine; decide, fun d hd => hk _ _ (s.trans (same_upd hd)) ⟨d, _, _, rfl, rfl, upd_same, by omega, by omega, by show 1 * _ ≤ sizeLine; exact line_ok6 (by omega), fun p hp => by
  rw [Int.toNat_natCast, fl_const]
  exact q _ p ((same_upd hd).trans (same_upd hp)) ⟨none_of (same_upd hd) hp, _, fl_len _ _, upd_same⟩⟩⟩
section
variable {P : Program} {w : World} {K : PySem.W.Frag} {mg : Str → Option Value} {base : Heap}
def spLPaper (K : PySem.W.Frag) : Sp := fun vs H Q _ => ∃ (z : Addr) (a b c : Nat) (r t : List Nat) (e : Nat) (x : Int), vs = [.str (T r), .str (T t), .int (e : Int), .ref z, .int x] ∧ SqT K H z [.int a, .int b, .int c] ∧ e ≤ t.length ∧ t.length ≤ 24 ∧ r.length ≤ 400 ∧ 1 ≤ r.length ∧ c ≤ 10000 ∧
  ∀ (H' : Hp) (tp p0 p1 p2 : Addr) (X0 X1 X2 : List (List Int)), Same H H' → H' tp = some (.tup [.ref p0, .ref p1, .ref p2]) → TabL H' p0 X0 → TabL H' p1 X1 → TabL H' p2 X2 → (∀ X ∈ [X0, X1, X2], X.length ≤ 1000 ∧ ∀ row ∈ X, row.length ≤ 1000) → Q (.ref tp) H'
theorem ok_lpaper {f : Addr} {fd : FuncData} (F : Fun K "_law_paper" "_law_paper" sLPaper f fd) (B : Bl mg) (mlist : mg "list" = none) (hPa : Has P w K mg base 6 "paper" ["read", "text", "end", "costs"] (spPaper K)) (hRo : Has P w K mg base 2 "_law_row" ["cell", "count", "bound"] (spRow K)) : FnOk P w K mg base CX0 7 f fd ["read", "text", "end", "costs", "cell"] (spLPaper K) := by
  obtain ⟨fP, dP, GP, gP, kP, bP'⟩ := hPa
  obtain ⟨fR, dR', GR, gR, kR, bR'⟩ := hRo
  have bP := bP'
  have bR := bR'
  refine F.ok scLPaper (fun vs H Q E h => ?_) (fun cdv A outer s H vs Q E hr h => ?_)
  · obtain ⟨z, a, b, c, r, t, e, x, rfl, _⟩ := h
    rfl
  · obtain ⟨z, a, b, c, r, t, e, cc, rfl, hz, het, htl, hrl, hr1, hc, q⟩ := h
    have hr2 : Room 2 _ := hr.mono (by omega)
    refine ⟨_, (C8.pss_cut (ps_set (i := 5) scLPaper.nd rfl (.inr rfl) (pe_callB call_abs (by rfl) B.abs (by decide +kernel) (pa_cons (pe_callTy call_int1 (by rfl) B.int (by decide +kernel) (pa_cons (pv 4) pa_nil)) pa_nil)))
      (C8.pss_cut (ps_set (i := 6) scLPaper.nd rfl (.inr rfl) (pe_op op_add pe_int (pe_op op_mul (pe_op op_mod (pe_op op_fdiv (pv 5) pe_int) pe_int) pe_int)))
      (C8.pss_cut (ps_setLc (i := 8) (own := [("table", 14)]) (g := gName 14) (tt := tYes) (te := tLc (iList K (tVar 14)) (gName 7) tYes (tCB (rLsN K) (tCons (tVar 7) tNil)) [7]) (by rfl) scLPaper.nd rfl rfl (sw_true rfl rfl rfl (by decide +kernel)) (pi_tup (pe_call GP hr (by rfl) gP kP bP .nil pass0 (pa_cons (pv 0) (pa_cons (pv 1) (pa_cons (pv 2) (pa_cons (pv 3) pa_nil)))))) (blkOk_by (own := [("table", 14)]) (N := NLp) (sc := defScope sLPaper) (by decide +kernel)) (fun _ _ _ _ _ => pg_name (i := 14) scLPaper.nd rfl (Or.inl rfl)) (fun _ _ _ _ _ => pts_nil) (fun _ _ _ _ _ => (pe_lc (own := [("row", 7)]) (g := gName 7) (tt := tYes) (te := tCB (rLsN K) (tCons (tVar 7) tNil)) (by rfl) scLPaper.nd (pi_list (pv 14)) (blkOk_in (N := NLp) (sc := defScope sLPaper) rfl (by decide +kernel)) (fun _ _ _ _ _ => pg_name (i := 7) scLPaper.nd rfl (Or.inl rfl)) (fun _ _ _ _ _ => pts_nil) (fun _ _ _ _ _ => (pe_callTy (r := rLsN K) call_list_of (by rfl) mlist (by decide +kernel) (pa_cons (pv 7) pa_nil))))))
      (C8.pss_cut (ps_if (pt_cmpR op_eq (pe_op op_mod (pv 5) pe_int) pe_int (nomark _)) (pss_cons (ps_set (i := 9) scLPaper.nd rfl (.inr rfl) (pe_call GR hr2 (by rfl) gR kR bR .nil pass0 (pa_cons (pe_op op_fdiv (pv 5) pe_int) (pa_cons (pe_op op_mul (pe_op op_mul pe_int (pe_op op_add (pe_callB call_len_str (by rfl) B.len PySem.boot_len (pa_cons (pv 0) pa_nil)) pe_int)) (pe_op op_add (pv 2) pe_int)) (pa_cons pe_int pa_nil)))))
      (pss_cons (ps_set (i := 8) scLPaper.nd rfl (.inl rfl) (pe_lst pa_nil))
      (pss_one (ps_for PassesOwn.never rfl (pi_range1 rfl B.range (pa_cons pe_int pa_nil)) (pg_name (i := 10) scLPaper.nd rfl (.inl rfl))
        (pss_cons (ps_set (i := 11) scLPaper.nd rfl (.inr rfl) (pe_op op_mul (pe_op op_mul (pv 10) (pe_op op_add (pe_callB call_len_str (by rfl) B.len PySem.boot_len (pa_cons (pv 0) pa_nil)) pe_int)) (pe_op op_add (pv 2) pe_int)))
      (pss_one (ps_expr (pe_bm PySem.F.plainAttrs_list PySem.F.slot_list_append PySem.F.type_list_append mt_append (pv 8) (pa_cons (pe_lc (own := [("i", 16)]) (g := gName 16) (tt := tYes) (te := tLc (iList K (tSl (rSlL K) (tVar 9) (tPart (tOp (rI0 fun i j => .int (i + j)) (tVar 11) (tOp (rI CMul fun i j => .int (i * j)) (tVar 16) (tOp (rI0 fun i j => .int (i + j)) (tVar 2) (tC (.int 1)))))) (tPart (tOp (rI0 fun i j => .int (i + j)) (tVar 11) (tOp (rI CMul fun i j => .int (i * j)) (tOp (rI0 fun i j => .int (i + j)) (tVar 16) (tC (.int 1))) (tOp (rI0 fun i j => .int (i + j)) (tVar 2) (tC (.int 1)))))))) (gName 15) tYes (tOp (rI CMul fun i j => .int (i * j)) (tOp (rI0 fun i j => .int (i - j)) (tVar 15) (tC (.int 5))) (tVar 6)) [15]) (by rfl) scLPaper.nd (pi_range1 rfl B.range (pa_cons (pe_op op_add (pe_callB call_len_str (by rfl) B.len PySem.boot_len (pa_cons (pv 0) pa_nil)) pe_int) pa_nil)) (blkOk_by (own := [("i", 16)]) (N := NLp) (sc := defScope sLPaper) (by decide +kernel)) (fun _ _ _ _ _ => pg_name (i := 16) scLPaper.nd rfl (Or.inl rfl)) (fun _ _ _ _ _ => pts_nil) (fun _ _ _ _ _ => (pe_lc (own := [("v", 15)]) (g := gName 15) (tt := tYes) (te := (tOp (rI CMul fun i j => .int (i * j)) (tOp (rI0 fun i j => .int (i - j)) (tVar 15) (tC (.int 5))) (tVar 6))) (by rfl) scLPaper.nd (pi_list (pe_slice sl_list (pv 9) (po_some (pe_op op_add (pv 11) (pe_op op_mul (pv 16) (pe_op op_add (pv 2) pe_int)))) (po_some (pe_op op_add (pv 11) (pe_op op_mul (pe_op op_add (pv 16) pe_int) (pe_op op_add (pv 2) pe_int)))))) (blkOk_in (N := NLp) (sc := defScope sLPaper) rfl (by decide +kernel)) (fun _ _ _ _ _ => pg_name (i := 15) scLPaper.nd rfl (Or.inl rfl)) (fun _ _ _ _ _ => pts_nil) (fun _ _ _ _ _ => (pe_op op_mul (pe_op op_sub (pv 15) pe_int) (pv 6)))))) pa_nil))))))))) pss_nil)
      (C8.pss_cut (ps_if (pt_cmpR op_eq (pe_op op_mod (pv 5) pe_int) pe_int (nomark _)) (pss_one (ps_setLc (i := 8) (own := [("t", 10)]) (g := gName 10) (tt := tYes) (te := tLc (iRng1 (tCons (tOp (rI0 fun i j => .int (i + j)) (tCB (fun xs H Q => ∃ z, xs = [V.str z] ∧ z.length ≤ sizeLine ∧ Q (V.int ((z.length : Nat) : Int)) H) (tCons (tVar 0) tNil)) (tC (.int 1))) tNil)) (gName 16) tYes (tOp rRep (tLst (tCons (tOp (rI0 fun i j => .int (i - j)) (tOp (rI (fun _ j => 0 < j) fun i j => .int (i % j)) (tOp (rI CDiv fun i j => .int (i / j)) (tVar 5) (tC (.int 4))) (tC (.int 3))) (tC (.int 1))) tNil)) (tOp (rI0 fun i j => .int (i + j)) (tVar 2) (tC (.int 1)))) [16]) (by rfl) scLPaper.nd rfl rfl (sw_true rfl rfl rfl (by decide +kernel)) (pi_range1 rfl B.range (pa_cons pe_int pa_nil)) (blkOk_by (own := [("t", 10)]) (N := NLp) (sc := defScope sLPaper) (by decide +kernel)) (fun _ _ _ _ _ => pg_name (i := 10) scLPaper.nd rfl (Or.inl rfl)) (fun _ _ _ _ _ => pts_nil) (fun _ _ _ _ _ => (pe_lc (own := [("i", 16)]) (g := gName 16) (tt := tYes) (te := tOp rRep (tLst (tCons (tOp (rI0 fun i j => .int (i - j)) (tOp (rI (fun _ j => 0 < j) fun i j => .int (i % j)) (tOp (rI CDiv fun i j => .int (i / j)) (tVar 5) (tC (.int 4))) (tC (.int 3))) (tC (.int 1))) tNil)) (tOp (rI0 fun i j => .int (i + j)) (tVar 2) (tC (.int 1)))) (by rfl) scLPaper.nd (pi_range1 rfl B.range (pa_cons (pe_op op_add (pe_callB call_len_str (by rfl) B.len PySem.boot_len (pa_cons (pv 0) pa_nil)) pe_int) pa_nil)) (blkOk_in (N := NLp) (sc := defScope sLPaper) rfl (by decide +kernel)) (fun _ _ _ _ _ => pg_name (i := 16) scLPaper.nd rfl (Or.inl rfl)) (fun _ _ _ _ _ => pts_nil) (fun _ _ _ _ _ => (pe_op op_rep (pe_lst (pa_cons (pe_op op_sub (pe_op op_mod (pe_op op_fdiv (pv 5) pe_int) pe_int) pe_int) pa_nil)) (pe_op op_add (pv 2) pe_int))))))) pss_nil)
      (C8.pss_cut (ps_for PassesOwn.never rfl (pi_range1 rfl B.range (pa_cons (pe_op op_mod (pe_op op_fdiv (pv 5) pe_int) pe_int) pa_nil)) (pg_name (i := 12) scLPaper.nd rfl (.inl rfl))
        (pss_cons (ps_set (i := 13) scLPaper.nd rfl (.inl rfl) (pe_op op_fdiv (pv 5) (pe_op op_add pe_int (pe_op op_mul pe_int (pv 12)))))
      (pss_cons (ps_set (i := 7) scLPaper.nd rfl (.inl rfl) (pe_ix ix_list (pe_ix ix_list (pv 8) (pe_op op_mod (pv 13) pe_int) (fun _ _ => rfl)) (pe_op op_mod (pe_op op_fdiv (pv 13) pe_int) (pe_op op_add (pe_callB call_len_str (by rfl) B.len PySem.boot_len (pa_cons (pv 0) pa_nil)) pe_int)) (fun _ _ => rfl)))
      (pss_one (ps_asg (pe_op op_sub (pe_op op_add (pe_ix ix_list (pv 7) (pe_op op_mod (pe_op op_fdiv (pv 13) pe_int) (pe_op op_add (pv 2) pe_int)) (fun _ _ => rfl)) (pe_op op_mod (pe_op op_fdiv (pv 13) pe_int) pe_int)) pe_int) (pg_sub (pv 7) (pe_op op_mod (pe_op op_fdiv (pv 13) pe_int) (pe_op op_add (pv 2) pe_int)) set_list))))))
      (C8.pss_cut (ps_if (pt_cmpR op_eq (pe_op op_mod (pe_op op_fdiv (pv 5) pe_int) pe_int) pe_int (nomark _)) (pss_one (ps_expr (pe_bm0 PySem.F.plainAttrs_list PySem.F.slot_list_pop PySem.F.type_list_pop mt_pop (pe_ix ix_list (pv 8) (pe_op op_mod (pe_op op_fdiv (pv 5) pe_int) pe_int) (fun _ _ => rfl))))) pss_nil)
      (C8.pss_cut (ps_if (pt_cmpR op_eq (pe_op op_mod (pe_op op_fdiv (pv 5) pe_int) pe_int) pe_int (nomark _)) (pss_one (ps_expr (pe_bm PySem.F.plainAttrs_list PySem.F.slot_list_append PySem.F.type_list_append mt_append (pe_ix ix_list (pe_ix ix_list (pv 8) (pe_op op_mod (pe_op op_fdiv (pv 5) pe_int) pe_int) (fun _ _ => rfl)) (pe_op op_mod (pe_op op_fdiv (pv 5) pe_int) (pe_op op_add (pe_callB call_len_str (by rfl) B.len PySem.boot_len (pa_cons (pv 0) pa_nil)) pe_int)) (fun _ _ => rfl)) (pa_cons pe_int pa_nil)))) pss_nil)
      (C8.pss_cut (ps_if (pt_cmpR op_eq (pe_op op_mod (pe_op op_fdiv (pv 5) pe_int) pe_int) pe_int (nomark _)) (pss_one (ps_expr (pe_bm0 PySem.F.plainAttrs_list PySem.F.slot_list_pop PySem.F.type_list_pop mt_pop (pe_ix ix_list (pe_ix ix_list (pv 8) (pe_op op_mod (pe_op op_fdiv (pv 5) pe_int) pe_int) (fun _ _ => rfl)) (pe_op op_mod (pe_op op_fdiv (pv 5) pe_int) (pe_op op_add (pe_callB call_len_str (by rfl) B.len PySem.boot_len (pa_cons (pv 0) pa_nil)) pe_int)) (fun _ _ => rfl))))) pss_nil)
      (C8.pss_cut (ps_if (pt_cmpR op_eq (pe_op op_mod (pe_op op_fdiv (pv 5) pe_int) pe_int) pe_int (nomark _)) (pss_one (ps_expr (pe_bm PySem.F.plainAttrs_list PySem.F.slot_list_append PySem.F.type_list_append mt_append (pe_ix ix_list (pv 8) (pe_op op_mod (pe_op op_fdiv (pv 5) pe_int) pe_int) (fun _ _ => rfl)) (pa_cons (pe_op op_rep (pe_lst (pa_cons pe_int pa_nil)) (pe_op op_add (pv 2) pe_int)) pa_nil)))) pss_nil)
      (C8.pss_cut (ps_if (pt_cmpR op_eq (pe_op op_mod (pe_op op_fdiv (pv 5) pe_int) pe_int) pe_int (nomark _)) (pss_one (ps_asg (pe_lst pa_nil) (pg_sub (pv 8) (pe_op op_mod (pe_op op_fdiv (pv 5) pe_int) pe_int) set_list))) pss_nil)
      (pss_one (ps_ret (pe_tup (pa_cons (pe_ix ix_list (pv 8) pe_int (fun _ _ => rfl)) (pa_cons (pe_ix ix_list (pv 8) pe_int (fun _ _ => rfl)) (pa_cons (pe_ix ix_list (pv 8) pe_int (fun _ _ => rfl)) pa_nil))))))))))))))))), ?_⟩
    refine ⟨fun σ H' => H' = H ∧ ∃ x : Int, 0 ≤ x ∧ σ = [some (.str (T r)), some (.str (T t)), some (.int (e : Int)), some (.ref z), some (.int cc), some (.int x), none, none, none, none, none, none, none, none, none, none, none], ⟨.int cc, rfl, .inl ⟨cc, rfl, cc, rfl, rfl, if cc < 0 then -cc else cc, by split <;> omega, rfl⟩⟩, ?_⟩
    rintro σ H' ⟨hh, x, x0, rfl⟩
    have hh := hh.symm
    subst hh
    refine ⟨fun σ H' => H' = H ∧ ∃ gg : Int, σ = [some (.str (T r)), some (.str (T t)), some (.int (e : Int)), some (.ref z), some (.int cc), some (.int x), some (.int gg), none, none, none, none, none, none, none, none, none, none], ⟨.int x, rfl, x, 36, rfl, rfl, ⟨by decide, by decide⟩, _, 2, rfl, rfl, (show (0 : Int) < 2 by decide), _, 1000000000000000000, rfl, rfl, .inr ⟨by decide, by decide⟩, 1, _, rfl, rfl, rfl, _, rfl⟩, ?_⟩
    rintro σ H' ⟨hh, gg, rfl⟩
    have hh := hh.symm
    subst hh
    have ler : (T r).length ≤ sizeLine := line_ok6 (by rw [T_len]; omega)
    obtain ⟨n, en⟩ : ∃ n, n = r.length + 1 := ⟨_, rfl⟩
    obtain ⟨wd, ew⟩ : ∃ wd, wd = e + 1 := ⟨_, rfl⟩
    have eT : (((T r).length : Nat) : Int) + 1 = (n : Int) := by
      rw [T_len, en]
      omega
    have eW : (e : Int) + 1 = (wd : Int) := by omega
    -- the tables of the program, copied
    refine ⟨fun σ H' => Same H H' ∧ ∃ D : Addr, TM n wd H H' D ∧ σ = [some (.str (T r)), some (.str (T t)), some (.int (e : Int)), some (.ref z), some (.int cc), some (.int x), some (.int gg), none, some (.ref D), none, none, none, none, none, none, none, none], ?_, ?_⟩
    · have X := xf_tupE (K := K) (σ := [some (.str (T r)), some (.str (T t)), some (.int (e : Int)), some (.ref z), some (.int cc), some (.int x), some (.int gg), none, none, none, none, none, none, none, none, none, none]) (H0 := H) (E := fun _ => EL n fun _ => E1 wd) (n := 3) (s := 14) (wi := iTup K (tCall (spPaper K) [] E0 (tCons (tVar 0) (tCons (tVar 1) (tCons (tVar 2) (tCons (tVar 3) tNil)))))) (te := tLc (iList K (tVar 14)) (gName 7) tYes (tCB (rLsN K) (tCons (tVar 7) tNil)) [7]) (Pq := fun H2 xs => ∀ (i : Nat) (y : V), xs[i]? = some y → ∃ (pt : Addr) (g : Nat → Nat → Int), y = .ref pt ∧ TabAt H2 pt r.length e g) (fun _ => kd_L fun _ => kd_1 _) (by omega) (fun H1 R s k => ⟨.str (T r), rfl, .str (T t), rfl, .int e, rfl, .ref z, rfl, z, a, b, c, r, t, e, rfl, keepT s hz, het, by omega, by omega, by omega, fun H2 pp p1 p2 p3 W s2 hpp ht _ => ⟨pp, rfl, ⟨_, .inl (.inl hpp)⟩, k H2 pp _ s2 (.inl (.inl hpp)) rfl fun i y hy => ?_⟩⟩) ?_
      · exact X H _ (Same.refl _) fun H3 D s3 hD => ⟨s3, D, hD, rfl⟩
      · have e0 : (([p1, p2, p3] : List Addr).map V.ref)[i]? = some y := hy
        rw [List.getElem?_map] at e0
        obtain ⟨pt, h1, h2⟩ := Option.map_eq_some_iff.mp e0
        exact ⟨pt, _, h2.symm, ht i pt h1⟩
      intro H3 xs i y s3 hP hy
      obtain ⟨pt, g, rfl, ht⟩ := hP i y hy
      obtain ⟨vs, hv, hvl, hrow⟩ := ht
      have Y := xf_list (K := K) (σ := (([some (.str (T r)), some (.str (T t)), some (.int (e : Int)), some (.ref z), some (.int cc), some (.int x), some (.int gg), none, none, none, none, none, none, none, none, none, none]).set 14 none).set 14 (some (.ref pt))) (H0 := H3) (E := fun _ => E1 wd) (xs := vs) (s := 7) (wi := iList K (tVar 14)) (te := tCB (rLsN K) (tCons (tVar 7) tNil)) (fun _ => kd_1 _) (by omega) (fun H R s k => ⟨.ref pt, rfl, pt, rfl, ⟨_, .inl (.inl (s _ _ hv))⟩, k H pt (Same.refl _) (.inl (.inl (s _ _ hv)))⟩) ?_
      · rw [show n = vs.length by omega]
        exact Y
      intro j y hy
      have hj := (List.getElem?_eq_some_iff.mp hy).1
      obtain ⟨q0, e1, e2⟩ := hrow j (by omega)
      rw [e1] at hy
      obtain rfl : V.ref q0 = y := Option.some.inj hy
      exact xf_weak (xf_copy (by rfl) e2) fun B H q h => ⟨h.1, _, by rw [fl_len, ew], h.2⟩
    rintro σ H1 ⟨s1, D, hD, rfl⟩
    -- small drawn numbers
    have e4 : ∀ (k : Int) (A : Prop), (x % 4 = k → A) → (¬ x % 4 = k → A) → A := fun k A h1 h2 => (Decidable.em (x % 4 = k)).elim h1 h2
    refine ⟨fun σ H' => Same H H' ∧ ∃ D : Addr, TM n wd H H' D ∧ ∃ v9 v10 v11 : Option V, σ = [some (.str (T r)), some (.str (T t)), some (.int (e : Int)), some (.ref z), some (.int cc), some (.int x), some (.int gg), none, some (.ref D), v9, v10, v11, none, none, none, none, none], ?_, ?_⟩
    · refine ⟨.int x, rfl, x, 4, rfl, rfl, (show (0 : Int) < 4 by decide), rfl, _, rfl, ite2 (fun _ => ?_) (fun _ => ⟨s1, D, hD, none, none, none, rfl⟩)⟩
      refine ⟨.int x, rfl, x, 4, rfl, rfl, ⟨by decide, by decide⟩, .str (T r), rfl, T r, rfl, ler, _, 1, rfl, rfl, 3, _, rfl, rfl, .inl ⟨by decide, by decide⟩, .int e, rfl, e, 1, rfl, rfl, _, _, rfl, rfl, .inr ⟨by omega, by omega⟩, ?_⟩
      rw [eT, eW]
      have ez : (3 : Int) * (n : Int) * (wd : Int) = ((3 * n * wd : Nat) : Int) := by rw [Int.natCast_mul, Int.natCast_mul]; rfl
      have hnw : n * wd ≤ 401 * 25 := Nat.mul_le_mul (by omega) (by omega)
      have hnw3 : 3 * n * wd ≤ 100000 := by
        rw [Nat.mul_assoc]
        omega
      refine ⟨_, _, 7, rfl, by rw [ez]; omega, by rw [ez]; omega, by decide, by decide, fun H2 da xs s2 _ hda hxl hxr => ?_⟩
      rw [ez, Int.toNat_natCast] at hxl
      refine ⟨by show 0 ≤ sizeLine; exact Nat.zero_le _, fun D1 hD1 => ?_⟩
      have s12 := s1.trans s2
      refine ⟨_, rfl, by decide, by decide, ?_⟩
      refine for_range (lo := 0) (n := 3) (fun m σ H' => CI H2 D1 (fun _ => EL n fun _ => E1 wd) m H' ∧ ∃ v10 v11 : Option V, σ = [some (.str (T r)), some (.str (T t)), some (.int (e : Int)), some (.ref z), some (.int cc), some (.int x), some (.int gg), none, some (.ref D1), some (.ref da), v10, v11, none, none, none, none, none]) ⟨CI.zero hD1, none, none, rfl⟩ ?_ (fun σ H' ⟨h, v10, v11, hσ⟩ => ⟨s12.trans h.1, D1, CI.done (fun _ => kd_L fun _ => kd_1 _) s12 hD1 h, _, v10, v11, hσ⟩)
      rintro m σ H3 hm ⟨hC, v10, v11, rfl⟩
      refine ⟨.int (0 + (m : Nat)), rfl, .str (T r), rfl, T r, rfl, ler, _, 1, rfl, rfl, _, _, rfl, rfl, .inl ⟨by omega, by omega⟩, .int e, rfl, e, 1, rfl, rfl, _, _, rfl, rfl, .inr ⟨by omega, by omega⟩, ?_⟩
      dsimp only
      rw [eT, eW, show ((0 : Int) + (m : Nat)) * (n : Int) * (wd : Int) = ((m * n * wd : Nat) : Int) by rw [Int.natCast_mul, Int.natCast_mul, Int.zero_add]]
      obtain ⟨acc, hacc⟩ : ∃ acc, H3 D1 = some (.lst acc) := by
        obtain ⟨_, qs, _, h2, _⟩ := hC
        exact ⟨_, h2⟩
      refine ⟨.ref D1, rfl, .inl ⟨rfl, _, .inl (.inl hacc)⟩, ?_⟩
      have X := xf_rng (σ := [some (.str (T r)), some (.str (T t)), some (.int (e : Int)), some (.ref z), some (.int cc), some (.int x), some (.int gg), none, some (.ref D1), some (.ref da), some (.int (0 + (m : Nat))), some (.int ((m * n * wd : Nat) : Int)), none, none, none, none, none]) (H0 := H3) (E := fun _ => E1 wd) (n := n) (s := 16) (ta := tCons (tOp (rI0 fun i j => .int (i + j)) (tCB (fun xs H Q => ∃ z, xs = [V.str z] ∧ z.length ≤ sizeLine ∧ Q (V.int ((z.length : Nat) : Int)) H) (tCons (tVar 0) tNil)) (tC (.int 1))) tNil) (te := tLc (iList K (tSl (rSlL K) (tVar 9) (tPart (tOp (rI0 fun i j => .int (i + j)) (tVar 11) (tOp (rI CMul fun i j => .int (i * j)) (tVar 16) (tOp (rI0 fun i j => .int (i + j)) (tVar 2) (tC (.int 1)))))) (tPart (tOp (rI0 fun i j => .int (i + j)) (tVar 11) (tOp (rI CMul fun i j => .int (i * j)) (tOp (rI0 fun i j => .int (i + j)) (tVar 16) (tC (.int 1))) (tOp (rI0 fun i j => .int (i + j)) (tVar 2) (tC (.int 1)))))))) (gName 15) tYes (tOp (rI CMul fun i j => .int (i * j)) (tOp (rI0 fun i j => .int (i - j)) (tVar 15) (tC (.int 5))) (tVar 6)) [15]) (fun _ => kd_1 _) (by omega) (fun H R s k => ⟨.str (T r), rfl, T r, rfl, ler, _, 1, rfl, rfl, by rw [← eT] at k; exact k⟩) ?_
      · exact X H3 _ (Same.refl _) fun H4 pt s4 hpt => by
          obtain ⟨acc, h1, h2, h3⟩ := CI.succ (fun _ => kd_L fun _ => kd_1 _) hD1 (by omega) hC s4 hpt
          exact ⟨D1, _, _, rfl, rfl, h1, h2, h3, _, _, rfl⟩
      intro i hi
      have hyl : ((xs.drop (m * n * wd + i * wd)).take wd).length = wd := by
        have h1 : m * n ≤ 2 * n := Nat.mul_le_mul_right n (by omega)
        have h2 : (m * n + i + 1) * wd ≤ (3 * n) * wd := Nat.mul_le_mul_right wd (by omega)
        rw [Nat.add_mul, Nat.add_mul, Nat.one_mul] at h2
        rw [List.length_take, List.length_drop, hxl]
        omega
      obtain ⟨ys, eys⟩ : ∃ ys, ys = (xs.drop (m * n * wd + i * wd)).take wd := ⟨_, rfl⟩
      rw [← eys] at hyl
      have Y := xi_list (K := K) (σ := (([some (.str (T r)), some (.str (T t)), some (.int (e : Int)), some (.ref z), some (.int cc), some (.int x), some (.int gg), none, some (.ref D1), some (.ref da), some (.int (0 + (m : Nat))), some (.int ((m * n * wd : Nat) : Int)), none, none, none, none, none]).set 16 none).set 16 (some (.int ((0 : Int) + (i : Nat))))) (H0 := H3) (xs := ys.map V.int) (s := 15) (wi := iList K (tSl (rSlL K) (tVar 9) (tPart (tOp (rI0 fun i j => .int (i + j)) (tVar 11) (tOp (rI CMul fun i j => .int (i * j)) (tVar 16) (tOp (rI0 fun i j => .int (i + j)) (tVar 2) (tC (.int 1)))))) (tPart (tOp (rI0 fun i j => .int (i + j)) (tVar 11) (tOp (rI CMul fun i j => .int (i * j)) (tOp (rI0 fun i j => .int (i + j)) (tVar 16) (tC (.int 1))) (tOp (rI0 fun i j => .int (i + j)) (tVar 2) (tC (.int 1)))))))) (te := (tOp (rI CMul fun i j => .int (i * j)) (tOp (rI0 fun i j => .int (i - j)) (tVar 15) (tC (.int 5))) (tVar 6))) (f := fun i => (ys.getD i 0 - 5) * gg) (by rw [List.length_map]; omega) ?_ ?_
      · rw [List.length_map, hyl] at Y
        exact Y
      · intro H4 R s4 k
        refine ⟨.ref da, rfl, .int ((m * n * wd : Nat) : Int), rfl, .int ((0 : Int) + (i : Nat)), rfl, .int e, rfl, e, 1, rfl, rfl, _, _, rfl, rfl, .inl ⟨by omega, by omega⟩, _, _, rfl, rfl, _, rfl, .int ((m * n * wd : Nat) : Int), rfl, .int ((0 : Int) + (i : Nat)), rfl, _, 1, rfl, rfl, .int e, rfl, e, 1, rfl, rfl, _, _, rfl, rfl, .inl ⟨by omega, by omega⟩, _, _, rfl, rfl, _, rfl, da, xs.map V.int, rfl, .inl (.inl (s4 _ _ (hC.1 _ _ hda))), fun p hp => ?_⟩
        rw [eW]
        have e1 : ((m * n * wd : Nat) : Int) + ((0 : Int) + (i : Nat)) * (wd : Int) = ((m * n * wd + i * wd : Nat) : Int) := by rw [Int.zero_add, Int.natCast_add, Int.natCast_mul i wd]
        have e2 : ((m * n * wd : Nat) : Int) + ((0 : Int) + (i : Nat) + 1) * (wd : Int) = ((m * n * wd + i * wd : Nat) : Int) + (wd : Int) := by rw [← e1, Int.add_mul, Int.one_mul]; omega
        rw [e1, e2, cut_rows, ← List.map_drop, ← List.map_take, ← eys]
        exact ⟨p, rfl, ⟨_, .inl (.inl upd_same)⟩, k _ p (same_upd hp) (.inl (.inl upd_same))⟩
      · intro j y hy H4 Q s4 k
        have hj : j < ys.length := by
          have := (List.getElem?_eq_some_iff.mp hy).1
          rw [List.length_map] at this
          exact this
        rw [List.getElem?_map, List.getElem?_eq_getElem hj] at hy
        obtain rfl : V.int ys[j] = y := Option.some.inj hy
        have hb := hxr ys[j] (List.mem_of_mem_drop (List.mem_of_mem_take (by rw [← eys]; exact List.getElem_mem hj)))
        refine ⟨.int ys[j], rfl, _, 5, rfl, rfl, .int gg, rfl, _, _, rfl, rfl, .inl ⟨by omega, by omega⟩, ?_⟩
        have e3 : ys.getD j 0 = ys[j] := by
          rw [List.getD_eq_getElem?_getD, List.getElem?_eq_getElem hj]
          rfl
        rw [e3] at k
        exact k
    clear hD s1 D
    rintro σ H1 ⟨s1, D, hD, v9, v10, v11, rfl⟩
    -- one number
    refine ⟨fun σ H' => Same H H' ∧ ∃ D : Addr, TM n wd H H' D ∧ σ = [some (.str (T r)), some (.str (T t)), some (.int (e : Int)), some (.ref z), some (.int cc), some (.int x), some (.int gg), none, some (.ref D), v9, v10, v11, none, none, none, none, none], ?_, ?_⟩
    · refine ⟨.int x, rfl, x, 4, rfl, rfl, (show (0 : Int) < 4 by decide), rfl, _, rfl, ite2 (fun _ => ?_) (fun _ => ⟨s1, D, hD, rfl⟩)⟩
      have X := xf_rng (σ := [some (.str (T r)), some (.str (T t)), some (.int (e : Int)), some (.ref z), some (.int cc), some (.int x), some (.int gg), none, some (.ref D), v9, v10, v11, none, none, none, none, none]) (H0 := H1) (E := fun _ => EL n fun _ => E1 wd) (n := 3) (s := 10) (ta := tCons (tC (.int 3)) tNil) (te := tLc (iRng1 (tCons (tOp (rI0 fun i j => .int (i + j)) (tCB (fun xs H Q => ∃ z, xs = [V.str z] ∧ z.length ≤ sizeLine ∧ Q (V.int ((z.length : Nat) : Int)) H) (tCons (tVar 0) tNil)) (tC (.int 1))) tNil)) (gName 16) tYes (tOp rRep (tLst (tCons (tOp (rI0 fun i j => .int (i - j)) (tOp (rI (fun _ j => 0 < j) fun i j => .int (i % j)) (tOp (rI CDiv fun i j => .int (i / j)) (tVar 5) (tC (.int 4))) (tC (.int 3))) (tC (.int 1))) tNil)) (tOp (rI0 fun i j => .int (i + j)) (tVar 2) (tC (.int 1)))) [16]) (fun _ => kd_L fun _ => kd_1 _) (by omega) (fun H R s k => k) ?_
      · exact X H1 _ (Same.refl _) fun H2 D2 s2 h2 => ⟨s1.trans s2, D2, (kd_M n wd).mono (fun b hb => none_of s1 hb) h2, rfl⟩
      intro i hi
      refine xf_rng (n := n) (fun _ => kd_1 _) (by omega) (fun H R s k => ⟨.str (T r), rfl, T r, rfl, ler, _, 1, rfl, rfl, by rw [← eT] at k; exact k⟩) fun j hj => ?_
      refine xf_rep (v := x / 4 % 3 - 1) (fun H Q s k => ⟨.int x, rfl, x, 4, rfl, rfl, ⟨by decide, by decide⟩, _, 3, rfl, rfl, (show (0 : Int) < 3 by decide), _, 1, rfl, rfl, k⟩) (fun H Q s k => ⟨.int e, rfl, e, 1, rfl, rfl, by rw [← eW] at k; exact k⟩) (by omega)
    clear hD s1 D
    rintro σ H1 ⟨s1, D, hD, rfl⟩
    have n0 : 0 < n := by omega
    have n1 : n ≤ 1000 := by omega
    have w0 : wd ≤ 1000 := by omega
    have ix : ∀ (y : Int) (k : Nat), 0 < k → ∃ i : Nat, y % (k : Int) = (i : Int) ∧ i < k := fun y k hk => by
      have h0 := Int.emod_nonneg y (show (k : Int) ≠ 0 by omega)
      have h1 := Int.emod_lt_of_pos y (show (0 : Int) < (k : Int) by omega)
      exact ⟨(y % (k : Int)).toNat, by omega, by omega⟩
    -- changed cells
    refine ⟨fun σ H' => Same H H' ∧ TM n wd H H' D ∧ ∃ v7 v12 v13 : Option V, σ = [some (.str (T r)), some (.str (T t)), some (.int (e : Int)), some (.ref z), some (.int cc), some (.int x), some (.int gg), v7, some (.ref D), v9, v10, v11, v12, v13, none, none, none], ?_, ?_⟩
    · have b0 := Int.emod_nonneg (x / 12) (show (5 : Int) ≠ 0 by decide)
      have b1 := Int.emod_lt_of_pos (x / 12) (show (0 : Int) < 5 by decide)
      refine ⟨.int x, rfl, x, 12, rfl, rfl, ⟨by decide, by decide⟩, _, 5, rfl, rfl, (show (0 : Int) < 5 by decide), _, rfl, by omega, by omega, ?_⟩
      refine for_range (lo := 0) (n := (x / 12 % 5).toNat) (fun k σ H' => Same H H' ∧ TM n wd H H' D ∧ ∃ v7 v12 v13 : Option V, σ = [some (.str (T r)), some (.str (T t)), some (.int (e : Int)), some (.ref z), some (.int cc), some (.int x), some (.int gg), v7, some (.ref D), v9, v10, v11, v12, v13, none, none, none]) ⟨s1, hD, none, none, none, rfl⟩ ?_ (fun σ H' h => h)
      rintro k σ H2 hk ⟨s2, hD2, v7, v12, v13, rfl⟩
      refine ⟨.int x, rfl, .int (0 + (k : Nat)), rfl, 7, _, rfl, rfl, .inl ⟨by decide, by decide⟩, 60, _, rfl, rfl, x, _, rfl, rfl, ⟨by omega, by omega⟩, ?_⟩
      obtain ⟨y, hy⟩ : ∃ y : Int, y = x / (60 + 7 * (0 + (k : Nat))) := ⟨_, rfl⟩
      dsimp only
      rw [← hy]
      obtain ⟨i1, e1, hi1⟩ := ix y 3 (by decide)
      obtain ⟨i2, e2, hi2⟩ := ix (y / 3) n n0
      obtain ⟨i3, e3, hi3⟩ := ix (y / 60) wd (by omega)
      obtain ⟨xs, p, h1, _, h2, hp⟩ := hD2.table hi1
      obtain ⟨xs2, q0, l, h3, h4, h5, h6, h7⟩ := hp.row hi2
      refine ⟨.ref D, rfl, .int y, rfl, y, 3, rfl, rfl, (show (0 : Int) < 3 by decide), D, xs, _, .ref p, rfl, rfl, .inl (.inl h1), ?_, ?_⟩
      · rw [← h2, ← e1]
        rfl
      refine ⟨.int y, rfl, y, 3, rfl, rfl, ⟨by decide, by decide⟩, .str (T r), rfl, T r, rfl, ler, _, 1, rfl, rfl, _, _, rfl, rfl, by show (0 : Int) < (((T r).length : Nat) : Int) + 1; omega, p, xs2, _, .ref q0, rfl, rfl, .inl (.inl h3), ?_, ?_⟩
      · rw [eT, e2]
        exact h4
      have hl3 : (l.map V.int).length = wd := by rw [List.length_map]; exact h6
      refine ⟨.ref q0, rfl, .int y, rfl, y, 60, rfl, rfl, ⟨by decide, by decide⟩, .int e, rfl, e, 1, rfl, rfl, _, _, rfl, rfl, by show (0 : Int) < (e : Int) + 1; omega, q0, l.map V.int, _, .int (l.getD i3 0), rfl, rfl, .inl (.inl h7), ?_, .int y, rfl, y, 2460, rfl, rfl, ⟨by decide, by decide⟩, _, 5, rfl, rfl, (show (0 : Int) < 5 by decide), _, _, rfl, rfl, _, 2, rfl, rfl, .ref q0, rfl, .int y, rfl, y, 60, rfl, rfl, ⟨by decide, by decide⟩, .int e, rfl, e, 1, rfl, rfl, _, _, rfl, rfl, by show (0 : Int) < (e : Int) + 1; omega, q0, l.map V.int, _, i3, rfl, rfl, h7, ix_set (by rw [eW, e3]) (by omega), ?_⟩
      · rw [eW, e3]
        exact atI_nat (by rw [List.getElem?_map, List.getD_eq_getElem?_getD, List.getElem?_eq_getElem (by omega)]; rfl)
      rw [← List.map_set]
      exact ⟨ext_same s2 h5, hD2.upd_row n0 h7 (by rw [List.length_set]; exact h6), _, _, _, rfl⟩
    clear hD s1
    rintro σ H1 ⟨s1, hD, v7, v12, v13, rfl⟩
    obtain ⟨m, em⟩ : ∃ m : Int, m = x / 61 % 9 := ⟨_, rfl⟩
    have dm : ∀ k : Int, decide (V.int (x / 61 % 9) = V.int k) = decide (m = k) := fun k => by rw [dec_eqI, em]
    obtain ⟨i1, e1, hi1⟩ := ix (x / 549) 3 (by decide)
    obtain ⟨i2, e2, hi2⟩ := ix (x / 1647) n n0
    -- a row less in a table
    refine ⟨fun σ H' => Same H H' ∧ TW H H' D ∧ ((m < 1 ∨ 1 < m) → TM n wd H H' D) ∧ σ = [some (.str (T r)), some (.str (T t)), some (.int (e : Int)), some (.ref z), some (.int cc), some (.int x), some (.int gg), v7, some (.ref D), v9, v10, v11, v12, v13, none, none, none], ?_, ?_⟩
    · refine ⟨.int x, rfl, x, 61, rfl, rfl, ⟨by decide, by decide⟩, _, 9, rfl, rfl, (show (0 : Int) < 9 by decide), rfl, _, rfl, ite2 (fun cm => ?_) (fun _ => ⟨s1, hD.weak n1 w0, fun _ => hD, rfl⟩)⟩
      rw [dm] at cm
      have cm := of_decide_eq_true cm
      obtain ⟨xs, p, h1, _, h2, hp⟩ := hD.table hi1
      obtain ⟨b0, qs, k1, k2, k3⟩ := id hp
      refine ⟨.ref D, rfl, .int x, rfl, x, 549, rfl, rfl, ⟨by decide, by decide⟩, _, 3, rfl, rfl, (show (0 : Int) < 3 by decide), D, xs, _, .ref p, rfl, rfl, .inl (.inl h1), ?_, .inl ⟨rfl, _, .inl (.inl k2)⟩, p, qs.map V.ref, .ref (qs.getD (qs.length - 1) 0), rfl, rfl, k2, ?_, ?_⟩
      · rw [← h2, ← e1]
        rfl
      · rw [List.length_map, List.getElem?_map, List.getD_eq_getElem?_getD, List.getElem?_eq_getElem (by omega)]
        rfl
      · have ed : (qs.map V.ref).dropLast = (qs.dropLast).map V.ref := List.map_dropLast.symm
        rw [ed]
        refine ⟨ext_same s1 b0, hD.any_table n0 n1 w0 hp (by rw [List.length_dropLast]; omega) (fun q hq => ?_), fun h => absurd h (by omega), rfl⟩
        obtain ⟨j, hj⟩ := List.mem_iff_getElem?.mp (List.dropLast_subset _ hq)
        obtain ⟨_, l, l1, l2⟩ := k3 j q hj
        exact ⟨l, by omega, l2⟩
    clear hD s1
    rintro σ H1 ⟨s1, hW, hD, rfl⟩
    -- a cell more in a row
    refine ⟨fun σ H' => Same H H' ∧ TW H H' D ∧ ((m < 1 ∨ 2 < m) → TM n wd H H' D) ∧ σ = [some (.str (T r)), some (.str (T t)), some (.int (e : Int)), some (.ref z), some (.int cc), some (.int x), some (.int gg), v7, some (.ref D), v9, v10, v11, v12, v13, none, none, none], ?_, ?_⟩
    · refine ⟨.int x, rfl, x, 61, rfl, rfl, ⟨by decide, by decide⟩, _, 9, rfl, rfl, (show (0 : Int) < 9 by decide), rfl, _, rfl, ite2 (fun cm => ?_) (fun cm => ⟨s1, hW, fun h => hD (by omega), rfl⟩)⟩
      rw [dm] at cm
      have cm := of_decide_eq_true cm
      have hD := hD (by omega)
      obtain ⟨xs, p, h1, _, h2, hp⟩ := hD.table hi1
      obtain ⟨xs2, q0, l, h3, h4, h5, h6, h7⟩ := hp.row hi2
      refine ⟨.ref D, rfl, .int x, rfl, x, 549, rfl, rfl, ⟨by decide, by decide⟩, _, 3, rfl, rfl, (show (0 : Int) < 3 by decide), D, xs, _, .ref p, rfl, rfl, .inl (.inl h1), ?_, .int x, rfl, x, 1647, rfl, rfl, ⟨by decide, by decide⟩, .str (T r), rfl, T r, rfl, ler, _, 1, rfl, rfl, _, _, rfl, rfl, by show (0 : Int) < (((T r).length : Nat) : Int) + 1; omega, p, xs2, _, .ref q0, rfl, rfl, .inl (.inl h3), ?_, .inl ⟨rfl, _, .inl (.inl h7)⟩, q0, _, _, rfl, rfl, h7, line_ok7 (by rw [List.length_map]; omega), ?_⟩
      · rw [← h2, ← e1]
        rfl
      · rw [eT, e2]
        exact h4
      · have ed : l.map V.int ++ [V.int 0] = (l ++ [0]).map V.int := by rw [List.map_append]; rfl
        rw [ed]
        exact ⟨ext_same s1 h5, hD.any_row n0 n1 w0 h7 (by rw [List.length_append, h6]; show wd + 1 ≤ 1000; omega), fun h => absurd h (by omega), rfl⟩
    clear hD s1 hW
    rintro σ H1 ⟨s1, hW, hD, rfl⟩
    -- a cell less in a row
    refine ⟨fun σ H' => Same H H' ∧ TW H H' D ∧ ((m < 1 ∨ 3 < m) → TM n wd H H' D) ∧ σ = [some (.str (T r)), some (.str (T t)), some (.int (e : Int)), some (.ref z), some (.int cc), some (.int x), some (.int gg), v7, some (.ref D), v9, v10, v11, v12, v13, none, none, none], ?_, ?_⟩
    · refine ⟨.int x, rfl, x, 61, rfl, rfl, ⟨by decide, by decide⟩, _, 9, rfl, rfl, (show (0 : Int) < 9 by decide), rfl, _, rfl, ite2 (fun cm => ?_) (fun cm => ⟨s1, hW, fun h => hD (by omega), rfl⟩)⟩
      rw [dm] at cm
      have cm := of_decide_eq_true cm
      have hD := hD (by omega)
      obtain ⟨xs, p, h1, _, h2, hp⟩ := hD.table hi1
      obtain ⟨xs2, q0, l, h3, h4, h5, h6, h7⟩ := hp.row hi2
      refine ⟨.ref D, rfl, .int x, rfl, x, 549, rfl, rfl, ⟨by decide, by decide⟩, _, 3, rfl, rfl, (show (0 : Int) < 3 by decide), D, xs, _, .ref p, rfl, rfl, .inl (.inl h1), ?_, .int x, rfl, x, 1647, rfl, rfl, ⟨by decide, by decide⟩, .str (T r), rfl, T r, rfl, ler, _, 1, rfl, rfl, _, _, rfl, rfl, by show (0 : Int) < (((T r).length : Nat) : Int) + 1; omega, p, xs2, _, .ref q0, rfl, rfl, .inl (.inl h3), ?_, .inl ⟨rfl, _, .inl (.inl h7)⟩, q0, l.map V.int, .int (l.getD (l.length - 1) 0), rfl, rfl, h7, ?_, ?_⟩
      · rw [← h2, ← e1]
        rfl
      · rw [eT, e2]
        exact h4
      · rw [List.length_map, List.getElem?_map, List.getD_eq_getElem?_getD, List.getElem?_eq_getElem (by omega)]
        rfl
      · have ed : (l.map V.int).dropLast = (l.dropLast).map V.int := List.map_dropLast.symm
        rw [ed]
        exact ⟨ext_same s1 h5, hD.any_row n0 n1 w0 h7 (by rw [List.length_dropLast, h6]; omega), fun h => absurd h (by omega), rfl⟩
    clear hD s1 hW
    rintro σ H1 ⟨s1, hW, hD, rfl⟩
    -- a row more in a table
    refine ⟨fun σ H' => Same H H' ∧ TW H H' D ∧ ((m < 1 ∨ 4 < m) → TM n wd H H' D) ∧ σ = [some (.str (T r)), some (.str (T t)), some (.int (e : Int)), some (.ref z), some (.int cc), some (.int x), some (.int gg), v7, some (.ref D), v9, v10, v11, v12, v13, none, none, none], ?_, ?_⟩
    · refine ⟨.int x, rfl, x, 61, rfl, rfl, ⟨by decide, by decide⟩, _, 9, rfl, rfl, (show (0 : Int) < 9 by decide), rfl, _, rfl, ite2 (fun cm => ?_) (fun cm => ⟨s1, hW, fun h => hD (by omega), rfl⟩)⟩
      rw [dm] at cm
      have cm := of_decide_eq_true cm
      have hD := hD (by omega)
      obtain ⟨xs, p, h1, _, h2, hp⟩ := hD.table hi1
      obtain ⟨b0, qs, k1, k2, k3⟩ := id hp
      refine ⟨.ref D, rfl, .int x, rfl, x, 549, rfl, rfl, ⟨by decide, by decide⟩, _, 3, rfl, rfl, (show (0 : Int) < 3 by decide), D, xs, _, .ref p, rfl, rfl, .inl (.inl h1), ?_, .inl ⟨rfl, _, .inl (.inl k2)⟩, ?_⟩
      · rw [← h2, ← e1]
        rfl
      refine xf_rep (σ := [some (.str (T r)), some (.str (T t)), some (.int (e : Int)), some (.ref z), some (.int cc), some (.int x), some (.int gg), v7, some (.ref D), v9, v10, v11, v12, v13, none, none, none]) (H0 := H1) (v := 0) (k := wd) (fun H Q s k => k) (fun H Q s k => ⟨.int e, rfl, e, 1, rfl, rfl, by rw [← eW] at k; exact k⟩) (by omega) H1 _ (Same.refl _) fun H2 q0 s2 hq0 => ?_
      obtain ⟨c0, l, l1, l2⟩ := hq0
      refine ⟨p, _, _, rfl, rfl, s2 _ _ k2, line_ok7 (by rw [List.length_map]; omega), ?_⟩
      have ed : qs.map V.ref ++ [V.ref q0] = (qs ++ [q0]).map V.ref := by rw [List.map_append]; rfl
      rw [ed]
      have hD2 := (kd_M n wd).keep (fun b o _ hb => s2 b o hb) hD
      have hp2 := (kd_L (n := n) fun _ => kd_1 wd).keep (fun b o _ hb => s2 b o hb) hp
      refine ⟨ext_same (s1.trans s2) b0, TM.any_table n0 n1 w0 hD2 hp2 (by rw [List.length_append, k1]; show n + 1 ≤ 1000; omega) (fun q hq => ?_), fun h => absurd h (by omega), rfl⟩
      rcases List.mem_append.mp hq with hq | hq
      · obtain ⟨j, hj⟩ := List.mem_iff_getElem?.mp hq
        obtain ⟨_, l, l1, l2⟩ := k3 j q hj
        exact ⟨l, by omega, s2 _ _ l2⟩
      · obtain rfl : q = q0 := by simpa using hq
        exact ⟨l, by omega, l2⟩
    clear hD s1 hW
    rintro σ H1 ⟨s1, hW, hD, rfl⟩
    -- no table
    refine ⟨fun σ H' => Same H H' ∧ TW H H' D ∧ σ = [some (.str (T r)), some (.str (T t)), some (.int (e : Int)), some (.ref z), some (.int cc), some (.int x), some (.int gg), v7, some (.ref D), v9, v10, v11, v12, v13, none, none, none], ?_, ?_⟩
    · refine ⟨.int x, rfl, x, 61, rfl, rfl, ⟨by decide, by decide⟩, _, 9, rfl, rfl, (show (0 : Int) < 9 by decide), rfl, _, rfl, ite2 (fun cm => ?_) (fun cm => ⟨s1, hW, rfl⟩)⟩
      rw [dm] at cm
      have cm := of_decide_eq_true cm
      have hD := hD (by omega)
      refine ⟨by show 0 ≤ sizeLine; exact Nat.zero_le _, fun d hd => ?_⟩
      have sd := same_upd (o := .lst []) hd
      have hD2 := (kd_M n wd).keep (fun b o _ hb => sd b o hb) hD
      obtain ⟨xs, x1, x2, x3⟩ := hD2.empty n0 n1 w0 (none_of s1 hd) upd_same hi1
      refine ⟨.ref D, rfl, .int x, rfl, x, 549, rfl, rfl, ⟨by decide, by decide⟩, _, 3, rfl, rfl, (show (0 : Int) < 3 by decide), D, xs, _, i1, rfl, rfl, x1, ix_set (by rw [← e1]; rfl) (by omega), ?_⟩
      exact ⟨ext_same (s1.trans sd) hW.1, x3, rfl⟩
    clear hD s1 hW
    rintro σ H1 ⟨s1, hW, rfl⟩
    obtain ⟨_, p0, p1, p2, hD, x0, x1, x2⟩ := hW
    obtain ⟨X0, a0, b0, c0⟩ := x0.tab
    obtain ⟨X1, a1, b1, c1⟩ := x1.tab
    obtain ⟨X2, a2, b2, c2⟩ := x2.tab
    refine ⟨.ref D, rfl, D, _, 0, .ref p0, rfl, rfl, .inl (.inl hD), rfl, .ref D, rfl, D, _, 1, .ref p1, rfl, rfl, .inl (.inl hD), rfl, .ref D, rfl, D, _, 2, .ref p2, rfl, rfl, .inl (.inl hD), rfl, by show 3 ≤ sizeLine; decide, fun tp htp => ?_⟩
    have st := same_upd (o := .tup [V.ref p0, V.ref p1, V.ref p2]) htp
    refine q _ tp p0 p1 p2 X0 X1 X2 (s1.trans st) upd_same (a0.same st) (a1.same st) (a2.same st) fun X hX => ?_
    rcases List.mem_cons.mp hX with rfl | hX
    · exact ⟨b0, c0⟩
    rcases List.mem_cons.mp hX with rfl | hX
    · exact ⟨b1, c1⟩
    rcases List.mem_cons.mp hX with rfl | hX
    · exact ⟨b2, c2⟩
    cases hX
end
/-! ### the law -/
def NLw : List Str := ["script", "first", "text", "read", "end", "costs", "told", "before", "actual", "expected", "table", "row"]
theorem scLaw : FnScope NLw ["script"] (defScope sLaw) := ⟨rfl, rfl, rfl, by decide +kernel, rfl, by decide +kernel, by decide +kernel⟩
def dTb (X : List (List Int)) : PyData := .list (X.map dI)
def dT3 (X0 X1 X2 : List (List Int)) : PyData := .list [dTb X0, dTb X1, dTb X2]
theorem can_dTb (X : List (List Int)) : (dTb X).canLay0 = true := by
  show PyData.canLayAll0 (X.map dI) = true
  induction X with
  | nil => rfl
  | cons l r ih =>
    show (PyData.canLayAll0 (l.map PyData.int) && PyData.canLayAll0 (r.map dI)) = true
    rw [can_ints, ih]
    rfl
theorem depth_dTb (X : List (List Int)) : PyData.depth (dTb X) ≤ 2 := by
  have h1 : ∀ l : List Int, PyData.depthAll (l.map PyData.int) = 0 := fun l => by
    induction l with
    | nil => rfl
    | cons a r ih =>
      show max 0 (PyData.depthAll (r.map PyData.int)) = 0
      rw [ih]
      rfl
  have : PyData.depthAll (X.map dI) ≤ 1 := by
    induction X with
    | nil => exact Nat.zero_le _
    | cons l r ih =>
      show max (PyData.depthAll (l.map PyData.int) + 1) (PyData.depthAll (r.map dI)) ≤ 1
      rw [h1]
      omega
  show PyData.depthAll (X.map dI) + 1 ≤ 2
  omega
theorem can_dT3 (X0 X1 X2 : List (List Int)) : (dT3 X0 X1 X2).canLay0 = true := by
  show ((dTb X0).canLay0 && ((dTb X1).canLay0 && ((dTb X2).canLay0 && true))) = true
  rw [can_dTb, can_dTb, can_dTb]
  rfl
theorem shaped_dT3 (X0 X1 X2 : List (List Int)) : SeqAt.shaped (dT3 X0 X1 X2) = true := by
  have h0 := depth_dTb X0
  have h1 := depth_dTb X1
  have h2 := depth_dTb X2
  have : PyData.depth (dT3 X0 X1 X2) ≤ 64 := by
    show max (PyData.depth (dTb X0)) (max (PyData.depth (dTb X1)) (max (PyData.depth (dTb X2)) 0)) + 1 ≤ 64
    omega
  unfold SeqAt.shaped
  rw [can_dT3, decide_eq_true this]
  rfl
section
variable {K : PySem.W.Frag}
theorem dp_tabs {H : Hp} : ∀ (X : List (List Int)) (vs : List V), vs.length = X.length → (∀ (i : Nat) (row : List Int), X[i]? = some row → ∃ q : Addr, vs[i]? = some (V.ref q) ∧ H q = some (LI row)) → DpAll K H vs (X.map dI)
  | [], [], _, _ => .nil
  | [], _ :: _, h, _ => nomatch h
  | _ :: _, [], h, _ => nomatch h
  | row :: X, v :: vs, h, k => by
    obtain ⟨q, e, hq⟩ := k 0 row rfl
    obtain rfl : v = .ref q := Option.some.inj e
    exact .cons (dp_dI (.inl (.inl hq))) (dp_tabs X vs (Nat.succ.inj h) fun i row hi => k (i + 1) row hi)
theorem dp_tab {H : Hp} {p : Addr} {X : List (List Int)} (h : TabL H p X) : Dp K H (.ref p) (dTb X) := by
  obtain ⟨vs, h1, h2, h3⟩ := h
  exact .lst (.inl (.inl h1)) (dp_tabs X vs h2 h3)
end
theorem EL.tabL {B H : Hp} {p : Addr} {X : List (List Int)} (h : EL X.length (fun j => ER (X.getD j [])) B H p) : TabL H p X := by
  obtain ⟨_, qs, h1, h2, h3⟩ := h
  refine ⟨_, h2, by rw [List.length_map, h1], fun i row hi => ?_⟩
  have hl : i < qs.length := by
    rw [h1]
    exact (List.getElem?_eq_some_iff.mp hi).1
  have e : qs[i]? = some qs[i] := List.getElem?_eq_getElem hl
  refine ⟨qs[i], by rw [List.getElem?_map, e]; rfl, ?_⟩
  rw [(h3 i _ e).2, List.getD_eq_getElem?_getD, hi]
  rfl
section
variable {P : Program} {w : World} {K : PySem.W.Frag} {mg : Str → Option Value} {base : Heap}
def spLaw (K : PySem.W.Frag) : Sp := fun vs H Q _ => ∃ (a : Addr) (ns : List Int), vs = [.ref a] ∧ SqL K H a (ns.map V.int) ∧ ∀ H', Q (.bl true) H'
theorem ok_law {f : Addr} {fd : FuncData} (F : Fun K "law" "law" sLaw f fd) (B : Bl mg) (mlist : mg "list" = none) (hC : Has P w K mg base 2 "_law_cell" ["script", "k"] (spCell K)) (hT : Has P w K mg base 3 "_law_text" ["cell", "size"] (spText K)) (hLR : Has P w K mg base 3 "_law_read" ["cell", "text", "size"] spLRead)
    (hIn : Has P w K mg base 2 "_law_integer" ["value"] spInteger) (hCo : Has P w K mg base 3 "_law_costs" ["cell"] spLCosts) (hLS : Has P w K mg base 3 "_law_least" ["read", "text", "end", "costs"] (spLeast K)) (hJ : Has P w K mg base 3 "_law_judged" ["read", "text", "end", "costs", "told"] (spJudged K))
    (hLP : Has P w K mg base 7 "_law_paper" ["read", "text", "end", "costs", "cell"] (spLPaper K)) (hSh : Has P w K mg base 4 "shown" ["read", "text", "end", "costs", "paper"] (spShown K)) : FnOk P w K mg base CX0 8 f fd ["script"] (spLaw K) := by
  obtain ⟨fC, dC, GC, gC, kC, bC⟩ := hC
  obtain ⟨fT, dT', GT, gT, kT, bT⟩ := hT
  obtain ⟨fL, dL, GL, gL, kL, bL⟩ := hLR
  obtain ⟨fI, dI', GI, gI, kI, bI⟩ := hIn
  obtain ⟨fO, dO, GO, gO, kO, bO⟩ := hCo
  obtain ⟨fS, dS', GS, gS, kS, bS⟩ := hLS
  obtain ⟨fJ, dJ, GJ, gJ, kJ, bJ⟩ := hJ
  obtain ⟨fA, dA, GA, gA, kA, bA⟩ := hLP
  obtain ⟨fW, dW, GW, gW, kW, bW⟩ := hSh
  refine F.ok scLaw (fun vs H Q E h => ?_) (fun cdv A outer s H vs Q E hr h => ?_)
  · obtain ⟨c, ns, rfl, _⟩ := h
    rfl
  · obtain ⟨a, ns, rfl, hsq, q⟩ := h
    have hr4 : Room 4 _ := hr.mono (by omega)
    have hr3 : Room 3 _ := hr.mono (by omega)
    have hr2 : Room 2 _ := hr.mono (by omega)
    refine ⟨_, (pss_cons (ps_set (i := 1) scLaw.nd rfl (.inl rfl) (pe_call GC hr2 (by rfl) gC kC bC .nil pass0 (pa_cons (pv 0) (pa_cons pe_int pa_nil))))
      (C8.pss_cut (ps_set (i := 2) scLaw.nd rfl (.inl rfl) (pe_call GT hr3 (by rfl) gT kT bT .nil pass0 (pa_cons (pe_call GC hr2 (by rfl) gC kC bC .nil pass0 (pa_cons (pv 0) (pa_cons pe_int pa_nil))) (pa_cons (pe_op op_add pe_int (pe_op op_mod (pv 1) pe_int)) pa_nil))))
      (C8.pss_cut (ps_set (i := 3) scLaw.nd rfl (.inl rfl) (pe_call GT hr3 (by rfl) gT kT bT .nil pass0 (pa_cons (pe_call GC hr2 (by rfl) gC kC bC .nil pass0 (pa_cons (pv 0) (pa_cons pe_int pa_nil))) (pa_cons (pe_op op_add pe_int (pe_op op_mod (pe_call GC hr2 (by rfl) gC kC bC .nil pass0 (pa_cons (pv 0) (pa_cons pe_int pa_nil))) pe_int)) pa_nil))))
      (C8.pss_cut (ps_if (pt_cmpR op_gt (pe_op op_mod (pe_call GC hr2 (by rfl) gC kC bC .nil pass0 (pa_cons (pv 0) (pa_cons pe_int pa_nil))) pe_int) pe_int (nomark _)) (pss_one (ps_set (i := 3) scLaw.nd rfl (.inl rfl) (pe_call GL hr3 (by rfl) gL kL bL .nil pass0 (pa_cons (pe_call GC hr2 (by rfl) gC kC bC .nil pass0 (pa_cons (pv 0) (pa_cons pe_int pa_nil))) (pa_cons (pv 2) (pa_cons (pe_callB call_len_str (by rfl) B.len PySem.boot_len (pa_cons (pv 3) pa_nil)) pa_nil)))))) pss_nil)
      (C8.pss_cut (ps_set (i := 4) scLaw.nd rfl (.inl rfl) (pe_op op_mod (pe_call GC hr2 (by rfl) gC kC bC .nil pass0 (pa_cons (pv 0) (pa_cons pe_int pa_nil))) (pe_op op_add (pe_callB call_len_str (by rfl) B.len PySem.boot_len (pa_cons (pv 2) pa_nil)) pe_int)))
      (pss_cons (ps_set (i := 5) scLaw.nd rfl (.inl rfl) (pe_call GO hr3 (by rfl) gO kO bO .nil pass0 (pa_cons (pe_call GC hr2 (by rfl) gC kC bC .nil pass0 (pa_cons (pv 0) (pa_cons pe_int pa_nil))) pa_nil)))
      (C8.pss_cut (ps_set (i := 6) scLaw.nd rfl (.inl rfl) (pe_call GA hr (by rfl) gA kA bA .nil pass0 (pa_cons (pv 3) (pa_cons (pv 2) (pa_cons (pv 4) (pa_cons (pv 5) (pa_cons (pe_call GC hr2 (by rfl) gC kC bC .nil pass0 (pa_cons (pv 0) (pa_cons pe_int pa_nil))) pa_nil)))))))
      (C8.pss_cut (ps_setLc (i := 7) (own := [("table", 10)]) (g := gName 10) (tt := tYes) (te := tLc (iList K (tVar 10)) (gName 11) tYes (tCB (rLsN K) (tCons (tVar 11) tNil)) [11]) (by rfl) scLaw.nd rfl rfl (sw_true rfl rfl rfl (by decide +kernel)) (pi_tup (pv 6)) (blkOk_by (own := [("table", 10)]) (N := NLw) (sc := defScope sLaw) (by decide +kernel)) (fun _ _ _ _ _ => pg_name (i := 10) scLaw.nd rfl (Or.inl rfl)) (fun _ _ _ _ _ => pts_nil) (fun _ _ _ _ _ => (pe_lc (own := [("row", 11)]) (g := gName 11) (tt := tYes) (te := tCB (rLsN K) (tCons (tVar 11) tNil)) (by rfl) scLaw.nd (pi_list (pv 10)) (blkOk_in (N := NLw) (sc := defScope sLaw) rfl (by decide +kernel)) (fun _ _ _ _ _ => pg_name (i := 11) scLaw.nd rfl (Or.inl rfl)) (fun _ _ _ _ _ => pts_nil) (fun _ _ _ _ _ => (pe_callTy (r := rLsN K) call_list_of (by rfl) mlist (by decide +kernel) (pa_cons (pv 11) pa_nil))))))
      (pss_cons (ps_set (i := 8) scLaw.nd rfl (.inl rfl) (pe_call GW hr4 (by rfl) gW kW bW .nil pass0 (pa_cons (pv 3) (pa_cons (pv 2) (pa_cons (pv 4) (pa_cons (pv 5) (pa_cons (pv 6) pa_nil)))))))
      (pss_cons (ps_set (i := 9) scLaw.nd rfl (.inl rfl) (pe_call GJ hr3 (by rfl) gJ kJ bJ .nil pass0 (pa_cons (pv 3) (pa_cons (pv 2) (pa_cons (pv 4) (pa_cons (pv 5) (pa_cons (pv 6) pa_nil)))))))
      (pss_cons (ps_if (pt_cmpR (op_neD hr.units) (pv 7) (pe_lc (own := [("table", 10)]) (g := gName 10) (tt := tYes) (te := tVar 10) (by rfl) scLaw.nd (pi_tup (pv 6)) (blkOk_by (own := [("table", 10)]) (N := NLw) (sc := defScope sLaw) (by decide +kernel)) (fun _ _ _ _ _ => pg_name (i := 10) scLaw.nd rfl (Or.inl rfl)) (fun _ _ _ _ _ => pts_nil) (fun _ _ _ _ _ => (pv 10))) (nomark _)) (pss_one (ps_ret pe_bl)) pss_nil)
      (pss_cons (ps_if (pt_cmpR op_isN (pv 9) pe_non (nomark _)) (pss_one (ps_ret (pe_cmpR op_isN (pv 8) pe_non (nomark _)))) pss_nil)
      (pss_one (ps_ret (pe_and (pe_call GI hr2 (by rfl) gI kI bI .nil pass0 (pa_cons (pv 8) pa_nil)) (pe_and (pe_cmpR op_eq (pv 8) (pv 9) (nomark _)) (pe_one (pe_cmpR op_le (pv 8) (pe_call GS hr3 (by rfl) gS kS bS .nil pass0 (pa_cons (pv 3) (pa_cons (pv 2) (pa_cons (pv 4) (pa_cons (pv 5) pa_nil))))) (nomark _))))))))))))))))))), ?_⟩
    refine ⟨.ref a, rfl, a, ns, 0, rfl, hsq, fun x0 => ?_⟩
    have f0 := Int.emod_nonneg x0 (show (24 : Int) ≠ 0 by decide)
    have f1 := Int.emod_lt_of_pos x0 (show (0 : Int) < 24 by decide)
    refine ⟨fun σ H' => Same H H' ∧ ∃ t : List Nat, Dna t ∧ 1 ≤ t.length ∧ t.length ≤ 24 ∧ σ = [some (.ref a), some (.int x0), some (.str (T t)), none, none, none, none, none, none, none, none, none], ?_, ?_⟩
    · refine ⟨.ref a, rfl, a, ns, 1, rfl, hsq, fun x1 => ⟨.int x0, rfl, _, 24, rfl, rfl, (show (0 : Int) < 24 by decide), 1, _, rfl, rfl, x1, 1 + x0 % 24, rfl, by omega, by omega, fun H1 t s1 dt hl => ⟨s1, t, dt, by omega, by omega, rfl⟩⟩⟩
    rintro σ H1 ⟨s1, t, dt, ht1, ht2, rfl⟩
    refine ⟨fun σ H' => Same H H' ∧ ∃ r : List Nat, 1 ≤ r.length ∧ r.length ≤ 400 ∧ σ = [some (.ref a), some (.int x0), some (.str (T t)), some (.str (T r)), none, none, none, none, none, none, none, none], ?_, ?_⟩
    · refine ⟨.ref a, rfl, a, ns, 2, rfl, s1.seq hsq, fun x1 => ⟨.ref a, rfl, a, ns, 6, rfl, s1.seq hsq, fun x2 => ?_⟩⟩
      have g0 := Int.emod_nonneg x2 (show (10 : Int) ≠ 0 by decide)
      have g1 := Int.emod_lt_of_pos x2 (show (0 : Int) < 10 by decide)
      exact ⟨_, 10, rfl, rfl, (show (0 : Int) < 10 by decide), 1, _, rfl, rfl, x1, 1 + x2 % 10, rfl, by omega, by omega, fun H2 l s2 _ hl => ⟨s1.trans s2, l, by omega, by omega, rfl⟩⟩
    rintro σ H2 ⟨s2, r0, hr01, hr02, rfl⟩
    refine ⟨fun σ H' => Same H H' ∧ ∃ r : List Nat, 1 ≤ r.length ∧ r.length ≤ 400 ∧ σ = [some (.ref a), some (.int x0), some (.str (T t)), some (.str (T r)), none, none, none, none, none, none, none, none], ?_, ?_⟩
    · refine ⟨.ref a, rfl, a, ns, 7, rfl, s2.seq hsq, fun x6 => ⟨_, 3, rfl, rfl, (show (0 : Int) < 3 by decide), _, 0, rfl, rfl, _, rfl, ite2 (fun _ => ?_) (fun _ => ⟨s2, r0, hr01, hr02, rfl⟩)⟩⟩
      exact ⟨.ref a, rfl, a, ns, 2, rfl, s2.seq hsq, fun x2 => ⟨.str (T t), rfl, .str (T r0), rfl, T r0, rfl, line_ok6 (by rw [T_len]; omega), x2, t, r0.length, by rw [T_len]; rfl, dt, ht1, by omega, hr01, fun l dl l1 l2 => ⟨s2, l, l1, by omega, rfl⟩⟩⟩
    rintro σ H3 ⟨s3, r, hr1, hr2', rfl⟩
    refine ⟨fun σ H' => H' = H3 ∧ ∃ e : Nat, e ≤ t.length ∧ σ = [some (.ref a), some (.int x0), some (.str (T t)), some (.str (T r)), some (.int (e : Int)), none, none, none, none, none, none, none], ?_, ?_⟩
    · refine ⟨.ref a, rfl, a, ns, 3, rfl, s3.seq hsq, fun x3 => ⟨.str (T t), rfl, T t, rfl, line_ok6 (by rw [T_len]; omega), _, 1, rfl, rfl, _, _, rfl, rfl, by show (0 : Int) < ((T t).length : Nat) + 1; omega, rfl, (x3 % ((t.length : Int) + 1)).toNat, ?_, ?_⟩⟩
      · have h1 := Int.emod_lt_of_pos x3 (show (0 : Int) < (t.length : Int) + 1 by omega)
        omega
      · have h0 := Int.emod_nonneg x3 (show (t.length : Int) + 1 ≠ 0 by omega)
        rw [Int.toNat_of_nonneg h0]
        dsimp only
        rw [T_len]
        rfl
    rintro σ H4 ⟨hh, e, het, rfl⟩
    have hh := hh.symm
    subst hh
    refine ⟨.ref a, rfl, a, ns, 4, rfl, s3.seq hsq, fun x4 => ⟨x4, rfl, fun H5 z ca cb cc s5 hz5 ha5 hb5 hc5 => ?_⟩⟩
    have hzs : ∀ {H'}, Same H5 H' → SqT K H' z [.int ca, .int cb, .int cc] := fun s' => .inl (.inl (s' _ _ hz5))
    refine ⟨fun σ H' => Same H5 H' ∧ ∃ (tp p0 p1 p2 : Addr) (X0 X1 X2 : List (List Int)), H' tp = some (.tup [.ref p0, .ref p1, .ref p2]) ∧ TabL H' p0 X0 ∧ TabL H' p1 X1 ∧ TabL H' p2 X2 ∧ (∀ X ∈ [X0, X1, X2], X.length ≤ 1000 ∧ ∀ row ∈ X, row.length ≤ 1000) ∧ σ = [some (.ref a), some (.int x0), some (.str (T t)), some (.str (T r)), some (.int (e : Int)), some (.ref z), some (.ref tp), none, none, none, none, none], ?_, ?_⟩
    · exact ⟨.str (T r), rfl, .str (T t), rfl, .int e, rfl, .ref z, rfl, .ref a, rfl, a, ns, 5, rfl, (s3.trans s5).seq hsq, fun x5 => ⟨z, ca, cb, cc, r, t, e, x5, rfl, hzs (Same.refl _), het, ht2, hr2', hr1, by omega, fun H6 tp p0 p1 p2 X0 X1 X2 s6 htp h0 h1 h2 hX => ⟨s6, tp, p0, p1, p2, X0, X1, X2, htp, h0, h1, h2, hX, rfl⟩⟩⟩
    rintro σ H6 ⟨s6, tp, p0, p1, p2, X0, X1, X2, htp, h0, h1, h2, hX, rfl⟩
    have htp' : ∀ {H'}, Same H6 H' → SqT K H' tp [.ref p0, .ref p1, .ref p2] := fun s' => .inl (.inl (s' _ _ htp))
    have hx : ∀ (m : Nat) (y : V), ([V.ref p0, V.ref p1, V.ref p2])[m]? = some y → ∃ p, y = .ref p ∧ ([p0, p1, p2] : List Addr)[m]? = some p ∧ TabL H6 p (([X0, X1, X2] : List (List (List Int))).getD m []) ∧ ([X0, X1, X2] : List (List (List Int))).getD m [] ∈ [X0, X1, X2] := fun m y hy => by
      have hm := (List.getElem?_eq_some_iff.mp hy).1
      have : m = 0 ∨ m = 1 ∨ m = 2 := by
        have : m < 3 := hm
        omega
      rcases this with e | e | e <;> subst e
      · exact ⟨p0, (Option.some.inj hy).symm, rfl, h0, by simp⟩
      · exact ⟨p1, (Option.some.inj hy).symm, rfl, h1, by simp⟩
      · exact ⟨p2, (Option.some.inj hy).symm, rfl, h2, by simp⟩
    -- a copy
    refine ⟨fun σ H' => Same H6 H' ∧ ∃ (d b0 b1 b2 : Addr), H' d = some (.lst [.ref b0, .ref b1, .ref b2]) ∧ TabL H' b0 X0 ∧ TabL H' b1 X1 ∧ TabL H' b2 X2 ∧ σ = [some (.ref a), some (.int x0), some (.str (T t)), some (.str (T r)), some (.int (e : Int)), some (.ref z), some (.ref tp), some (.ref d), none, none, none, none], ?_, ?_⟩
    · have X := xf_tup (K := K) (σ := [some (.ref a), some (.int x0), some (.str (T t)), some (.str (T r)), some (.int (e : Int)), some (.ref z), some (.ref tp), none, none, none, none, none]) (H0 := H6) (E := fun m => EL (([X0, X1, X2] : List (List (List Int))).getD m []).length (fun j => ER ((([X0, X1, X2] : List (List (List Int))).getD m []).getD j []))) (xs := [.ref p0, .ref p1, .ref p2]) (s := 10) (wi := iTup K (tVar 6)) (te := tLc (iList K (tVar 10)) (gName 11) tYes (tCB (rLsN K) (tCons (tVar 11) tNil)) [11]) (fun _ => kd_L fun _ => kd_R _) (by show 3 < 10000; omega) (fun H R s k => ⟨.ref tp, rfl, tp, rfl, ⟨_, htp' s⟩, k H tp (Same.refl _) (htp' s)⟩) ?_
      · refine X H6 _ (Same.refl _) fun H7 d s7 hd => ?_
        obtain ⟨_, qs, q1, q2, q3⟩ := hd
        obtain ⟨b0, b1, b2, rfl⟩ := three_of q1
        exact ⟨s7, d, b0, b1, b2, q2, (q3 0 _ rfl).tabL, (q3 1 _ rfl).tabL, (q3 2 _ rfl).tabL, rfl⟩
      intro H7 m y s7 hy
      obtain ⟨p, rfl, _, ht, hmem⟩ := hx m y hy
      obtain ⟨X, eX⟩ : ∃ X, X = ([X0, X1, X2] : List (List (List Int))).getD m [] := ⟨_, rfl⟩
      rw [← eX] at ht hmem ⊢
      obtain ⟨vs, hv, hvl, hrow⟩ := ht.same s7
      have Y := xf_list (K := K) (σ := (([some (.ref a), some (.int x0), some (.str (T t)), some (.str (T r)), some (.int (e : Int)), some (.ref z), some (.ref tp), none, none, none, none, none]).set 10 none).set 10 (some (.ref p))) (H0 := H7) (E := fun j => ER (X.getD j [])) (xs := vs) (s := 11) (wi := iList K (tVar 10)) (te := tCB (rLsN K) (tCons (tVar 11) tNil)) (fun _ => kd_R _) (by have := (hX _ hmem).1; omega) (fun H R s k => ⟨.ref p, rfl, p, rfl, ⟨_, .inl (.inl (s _ _ hv))⟩, k H p (Same.refl _) (.inl (.inl (s _ _ hv)))⟩) ?_
      · rw [hvl] at Y
        exact Y
      intro j y hy
      have hj := (List.getElem?_eq_some_iff.mp hy).1
      rw [hvl] at hj
      have ej := List.getElem?_eq_getElem hj
      obtain ⟨q0, e1, e2⟩ := hrow j _ ej
      rw [e1] at hy
      obtain rfl : V.ref q0 = y := Option.some.inj hy
      have er : X.getD j [] = X[j] := by
        rw [List.getD_eq_getElem?_getD, ej]
        rfl
      refine xf_copy (by rfl) ?_
      rw [er]
      exact e2
    rintro σ H7 ⟨s7, d, b0, b1, b2, hd, k0, k1, k2, rfl⟩
    have s57 := s6.trans s7
    have papM : ((r.length : Int) + e) * ((ca : Int) + cb + cc) ≤ far := by
      have h1 : (r.length + e) * (ca + cb + cc) ≤ 424 * 300 := Nat.mul_le_mul (by omega) (by omega)
      have h2 : ((r.length : Int) + e) * ((ca : Int) + cb + cc) = (((r.length + e) * (ca + cb + cc) : Nat) : Int) := by
        rw [Int.natCast_mul, Int.natCast_add, Int.natCast_add, Int.natCast_add]
      rw [h2]
      show _ ≤ (1000000000 : Int)
      omega
    refine ⟨.str (T r), rfl, .str (T t), rfl, .int e, rfl, .ref z, rfl, .ref tp, rfl, z, tp, p0, p1, p2, ca, cb, cc, r, t, e, X0, X1, X2, rfl, hzs s57, htp' s7, h0.same s7, h1.same s7, h2.same s7, het, by omega, by omega, hr1, by omega, by omega, by omega, fun v H8 s8 v1 v2 => ?_⟩
    have s68 := s7.trans s8
    have s58 := s57.trans s8
    refine ⟨.str (T r), rfl, .str (T t), rfl, .int e, rfl, .ref z, rfl, .ref tp, rfl, z, tp, p0, p1, p2, ca, cb, cc, r, t, e, X0, X1, X2, rfl, hzs s58, htp' s68, h0.same s68, h1.same s68, h2.same s68, het, by omega, by omega, hr1, by omega, by omega, by omega, fun v' H9 s9 v1' v2' => ?_⟩
    have s69 := s68.trans s9
    have s59 := s58.trans s9
    -- the paper stays
    refine ⟨.ref d, rfl, ?_⟩
    have L := xf_tup (K := K) (σ := [some (.ref a), some (.int x0), some (.str (T t)), some (.str (T r)), some (.int (e : Int)), some (.ref z), some (.ref tp), some (.ref d), some v, some v', none, none]) (H0 := H9) (E := fun m => fun _ _ q => ([p0, p1, p2] : List Addr)[m]? = some q) (xs := [.ref p0, .ref p1, .ref p2]) (s := 10) (wi := iTup K (tVar 6)) (te := tVar 10) (fun _ => ⟨fun _ h => h, fun _ h => h⟩) (by show 3 < 10000; omega) (fun H R s k => ⟨.ref tp, rfl, tp, rfl, ⟨_, htp' (s69.trans s)⟩, k H tp (Same.refl _) (htp' (s69.trans s))⟩) (fun H2 m y s2 hy H Q s k => by
      obtain ⟨p, rfl, hp, _⟩ := hx m y hy
      exact ⟨.ref p, rfl, k H p (Same.refl _) hp⟩)
    refine L H9 _ (Same.refl _) fun H10 d2 s10 hd2 => ?_
    obtain ⟨_, qs, q1, q2, q3⟩ := hd2
    obtain ⟨c0, c1, c2, rfl⟩ := three_of q1
    obtain rfl : p0 = c0 := Option.some.inj (q3 0 _ rfl)
    obtain rfl : p1 = c1 := Option.some.inj (q3 1 _ rfl)
    obtain rfl : p2 = c2 := Option.some.inj (q3 2 _ rfl)
    have s710 := (s8.trans s9).trans s10
    have s610 := s69.trans s10
    refine ⟨dT3 X0 X1 X2, dT3 X0 X1 X2, .lst (.inl (.inl (s710 _ _ hd))) (.cons (dp_tab (k0.same s710)) (.cons (dp_tab (k1.same s710)) (.cons (dp_tab (k2.same s710)) .nil))), .lst (.inl (.inl q2)) (.cons (dp_tab (h0.same s610)) (.cons (dp_tab (h1.same s610)) (.cons (dp_tab (h2.same s610)) .nil))), shaped_dT3 _ _ _, shaped_dT3 _ _ _, _, rfl, ?_⟩
    rw [SeqAt.eqv_refl _ (can_dT3 X0 X1 X2)]
    refine iteF ?_
    by_cases ok : PapOk ca cb cc r t e X0 X1 X2
    · obtain rfl := v1 ok
      obtain rfl := v1' ok
      refine ⟨_, rfl, rfl, _, rfl, iteF ?_⟩
      refine ⟨_, rfl, _, rfl, true, rfl, iteT ⟨_, rfl, _, rfl, rfl, _, rfl, ?_⟩⟩
      rw [decide_eq_true rfl]
      refine iteT ⟨_, rfl, .str (T r), rfl, .str (T t), rfl, .int e, rfl, .ref z, rfl, z, ca, cb, cc, r, t, e, rfl, hzs (s59.trans s10), het, by omega, by omega, by omega, fun H11 s11 => ⟨_, _, rfl, rfl, ?_⟩⟩
      have hle := shN_le (M := ((r.length : Int) + e) * ((ca : Int) + cb + cc)) ok.2 hr1 rfl papM
      dsimp only
      rw [decide_eq_true hle]
      exact q _
    · obtain rfl := v2 ok
      obtain rfl := v2' ok
      refine ⟨_, rfl, rfl, _, rfl, iteT ⟨_, rfl, rfl, ?_⟩⟩
      rw [decide_eq_true rfl]
      exact q _
end
theorem all_mk {l : PySem.W.OpenLaw} {w : World} {K : PySem.W.Frag} {h : Heap} {mg : Str → Option Value} {fa fA fEX fWI fNR fPA fSH fHS fBR fPP fLV fLX fC fR fI fT fLT fLR fLA fLS fLC fCB fJU fLQ fL fMN fMC fME fMT fMW C : Addr} (X : K.In h) (G : h.Ns mainGlobals mg) (hfa : mg "law" = some (.ref fa))
    {odA anA : Option Addr} {slA : Array (Option Value)} {ocA kVA dcA pmA cdA ctA : Value}
    {odEX anEX : Option Addr} {slEX : Array (Option Value)} {ocEX kVEX dcEX pmEX cdEX ctEX : Value}
    {odWI anWI : Option Addr} {slWI : Array (Option Value)} {ocWI kVWI dcWI pmWI cdWI ctWI : Value}
    {odNR anNR : Option Addr} {slNR : Array (Option Value)} {ocNR kVNR dcNR pmNR cdNR ctNR : Value}
    {odPA anPA : Option Addr} {slPA : Array (Option Value)} {ocPA kVPA dcPA pmPA cdPA ctPA : Value}
    {odSH anSH : Option Addr} {slSH : Array (Option Value)} {ocSH kVSH dcSH pmSH cdSH ctSH : Value}
    {odHS anHS : Option Addr} {slHS : Array (Option Value)} {ocHS kVHS dcHS pmHS cdHS ctHS : Value}
    {odBR anBR : Option Addr} {slBR : Array (Option Value)} {ocBR kVBR dcBR pmBR cdBR ctBR : Value}
    {odPP anPP : Option Addr} {slPP : Array (Option Value)} {ocPP kVPP dcPP pmPP cdPP ctPP : Value}
    {odLV anLV : Option Addr} {slLV : Array (Option Value)} {ocLV kVLV dcLV pmLV cdLV ctLV : Value}
    {odLX anLX : Option Addr} {slLX : Array (Option Value)} {ocLX kVLX dcLX pmLX cdLX ctLX : Value}
    {odC anC : Option Addr} {slC : Array (Option Value)} {ocC kVC dcC pmC cdC ctC : Value}
    {odR anR : Option Addr} {slR : Array (Option Value)} {ocR kVR dcR pmR cdR ctR : Value}
    {odI anI : Option Addr} {slI : Array (Option Value)} {ocI kVI dcI pmI cdI ctI : Value}
    {odT anT : Option Addr} {slT : Array (Option Value)} {ocT kVT dcT pmT cdT ctT : Value}
    {odLT anLT : Option Addr} {slLT : Array (Option Value)} {ocLT kVLT dcLT pmLT cdLT ctLT : Value}
    {odLR anLR : Option Addr} {slLR : Array (Option Value)} {ocLR kVLR dcLR pmLR cdLR ctLR : Value}
    {odLA anLA : Option Addr} {slLA : Array (Option Value)} {ocLA kVLA dcLA pmLA cdLA ctLA : Value}
    {odLS anLS : Option Addr} {slLS : Array (Option Value)} {ocLS kVLS dcLS pmLS cdLS ctLS : Value}
    {odLC anLC : Option Addr} {slLC : Array (Option Value)} {ocLC kVLC dcLC pmLC cdLC ctLC : Value}
    {odCB anCB : Option Addr} {slCB : Array (Option Value)} {ocCB kVCB dcCB pmCB cdCB ctCB : Value}
    {odJU anJU : Option Addr} {slJU : Array (Option Value)} {ocJU kVJU dcJU pmJU cdJU ctJU : Value}
    {odLQ anLQ : Option Addr} {slLQ : Array (Option Value)} {ocLQ kVLQ dcLQ pmLQ cdLQ ctLQ : Value}
    {odL anL : Option Addr} {slL : Array (Option Value)} {ocL kVL dcL pmL cdL ctL : Value}
    {odMN anMN : Option Addr} {slMN : Array (Option Value)} {ocMN kVMN dcMN pmMN cdMN ctMN : Value}
    {odMC anMC : Option Addr} {slMC : Array (Option Value)} {ocMC kVMC dcMC pmMC cdMC ctMC : Value}
    {odME anME : Option Addr} {slME : Array (Option Value)} {ocME kVME dcME pmME cdME ctME : Value}
    {odMT anMT : Option Addr} {slMT : Array (Option Value)} {ocMT kVMT dcMT pmMT cdMT ctMT : Value}
    {odMW anMW : Option Addr} {slMW : Array (Option Value)} {ocMW kVMW dcMW pmMW cdMW ctMW : Value}
    (aA : PySem.W.nsIn K mainGlobals "agree" = some (some (.ref fA))) (lA : K.lookup fA = some ⟨ocA, odA, .func (PySem.W.fnOf "agree" "agree" (defArgs sAgree) (defBody sAgree) (defScope sAgree) .none kVA dcA pmA anA cdA ctA), slA⟩) (cA : PySem.W.codeIn K cdA "agree" = true) (kA : PySem.W.keepIn K (.ref fA) = true)
    (aEX : PySem.W.nsIn K mainGlobals "exact_band" = some (some (.ref fEX))) (lEX : K.lookup fEX = some ⟨ocEX, odEX, .func (PySem.W.fnOf "exact_band" "exact_band" (defArgs sExact) (defBody sExact) (defScope sExact) .none kVEX dcEX pmEX anEX cdEX ctEX), slEX⟩) (cEX : PySem.W.codeIn K cdEX "exact_band" = true) (kEX : PySem.W.keepIn K (.ref fEX) = true)
    (aWI : PySem.W.nsIn K mainGlobals "_is_wide_enough" = some (some (.ref fWI))) (lWI : K.lookup fWI = some ⟨ocWI, odWI, .func (PySem.W.fnOf "_is_wide_enough" "_is_wide_enough" (defArgs sWide) (defBody sWide) (defScope sWide) .none kVWI dcWI pmWI anWI cdWI ctWI), slWI⟩) (cWI : PySem.W.codeIn K cdWI "_is_wide_enough" = true) (kWI : PySem.W.keepIn K (.ref fWI) = true)
    (aNR : PySem.W.nsIn K mainGlobals "_next_row" = some (some (.ref fNR))) (lNR : K.lookup fNR = some ⟨ocNR, odNR, .func (PySem.W.fnOf "_next_row" "_next_row" (defArgs sNextRow) (defBody sNextRow) (defScope sNextRow) .none kVNR dcNR pmNR anNR cdNR ctNR), slNR⟩) (cNR : PySem.W.codeIn K cdNR "_next_row" = true) (kNR : PySem.W.keepIn K (.ref fNR) = true)
    (aPA : PySem.W.nsIn K mainGlobals "paper" = some (some (.ref fPA))) (lPA : K.lookup fPA = some ⟨ocPA, odPA, .func (PySem.W.fnOf "paper" "paper" (defArgs sPaper) (defBody sPaper) (defScope sPaper) .none kVPA dcPA pmPA anPA cdPA ctPA), slPA⟩) (cPA : PySem.W.codeIn K cdPA "paper" = true) (kPA : PySem.W.keepIn K (.ref fPA) = true)
    (aSH : PySem.W.nsIn K mainGlobals "shown" = some (some (.ref fSH))) (lSH : K.lookup fSH = some ⟨ocSH, odSH, .func (PySem.W.fnOf "shown" "shown" (defArgs sShown) (defBody sShown) (defScope sShown) .none kVSH dcSH pmSH anSH cdSH ctSH), slSH⟩) (cSH : PySem.W.codeIn K cdSH "shown" = true) (kSH : PySem.W.keepIn K (.ref fSH) = true)
    (aHS : PySem.W.nsIn K mainGlobals "_has_sizes" = some (some (.ref fHS))) (lHS : K.lookup fHS = some ⟨ocHS, odHS, .func (PySem.W.fnOf "_has_sizes" "_has_sizes" (defArgs sHasSz) (defBody sHasSz) (defScope sHasSz) .none kVHS dcHS pmHS anHS cdHS ctHS), slHS⟩) (cHS : PySem.W.codeIn K cdHS "_has_sizes" = true) (kHS : PySem.W.keepIn K (.ref fHS) = true)
    (aBR : PySem.W.nsIn K mainGlobals "_bounding_rows" = some (some (.ref fBR))) (lBR : K.lookup fBR = some ⟨ocBR, odBR, .func (PySem.W.fnOf "_bounding_rows" "_bounding_rows" (defArgs sBRows) (defBody sBRows) (defScope sBRows) .none kVBR dcBR pmBR anBR cdBR ctBR), slBR⟩) (cBR : PySem.W.codeIn K cdBR "_bounding_rows" = true) (kBR : PySem.W.keepIn K (.ref fBR) = true)
    (aPP : PySem.W.nsIn K mainGlobals "_pairs" = some (some (.ref fPP))) (lPP : K.lookup fPP = some ⟨ocPP, odPP, .func (PySem.W.fnOf "_pairs" "_pairs" (defArgs sPairs) (defBody sPairs) (defScope sPairs) .none kVPP dcPP pmPP anPP cdPP ctPP), slPP⟩) (cPP : PySem.W.codeIn K cdPP "_pairs" = true) (kPP : PySem.W.keepIn K (.ref fPP) = true)
    (aLV : PySem.W.nsIn K mainGlobals "_leaves_read_out" = some (some (.ref fLV))) (lLV : K.lookup fLV = some ⟨ocLV, odLV, .func (PySem.W.fnOf "_leaves_read_out" "_leaves_read_out" (defArgs sLeavesR) (defBody sLeavesR) (defScope sLeavesR) .none kVLV dcLV pmLV anLV cdLV ctLV), slLV⟩) (cLV : PySem.W.codeIn K cdLV "_leaves_read_out" = true) (kLV : PySem.W.keepIn K (.ref fLV) = true)
    (aLX : PySem.W.nsIn K mainGlobals "_leaves_text_out" = some (some (.ref fLX))) (lLX : K.lookup fLX = some ⟨ocLX, odLX, .func (PySem.W.fnOf "_leaves_text_out" "_leaves_text_out" (defArgs sLeavesT) (defBody sLeavesT) (defScope sLeavesT) .none kVLX dcLX pmLX anLX cdLX ctLX), slLX⟩) (cLX : PySem.W.codeIn K cdLX "_leaves_text_out" = true) (kLX : PySem.W.keepIn K (.ref fLX) = true)
    (aC : PySem.W.nsIn K mainGlobals "_law_cell" = some (some (.ref fC))) (lC : K.lookup fC = some ⟨ocC, odC, .func (PySem.W.fnOf "_law_cell" "_law_cell" (defArgs sCell) (defBody sCell) (defScope sCell) .none kVC dcC pmC anC cdC ctC), slC⟩) (cC : PySem.W.codeIn K cdC "_law_cell" = true) (kC : PySem.W.keepIn K (.ref fC) = true)
    (aR : PySem.W.nsIn K mainGlobals "_law_row" = some (some (.ref fR))) (lR : K.lookup fR = some ⟨ocR, odR, .func (PySem.W.fnOf "_law_row" "_law_row" (defArgs sRow) (defBody sRow) (defScope sRow) .none kVR dcR pmR anR cdR ctR), slR⟩) (cR : PySem.W.codeIn K cdR "_law_row" = true) (kR : PySem.W.keepIn K (.ref fR) = true)
    (aI : PySem.W.nsIn K mainGlobals "_law_integer" = some (some (.ref fI))) (lI : K.lookup fI = some ⟨ocI, odI, .func (PySem.W.fnOf "_law_integer" "_law_integer" (defArgs sInteger) (defBody sInteger) (defScope sInteger) .none kVI dcI pmI anI cdI ctI), slI⟩) (cI : PySem.W.codeIn K cdI "_law_integer" = true) (kI : PySem.W.keepIn K (.ref fI) = true)
    (aT : PySem.W.nsIn K mainGlobals "_law_text" = some (some (.ref fT))) (lT : K.lookup fT = some ⟨ocT, odT, .func (PySem.W.fnOf "_law_text" "_law_text" (defArgs sText) (defBody sText) (defScope sText) .none kVT dcT pmT anT cdT ctT), slT⟩) (cT : PySem.W.codeIn K cdT "_law_text" = true) (kT : PySem.W.keepIn K (.ref fT) = true)
    (aLT : PySem.W.nsIn K mainGlobals "_law_turned" = some (some (.ref fLT))) (lLT : K.lookup fLT = some ⟨ocLT, odLT, .func (PySem.W.fnOf "_law_turned" "_law_turned" (defArgs sLTurned) (defBody sLTurned) (defScope sLTurned) .none kVLT dcLT pmLT anLT cdLT ctLT), slLT⟩) (cLT : PySem.W.codeIn K cdLT "_law_turned" = true) (kLT : PySem.W.keepIn K (.ref fLT) = true)
    (aLR : PySem.W.nsIn K mainGlobals "_law_read" = some (some (.ref fLR))) (lLR : K.lookup fLR = some ⟨ocLR, odLR, .func (PySem.W.fnOf "_law_read" "_law_read" (defArgs sLRead) (defBody sLRead) (defScope sLRead) .none kVLR dcLR pmLR anLR cdLR ctLR), slLR⟩) (cLR : PySem.W.codeIn K cdLR "_law_read" = true) (kLR : PySem.W.keepIn K (.ref fLR) = true)
    (aLA : PySem.W.nsIn K mainGlobals "_law_agree" = some (some (.ref fLA))) (lLA : K.lookup fLA = some ⟨ocLA, odLA, .func (PySem.W.fnOf "_law_agree" "_law_agree" (defArgs sLAgree) (defBody sLAgree) (defScope sLAgree) .none kVLA dcLA pmLA anLA cdLA ctLA), slLA⟩) (cLA : PySem.W.codeIn K cdLA "_law_agree" = true) (kLA : PySem.W.keepIn K (.ref fLA) = true)
    (aLS : PySem.W.nsIn K mainGlobals "_law_least" = some (some (.ref fLS))) (lLS : K.lookup fLS = some ⟨ocLS, odLS, .func (PySem.W.fnOf "_law_least" "_law_least" (defArgs sLeast) (defBody sLeast) (defScope sLeast) .none kVLS dcLS pmLS anLS cdLS ctLS), slLS⟩) (cLS : PySem.W.codeIn K cdLS "_law_least" = true) (kLS : PySem.W.keepIn K (.ref fLS) = true)
    (aLC : PySem.W.nsIn K mainGlobals "_law_costs" = some (some (.ref fLC))) (lLC : K.lookup fLC = some ⟨ocLC, odLC, .func (PySem.W.fnOf "_law_costs" "_law_costs" (defArgs sLCosts) (defBody sLCosts) (defScope sLCosts) .none kVLC dcLC pmLC anLC cdLC ctLC), slLC⟩) (cLC : PySem.W.codeIn K cdLC "_law_costs" = true) (kLC : PySem.W.keepIn K (.ref fLC) = true)
    (aCB : PySem.W.nsIn K mainGlobals "_law_cell_bounds" = some (some (.ref fCB))) (lCB : K.lookup fCB = some ⟨ocCB, odCB, .func (PySem.W.fnOf "_law_cell_bounds" "_law_cell_bounds" (defArgs sCellB) (defBody sCellB) (defScope sCellB) .none kVCB dcCB pmCB anCB cdCB ctCB), slCB⟩) (cCB : PySem.W.codeIn K cdCB "_law_cell_bounds" = true) (kCB : PySem.W.keepIn K (.ref fCB) = true)
    (aJU : PySem.W.nsIn K mainGlobals "_law_judged" = some (some (.ref fJU))) (lJU : K.lookup fJU = some ⟨ocJU, odJU, .func (PySem.W.fnOf "_law_judged" "_law_judged" (defArgs sJudged) (defBody sJudged) (defScope sJudged) .none kVJU dcJU pmJU anJU cdJU ctJU), slJU⟩) (cJU : PySem.W.codeIn K cdJU "_law_judged" = true) (kJU : PySem.W.keepIn K (.ref fJU) = true)
    (aLQ : PySem.W.nsIn K mainGlobals "_law_paper" = some (some (.ref fLQ))) (lLQ : K.lookup fLQ = some ⟨ocLQ, odLQ, .func (PySem.W.fnOf "_law_paper" "_law_paper" (defArgs sLPaper) (defBody sLPaper) (defScope sLPaper) .none kVLQ dcLQ pmLQ anLQ cdLQ ctLQ), slLQ⟩) (cLQ : PySem.W.codeIn K cdLQ "_law_paper" = true) (kLQ : PySem.W.keepIn K (.ref fLQ) = true)
    (aL : PySem.W.nsIn K mainGlobals "law" = some (some (.ref fL))) (lL : K.lookup fL = some ⟨ocL, odL, .func (PySem.W.fnOf "law" "law" (defArgs sLaw) (defBody sLaw) (defScope sLaw) .none kVL dcL pmL anL cdL ctL), slL⟩) (cL : PySem.W.codeIn K cdL "law" = true) (kL : PySem.W.keepIn K (.ref fL) = true)
    (aMN : PySem.W.findIn K (.ref C) "__init__" = some (some (.ref fMN))) (iMN : PySem.W.isFn K (.ref fMN) = true) (lMN : K.lookup fMN = some ⟨ocMN, odMN, .func (PySem.W.fnOf "__init__" "Band.__init__" (defArgs mInit) (defBody mInit) (defScope mInit) .none kVMN dcMN pmMN anMN cdMN ctMN), slMN⟩) (cMN : PySem.W.codeIn K cdMN "Band.__init__" = true) (kMN : PySem.W.keepIn K (.ref fMN) = true)
    (aMC : PySem.W.findIn K (.ref C) "cost" = some (some (.ref fMC))) (iMC : PySem.W.isFn K (.ref fMC) = true) (lMC : K.lookup fMC = some ⟨ocMC, odMC, .func (PySem.W.fnOf "cost" "Band.cost" (defArgs mCost) (defBody mCost) (defScope mCost) .none kVMC dcMC pmMC anMC cdMC ctMC), slMC⟩) (cMC : PySem.W.codeIn K cdMC "Band.cost" = true) (kMC : PySem.W.keepIn K (.ref fMC) = true)
    (aME : PySem.W.findIn K (.ref C) "cell" = some (some (.ref fME))) (iME : PySem.W.isFn K (.ref fME) = true) (lME : K.lookup fME = some ⟨ocME, odME, .func (PySem.W.fnOf "cell" "Band.cell" (defArgs mCell) (defBody mCell) (defScope mCell) .none kVME dcME pmME anME cdME ctME), slME⟩) (cME : PySem.W.codeIn K cdME "Band.cell" = true) (kME : PySem.W.keepIn K (.ref fME) = true)
    (aMT : PySem.W.findIn K (.ref C) "table" = some (some (.ref fMT))) (iMT : PySem.W.isFn K (.ref fMT) = true) (lMT : K.lookup fMT = some ⟨ocMT, odMT, .func (PySem.W.fnOf "table" "Band.table" (defArgs mTable) (defBody mTable) (defScope mTable) .none kVMT dcMT pmMT anMT cdMT ctMT), slMT⟩) (cMT : PySem.W.codeIn K cdMT "Band.table" = true) (kMT : PySem.W.keepIn K (.ref fMT) = true)
    (aMW : PySem.W.findIn K (.ref C) "_whole_row" = some (some (.ref fMW))) (iMW : PySem.W.isFn K (.ref fMW) = true) (lMW : K.lookup fMW = some ⟨ocMW, odMW, .func (PySem.W.fnOf "_whole_row" "Band._whole_row" (defArgs mWhole) (defBody mWhole) (defScope mWhole) .none kVMW dcMW pmMW anMW cdMW ctMW), slMW⟩) (cMW : PySem.W.codeIn K cdMW "Band._whole_row" = true) (kMW : PySem.W.keepIn K (.ref fMW) = true)
    (gC : PySem.W.nsIn K mainGlobals "Band" = some (some (.ref C)))
    (pg : PySem.W.plainGet K C Str.empty = true)
    (hd : PySem.W.hasDictIn K C = true)
    (po : PySem.W.plainOver K C = true)
    (sa : PySem.W.findIn K (.ref C) "__setattr__" = some (some (.builtin "object.__setattr__")))
    (mk : PySem.W.makesIn K C = true)
    (kc : PySem.W.keepIn K (.ref C) = true)
    (u0 : PySem.W.findIn K (.ref C) "_lowest" = some none)
    (u1 : PySem.W.findIn K (.ref C) "_size" = some none)
    (u2 : PySem.W.findIn K (.ref C) "_first" = some none)
    (u3 : PySem.W.findIn K (.ref C) "_rows" = some none)
    (zlen : PySem.W.nsIn K mainGlobals "len" = some none) (zint : PySem.W.nsIn K mainGlobals "int" = some none) (zabs : PySem.W.nsIn K mainGlobals "abs" = some none) (zrange : PySem.W.nsIn K mainGlobals "range" = some none) (zisinstance : PySem.W.nsIn K mainGlobals "isinstance" = some none) (zbool : PySem.W.nsIn K mainGlobals "bool" = some none) (zstr : PySem.W.nsIn K mainGlobals "str" = some none) (zlist : PySem.W.nsIn K mainGlobals "list" = some none) (ztuple : PySem.W.nsIn K mainGlobals "tuple" = some none) (zenumerate : PySem.W.nsIn K mainGlobals "enumerate" = some none) (zmin : PySem.W.nsIn K mainGlobals "min" = some none) (zmax : PySem.W.nsIn K mainGlobals "max" = some none) (zreversed : PySem.W.nsIn K mainGlobals "reversed" = some none) (zall : PySem.W.nsIn K mainGlobals "all" = some none) (zsum : PySem.W.nsIn K mainGlobals "sum" = some none) :
    ∃ fd : FuncData, (∀ (s : Shared) (v : Value), BindsTo s fd ⟨[v], []⟩ [("script", v)]) ∧ ∀ base : Heap, K.In base → base.Ns mainGlobals mg → FnOk l.prog w K mg base CX0 8 fa fd ["script"] (spLaw K) := by
  have e := hfa.symm.trans (PySem.W.mg_of X G aL)
  cases e
  have FA := fun_mk (st := sAgree) lA cA kA
  have FEX := fun_mk (st := sExact) lEX cEX kEX
  have FWI := fun_mk (st := sWide) lWI cWI kWI
  have FNR := fun_mk (st := sNextRow) lNR cNR kNR
  have FPA := fun_mk (st := sPaper) lPA cPA kPA
  have FSH := fun_mk (st := sShown) lSH cSH kSH
  have FHS := fun_mk (st := sHasSz) lHS cHS kHS
  have FBR := fun_mk (st := sBRows) lBR cBR kBR
  have FPP := fun_mk (st := sPairs) lPP cPP kPP
  have FLV := fun_mk (st := sLeavesR) lLV cLV kLV
  have FLX := fun_mk (st := sLeavesT) lLX cLX kLX
  have FC := fun_mk (st := sCell) lC cC kC
  have FR := fun_mk (st := sRow) lR cR kR
  have FI := fun_mk (st := sInteger) lI cI kI
  have FT := fun_mk (st := sText) lT cT kT
  have FLT := fun_mk (st := sLTurned) lLT cLT kLT
  have FLR := fun_mk (st := sLRead) lLR cLR kLR
  have FLA := fun_mk (st := sLAgree) lLA cLA kLA
  have FLS := fun_mk (st := sLeast) lLS cLS kLS
  have FLC := fun_mk (st := sLCosts) lLC cLC kLC
  have FCB := fun_mk (st := sCellB) lCB cCB kCB
  have FJU := fun_mk (st := sJudged) lJU cJU kJU
  have FLQ := fun_mk (st := sLPaper) lLQ cLQ kLQ
  have FL := fun_mk (st := sLaw) lL cL kL
  have FMN := fun_mk (st := mInit) lMN cMN kMN
  have FMC := fun_mk (st := mCost) lMC cMC kMC
  have FME := fun_mk (st := mCell) lME cME kME
  have FMT := fun_mk (st := mTable) lMT cMT kMT
  have FMW := fun_mk (st := mWhole) lMW cMW kMW
  have B : Bl mg := ⟨PySem.W.mg_none_of X G zlen, PySem.W.mg_none_of X G zint, PySem.W.mg_none_of X G zabs, PySem.W.mg_none_of X G zrange, PySem.W.mg_none_of X G zisinstance, PySem.W.mg_none_of X G zbool, PySem.W.mg_none_of X G zstr⟩
  have bA := FA.binds (ps := ["first", "second"]) fun _ _ _ _ _ _ us hl => match us, hl with | [_, _], _ => rfl
  have bEX := FEX.binds (ps := ["read", "text", "low", "high", "costs"]) fun _ _ _ _ _ _ us hl => match us, hl with | [_, _, _, _, _], _ => rfl
  have bWI := FWI.binds (ps := ["band", "many", "low", "high", "costs", "width"]) fun _ _ _ _ _ _ us hl => match us, hl with | [_, _, _, _, _, _], _ => rfl
  have bNR := FNR.binds (ps := ["above", "letter", "others", "costs", "first"]) fun _ _ _ _ _ _ us hl => match us, hl with | [_, _, _, _, _], _ => rfl
  have bC := FC.binds (ps := ["script", "k"]) fun _ _ _ _ _ _ us hl => match us, hl with | [_, _], _ => rfl
  have bR := FR.binds (ps := ["cell", "count", "bound"]) fun _ _ _ _ _ _ us hl => match us, hl with | [_, _, _], _ => rfl
  have bI := FI.binds (ps := ["value"]) fun _ _ _ _ _ _ us hl => match us, hl with | [_], _ => rfl
  have bT := FT.binds (ps := ["cell", "size"]) fun _ _ _ _ _ _ us hl => match us, hl with | [_, _], _ => rfl
  have bLT := FLT.binds (ps := ["text"]) fun _ _ _ _ _ _ us hl => match us, hl with | [_], _ => rfl
  have bLR := FLR.binds (ps := ["cell", "text", "size"]) fun _ _ _ _ _ _ us hl => match us, hl with | [_, _, _], _ => rfl
  have bLA := FLA.binds (ps := ["a", "b"]) fun _ _ _ _ _ _ us hl => match us, hl with | [_, _], _ => rfl
  have bLS := FLS.binds (ps := ["read", "text", "end", "costs"]) fun _ _ _ _ _ _ us hl => match us, hl with | [_, _, _, _], _ => rfl
  have bLC := FLC.binds (ps := ["cell"]) fun _ _ _ _ _ _ us hl => match us, hl with | [_], _ => rfl
  have bMN := FMN.binds (ps := ["self", "read", "text", "low", "high", "costs", "width"]) fun _ _ _ _ _ _ us hl => match us, hl with | [_, _, _, _, _, _, _], _ => rfl
  have bMC := FMC.binds (ps := ["self", "end"]) fun _ _ _ _ _ _ us hl => match us, hl with | [_, _], _ => rfl
  have bME := FME.binds (ps := ["self", "i", "j"]) fun _ _ _ _ _ _ us hl => match us, hl with | [_, _, _], _ => rfl
  have bPA := FPA.binds (ps := ["read", "text", "end", "costs"]) fun _ _ _ _ _ _ us hl => match us, hl with | [_, _, _, _], _ => rfl
  have bCB := FCB.binds (ps := ["p", "q", "r", "i", "j", "w", "open_cost", "each"]) fun _ _ _ _ _ _ us hl => match us, hl with | [_, _, _, _, _, _, _, _], _ => rfl
  have bJU := FJU.binds (ps := ["read", "text", "end", "costs", "told"]) fun _ _ _ _ _ _ us hl => match us, hl with | [_, _, _, _, _], _ => rfl
  have bMT := FMT.binds (ps := ["self", "which", "end"]) fun _ _ _ _ _ _ us hl => match us, hl with | [_, _, _], _ => rfl
  have bMW := FMW.binds (ps := ["self", "i", "which", "end"]) fun _ _ _ _ _ _ us hl => match us, hl with | [_, _, _, _], _ => rfl
  have bSH := FSH.binds (ps := ["read", "text", "end", "costs", "paper"]) fun _ _ _ _ _ _ us hl => match us, hl with | [_, _, _, _, _], _ => rfl
  have bHS := FHS.binds (ps := ["paper", "height", "width"]) fun _ _ _ _ _ _ us hl => match us, hl with | [_, _, _], _ => rfl
  have bBR := FBR.binds (ps := ["paper", "most"]) fun _ _ _ _ _ _ us hl => match us, hl with | [_, _], _ => rfl
  have bPP := FPP.binds (ps := ["above", "row", "weights"]) fun _ _ _ _ _ _ us hl => match us, hl with | [_, _, _], _ => rfl
  have bLV := FLV.binds (ps := ["above", "row", "costs"]) fun _ _ _ _ _ _ us hl => match us, hl with | [_, _, _], _ => rfl
  have bLX := FLX.binds (ps := ["row", "costs"]) fun _ _ _ _ _ _ us hl => match us, hl with | [_, _], _ => rfl
  have bLQ := FLQ.binds (ps := ["read", "text", "end", "costs", "cell"]) fun _ _ _ _ _ _ us hl => match us, hl with | [_, _, _, _, _], _ => rfl
  refine ⟨PySem.W.fnOf "law" "law" (defArgs sLaw) (defBody sLaw) (defScope sLaw) .none kVL dcL pmL anL cdL ctL, fun s v => .of_eq rfl, fun base KX GX => ?_⟩
  have XT : BnT K mg C := ⟨⟨pg, hd, po, sa⟩, u0, u1, u2, u3, PySem.W.mg_of X G gC⟩
  have fin : ∀ base : Heap, FnOk l.prog w K mg base CX0 8 fa _ ["script"] (spLaw K) := fun base =>
    have A1 : Has l.prog w K mg base 1 "agree" ["first", "second"] (spAg) := ⟨fA, _, ok_agree (k := 0) FA, PySem.W.mg_of X G aA, kA, bA⟩
    have A2 : Has l.prog w K mg base 2 "agree" ["first", "second"] (spAg) := ⟨fA, _, ok_agree (k := 1) FA, PySem.W.mg_of X G aA, kA, bA⟩
    have NR2 : Has l.prog w K mg base 2 "_next_row" ["above", "letter", "others", "costs", "first"] (spNextRow K) := ⟨fNR, _, ok_nextRow (k := 0) FNR B.len (PySem.W.mg_none_of X G zmin) (PySem.W.mg_none_of X G zmax) (PySem.W.mg_none_of X G zenumerate) A1, PySem.W.mg_of X G aNR, kNR, bNR⟩
    have IN3 : HasB l.prog w K mg base C 3 := ⟨fMN, _, ⟨mk, aMN, iMN, kc⟩, ok_binit (k := 1) FMN XT B.len (PySem.W.mg_none_of X G zmin) (PySem.W.mg_none_of X G zmax) (PySem.W.mg_none_of X G zenumerate) (PySem.W.mg_none_of X G ztuple) NR2, bMN⟩
    have ME2 : HasM l.prog w K mg base C 2 "cell" ["self", "i", "j"] (spBCell C) := ⟨fME, _, ok_bcell (k := 1) FME XT (PySem.W.mg_none_of X G ztuple), ⟨aME, iME, kME⟩, bME⟩
    have ME3 : HasM l.prog w K mg base C 3 "cell" ["self", "i", "j"] (spBCell C) := ⟨fME, _, ok_bcell (k := 2) FME XT (PySem.W.mg_none_of X G ztuple), ⟨aME, iME, kME⟩, bME⟩
    have MC3 : HasM l.prog w K mg base C 3 "cost" ["self", "end"] (spBCost C) := ⟨fMC, _, ok_bcost (k := 1) FMC XT B.len (PySem.W.mg_none_of X G zmin) ME2, ⟨aMC, iMC, kMC⟩, bMC⟩
    have MC4 : HasM l.prog w K mg base C 4 "cost" ["self", "end"] (spBCost C) := ⟨fMC, _, ok_bcost (k := 2) FMC XT B.len (PySem.W.mg_none_of X G zmin) ME3, ⟨aMC, iMC, kMC⟩, bMC⟩
    have WI4 : Has l.prog w K mg base 4 "_is_wide_enough" ["band", "many", "low", "high", "costs", "width"] (spWide K C) := ⟨fWI, _, ok_wide (k := 2) FWI XT B.range MC3, PySem.W.mg_of X G aWI, kWI, bWI⟩
    have EX5 : Has l.prog w K mg base 5 "exact_band" ["read", "text", "low", "high", "costs"] (spExact K C) := ⟨fEX, _, ok_exact (k := 2) FEX XT B.len IN3 WI4, PySem.W.mg_of X G aEX, kEX, bEX⟩
    have MW4 : HasM l.prog w K mg base C 4 "_whole_row" ["self", "i", "which", "end"] (spBWhole C) := ⟨fMW, _, ok_bwhole (k := 3) FMW XT (PySem.W.mg_none_of X G zmin) (PySem.W.mg_none_of X G zmax), ⟨aMW, iMW, kMW⟩, bMW⟩
    have MT5 : HasM l.prog w K mg base C 5 "table" ["self", "which", "end"] (spBTable C) := ⟨fMT, _, ok_btable (k := 3) FMT XT B.range B.len MW4, ⟨aMT, iMT, kMT⟩, bMT⟩
    have PA6 : Has l.prog w K mg base 6 "paper" ["read", "text", "end", "costs"] (spPaper K) := ⟨fPA, _, ok_paper (k := 4) FPA XT EX5 MT5, PySem.W.mg_of X G aPA, kPA, bPA⟩
    have A3 : Has l.prog w K mg base 3 "agree" ["first", "second"] (spAg) := ⟨fA, _, ok_agree (k := 2) FA, PySem.W.mg_of X G aA, kA, bA⟩
    have HS3 : Has l.prog w K mg base 3 "_has_sizes" ["paper", "height", "width"] (spHasSz K) := ⟨fHS, _, ok_hasSz (k := 2) FHS B.len, PySem.W.mg_of X G aHS, kHS, bHS⟩
    have BR3 : Has l.prog w K mg base 3 "_bounding_rows" ["paper", "most"] (spBRows K) := ⟨fBR, _, ok_bRows (k := 2) FBR B.len B.range, PySem.W.mg_of X G aBR, kBR, bBR⟩
    have PP3 : Has l.prog w K mg base 3 "_pairs" ["above", "row", "weights"] (spPairs) := ⟨fPP, _, ok_pairs (k := 2) FPP (PySem.W.mg_none_of X G zmin) (PySem.W.mg_none_of X G zenumerate), PySem.W.mg_of X G aPP, kPP, bPP⟩
    have LV3 : Has l.prog w K mg base 3 "_leaves_read_out" ["above", "row", "costs"] (spLeavesR K) := ⟨fLV, _, ok_leavesR (k := 2) FLV (PySem.W.mg_none_of X G zmin) (PySem.W.mg_none_of X G zenumerate), PySem.W.mg_of X G aLV, kLV, bLV⟩
    have LX3 : Has l.prog w K mg base 3 "_leaves_text_out" ["row", "costs"] (spLeavesT K) := ⟨fLX, _, ok_leavesT (k := 2) FLX (PySem.W.mg_none_of X G zmin) B.len B.range, PySem.W.mg_of X G aLX, kLX, bLX⟩
    have SH4 : Has l.prog w K mg base 4 "shown" ["read", "text", "end", "costs", "paper"] (spShown K) := ⟨fSH, _, ok_shown (k := 2) FSH B.len (PySem.W.mg_none_of X G zmin) (PySem.W.mg_none_of X G zmax) (PySem.W.mg_none_of X G zsum) (PySem.W.mg_none_of X G zenumerate) A3 HS3 BR3 PP3 LV3 LX3, PySem.W.mg_of X G aSH, kSH, bSH⟩
    have C2 : Has l.prog w K mg base 2 "_law_cell" ["script", "k"] (spCell K) := ⟨fC, _, ok_cell (k := 1) FC B, PySem.W.mg_of X G aC, kC, bC⟩
    have R2 : Has l.prog w K mg base 2 "_law_row" ["cell", "count", "bound"] (spRow K) := ⟨fR, _, ok_row (k := 1) FR B, PySem.W.mg_of X G aR, kR, bR⟩
    have I2 : Has l.prog w K mg base 2 "_law_integer" ["value"] (spInteger) := ⟨fI, _, ok_integer (k := 1) FI B, PySem.W.mg_of X G aI, kI, bI⟩
    have T3 : Has l.prog w K mg base 3 "_law_text" ["cell", "size"] (spText K) := ⟨fT, _, ok_text (k := 1) FT B (ok_row FR B) (PySem.W.mg_of X G aR) kR bR, PySem.W.mg_of X G aT, kT, bT⟩
    have LT2 : Has l.prog w K mg base 2 "_law_turned" ["text"] (spLTurned) := ⟨fLT, _, ok_lturned (k := 1) FLT, PySem.W.mg_of X G aLT, kLT, bLT⟩
    have LR3 : Has l.prog w K mg base 3 "_law_read" ["cell", "text", "size"] (spLRead) := ⟨fLR, _, ok_lread (k := 1) FLR B LT2, PySem.W.mg_of X G aLR, kLR, bLR⟩
    have LA2 : Has l.prog w K mg base 2 "_law_agree" ["a", "b"] (spAg) := ⟨fLA, _, ok_lagree (k := 1) FLA, PySem.W.mg_of X G aLA, kLA, bLA⟩
    have LS3 : Has l.prog w K mg base 3 "_law_least" ["read", "text", "end", "costs"] (spLeast K) := ⟨fLS, _, ok_least (k := 1) FLS B (PySem.W.mg_none_of X G zmin) LA2, PySem.W.mg_of X G aLS, kLS, bLS⟩
    have LC3 : Has l.prog w K mg base 3 "_law_costs" ["cell"] (spLCosts) := ⟨fLC, _, ok_lcosts FLC R2, PySem.W.mg_of X G aLC, kLC, bLC⟩
    have CB2 : Has l.prog w K mg base 2 "_law_cell_bounds" ["p", "q", "r", "i", "j", "w", "open_cost", "each"] (spCellB) := ⟨fCB, _, ok_cellB (k := 1) FCB B, PySem.W.mg_of X G aCB, kCB, bCB⟩
    have J3 : Has l.prog w K mg base 3 "_law_judged" ["read", "text", "end", "costs", "told"] (spJudged K) := ⟨fJU, _, ok_judged (k := 1) FJU B (PySem.W.mg_none_of X G zmin) (PySem.W.mg_none_of X G zall) LA2 CB2, PySem.W.mg_of X G aJU, kJU, bJU⟩
    have LQ7 : Has l.prog w K mg base 7 "_law_paper" ["read", "text", "end", "costs", "cell"] (spLPaper K) := ⟨fLQ, _, ok_lpaper FLQ B (PySem.W.mg_none_of X G zlist) PA6 R2, PySem.W.mg_of X G aLQ, kLQ, bLQ⟩
    ok_law FL B (PySem.W.mg_none_of X G zlist) C2 T3 LR3 I2 LC3 LS3 J3 LQ7 SH4
  exact fin base
end Hr
open PySem PySem.W PyProof.Rows
set_option maxHeartbeats 0 in
theorem PySem.Challenge.cw_homereads_k30_whole_papers_never_show_to_holds : PySem.Challenge.rw_homereads_k30_whole_papers_never_show_to.Holds := by
  w_on; o_law; k_head; (case hw => w_witness2)
  k_fill
  refine L2.walk_of (l := PySem.Challenge.rw_homereads_k30_whole_papers_never_show_to) (n := 63) (k := 8) (x := "script") (CX := fun _ => L2.CX0) (sp := fun w => Hr.spLaw _) rfl (by decide) rfl ⟨rfl, by decide, by decide⟩ (fun w h Y => PySem.W.kIn_of Y) ?F (fun _ _ a ns hl _ hS => ⟨a, ns, rfl, hS, fun _ => rfl⟩) (fun _ _ _ _ _ h => h)
  case F =>
    intro w mg fa h KX G hmg
    refine' Hr.all_mk KX G hmg ?aA ?lA ?cA ?kA ?aEX ?lEX ?cEX ?kEX ?aWI ?lWI ?cWI ?kWI ?aNR ?lNR ?cNR ?kNR ?aPA ?lPA ?cPA ?kPA ?aSH ?lSH ?cSH ?kSH ?aHS ?lHS ?cHS ?kHS ?aBR ?lBR ?cBR ?kBR ?aPP ?lPP ?cPP ?kPP ?aLV ?lLV ?cLV ?kLV ?aLX ?lLX ?cLX ?kLX ?aC ?lC ?cC ?kC ?aR ?lR ?cR ?kR ?aI ?lI ?cI ?kI ?aT ?lT ?cT ?kT ?aLT ?lLT ?cLT ?kLT ?aLR ?lLR ?cLR ?kLR ?aLA ?lLA ?cLA ?kLA ?aLS ?lLS ?cLS ?kLS ?aLC ?lLC ?cLC ?kLC ?aCB ?lCB ?cCB ?kCB ?aJU ?lJU ?cJU ?kJU ?aLQ ?lLQ ?cLQ ?kLQ ?aL ?lL ?cL ?kL ?aMN ?iMN ?lMN ?cMN ?kMN ?aMC ?iMC ?lMC ?cMC ?kMC ?aME ?iME ?lME ?cME ?kME ?aMT ?iMT ?lMT ?cMT ?kMT ?aMW ?iMW ?lMW ?cMW ?kMW ?gC ?pg ?hd ?po ?sa ?mk ?kc ?u0 ?u1 ?u2 ?u3 ?zlen ?zint ?zabs ?zrange ?zisinstance ?zbool ?zstr ?zlist ?ztuple ?zenumerate ?zmin ?zmax ?zreversed ?zall ?zsum
    (case gC => k_is)
    (case aA => k_is)
    (case lA => k_is)
    (case cA => k_is)
    (case kA => k_is)
    (case aEX => k_is)
    (case lEX => k_is)
    (case cEX => k_is)
    (case kEX => k_is)
    (case aWI => k_is)
    (case lWI => k_is)
    (case cWI => k_is)
    (case kWI => k_is)
    (case aNR => k_is)
    (case lNR => k_is)
    (case cNR => k_is)
    (case kNR => k_is)
    (case aPA => k_is)
    (case lPA => k_is)
    (case cPA => k_is)
    (case kPA => k_is)
    (case aSH => k_is)
    (case lSH => k_is)
    (case cSH => k_is)
    (case kSH => k_is)
    (case aHS => k_is)
    (case lHS => k_is)
    (case cHS => k_is)
    (case kHS => k_is)
    (case aBR => k_is)
    (case lBR => k_is)
    (case cBR => k_is)
    (case kBR => k_is)
    (case aPP => k_is)
    (case lPP => k_is)
    (case cPP => k_is)
    (case kPP => k_is)
    (case aLV => k_is)
    (case lLV => k_is)
    (case cLV => k_is)
    (case kLV => k_is)
    (case aLX => k_is)
    (case lLX => k_is)
    (case cLX => k_is)
    (case kLX => k_is)
    (case aC => k_is)
    (case lC => k_is)
    (case cC => k_is)
    (case kC => k_is)
    (case aR => k_is)
    (case lR => k_is)
    (case cR => k_is)
    (case kR => k_is)
    (case aI => k_is)
    (case lI => k_is)
    (case cI => k_is)
    (case kI => k_is)
    (case aT => k_is)
    (case lT => k_is)
    (case cT => k_is)
    (case kT => k_is)
    (case aLT => k_is)
    (case lLT => k_is)
    (case cLT => k_is)
    (case kLT => k_is)
    (case aLR => k_is)
    (case lLR => k_is)
    (case cLR => k_is)
    (case kLR => k_is)
    (case aLA => k_is)
    (case lLA => k_is)
    (case cLA => k_is)
    (case kLA => k_is)
    (case aLS => k_is)
    (case lLS => k_is)
    (case cLS => k_is)
    (case kLS => k_is)
    (case aLC => k_is)
    (case lLC => k_is)
    (case cLC => k_is)
    (case kLC => k_is)
    (case aCB => k_is)
    (case lCB => k_is)
    (case cCB => k_is)
    (case kCB => k_is)
    (case aJU => k_is)
    (case lJU => k_is)
    (case cJU => k_is)
    (case kJU => k_is)
    (case aLQ => k_is)
    (case lLQ => k_is)
    (case cLQ => k_is)
    (case kLQ => k_is)
    (case aL => k_is)
    (case lL => k_is)
    (case cL => k_is)
    (case kL => k_is)
    (case aMN => k_is)
    (case iMN => k_is)
    (case lMN => k_is)
    (case cMN => k_is)
    (case kMN => k_is)
    (case aMC => k_is)
    (case iMC => k_is)
    (case lMC => k_is)
    (case cMC => k_is)
    (case kMC => k_is)
    (case aME => k_is)
    (case iME => k_is)
    (case lME => k_is)
    (case cME => k_is)
    (case kME => k_is)
    (case aMT => k_is)
    (case iMT => k_is)
    (case lMT => k_is)
    (case cMT => k_is)
    (case kMT => k_is)
    (case aMW => k_is)
    (case iMW => k_is)
    (case lMW => k_is)
    (case cMW => k_is)
    (case kMW => k_is)
    (case pg => k_is)
    (case hd => k_is)
    (case po => k_is)
    (case sa => k_is)
    (case mk => k_is)
    (case kc => k_is)
    (case u0 => k_is)
    (case u1 => k_is)
    (case u2 => k_is)
    (case u3 => k_is)
    (case zlen => k_is)
    (case zint => k_is)
    (case zabs => k_is)
    (case zrange => k_is)
    (case zisinstance => k_is)
    (case zbool => k_is)
    (case zstr => k_is)
    (case zlist => k_is)
    (case ztuple => k_is)
    (case zenumerate => k_is)
    (case zmin => k_is)
    (case zmax => k_is)
    (case zreversed => k_is)
    (case zall => k_is)
    (case zsum => k_is)
