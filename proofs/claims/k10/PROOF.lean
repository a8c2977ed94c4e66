import PyProof.Rows.All
import Wide.All
import OpenK.AllK
import Wide.FinOn
import HandS.Base
import HandS.Call
import HandS.List
import HandS.Comp
import HandS.Ends
import HandS.Dict
import HandS.Iter
import HandS.Text
import HandS.Words
import HandS.WordsList
import HandS.More
import HandS.Codes
import HandS.Replace
import HandS.IsInst
import HandS.ExcInit
import HandS.WordsExc
import HandS.Exc
import HandS.TryOnly
import HandS.ExcOwn
import KE.SortKeyHeap
import HandS.Lambda
import HandS.Nested
import HandS.SortKw
import HandS.EndTab
import HandS.SetFor
import HandS.Strs
import HandS.SortInts
import HandS.Zip
import HandS.DictComp
import KE.GoesEnumKw
import KE.OsSetLaws
import HandS.MakeKwOnly
import HandS.Defaults
import HandS.RevRange
import HandS.WideBits
import HandS.Conv
import KE.KDictList
import HandS.Rev
import HandS.ReplaceLit
import HandS.RaiseMore
import KE.GoesMore
import HandS.FStr
import HandS.StrMore
import PySem.Challenge.RW_homereads_k10_packed_texts
set_option Elab.async false
set_option linter.all false
set_option maxRecDepth 100000
set_option maxHeartbeats 4000000
namespace Hr
open PySem PySem.Spec PyProof.Rows L2
/-! ### the text -/
def topS (i : Nat) : Stmt := PySem.Challenge.pw_homereads_k10_packed_texts.main.body.getD i (.Pass ⟨0, 0, 0, 0⟩)
abbrev sNumB : Stmt := topS 1
abbrev sNumAt : Stmt := topS 2
abbrev sPack : Stmt := topS 12
abbrev sUnpack : Stmt := topS 13
abbrev sRunsOf : Stmt := topS 14
abbrev sLetB : Stmt := topS 15
abbrev sCoded : Stmt := topS 16
abbrev sTRuns : Stmt := topS 17
abbrev sCheckZ : Stmt := topS 18
abbrev sCell : Stmt := topS 20
abbrev sRow : Stmt := topS 21
abbrev sLetters : Stmt := topS 22
abbrev sText : Stmt := topS 23
abbrev sInteger : Stmt := topS 24
abbrev sIntegers : Stmt := topS 25
abbrev sBytes : Stmt := topS 26
abbrev sNumber : Stmt := topS 27
abbrev sPacked : Stmt := topS 28
abbrev sLong : Stmt := topS 29
abbrev sLaw : Stmt := topS 30
theorem scCell : FnScope ["script", "k"] ["script", "k"] (defScope sCell) := ⟨rfl, rfl, rfl, by decide +kernel, rfl, by decide +kernel, by decide +kernel⟩
theorem scRow : FnScope ["cell", "count", "bound", "rest", "mixed", "row", "k"] ["cell", "count", "bound"] (defScope sRow) := ⟨rfl, rfl, rfl, by decide +kernel, rfl, by decide +kernel, by decide +kernel⟩
theorem scInteger : FnScope ["value"] ["value"] (defScope sInteger) := ⟨rfl, rfl, rfl, by decide +kernel, rfl, by decide +kernel, by decide +kernel⟩
/-! ### walks of a known number of turns -/
theorem for_gen {J : It} {n : Nat} {g : TG} {tb : TS} {D : Ends} {σ : L2.St} {H : Hp} (Pv : Nat → L2.St → Hp → Prop) (h0 : Pv 0 σ H) (hgo : ∀ i σ H, i < n → Pv i σ H → J.go i H) (hstop : ∀ σ H, Pv n σ H → J.stop n H)
    (hs : ∀ i σ H x H', i < n → Pv i σ H → J.yld i H x H' → g x σ H' fun σ2 H2 => tb { D with nx := Pv (i + 1), ct := Pv (i + 1), bk := D.nx } σ2 H2) (hd : ∀ σ H, Pv n σ H → D.nx σ H) :
    ∃ W : Nat → Nat → L2.St → Hp → Prop, (∃ m, W 0 m σ H) ∧ ∀ i m σ H, W i m σ H →
      (J.stop i H ∧ D.nx σ H) ∨ (J.go i H ∧ ∃ N : L2.St → Hp → Prop, (∀ σ' H', N σ' H' → ∃ m', m' < m ∧ W (i + 1) m' σ' H') ∧ ∀ x H', J.yld i H x H' → g x σ H' fun σ2 H2 => tb { D with nx := N, ct := N, bk := D.nx } σ2 H2) := by
  refine ⟨fun i m σ H => i + m = n ∧ Pv i σ H, ⟨n, Nat.zero_add n, h0⟩, fun i m σ H hw => ?_⟩
  obtain ⟨em, p⟩ := hw
  cases m with
  | zero =>
    obtain rfl : i = n := em
    exact .inl ⟨hstop σ H p, hd σ H p⟩
  | succ m =>
    have lt : i < n := by omega
    exact .inr ⟨hgo i σ H lt p, Pv (i + 1), fun σ' H' p' => ⟨m, Nat.lt_succ_self m, by omega, p'⟩, fun x H' y => hs i σ H x H' lt p y⟩
theorem lc_gen {J : It} {n : Nat} {g : TG} {tt : TT} {te : TE} {vs : List Nat} {σ : L2.St} {H1 : Hp} {D : Addr} {Qd : Hp → Prop} (Pv : Nat → Hp → Prop) (h0 : Pv 0 (upd H1 D (.lst []))) (hgo : ∀ i H, i < n → Pv i H → J.go i H) (hstop : ∀ H, Pv n H → J.stop n H)
    (hs : ∀ i H x H', i < n → Pv i H → J.yld i H x H' → g x (wipe σ vs) H' fun σ2 H2 => wipe σ2 vs = wipe σ vs ∧ tt σ2 H2 fun b H3 =>
      if b = true then te σ2 H3 fun y H4 => ∃ acc, H4 D = some (.lst acc) ∧ acc.length < sizeLine ∧ Pv (i + 1) (upd H4 D (.lst (acc ++ [y]))) else Pv (i + 1) H3) (hd : ∀ H, Pv n H → Qd H) :
    ∃ W : Nat → Nat → Hp → Prop, (∃ m, W 0 m (upd H1 D (.lst []))) ∧ ∀ i m H, W i m H →
      (J.stop i H ∧ Qd H) ∨ (J.go i H ∧ ∃ Nx : Hp → Prop, (∀ H', Nx H' → ∃ m', m' < m ∧ W (i + 1) m' H') ∧ ∀ x H', J.yld i H x H' → g x (wipe σ vs) H' fun σ2 H2 => wipe σ2 vs = wipe σ vs ∧ tt σ2 H2 fun b H3 =>
        if b = true then te σ2 H3 fun y H4 => ∃ acc, H4 D = some (.lst acc) ∧ acc.length < sizeLine ∧ Nx (upd H4 D (.lst (acc ++ [y]))) else Nx H3) := by
  refine ⟨fun i m H => i + m = n ∧ Pv i H, ⟨n, Nat.zero_add n, h0⟩, fun i m H hw => ?_⟩
  obtain ⟨em, p⟩ := hw
  cases m with
  | zero =>
    obtain rfl : i = n := em
    exact .inl ⟨hstop H p, hd H p⟩
  | succ m =>
    have lt : i < n := by omega
    exact .inr ⟨hgo i H lt p, Pv (i + 1), fun H' p' => ⟨m, Nat.lt_succ_self m, by omega, p'⟩, fun x H' y => hs i H x H' lt p y⟩
/-- a loop over a text's signs -/
theorem for_str {z : Str} {g : TG} {tb : TS} {D : Ends} {σ : L2.St} {H : Hp} (Pv : Nat → L2.St → Hp → Prop) (h0 : Pv 0 σ H)
    (hs : ∀ i c σ H, z.cps[i]? = some c → Pv i σ H → g (.str ⟨#[c]⟩) σ H fun σ2 H2 => tb { D with nx := Pv (i + 1), ct := Pv (i + 1), bk := D.nx } σ2 H2) (hd : ∀ σ H, Pv z.cps.size σ H → D.nx σ H) :
    ∃ W : Nat → Nat → L2.St → Hp → Prop, (∃ m, W 0 m σ H) ∧ ∀ i m σ H, W i m σ H →
      ((Its z).stop i H ∧ D.nx σ H) ∨ ((Its z).go i H ∧ ∃ N : L2.St → Hp → Prop, (∀ σ' H', N σ' H' → ∃ m', m' < m ∧ W (i + 1) m' σ' H') ∧ ∀ x H', (Its z).yld i H x H' → g x σ H' fun σ2 H2 => tb { D with nx := N, ct := N, bk := D.nx } σ2 H2) :=
  for_gen (J := Its z) (n := z.cps.size) Pv h0 (fun i σ H hi _ => hi) (fun σ H _ => Nat.le_refl _) (fun i σ H x H' hi p y => by
    obtain ⟨e, c, hc, ex⟩ := y
    subst e
    subst ex
    exact hs i c σ _ hc p) hd
/-! ### texts by lists -/
def T (l : List Nat) : Str := ⟨l.toArray⟩
theorem T_len (l : List Nat) : (T l).length = l.length := by
  show l.toArray.size = l.length
  simp
theorem T_size (l : List Nat) : (T l).cps.size = l.length := by
  show l.toArray.size = l.length
  simp
theorem T_list (l : List Nat) : (T l).cps.toList = l := rfl
theorem T_at (l : List Nat) (i : Nat) : (T l).cps[i]? = l[i]? := by
  show l.toArray[i]? = l[i]?
  simp
theorem T_app (a b : List Nat) : T a ++ T b = T (a ++ b) := by
  show Str.mk (a.toArray ++ b.toArray) = Str.mk (a ++ b).toArray
  simp
theorem T_inj {a b : List Nat} (h : T a = T b) : a = b := by
  have e : (T a).cps.toList = (T b).cps.toList := by rw [h]
  exact e
theorem T_nil : (Str.ofString "" : Str) = T [] := by decide +kernel
def Sg (c : Nat) : Prop := c = 65 ∨ c = 67 ∨ c = 71 ∨ c = 84 ∨ c = 78
def Dna (l : List Nat) : Prop := ∀ c ∈ l, Sg c
theorem Dna.app {a b : List Nat} (h : Dna a) (k : Dna b) : Dna (a ++ b) := fun c hc => by
  rcases List.mem_append.mp hc with q | q
  · exact h c q
  · exact k c q
theorem Dna.one {c : Nat} (h : Sg c) : Dna [c] := fun d hd => by
  obtain rfl : d = c := by simpa using hd
  exact h
theorem line_ok {n : Nat} (h : n ≤ 100000) : n ≤ sizeLine := by
  rw [sizeLine_eq]
  omega
theorem line_lt {n : Nat} (h : n ≤ 100000) : n < sizeLine := by
  rw [sizeLine_eq]
  omega
theorem same_upd {H : Hp} {p : Addr} {o : HO} (h : H p = none) : Same H (upd H p o) := fun b x e => by
  rw [upd_ne (ne_of_none e h)]
  exact e
theorem upd_upd {H : Hp} {p : Addr} {o o' : HO} : upd (upd H p o) p o' = upd H p o' := by
  funext b
  by_cases e : b = p
  · rw [e, upd_same, upd_same]
  · rw [upd_ne e, upd_ne e, upd_ne e]
/-! ### names that are still the built-in ones -/
structure Bl (mg : Str → Option Value) : Prop where
  len : mg "len" = none
  int : mg "int" = none
  abs : mg "abs" = none
  range : mg "range" = none
  isin : mg "isinstance" = none
  bool : mg "bool" = none
  str : mg "str" = none
section
variable {P : Program} {w : World} {K : PySem.W.Frag} {mg : Str → Option Value} {base : Heap}
/-! ### _law_cell -/
def spCell (K : PySem.W.Frag) : Sp := fun vs H Q _ => ∃ (a : Addr) (ns : List Int) (k : Nat), vs = [.ref a, .int (k : Int)] ∧ SqL K H a (ns.map V.int) ∧ ∀ x : Int, Q (.int x) H
theorem ok_cell {f : Addr} {fd : FuncData} {k : Nat} (F : Fun K "_law_cell" "_law_cell" sCell f fd) (B : Bl mg) : FnOk P w K mg base CX0 (k + 1) f fd ["script", "k"] (spCell K) := by
  refine F.ok scCell (fun vs H Q E h => ?_) (fun cdv A outer s H vs Q E hr h => ?_)
  · obtain ⟨a, ns, j, rfl, _⟩ := h
    rfl
  · obtain ⟨a, ns, j, rfl, hS, q⟩ := h
    refine ⟨_, pss_cons (ps_if (pt_cmpR op_lt (pv 1) (pe_callB call_len_seq (by rfl) B.len PySem.boot_len (pa_cons (pv 0) pa_nil)) (nomark _))
        (pss_one (ps_ret (pe_callTy call_int1 (by rfl) B.int (by decide +kernel) (pa_cons (pe_ix ix_list (pv 0) (pv 1) (fun _ _ => rfl)) pa_nil)))) pss_nil)
      (pss_one (ps_ret pe_int)), ?_⟩
    refine ⟨.int j, rfl, .ref a, rfl, a, ns.map V.int, rfl, .inl hS, j, _, rfl, rfl, _, rfl, ite2 (fun e => ?_) (fun e => q 0)⟩
    have h1 : (j : Int) < ((ns.map V.int).length : Int) := of_decide_eq_true e
    have h2 : j < ns.length := by
      rw [List.length_map] at h1
      omega
    have g1 : (ns.map V.int)[j]? = some (.int ns[j]) := by
      rw [List.getElem?_map, List.getElem?_eq_getElem h2]
      rfl
    exact ⟨.ref a, rfl, .int j, rfl, a, _, j, .int ns[j], rfl, rfl, hS, atI_nat g1, .inl ⟨_, rfl, q _⟩⟩
/-! ### _law_row -/
def spRow (K : PySem.W.Frag) : Sp := fun vs H Q _ => ∃ (c n b : Int), vs = [.int c, .int n, .int b] ∧ 0 ≤ n ∧ n ≤ 100000 ∧ 1 < b ∧ b ≤ 1000000001 ∧
  ∀ (H' : Hp) (p : Addr) (xs : List Int), Same H H' → H p = none → H' p = some (.lst (xs.map V.int)) → xs.length = n.toNat → (∀ x ∈ xs, 0 ≤ x ∧ x < b) → Q (.ref p) H'
theorem ok_row {f : Addr} {fd : FuncData} {k : Nat} (F : Fun K "_law_row" "_law_row" sRow f fd) (B : Bl mg) : FnOk P w K mg base CX0 (k + 1) f fd ["cell", "count", "bound"] (spRow K) := by
  refine F.ok scRow (fun vs H Q E h => ?_) (fun cdv A outer s H vs Q E hr h => ?_)
  · obtain ⟨c, n, b, rfl, _⟩ := h
    rfl
  · obtain ⟨c, n, b, rfl, hn0, hn, hb1, hb2, q⟩ := h
    refine ⟨_, pss_cons (ps_set (i := 3) scRow.nd rfl (.inl rfl) (pe_callB call_abs (by rfl) B.abs (by decide +kernel) (pa_cons (pe_callTy call_int1 (by rfl) B.int (by decide +kernel) (pa_cons (pv 0) pa_nil)) pa_nil)))
      (pss_cons (ps_set (i := 4) scRow.nd rfl (.inl rfl) (pe_op op_add (pe_op op_mod (pe_callTy call_int1 (by rfl) B.int (by decide +kernel) (pa_cons (pv 0) pa_nil)) pe_int) pe_int))
      (pss_cons (ps_set (i := 5) scRow.nd rfl (.inl rfl) (pe_lst pa_nil))
      (pss_cons (ps_for PassesOwn.never rfl (pi_range1 rfl B.range (pa_cons (pv 1) pa_nil)) (pg_name (i := 6) scRow.nd rfl (.inl rfl))
        (pss_one (ps_if (pt_cmpR op_ge (pv 3) (pv 2) (nomark _))
          (pss_cons (ps_expr (pe_bm PySem.F.plainAttrs_list PySem.F.slot_list_append PySem.F.type_list_append mt_append (pv 5) (pa_cons (pe_op op_mod (pe_callTy call_int1 (by rfl) B.int (by decide +kernel) (pa_cons (pv 3) pa_nil)) (pv 2)) pa_nil)))
            (pss_one (ps_set (i := 3) scRow.nd rfl (.inl rfl) (pe_op op_fdiv (pv 3) (pv 2)))))
          (pss_cons (ps_set (i := 4) scRow.nd rfl (.inl rfl) (pe_op op_mod (pe_callTy call_int1 (by rfl) B.int (by decide +kernel) (pa_cons (pe_op op_add (pe_op op_add (pe_op op_mul (pv 4) pe_int) (pe_op op_mul pe_int (pv 6))) pe_int) pa_nil)) pe_int))
            (pss_one (ps_expr (pe_bm PySem.F.plainAttrs_list PySem.F.slot_list_append PySem.F.type_list_append mt_append (pv 5) (pa_cons (pe_op op_mod (pe_callTy call_int1 (by rfl) B.int (by decide +kernel) (pa_cons (pe_op op_fdiv (pe_op op_mul (pv 4) pe_int) pe_int) pa_nil)) (pv 2)) pa_nil))))))))
      (pss_one (ps_ret (pv 5)))))), ?_⟩
    refine ⟨.int c, rfl, .inl ⟨c, rfl, c, rfl, ?_⟩⟩
    refine ⟨.int c, rfl, .inl ⟨c, rfl, c, 1000003, rfl, rfl, (show (0 : Int) < 1000003 by decide), _, _, rfl, rfl, ?_⟩⟩
    refine ⟨Nat.zero_le _, fun p hp => ?_⟩
    refine ⟨.int n, rfl, n, rfl, by omega, by omega, ?_⟩
    refine for_range (lo := 0) (n := n.toNat) (fun i σ H' => ∃ (r m : Int) (kv : Option V) (xs : List Int), σ = [some (.int c), some (.int n), some (.int b), some (.int r), some (.int m), some (.ref p), kv] ∧ 0 ≤ m ∧ m < 4294967296 ∧ Same H H' ∧
      H' p = some (.lst (xs.map V.int)) ∧ xs.length = i ∧ ∀ x ∈ xs, 0 ≤ x ∧ x < b) ?_ ?_ ?_
    · refine ⟨_, _, none, [], rfl, ?_, ?_, same_upd hp, upd_same, rfl, fun x hx => by cases hx⟩
      · have := Int.emod_nonneg c (show (1000003 : Int) ≠ 0 by decide)
        omega
      · have := Int.emod_lt_of_pos c (show (0 : Int) < 1000003 by decide)
        omega
    · rintro i σ H' hi ⟨r, m, kv, xs, rfl, hm0, hm1, sm, hx, hl, hall⟩
      have grow : ∀ (y : Int) (τ : L2.St) (r' m' : Int), 0 ≤ y → y < b → 0 ≤ m' → m' < 4294967296 → τ = [some (.int c), some (.int n), some (.int b), some (.int r'), some (.int m'), some (.ref p), some (.int (0 + (i : Nat)))] →
          ∃ (r m : Int) (kv : Option V) (zs : List Int), τ = [some (.int c), some (.int n), some (.int b), some (.int r), some (.int m), some (.ref p), kv] ∧ 0 ≤ m ∧ m < 4294967296 ∧ Same H (upd H' p (.lst (xs.map V.int ++ [.int y]))) ∧
          (upd H' p (.lst (xs.map V.int ++ [.int y]))) p = some (.lst (zs.map V.int)) ∧ zs.length = i + 1 ∧ ∀ x ∈ zs, 0 ≤ x ∧ x < b := by
        intro y τ r' m' y0 y1 h0 h1 e
        refine ⟨r', m', _, xs ++ [y], e, h0, h1, fun q o k => ?_, ?_, ?_, ?_⟩
        · rw [upd_ne (ne_of_none k hp)]
          exact sm q o k
        · rw [upd_same, List.map_append]
          rfl
        · rw [List.length_append, hl]
          rfl
        · intro x hxm
          rcases List.mem_append.mp hxm with z | z
          · exact hall x z
          · obtain rfl : x = y := by simpa using z
            exact ⟨y0, y1⟩
      have hsz : (xs.map V.int).length < sizeLine := line_lt (by rw [List.length_map]; omega)
      refine ⟨.int r, rfl, .int b, rfl, r, b, rfl, rfl, _, rfl, ite2 (fun e => ?_) (fun e => ?_)⟩
      · refine ⟨.ref p, rfl, .inl ⟨rfl, _, .inl (.inl hx)⟩, .int r, rfl, .inl ⟨r, rfl, .int b, rfl, r, b, rfl, rfl, (show 0 < b by omega), p, _, _, rfl, rfl, hx, hsz, ?_⟩⟩
        refine ⟨.int r, rfl, .int b, rfl, r, b, rfl, rfl, ⟨by omega, by omega⟩, ?_⟩
        exact grow _ _ (r / b) m (Int.emod_nonneg r (by omega)) (Int.emod_lt_of_pos r (by omega)) hm0 hm1 rfl
      · refine ⟨.int m, rfl, m, 48271, rfl, rfl, .inl ⟨by omega, by omega⟩, .int (0 + (i : Nat)), rfl, 11, _, rfl, rfl, .inl ⟨by decide, by decide⟩, _, _, rfl, rfl, _, _, rfl, rfl, .inl ⟨_, rfl, _, 2147483647, rfl, rfl, (show (0 : Int) < 2147483647 by decide), ?_⟩⟩
        have b0 : 0 ≤ (m * 48271 + 11 * (0 + ((i : Nat) : Int)) + 7) % 2147483647 := Int.emod_nonneg _ (by decide)
        have b1 : (m * 48271 + 11 * (0 + ((i : Nat) : Int)) + 7) % 2147483647 < 2147483647 := Int.emod_lt_of_pos _ (by decide)
        refine ⟨.ref p, rfl, .inl ⟨rfl, _, .inl (.inl hx)⟩, _, rfl, (m * 48271 + 11 * (0 + ((i : Nat) : Int)) + 7) % 2147483647, 2862933555777941757, rfl, rfl, .inl ⟨by omega, by omega⟩, _, 1024, rfl, rfl, ⟨by decide, by decide⟩, .inl ⟨_, rfl, .int b, rfl, _, b, rfl, rfl, (show 0 < b by omega), p, _, _, rfl, rfl, hx, hsz, ?_⟩⟩
        exact grow _ _ r ((m * 48271 + 11 * (0 + ((i : Nat) : Int)) + 7) % 2147483647) (Int.emod_nonneg _ (by omega)) (Int.emod_lt_of_pos _ (by omega)) b0 (by omega) rfl
    · rintro σ H' ⟨r, m, kv, xs, rfl, hm0, hm1, sm, hx, hl, hall⟩
      exact ⟨.ref p, rfl, q H' p xs sm hp hx hl hall⟩
/-! ### _law_integer -/
def spInteger : Sp := fun vs H Q _ => ∃ i : Int, vs = [.int i] ∧ Q (.bl true) H
theorem ok_integer {f : Addr} {fd : FuncData} {k : Nat} (F : Fun K "_law_integer" "_law_integer" sInteger f fd) (B : Bl mg) : FnOk P w K mg base CX0 (k + 1) f fd ["value"] spInteger := by
  refine F.ok scInteger (fun vs H Q E h => ?_) (fun cdv A outer s H vs Q E hr h => ?_)
  · obtain ⟨i, rfl, _⟩ := h
    rfl
  · obtain ⟨i, rfl, q⟩ := h
    refine ⟨_, pss_one (ps_ret (pe_and (pe_callB call_isi (by rfl) B.isin (by decide +kernel) (pa_cons (pv 0) (pa_cons (pe_bltn (v := .ty "int") (by rfl) B.int (by decide +kernel) rfl) pa_nil)))
      (pe_one (pe_not (pe_callB call_isi (by rfl) B.isin (by decide +kernel) (pa_cons (pv 0) (pa_cons (pe_bltn (v := .ty "bool") (by rfl) B.bool (by decide +kernel) rfl) pa_nil))))))), ?_⟩
    refine ⟨.int i, rfl, .int i, .ty "int", _, _, true, rfl, .ty _, .base (.int i), kit_ty (by decide +kernel), true, rfl, iteT ?_⟩
    exact ⟨.int i, rfl, .int i, .ty "bool", _, _, false, rfl, .ty _, .base (.int i), kit_ty (by decide +kernel), false, rfl, q⟩
end
theorem line_ok6 {n : Nat} (h : n ≤ 1000000) : n ≤ sizeLine := by
  rw [sizeLine_eq]
  omega
theorem line_ok7 {n : Nat} (h : n ≤ 10000000) : n ≤ sizeLine := by
  rw [sizeLine_eq]
  omega
theorem new_ne {H : Hp} {p q : Addr} {o : HO} (h : upd H p o q = none) : q ≠ p := fun e => by
  rw [e, upd_same] at h
  cases h
theorem new_old {H : Hp} {p q : Addr} {o : HO} (h : upd H p o q = none) : H q = none := by
  rw [upd_ne (new_ne h)] at h
  exact h
theorem cell_arg2 (a : Addr) (c d i : Nat) : [V.ref a, V.int ((c : Int) + (d : Int) * (0 + ((i : Nat) : Int)))] = [V.ref a, V.int ((c + d * i : Nat) : Int)] := by
  congr 2
  rw [Int.zero_add]
  simp
theorem cell_arg3 (a : Addr) (d i : Nat) : [V.ref a, V.int ((d : Int) * (0 + ((i : Nat) : Int)))] = [V.ref a, V.int ((d * i : Nat) : Int)] := by
  congr 2
  rw [Int.zero_add]
  simp
theorem cell_arg4 (a : Addr) (c d i : Nat) : [V.ref a, V.int ((d : Int) * (0 + ((i : Nat) : Int)) + (c : Int))] = [V.ref a, V.int ((d * i + c : Nat) : Int)] := by
  congr 2
  rw [Int.zero_add]
  simp
theorem map_int_at {ns : List Int} {i : Nat} (h : i < ns.length) : (ns.map V.int)[i]? = some (.int ns[i]) := by
  rw [List.getElem?_map, List.getElem?_eq_getElem h]
  rfl
def rFind : V → List V → Hp → VK → Prop := fun x xs H Q => ∃ a b, x = .str a ∧ xs = [.str b] ∧ Q (.int (Txt.find a b)) H
def rMaxP : List V → Hp → VK → Prop := fun xs H Q => ∃ i j, xs = [.int i, .int j] ∧ Q (.int (if j > i then j else i)) H
/-! ### lists of ints as data -/
abbrev LI (ns : List Int) : HO := .lst (ns.map V.int)
theorem LI_snoc (l : List Int) (x : Int) : LI (l ++ [x]) = .lst (l.map V.int ++ [.int x]) := by
  show HO.lst ((l ++ [x]).map V.int) = _
  rw [List.map_append]
  rfl
def dI (ns : List Int) : PyData := .list (ns.map .int)
theorem can_ints (ns : List Int) : PyData.canLayAll0 (ns.map .int) = true := by
  induction ns with
  | nil => rfl
  | cons n r ih => exact ih
theorem depth_intsD (ns : List Int) : PyData.depthAll (ns.map .int) = 0 := by
  induction ns with
  | nil => rfl
  | cons n r ih =>
    show max 0 (PyData.depthAll (r.map .int)) = 0
    rw [ih]
    rfl
theorem shaped_dI (ns : List Int) : SeqAt.shaped (dI ns) = true := by
  unfold SeqAt.shaped
  have e1 : (dI ns).canLay0 = true := can_ints ns
  have e2 : PyData.depth (dI ns) ≤ 64 := by
    show PyData.depthAll (ns.map .int) + 1 ≤ 64
    rw [depth_intsD]
    decide
  rw [e1, decide_eq_true e2]
  rfl
theorem dp_ints {K : PySem.W.Frag} {H : Hp} : ∀ ns : List Int, DpAll K H (ns.map V.int) (ns.map .int)
  | [] => .nil
  | n :: r => .cons (.int n) (dp_ints r)
theorem dp_dI {K : PySem.W.Frag} {H : Hp} {a : Addr} {ns : List Int} (h : SqL K H a (ns.map V.int)) : Dp K H (.ref a) (dI ns) := .lst h (dp_ints ns)
theorem eqv_ints (ns : List Int) : PyData.eqv (dI ns) (dI ns) = true := SeqAt.eqv_refl _ (can_ints ns)
theorem cutV_to (xs : List V) (k : Nat) : L2.cutV xs none (some (k : Int)) = xs.take k := by
  unfold L2.cutV
  rw [HT.sIx_none, HT.sIx_nat, List.drop_zero, Nat.sub_zero]
  by_cases h : k ≤ xs.length
  · rw [Nat.min_eq_left h]
  · rw [Nat.min_eq_right (by omega), List.take_of_length_le (Nat.le_refl _), List.take_of_length_le (by omega)]
theorem cutV_from (xs : List V) (k : Nat) : L2.cutV xs (some (k : Int)) none = xs.drop k := by
  unfold L2.cutV
  rw [HT.sIx_none, HT.sIx_nat]
  by_cases h : k ≤ xs.length
  · rw [Nat.min_eq_left h, List.take_of_length_le (by rw [List.length_drop]; omega)]
  · rw [Nat.min_eq_right (by omega), List.drop_of_length_le (Nat.le_refl _), List.drop_of_length_le (by omega), List.take_nil]
theorem ix_set {xs : List V} {i : Int} {j : Nat} (e : i = (j : Int)) (h : j < xs.length) : ixN xs.length i = some j := by
  rw [e]
  unfold ixN
  rw [if_pos (by omega), if_pos (by omega)]
  rfl
/-- a def of the module that keeps a promise -/
def Has (P : Program) (w : World) (K : PySem.W.Frag) (mg : Str → Option Value) (base : Heap) (k : Nat) (x : Str) (ps : List Str) (sp : Sp) : Prop :=
  ∃ f fd, FnOk P w K mg base CX0 k f fd ps sp ∧ mg x = some (.ref f) ∧ PySem.W.keepIn K (.ref f) = true ∧ Binds K fd ps []
/-- lists of bytes -/
def Byt (l : List Int) : Prop := ∀ x ∈ l, 0 ≤ x ∧ x < 256
theorem Byt.app {a b : List Int} (h : Byt a) (k : Byt b) : Byt (a ++ b) := fun x hx => by
  rcases List.mem_append.mp hx with z | z
  · exact h x z
  · exact k x z
theorem Byt.take {a : List Int} (h : Byt a) (n : Nat) : Byt (a.take n) := fun x hx => h x (List.mem_of_mem_take hx)
theorem Byt.rep {a : List Int} (h : Byt a) (n : Nat) : Byt (List.replicate n a).flatten := fun x hx => by
  obtain ⟨z, hz1, hz2⟩ := List.mem_flatten.mp hx
  rw [List.eq_of_mem_replicate hz1] at hz2
  exact h x hz2
theorem rep_map {α β : Type} (f : α → β) (n : Nat) (l : List α) : (List.replicate n (l.map f)).flatten = (List.replicate n l).flatten.map f := by
  rw [List.map_flatten, List.map_replicate]
theorem rep_len {α : Type} (n : Nat) (l : List α) : (List.replicate n l).flatten.length = n * l.length := by simp
theorem join_ones : ∀ l : List Nat, Str.join (T []) (l.map fun c => T [c]) = T l
  | [] => rfl
  | [c] => rfl
  | c :: e :: r => by
    have ih := join_ones (e :: r)
    show T [c] ++ T [] ++ Str.join (T []) ((e :: r).map fun c => T [c]) = _
    rw [ih, T_app, T_app]
    rfl
theorem sum_ones (l : List Nat) : ((l.map fun c => T [c]).map (·.length)).sum = l.length := by
  induction l with
  | nil => rfl
  | cons c r ih =>
    rw [List.map_cons, List.map_cons, List.sum_cons, ih, T_len, List.length_cons]
    show 1 + r.length = r.length + 1
    omega
section
variable {X : Cx}
theorem fold_app : ∀ (n : Nat) (z acc : Array Nat), (List.replicate n z).foldl (· ++ ·) acc = acc ++ ((List.replicate n z.toList).flatten).toArray
  | 0, z, acc => by simp
  | n + 1, z, acc => by
    rw [List.replicate_succ, List.foldl_cons, fold_app n z (acc ++ z), List.replicate_succ, List.flatten_cons]
    apply Array.toList_inj.mp
    simp
theorem mul_T (l : List Nat) (n : Int) (h0 : 0 ≤ n) : Txt.mul (T l) n = T (List.replicate n.toNat l).flatten := by
  unfold Txt.mul
  by_cases h1 : n < 1
  · rw [if_pos h1, show n.toNat = 0 by omega]
    exact T_nil
  · rw [if_neg h1]
    by_cases h2 : (n == 1 || (T l).length == 0) = true
    · rw [if_pos h2]
      rw [T_len] at h2
      rcases (Bool.or_eq_true _ _).mp h2 with z | z
      · have e : n = 1 := by simpa using z
        subst e
        show T l = T (List.replicate 1 l).flatten
        simp
      · have e : l = [] := by simpa using z
        subst e
        have : ∀ m : Nat, (List.replicate m ([] : List Nat)).flatten = [] := fun m => by simp
        rw [this]
    · rw [if_neg h2]
      show Str.mk _ = Str.mk _
      congr 1
      rw [fold_app, T_list]
      simp
/-- a text n times -/
theorem op_mulT : OpR X (binaryOp .Mult) (fun x y H Q => ∃ (l : List Nat) (n : Int), x = .str (T l) ∧ y = .int n ∧ l.length ≤ 100 ∧ 0 ≤ n ∧ n ≤ 1000 ∧ Q (.str (T (List.replicate n.toNat l).flatten)) H) := by
  intro pins s σ H x y v u Q I rx ry h
  obtain ⟨l, n, rfl, rfl, hl, h0, hn, q⟩ := h
  obtain ⟨t, rfl⟩ := rx
  obtain ⟨t', rfl⟩ := ry
  refine SB.mul (mulOk_of 100 1000 (by rw [T_len]; exact hl) hn (by omega) (by decide) (by decide)) fun t1 tk => ?_
  rw [mul_T l n h0]
  exact ⟨.str (T (List.replicate n.toNat l).flatten), H, I.tok _, ⟨_, rfl⟩, q⟩
end
theorem rep_mem {n : Nat} {l : List Nat} {c : Nat} (h : c ∈ (List.replicate n l).flatten) : c ∈ l := by
  obtain ⟨z, hz1, hz2⟩ := List.mem_flatten.mp h
  rw [List.eq_of_mem_replicate hz1] at hz2
  exact hz2
/-- a text n times: only how long it is and what stands in it -/
theorem op_mulM {X : Cx} : OpR X (binaryOp .Mult) (fun x y H Q => ∃ (l : List Nat) (n : Int), x = .str (T l) ∧ y = .int n ∧ l.length ≤ 100 ∧ 0 ≤ n ∧ n ≤ 1000 ∧ ∀ m : List Nat, m.length = n.toNat * l.length → (∀ c ∈ m, c ∈ l) → Q (.str (T m)) H) := by
  intro pins s σ H x y v u Q I rx ry h
  obtain ⟨l, n, e1, e2, hl, h0, hn, q⟩ := h
  exact op_mulT pins s σ H x y v u Q I rx ry ⟨l, n, e1, e2, hl, h0, hn, q _ (rep_len _ _) fun c hc => rep_mem hc⟩
theorem paired_len {α β : Type} {F : α → β → Prop} : ∀ {xs : List α} {ys : List β}, Paired F xs ys → xs.length = ys.length
  | _, _, .nil => rfl
  | _, _, .cons _ t => congrArg (· + 1) (paired_len t)
theorem paired_get {α β : Type} {F : α → β → Prop} : ∀ {xs : List α} {ys : List β} {i : Nat} {x : α}, Paired F xs ys → xs[i]? = some x → ∃ y, ys[i]? = some y ∧ F x y
  | _, _, 0, _, .cons r _, e => ⟨_, rfl, by cases e; exact r⟩
  | _, _, i + 1, _, .cons _ t, e => paired_get (i := i) t e
theorem scLetters : FnScope ["cell", "size", "letters", "x"] ["cell", "size", "letters"] (defScope sLetters) := ⟨rfl, rfl, rfl, by decide +kernel, rfl, by decide +kernel, by decide +kernel⟩
theorem scText : FnScope ["shape", "cell", "most", "size", "kind"] ["shape", "cell", "most"] (defScope sText) := ⟨rfl, rfl, rfl, by decide +kernel, rfl, by decide +kernel, by decide +kernel⟩
/-! ### letters and texts -/
theorem cut_head (l : List Nat) (k : Nat) : cutS (T l) none (some (k : Int)) = T (l.take k) := by
  unfold cutS
  rw [HT.sIx_nat, HT.sIx_none, T_len, T_list, List.drop_zero, Nat.sub_zero]
  show Str.mk _ = Str.mk _
  congr 2
  by_cases h : k ≤ l.length
  · rw [Nat.min_eq_left h]
  · rw [Nat.min_eq_right (by omega), List.take_of_length_le (Nat.le_refl _), List.take_of_length_le (by omega)]
section
variable {P : Program} {w : World} {K : PySem.W.Frag} {mg : Str → Option Value} {base : Heap}
def spLetters (K : PySem.W.Frag) : Sp := fun vs H Q _ => ∃ (c n : Int) (al : List Nat), vs = [.int c, .int n, .str (T al)] ∧ 0 ≤ n ∧ n ≤ 100000 ∧ 2 ≤ al.length ∧ al.length ≤ 1000 ∧ ∀ (H' : Hp) (l : List Nat), Same H H' → l.length = n.toNat → (∀ c ∈ l, c ∈ al) → Q (.str (T l)) H'
theorem ok_letters {f : Addr} {fd : FuncData} (F : Fun K "_law_letters" "_law_letters" sLetters f fd) (B : Bl mg) (hO : Has P w K mg base 2 "_law_row" ["cell", "count", "bound"] (spRow K)) : FnOk P w K mg base CX0 3 f fd ["cell", "size", "letters"] (spLetters K) := by
  obtain ⟨fO, dO, GO, gO, kO, bO⟩ := hO
  refine F.ok scLetters (fun vs H Q E h => ?_) (fun cdv A outer s H vs Q E hr h => ?_)
  · obtain ⟨c, n, al, rfl, _⟩ := h
    rfl
  · obtain ⟨c, n, al, rfl, hn0, hn, a2, a3, q⟩ := h
    refine ⟨_, pss_one (ps_ret (pe_join pe_str (pe_lc (own := [("x", 3)]) (g := gName 3) (tt := tYes) (te := tOp rIxS (tVar 2) (tVar 3)) rfl scLetters.nd
        (pi_list (pe_call GO hr (by rfl) gO kO bO .nil pass0 (pa_cons (pv 0) (pa_cons (pv 1) (pa_cons (pe_callB call_len_str (by rfl) B.len PySem.boot_len (pa_cons (pv 2) pa_nil)) pa_nil)))))
        (blkOk_by (own := [("x", 3)]) (N := ["cell", "size", "letters", "x"]) (sc := defScope sLetters) (by decide +kernel))
        (fun _ _ _ _ _ => pg_name (i := 3) scLetters.nd rfl (Or.inl rfl)) (fun _ _ _ _ _ => pts_nil) (fun _ _ _ _ _ => pe_ix (r := rIxS) ix_str (pv 2) (pv 3) (fun _ _ => rfl))))), ?_⟩
    have hz : (T al).length ≤ sizeLine := line_ok6 (by rw [T_len]; omega)
    refine ⟨⟨_, rfl⟩, .int c, rfl, .int n, rfl, .str (T al), rfl, T al, rfl, hz, c, n, ((T al).length : Nat), rfl, hn0, hn, by rw [T_len]; omega, by rw [T_len]; omega, fun H1 p ns s1 hp hlp hll hb => ?_⟩
    refine ⟨p, rfl, ⟨_, .inl (.inl hlp)⟩, fun D hD => ?_⟩
    have got : ∀ n ∈ ns, 0 ≤ n ∧ n.toNat < al.length := fun n hn => by
      have := hb n hn
      rw [T_len] at this
      omega
    refine lc_list (K := K) (xs := ns.map V.int) (fun j H2 => Same H1 H2 ∧ ∃ l : List Nat, l.length = j ∧ (∀ c ∈ l, c ∈ al) ∧ H2 D = some (.lst ((l.map fun c => T [c]).map V.str))) ⟨same_upd hD, [], rfl, (fun c hc => by cases hc), upd_same⟩ (fun j H2 _ h => h.1.seq (.inl (.inl hlp))) ?_ ?_
    · rintro j y H2 hjy ⟨s2, l, hl, hal, hd⟩
      rw [List.getElem?_map] at hjy
      obtain ⟨n1, hn1, rfl⟩ := Option.map_eq_some_iff.mp hjy
      obtain ⟨g0, g1⟩ := got n1 (List.mem_of_getElem? hn1)
      obtain ⟨m, rfl⟩ : ∃ m : Nat, n1 = (m : Int) := ⟨n1.toNat, by omega⟩
      rw [Int.toNat_natCast] at g1
      have hj : j < ns.length := (List.getElem?_eq_some_iff.mp hn1).1
      refine ⟨rfl, ?_⟩
      dsimp only [tYes]
      rw [if_pos rfl]
      have hat : atI (T al).cps.toList (m : Int) = some al[m] := atI_nat (List.getElem?_eq_getElem g1)
      refine ⟨.str (T al), rfl, .int m, rfl, T al, _, al[m], rfl, rfl, hz, hat, _, hd, line_ok6 (by rw [List.length_map, List.length_map]; omega), fun b o e => ?_, l ++ [al[m]], by rw [List.length_append, hl]; rfl, fun c hc => ?_, ?_⟩
      · rw [upd_ne (ne_of_none e hD)]
        exact s2 b o e
      · rcases List.mem_append.mp hc with z | z
        · exact hal c z
        · obtain rfl : c = al[m] := by simpa using z
          exact List.getElem_mem g1
      · rw [upd_same, List.map_append, List.map_append]
        rfl
    · rintro H2 ⟨s2, l, hl, hal, hd⟩
      rw [List.length_map] at hl
      refine ⟨Str.ofString "", D, l.map fun c => T [c], rfl, rfl, .inl (.inl (.inl hd)), ?_, ?_⟩
      · rw [sum_ones, show (Str.ofString "").length = 0 by decide +kernel]
        omega
      · rw [TL.join_eq, T_nil, join_ones]
        exact q H2 l (s1.trans s2) (by omega) hal
end
def lets : List Nat := [65, 67, 71, 84, 78]
theorem lets_text : Str.ofString "ACGTN" = T lets := by decide +kernel
theorem four_text : Str.ofString "ACGT" = T [65, 67, 71, 84] := by decide +kernel
theorem two_text : Str.ofString "AC" = T [65, 67] := by decide +kernel
theorem sg_lets {c : Nat} (h : c ∈ lets) : Sg c := by
  simp only [lets, List.mem_cons, List.not_mem_nil, or_false] at h
  rcases h with h | h | h | h | h <;> subst h
  · exact .inl rfl
  · exact .inr (.inl rfl)
  · exact .inr (.inr (.inl rfl))
  · exact .inr (.inr (.inr (.inl rfl)))
  · exact .inr (.inr (.inr (.inr rfl)))
theorem sg_four {c : Nat} (h : c ∈ [65, 67, 71, 84]) : Sg c := by
  refine sg_lets ?_
  simp only [lets, List.mem_cons, List.not_mem_nil, or_false] at h ⊢
  rcases h with h | h | h | h
  · exact .inl h
  · exact .inr (.inl h)
  · exact .inr (.inr (.inl h))
  · exact .inr (.inr (.inr (.inl h)))
theorem sg_two {c : Nat} (h : c ∈ [65, 67]) : Sg c := by
  simp only [List.mem_cons, List.not_mem_nil, or_false] at h
  rcases h with h | h
  · exact .inl h
  · exact .inr (.inl h)
section
variable {P : Program} {w : World} {K : PySem.W.Frag} {mg : Str → Option Value} {base : Heap}
def spText (K : PySem.W.Frag) : Sp := fun vs H Q _ => ∃ (s c : Int) (m : Nat), vs = [.int s, .int c, .int (m : Int)] ∧ 1 ≤ m ∧ m ≤ 300 ∧ ∀ (H' : Hp) (l : List Nat), Same H H' → Dna l → 1 ≤ l.length → l.length ≤ m → Q (.str (T l)) H'
theorem ok_text {f : Addr} {fd : FuncData} (F : Fun K "_law_text" "_law_text" sText f fd) (B : Bl mg) (hO : Has P w K mg base 3 "_law_letters" ["cell", "size", "letters"] (spLetters K)) : FnOk P w K mg base CX0 4 f fd ["shape", "cell", "most"] (spText K) := by
  obtain ⟨fO, dO, GO, gO, kO, bO⟩ := hO
  refine F.ok scText (fun vs H Q E h => ?_) (fun cdv A outer s H vs Q E hr h => ?_)
  · obtain ⟨s, c, m, rfl, _⟩ := h
    rfl
  · obtain ⟨x, c, m, rfl, hm1, hm2, q⟩ := h
    refine ⟨_, C8.pss_cut (ps_set (i := 3) scText.nd rfl (.inl rfl) (pe_op op_add pe_int (pe_op op_mod (pe_callTy call_int1 (by rfl) B.int (by decide +kernel) (pa_cons (pv 0) pa_nil)) (pv 2))))
      (C8.pss_cut (ps_set (i := 4) scText.nd rfl (.inl rfl) (pe_op op_mod (pe_op op_fdiv (pe_callTy call_int1 (by rfl) B.int (by decide +kernel) (pa_cons (pv 0) pa_nil)) (pv 2)) pe_int))
      (pss_cons (ps_if (pt_cmpR op_eq (pv 4) pe_int (nomark _)) (pss_one (ps_ret (pe_call GO hr (by rfl) gO kO bO .nil pass0 (pa_cons (pv 1) (pa_cons (pv 3) (pa_cons pe_str pa_nil)))))) pss_nil)
      (pss_cons (ps_if (pt_cmpR op_eq (pv 4) pe_int (nomark _)) (pss_one (ps_ret (pe_call GO hr (by rfl) gO kO bO .nil pass0 (pa_cons (pv 1) (pa_cons (pv 3) (pa_cons pe_str pa_nil)))))) pss_nil)
      (pss_cons (ps_if (pt_cmpR op_eq (pv 4) pe_int (nomark _)) (pss_one (ps_ret (pe_slice sl_str (pe_op op_mulM (pe_call GO hr (by rfl) gO kO bO .nil pass0 (pa_cons (pv 1) (pa_cons (pe_op op_add pe_int (pe_op op_mod (pe_op op_fdiv (pe_callTy call_int1 (by rfl) B.int (by decide +kernel) (pa_cons (pv 0) pa_nil)) (pe_op op_mul pe_int (pv 2))) pe_int)) (pa_cons pe_str pa_nil)))) (pv 3)) po_none (po_some (pv 3))))) pss_nil)
      (pss_one (ps_ret (pe_call GO hr (by rfl) gO kO bO .nil pass0 (pa_cons (pv 1) (pa_cons (pv 3) (pa_cons pe_str pa_nil)))))))))), ?_⟩
    have hmz : (0 : Int) < (m : Int) := by omega
    refine ⟨fun σ H' => H' = H ∧ ∃ z : Nat, 1 ≤ z ∧ z ≤ m ∧ σ = [some (.int x), some (.int c), some (.int (m : Int)), some (.int (z : Int)), none], ?_, ?_⟩
    · have b0 := Int.emod_nonneg x (show (m : Int) ≠ 0 by omega)
      have b1 := Int.emod_lt_of_pos x hmz
      refine ⟨.int x, rfl, .inl ⟨x, rfl, .int m, rfl, x, m, rfl, rfl, hmz, 1, _, rfl, rfl, rfl, (1 + x % (m : Int)).toNat, by omega, by omega, ?_⟩⟩
      rw [Int.toNat_of_nonneg (by omega)]
      rfl
    rintro σ H' ⟨rfl, z, z1, z2, rfl⟩
    refine ⟨fun σ H1 => H1 = H' ∧ ∃ kd : Int, σ = [some (.int x), some (.int c), some (.int (m : Int)), some (.int (z : Int)), some (.int kd)], ⟨.int x, rfl, .inl ⟨x, rfl, .int m, rfl, x, m, rfl, rfl, ⟨hmz, by omega⟩, _, 4, rfl, rfl, (show (0 : Int) < 4 by decide), rfl, _, rfl⟩⟩, ?_⟩
    rintro σ H1 ⟨rfl, kd, rfl⟩
    refine ⟨.int kd, rfl, rfl, _, rfl, ite2 (fun _ => ?_) (fun _ => ?_)⟩
    · exact ⟨.int c, rfl, .int z, rfl, c, z, lets, by rw [← lets_text]; rfl, by omega, by omega, by decide, by decide, fun H2 l s2 hl hal => q H2 l s2 (fun c hc => sg_lets (hal c hc)) (by omega) (by omega)⟩
    refine ⟨.int kd, rfl, rfl, _, rfl, ite2 (fun _ => ?_) (fun _ => ?_)⟩
    · exact ⟨.int c, rfl, .int z, rfl, c, z, [65, 67], by rw [← two_text]; rfl, by omega, by omega, by decide, by decide, fun H2 l s2 hl hal => q H2 l s2 (fun c hc => sg_two (hal c hc)) (by omega) (by omega)⟩
    refine ⟨.int kd, rfl, rfl, _, rfl, ite2 (fun _ => ?_) (fun _ => ?_)⟩
    · have b0 := Int.emod_nonneg (x / (4 * (m : Int))) (show (6 : Int) ≠ 0 by decide)
      have b1 := Int.emod_lt_of_pos (x / (4 * (m : Int))) (show (0 : Int) < 6 by decide)
      refine ⟨.int c, rfl, .int x, rfl, .inl ⟨x, rfl, .int m, rfl, 4, _, rfl, rfl, .inl ⟨by decide, by decide⟩, x, _, rfl, rfl, ⟨by omega, by omega⟩, _, 6, rfl, rfl, (show (0 : Int) < 6 by decide), 1, _, rfl, rfl, c, 1 + x / (4 * (m : Int)) % 6, lets, by rw [← lets_text]; rfl, by omega, by omega, by decide, by decide, fun H2 l s2 hl hal => ?_⟩⟩
      refine ⟨.int z, rfl, l, z, rfl, rfl, by omega, by omega, by omega, fun m2 hm2l hm2c => ?_⟩
      refine ⟨.int z, rfl, _, rfl, T m2, rfl, line_ok6 (by rw [T_len, hm2l]; have : (z : Int).toNat * l.length ≤ 300 * 6 := Nat.mul_le_mul (by omega) (by omega); omega), ?_⟩
      rw [cut_head]
      have hz2 : z ≤ m2.length := by
        rw [hm2l, Int.toNat_natCast]
        exact Nat.le_mul_of_pos_right z (by omega)
      exact q H2 _ s2 (fun c hc => sg_lets (hal c (hm2c c (List.mem_of_mem_take hc)))) (by rw [List.length_take]; omega) (by rw [List.length_take]; omega)
    · exact ⟨.int c, rfl, .int z, rfl, c, z, [65, 67, 71, 84], by rw [← four_text]; rfl, by omega, by omega, by decide, by decide, fun H2 l s2 hl hal => q H2 l s2 (fun c hc => sg_four (hal c hc)) (by omega) (by omega)⟩
end
theorem scBytes : FnScope ["number", "count", "data", "k"] ["number", "count"] (defScope sBytes) := ⟨rfl, rfl, rfl, by decide +kernel, rfl, by decide +kernel, by decide +kernel⟩
theorem scNumber : FnScope ["data", "at", "count", "number", "k"] ["data", "at", "count"] (defScope sNumber) := ⟨rfl, rfl, rfl, by decide +kernel, rfl, by decide +kernel, by decide +kernel⟩
/-! ### numbers as bytes -/
/-- the last c bytes of n, the highest first -/
def be : Nat → Nat → List Int
  | 0, _ => []
  | c + 1, n => ((n / 256 ^ c % 256 : Nat) : Int) :: be c n
theorem be_len : ∀ c n, (be c n).length = c
  | 0, _ => rfl
  | c + 1, n => congrArg (· + 1) (be_len c n)
theorem be_byt : ∀ c n, Byt (be c n)
  | 0, _ => fun x hx => by cases hx
  | c + 1, n => fun x hx => by
    rcases List.mem_cons.mp hx with e | e
    · rw [e]
      have := Nat.mod_lt (n / 256 ^ c) (show 256 > 0 by decide)
      omega
    · exact be_byt c n x e
/-- the number that bytes tell -/
def bn (l : List Int) : Int := l.foldl (fun a x => a * 256 + x) 0
theorem bn_snoc (l : List Int) (x : Int) : bn (l ++ [x]) = bn l * 256 + x := by
  unfold bn
  rw [List.foldl_append]
  rfl
theorem bn_bound : ∀ {l : List Int}, Byt l → 0 ≤ bn l ∧ bn l < 256 ^ l.length := by
  intro l
  suffices h : ∀ n (l : List Int), l.length = n → Byt l → 0 ≤ bn l ∧ bn l < 256 ^ n from h l.length l rfl
  intro n
  induction n with
  | zero =>
    intro l hl _
    obtain rfl : l = [] := List.length_eq_zero_iff.mp hl
    exact ⟨by decide, by decide⟩
  | succ n ih =>
    intro l hl hb
    obtain ⟨m, x, rfl⟩ : ∃ m x, l = m ++ [x] := ⟨l.dropLast, l.getLast (by intro z; rw [z] at hl; cases hl), (List.dropLast_concat_getLast _).symm⟩
    have h1 := ih m (by rw [List.length_append, List.length_singleton] at hl; omega) fun y hy => hb y (List.mem_append_left _ hy)
    have h2 := hb x (List.mem_append_right _ (List.mem_singleton.mpr rfl))
    rw [bn_snoc, Int.pow_succ]
    omega
section
variable {P : Program} {w : World} {K : PySem.W.Frag} {mg : Str → Option Value} {base : Heap}
def spBytes : Sp := fun vs H Q _ => ∃ n c : Nat, vs = [.int (n : Int), .int (c : Int)] ∧ c ≤ 1000 ∧ ∀ (H' : Hp) (p : Addr), Same H H' → H p = none → H' p = some (LI (be c n)) → Q (.ref p) H'
theorem ok_bytes {f : Addr} {fd : FuncData} {k : Nat} (F : Fun K "_law_bytes" "_law_bytes" sBytes f fd) (B : Bl mg) : FnOk P w K mg base CX0 (k + 1) f fd ["number", "count"] spBytes := by
  refine F.ok scBytes (fun vs H Q E h => ?_) (fun cdv A outer s H vs Q E hr h => ?_)
  · obtain ⟨n, c, rfl, _⟩ := h
    rfl
  · obtain ⟨n, c, rfl, hc, q⟩ := h
    refine ⟨_, pss_cons (ps_set (i := 2) scBytes.nd rfl (.inl rfl) (pe_lst pa_nil))
      (pss_cons (ps_for PassesOwn.never rfl (pi_range1 rfl B.range (pa_cons (pv 1) pa_nil)) (pg_name (i := 3) scBytes.nd rfl (.inl rfl))
        (pss_cons (ps_set (i := 2) scBytes.nd rfl (.inl rfl) (pe_op op_cat (pe_lst (pa_cons (pe_op op_mod (pe_callTy call_int1 (by rfl) B.int (by decide +kernel) (pa_cons (pv 0) pa_nil)) pe_int) pa_nil)) (pv 2)))
        (pss_one (ps_set (i := 0) scBytes.nd rfl (.inl rfl) (pe_op op_fdiv (pv 0) pe_int)))))
      (pss_one (ps_ret (pv 2)))), ?_⟩
    refine ⟨Nat.zero_le _, fun p hp => ⟨.int c, rfl, _, rfl, by omega, by omega, ?_⟩⟩
    refine for_range (lo := 0) (n := (c : Int).toNat) (fun i σ H1 => ∃ (p : Addr) (kv : Option V), σ = [some (.int ((n / 256 ^ i : Nat) : Int)), some (.int (c : Int)), some (.ref p), kv] ∧ Same H H1 ∧ H p = none ∧ H1 p = some (LI (be i n))) ⟨p, none, by rw [Nat.pow_zero, Nat.div_one]; rfl, same_upd hp, hp, upd_same⟩ ?_ ?_
    · rintro i σ H1 hi ⟨p, kv, rfl, sm, hp, h1⟩
      have hl := be_len i n
      refine ⟨.int ((n / 256 ^ i : Nat) : Int), rfl, .inl ⟨_, rfl, _, 256, rfl, rfl, (show (0 : Int) < 256 by decide), by show 1 ≤ sizeLine; decide, fun p1 hp1 => ?_⟩⟩
      refine ⟨.ref p, rfl, p1, p, _, _, rfl, rfl, upd_same, by rw [upd_ne (ne_of_none h1 hp1)]; exact h1, line_ok7 (by rw [List.length_map, hl]; show 1 + i ≤ 10000000; omega), fun p2 hp2 => ?_⟩
      refine ⟨_, rfl, _, 256, rfl, rfl, ⟨by decide, by decide⟩, p2, some (.int (0 + (i : Nat))), ?_, (sm.trans (same_upd hp1)).trans (same_upd hp2), sm.free (new_old hp2), ?_⟩
      · show [some (V.int (((n / 256 ^ i : Nat) : Int) / 256)), _, _, _] = [some (V.int ((n / 256 ^ (i + 1) : Nat) : Int)), _, _, _]
        rw [Nat.pow_succ, ← Nat.div_div_eq_div_mul]
        rfl
      · rw [upd_same]
        show some (HO.lst ([V.int (((n / 256 ^ i : Nat) : Int) % 256)] ++ (be i n).map V.int)) = some (HO.lst (V.int ((n / 256 ^ i % 256 : Nat) : Int) :: (be i n).map V.int))
        rw [show (((n / 256 ^ i : Nat) : Int) % 256) = ((n / 256 ^ i % 256 : Nat) : Int) from rfl]
        rfl
    · rintro σ H1 ⟨p, kv, rfl, sm, hp, h1⟩
      rw [Int.toNat_natCast] at h1
      exact ⟨.ref p, rfl, q H1 p sm hp h1⟩
def spNumber (K : PySem.W.Frag) : Sp := fun vs H Q _ => ∃ (a : Addr) (ns : List Int) (b c : Nat), vs = [.ref a, .int (b : Int), .int (c : Int)] ∧ SqL K H a (ns.map V.int) ∧ Byt ns ∧ b + c ≤ ns.length ∧ c ≤ 4 ∧ Q (.int (bn ((ns.drop b).take c))) H
theorem ok_number {f : Addr} {fd : FuncData} {k : Nat} (F : Fun K "_law_number" "_law_number" sNumber f fd) (B : Bl mg) : FnOk P w K mg base CX0 (k + 1) f fd ["data", "at", "count"] (spNumber K) := by
  refine F.ok scNumber (fun vs H Q E h => ?_) (fun cdv A outer s H vs Q E hr h => ?_)
  · obtain ⟨a, ns, b, c, rfl, _⟩ := h
    rfl
  · obtain ⟨a, ns, b, c, rfl, hS, hb, hl, hc, q⟩ := h
    refine ⟨_, pss_cons (ps_set (i := 3) scNumber.nd rfl (.inl rfl) pe_int)
      (pss_cons (ps_for PassesOwn.never rfl (pi_range1 rfl B.range (pa_cons (pv 2) pa_nil)) (pg_name (i := 4) scNumber.nd rfl (.inl rfl))
        (pss_one (ps_set (i := 3) scNumber.nd rfl (.inl rfl) (pe_op op_add (pe_op op_mul (pv 3) pe_int) (pe_ix ix_list (pv 0) (pe_op op_add (pv 1) (pv 4)) (fun _ _ => rfl))))))
      (pss_one (ps_ret (pv 3)))), ?_⟩
    refine ⟨.int c, rfl, _, rfl, by omega, by omega, ?_⟩
    refine for_range (lo := 0) (n := (c : Int).toNat) (fun i σ H1 => H1 = H ∧ ∃ kv : Option V, σ = [some (.ref a), some (.int (b : Int)), some (.int (c : Int)), some (.int (bn ((ns.drop b).take i))), kv]) ⟨rfl, none, by rw [List.take_zero]; rfl⟩ ?_ ?_
    · rintro i σ H1 hi ⟨rfl, kv, rfl⟩
      have hlt : b + i < ns.length := by omega
      have hb1 := bn_bound (l := (ns.drop b).take i) fun x hx => hb x (List.mem_of_mem_drop (List.mem_of_mem_take hx))
      have hli : ((ns.drop b).take i).length = i := by rw [List.length_take, List.length_drop]; omega
      rw [hli] at hb1
      have hp : (256 : Int) ^ i ≤ 256 ^ 4 := by
        have h4 : i = 0 ∨ i = 1 ∨ i = 2 ∨ i = 3 := by omega
        rcases h4 with z | z | z | z <;> subst z <;> decide
      have hp2 : (256 : Int) ^ 4 = 4294967296 := by decide
      refine ⟨_, rfl, _, 256, rfl, rfl, .inl ⟨by omega, by omega⟩, .ref a, rfl, .int b, rfl, .int (0 + (i : Nat)), rfl, _, _, rfl, rfl, a, _, _, .int ns[b + i], rfl, rfl, hS, ?_, _, _, rfl, rfl, rfl, some (.int (0 + (i : Nat))), ?_⟩
      · rw [show (b : Int) + (0 + ((i : Nat) : Int)) = ((b + i : Nat) : Int) by omega]
        exact atI_nat (map_int_at hlt)
      · have et : (ns.drop b).take (i + 1) = (ns.drop b).take i ++ [ns[b + i]] := by
          rw [List.take_add_one, List.getElem?_drop, List.getElem?_eq_getElem hlt]
          rfl
        rw [et, bn_snoc]
        rfl
    · rintro σ H1 ⟨rfl, kv, rfl⟩
      rw [Int.toNat_natCast]
      exact ⟨_, rfl, q⟩
end
theorem scPacked : FnScope ["text", "runs", "k", "data", "start", "size", "letters", "letter"] ["text"] (defScope sPacked) := ⟨rfl, rfl, rfl, by decide +kernel, rfl, by decide +kernel, by decide +kernel⟩
/-! ### packed texts -/
abbrev Rn := Nat × Nat
/-- the last run one longer -/
def bump : List Rn → List Rn
  | [] => []
  | [r] => [(r.1, r.2 + 1)]
  | r :: s :: t => r :: bump (s :: t)
theorem bump_snoc (rs : List Rn) (r : Rn) : bump (rs ++ [r]) = rs ++ [(r.1, r.2 + 1)] := by
  induction rs with
  | nil => rfl
  | cons a t ih =>
    cases t with
    | nil => rfl
    | cons b t =>
      show a :: bump (b :: t ++ [r]) = _
      rw [ih]
      rfl
def isN (l : List Nat) (k : Nat) : Bool := decide (l[k]? = some 78)
/-- the runs of N in the first i letters -/
def runsTo (l : List Nat) : Nat → List Rn
  | 0 => []
  | k + 1 => if isN l k = true then bump (if 0 < k ∧ isN l (k - 1) = true then runsTo l k else runsTo l k ++ [(k, 0)]) else runsTo l k
def runs (l : List Nat) : List Rn := runsTo l l.length
theorem bump_len (rs : List Rn) : (bump rs).length = rs.length := by
  induction rs with
  | nil => rfl
  | cons a t ih =>
    cases t with
    | nil => rfl
    | cons b t => exact congrArg (· + 1) ih
theorem runsTo_len (l : List Nat) : ∀ i, (runsTo l i).length ≤ i
  | 0 => Nat.le_refl _
  | k + 1 => by
    have h := runsTo_len l k
    unfold runsTo
    split
    · rw [bump_len]
      split
      · omega
      · rw [List.length_append]
        show (runsTo l k).length + 1 ≤ k + 1
        omega
    · omega
theorem runsTo_ne {l : List Nat} {k : Nat} (h : isN l k = true) : runsTo l (k + 1) ≠ [] := by
  unfold runsTo
  rw [if_pos h]
  intro z
  have e := congrArg List.length z
  rw [bump_len] at e
  cases k with
  | zero =>
    rw [if_neg (by omega)] at e
    cases e
  | succ j =>
    by_cases hc : 0 < j + 1 ∧ isN l (j + 1 - 1) = true
    · rw [if_pos hc] at e
      have hj : isN l j = true := hc.2
      exact runsTo_ne hj (List.length_eq_zero_iff.mp e)
    · rw [if_neg hc, List.length_append] at e
      exact absurd e (by show ¬ (runsTo l (j + 1)).length + 1 = 0; omega)
/-- a letter's number -/
def cd (c : Nat) : Int := if c = 67 then 1 else if c = 71 then 2 else if c = 84 then 3 else 0
theorem cd_find {c : Nat} (h : Sg c) : (if Txt.find (Str.ofString "ACGT") ⟨#[c]⟩ > 0 then Txt.find (Str.ofString "ACGT") ⟨#[c]⟩ else 0) = cd c := by
  rcases h with h | h | h | h | h <;> subst h <;> decide +kernel
theorem cd_bound (c : Nat) : 0 ≤ cd c ∧ cd c < 4 := by
  unfold cd
  split
  · decide
  · split
    · decide
    · split <;> decide
def gl (l : List Nat) (i : Nat) : Int := (l.map cd ++ [0, 0, 0]).getD i 0
theorem gl_bound (l : List Nat) (i : Nat) : 0 ≤ gl l i ∧ gl l i < 4 := by
  unfold gl
  rw [List.getD_eq_getElem?_getD]
  cases e : (l.map cd ++ [0, 0, 0])[i]? with
  | none => exact ⟨by decide, by decide⟩
  | some x =>
    show 0 ≤ x ∧ x < 4
    rcases List.mem_append.mp (List.mem_of_getElem? e) with z | z
    · obtain ⟨c, _, rfl⟩ := List.mem_map.mp z
      exact cd_bound c
    · simp only [List.mem_cons, List.not_mem_nil, or_false, or_self] at z
      rw [z]
      decide
theorem gl_at {l : List Nat} {i : Nat} (h : i < l.length + 3) : ((l.map cd ++ [0, 0, 0]).map V.int)[i]? = some (.int (gl l i)) := by
  have hl : i < (l.map cd ++ [0, 0, 0]).length := by
    rw [List.length_append, List.length_map]
    exact h
  rw [map_int_at hl]
  unfold gl
  rw [List.getD_eq_getElem?_getD, List.getElem?_eq_getElem hl]
  rfl
/-- four letters in a byte -/
def qb (l : List Nat) (k : Nat) : Int := gl l (4 * k) * 64 + gl l (4 * k + 1) * 16 + gl l (4 * k + 2) * 4 + gl l (4 * k + 3)
def rb (r : Rn) : List Int := be 4 r.1 ++ be 4 r.2
theorem rb_len : ∀ rs : List Rn, (rs.flatMap rb).length = rs.length * 8
  | [] => rfl
  | r :: rs => by
    rw [List.flatMap_cons, List.length_append, rb_len rs, List.length_cons]
    unfold rb
    rw [List.length_append, be_len, be_len]
    omega
def packed (l : List Nat) : List Int := be 4 l.length ++ be 4 (runs l).length ++ (runs l).flatMap rb ++ (List.range ((l.length + 3) / 4)).map (qb l)
theorem packed_byt (l : List Nat) : Byt (packed l) := by
  refine (((be_byt _ _).app (be_byt _ _)).app fun x hx => ?_).app fun x hx => ?_
  · obtain ⟨r, _, h⟩ := List.mem_flatMap.mp hx
    exact ((be_byt _ _).app (be_byt _ _)) x h
  · obtain ⟨k, _, rfl⟩ := List.mem_map.mp hx
    have h0 := gl_bound l (4 * k)
    have h1 := gl_bound l (4 * k + 1)
    have h2 := gl_bound l (4 * k + 2)
    have h3 := gl_bound l (4 * k + 3)
    show 0 ≤ _ ∧ gl l (4 * k) * 64 + gl l (4 * k + 1) * 16 + gl l (4 * k + 2) * 4 + gl l (4 * k + 3) < 256
    unfold qb
    omega
/-- runs in the heap: lists of two, in the list at pl -/
def Rns (pl : Addr) (H : Hp) : List V → List Rn → Prop := Paired fun v r => ∃ q, v = .ref q ∧ q ≠ pl ∧ H q = some (LI [(r.1 : Int), (r.2 : Int)])
theorem Rns.mono {pl : Addr} {H H' : Hp} {xs : List V} {rs : List Rn} (h : Rns pl H xs rs) (k : ∀ q o, V.ref q ∈ xs → q ≠ pl → H q = some o → H' q = some o) : Rns pl H' xs rs := by
  induction h with
  | nil => exact .nil
  | cons r t ih =>
    obtain ⟨q, rfl, n, e⟩ := r
    exact .cons ⟨q, rfl, n, k q _ List.mem_cons_self n e⟩ (ih fun q o m => k q o (List.mem_cons_of_mem _ m))
theorem paired_snoc_inv {α β : Type} {F : α → β → Prop} : ∀ {xs : List α} {ys : List β} {y : β}, Paired F xs (ys ++ [y]) → ∃ zs x, xs = zs ++ [x] ∧ Paired F zs ys ∧ F x y
  | _, [], y, h => by
    cases h with
    | cons r t =>
      cases t
      exact ⟨[], _, rfl, .nil, r⟩
  | _, b :: ys, y, h => by
    cases h with
    | cons r t =>
      obtain ⟨zs, x, rfl, h1, h2⟩ := paired_snoc_inv t
      exact ⟨_ :: zs, x, rfl, .cons r h1, h2⟩
section
variable {P : Program} {w : World} {K : PySem.W.Frag} {mg : Str → Option Value} {base : Heap}
def spPacked : Sp := fun vs H Q _ => ∃ l : List Nat, vs = [.str (T l)] ∧ Dna l ∧ l.length ≤ 100000 ∧ ∀ (H' : Hp) (p : Addr), Same H H' → H p = none → H' p = some (LI (packed l)) → Q (.ref p) H'
theorem ok_packed {f : Addr} {fd : FuncData} {k : Nat} (F : Fun K "_law_packed" "_law_packed" sPacked f fd) (B : Bl mg) (mmax : mg "max" = none) (hB : Has P w K mg base (k + 1) "_law_bytes" ["number", "count"] spBytes) : FnOk P w K mg base CX0 (k + 1 + 1) f fd ["text"] spPacked := by
  obtain ⟨fB, dB, GB, gB, kB, bB⟩ := hB
  refine F.ok scPacked (fun vs H Q E h => ?_) (fun cdv A outer s H vs Q E hr h => ?_)
  · obtain ⟨l, rfl, _⟩ := h
    rfl
  · obtain ⟨l, rfl, hd, hl, q⟩ := h
    refine ⟨_, pss_cons (ps_set (i := 1) scPacked.nd rfl (.inl rfl) (pe_lst pa_nil))
      (pss_cons (ps_for PassesOwn.never rfl (pi_range1 rfl B.range (pa_cons (pe_callB call_len_str (by rfl) B.len PySem.boot_len (pa_cons (pv 0) pa_nil)) pa_nil)) (pg_name (i := 2) scPacked.nd rfl (.inl rfl))
        (C8.pss_cut (ps_if (PW.pt (pw_and (pt_cmpR op_eq (pe_ix ix_str (pv 0) (pv 2) (fun _ _ => rfl)) pe_str (nomark _)) (pw_and1 (PW.pt (pw_or (pt_cmpR op_eq (pv 2) pe_int (nomark _)) (pw_or1 (pt_cmpR op_ne (pe_ix ix_str (pv 0) (pe_op op_sub (pv 2) pe_int) (fun _ _ => rfl)) pe_str (nomark _))))))))
          (pss_one (ps_expr (pe_bm PySem.F.plainAttrs_list PySem.F.slot_list_append PySem.F.type_list_append mt_append (pv 1) (pa_cons (pe_lst (pa_cons (pv 2) (pa_cons pe_int pa_nil))) pa_nil)))) pss_nil)
        (pss_one (ps_if (pt_cmpR op_eq (pe_ix ix_str (pv 0) (pv 2) (fun _ _ => rfl)) pe_str (nomark _))
          (pss_one (ps_asg (pe_op op_add (pe_ix ix_list (pe_ix ix_list (pv 1) (pe_op op_sub (pe_callB call_len_seq (by rfl) B.len PySem.boot_len (pa_cons (pv 1) pa_nil)) pe_int) (fun _ _ => rfl)) pe_int (fun _ _ => rfl)) pe_int)
            (pg_sub (pe_ix ix_list (pv 1) (pe_op op_sub (pe_callB call_len_seq (by rfl) B.len PySem.boot_len (pa_cons (pv 1) pa_nil)) pe_int) (fun _ _ => rfl)) pe_int set_list))) pss_nil))))
      (pss_cons (ps_set (i := 3) scPacked.nd rfl (.inl rfl) (pe_op op_cat (pe_call GB hr (by rfl) gB kB bB .nil pass0 (pa_cons (pe_callB call_len_str (by rfl) B.len PySem.boot_len (pa_cons (pv 0) pa_nil)) (pa_cons pe_int pa_nil))) (pe_call GB hr (by rfl) gB kB bB .nil pass0 (pa_cons (pe_callB call_len_seq (by rfl) B.len PySem.boot_len (pa_cons (pv 1) pa_nil)) (pa_cons pe_int pa_nil)))))
      (pss_cons (ps_for PassesOwn.never rfl (pi_list (pv 1)) (pg_lst rfl (pgs_cons (pg_name (i := 4) scPacked.nd rfl (.inl rfl)) (pgs_cons (pg_name (i := 5) scPacked.nd rfl (.inl rfl)) pgs_nil)))
        (pss_one (ps_expr (pe_bm PySem.F.plainAttrs_list PySem.F.slot_list_extend PySem.F.type_list_extend mt_extend (pv 3) (pa_cons (pe_op op_cat (pe_call GB hr (by rfl) gB kB bB .nil pass0 (pa_cons (pv 4) (pa_cons pe_int pa_nil))) (pe_call GB hr (by rfl) gB kB bB .nil pass0 (pa_cons (pv 5) (pa_cons pe_int pa_nil)))) pa_nil)))))
      (pss_cons (ps_set (i := 6) scPacked.nd rfl (.inl rfl) (pe_op op_cat (pe_lc (own := [("letter", 7)]) (g := gName 7) (tt := tYes) (te := tCB rMaxP (tCons (tC (.int 0)) (tCons (tBM K "str" rFind (tC (.str (Str.ofString "ACGT"))) (tCons (tVar 7) tNil)) tNil))) rfl scPacked.nd (pi_str (pv 0)) (blkOk_by (own := [("letter", 7)]) (N := ["text", "runs", "k", "data", "start", "size", "letters", "letter"]) (sc := defScope sPacked) (by decide +kernel))
          (fun _ _ _ _ _ => pg_name (i := 7) scPacked.nd rfl (Or.inl rfl)) (fun _ _ _ _ _ => pts_nil) (fun _ _ _ _ _ => pe_callB (r := rMaxP) (call_max2 rfl) (by rfl) mmax (by decide +kernel) (pa_cons pe_int (pa_cons (pe_bm (r := rFind) PySem.F.plainAttrs_str PySem.F.slot_str_find PySem.F.type_str_find mt_find pe_str (pa_cons (pv 7) pa_nil)) pa_nil)))) (pe_lst (pa_cons pe_int (pa_cons pe_int (pa_cons pe_int pa_nil))))))
      (pss_cons (ps_for PassesOwn.never rfl (pi_range1 rfl B.range (pa_cons (pe_op op_fdiv (pe_op op_add (pe_callB call_len_str (by rfl) B.len PySem.boot_len (pa_cons (pv 0) pa_nil)) pe_int) pe_int) pa_nil)) (pg_name (i := 2) scPacked.nd rfl (.inl rfl))
        (pss_one (ps_expr (pe_bm PySem.F.plainAttrs_list PySem.F.slot_list_append PySem.F.type_list_append mt_append (pv 3) (pa_cons (pe_op op_add (pe_op op_add (pe_op op_add (pe_op op_mul (pe_ix ix_list (pv 6) (pe_op op_mul pe_int (pv 2)) (fun _ _ => rfl)) pe_int)
          (pe_op op_mul (pe_ix ix_list (pv 6) (pe_op op_add (pe_op op_mul pe_int (pv 2)) pe_int) (fun _ _ => rfl)) pe_int)) (pe_op op_mul (pe_ix ix_list (pv 6) (pe_op op_add (pe_op op_mul pe_int (pv 2)) pe_int) (fun _ _ => rfl)) pe_int)) (pe_ix ix_list (pv 6) (pe_op op_add (pe_op op_mul pe_int (pv 2)) pe_int) (fun _ _ => rfl))) pa_nil)))))
      (pss_one (ps_ret (pv 3)))))))), ?_⟩
    have hz : (T l).length ≤ sizeLine := line_ok6 (by rw [T_len]; omega)
    have eqN : ∀ c : Nat, V.str ⟨#[c]⟩ = V.str (Str.ofString "N") ↔ c = 78 := fun c => by
      rw [show Str.ofString "N" = T [78] by decide +kernel]
      constructor
      · intro e
        have := T_inj (a := [c]) (b := [78]) (V.str.inj e)
        simpa using this
      · intro e
        rw [e]
        rfl
    have hat : ∀ k, (h : k < l.length) → atI (T l).cps.toList ((k : Nat) : Int) = some l[k] := fun k h => atI_nat (List.getElem?_eq_getElem h)
    have isN_iff : ∀ k, (h : k < l.length) → (isN l k = true ↔ l[k] = 78) := fun k h => by
      unfold isN
      rw [List.getElem?_eq_getElem h]
      simp
    refine ⟨Nat.zero_le _, fun pl hpl => ?_⟩
    refine ⟨.str (T l), rfl, T l, rfl, hz, _, rfl, by rw [T_len]; omega, by rw [T_len]; omega, ?_⟩
    rw [Int.toNat_natCast, T_len]
    refine for_range (lo := 0) (n := l.length) (fun i σ H1 => ∃ (xs : List V) (kv : Option V), σ = [some (.str (T l)), some (.ref pl), kv, none, none, none, none, none] ∧ Same H H1 ∧ H1 pl = some (.lst xs) ∧ Rns pl H1 xs (runsTo l i) ∧ xs.Nodup ∧ ∀ q, V.ref q ∈ xs → H q = none) ⟨[], none, rfl, same_upd hpl, upd_same, .nil, List.nodup_nil, (fun q hq => by cases hq)⟩ ?_ ?_
    · rintro i σ H1 hi ⟨xs, kv, rfl, sm, hx, hr, nd, fr⟩
      have hlr := runsTo_len l i
      have hlx : xs.length = (runsTo l i).length := paired_len hr
      -- a run begins
      refine ⟨fun σ H2 => ∃ (xs : List V) (rs : List Rn), σ = [some (.str (T l)), some (.ref pl), some (.int (0 + (i : Nat))), none, none, none, none, none] ∧ Same H H2 ∧ H2 pl = some (.lst xs) ∧ Rns pl H2 xs rs ∧ xs.Nodup ∧ (∀ q, V.ref q ∈ xs → H q = none) ∧
        ((isN l i = true ∧ rs = if 0 < i ∧ isN l (i - 1) = true then runsTo l i else runsTo l i ++ [(i, 0)]) ∨ (isN l i = false ∧ rs = runsTo l i)), ?_, ?_⟩
      · have grow : ∀ (q : Addr), H1 q = none → ∀ Hq, Hq = upd (upd H1 q (.lst [.int (0 + (i : Nat)), .int 0])) pl (.lst (xs ++ [.ref q])) → Same H Hq ∧ Hq pl = some (.lst (xs ++ [V.ref q])) ∧ Rns pl Hq (xs ++ [.ref q]) (runsTo l i ++ [(i, 0)]) ∧ (xs ++ [V.ref q]).Nodup ∧ ∀ z, V.ref z ∈ xs ++ [V.ref q] → H z = none := by
          rintro q hq _ rfl
          have npq : pl ≠ q := ne_of_none hx hq
          refine ⟨fun b o e => ?_, upd_same, ?_, ?_, fun z hz => ?_⟩
          · rw [upd_ne (ne_of_none e hpl), upd_ne (ne_of_none (sm _ _ e) hq)]
            exact sm _ _ e
          · refine Paired.snoc (hr.mono fun b o _ n e => ?_) ⟨q, rfl, npq.symm, ?_⟩
            · rw [upd_ne n, upd_ne (ne_of_none e hq)]
              exact e
            · rw [upd_ne npq.symm, upd_same, Int.zero_add]
              rfl
          · refine List.nodup_append.mpr ⟨nd, (by simp), fun x hx' y hy z => ?_⟩
            obtain rfl : y = V.ref q := by simpa using hy
            subst z
            obtain ⟨j, hj, e⟩ := List.mem_iff_getElem.mp hx'
            obtain ⟨r, _, q2, e2, _, h2⟩ := paired_get hr (List.getElem?_eq_getElem hj)
            rw [e] at e2
            cases e2
            rw [hq] at h2
            cases h2
          · rcases List.mem_append.mp hz with y | y
            · exact fr z y
            · obtain rfl : z = q := by simpa using y
              exact sm.free hq
        have ht := hat i hi
        refine ⟨.str (T l), rfl, .int (0 + (i : Nat)), rfl, T l, _, l[i], rfl, rfl, hz, by rw [Int.zero_add]; exact ht, rfl, _, rfl, ite2 (fun e => ?_) (fun e => ?_)⟩
        · have hN : isN l i = true := (isN_iff i hi).mpr ((eqN _).mp (of_decide_eq_true e))
          refine ⟨.int (0 + (i : Nat)), rfl, rfl, _, rfl, ite2 (fun e0 => ?_) (fun e0 => ?_)⟩
          · have hi0 : i = 0 := by
              have := V.int.inj (of_decide_eq_true e0)
              omega
            refine ⟨.ref pl, rfl, .inl ⟨rfl, _, .inl (.inl hx)⟩, .int (0 + (i : Nat)), rfl, by show 2 ≤ sizeLine; decide, fun q hq => ⟨pl, xs, _, rfl, rfl, by rw [upd_ne (ne_of_none hx hq)]; exact hx, line_ok7 (by omega), ?_⟩⟩
            obtain ⟨g1, g2, g3, g4, g5⟩ := grow q hq _ rfl
            exact ⟨_, _, rfl, g1, g2, g3, g4, g5, .inl ⟨hN, by rw [if_neg (by omega)]⟩⟩
          · have hi0 : 0 < i := by
              refine Nat.pos_of_ne_zero fun z => e0 (decide_eq_true ?_)
              rw [z]
              rfl
            refine ⟨.str (T l), rfl, .int (0 + (i : Nat)), rfl, _, 1, rfl, rfl, T l, _, l[i - 1], rfl, rfl, hz, by rw [show (0 : Int) + ((i : Nat) : Int) - 1 = ((i - 1 : Nat) : Int) by omega]; exact hat (i - 1) (by omega), rfl, _, rfl, ite2 (fun e1 => ?_) (fun e1 => ?_)⟩
            · have hp : ¬ isN l (i - 1) = true := fun z => by
                have h1 : l[i - 1] = 78 := (isN_iff (i - 1) (by omega)).mp z
                have h2 : decide (V.str ⟨#[l[i - 1]]⟩ = V.str (Str.ofString "N")) = true := decide_eq_true ((eqN _).mpr h1)
                rw [show (!decide (V.str ⟨#[l[i - 1]]⟩ = V.str (Str.ofString "N"))) = false by rw [h2]; rfl] at e1
                cases e1
              refine ⟨.ref pl, rfl, .inl ⟨rfl, _, .inl (.inl hx)⟩, .int (0 + (i : Nat)), rfl, by show 2 ≤ sizeLine; decide, fun q hq => ⟨pl, xs, _, rfl, rfl, by rw [upd_ne (ne_of_none hx hq)]; exact hx, line_ok7 (by omega), ?_⟩⟩
              obtain ⟨g1, g2, g3, g4, g5⟩ := grow q hq _ rfl
              exact ⟨_, _, rfl, g1, g2, g3, g4, g5, .inl ⟨hN, by rw [if_neg (fun z => hp z.2)]⟩⟩
            · have hp : isN l (i - 1) = true := (isN_iff (i - 1) (by omega)).mpr ((eqN _).mp (by
                have h2 : decide (V.str ⟨#[l[i - 1]]⟩ = V.str (Str.ofString "N")) = true := by simpa using e1
                exact of_decide_eq_true h2))
              exact ⟨xs, _, rfl, sm, hx, hr, nd, fr, .inl ⟨hN, by rw [if_pos ⟨hi0, hp⟩]⟩⟩
        · have hN : isN l i = false := by
            cases q : isN l i with
            | false => rfl
            | true => exact absurd (decide_eq_true ((eqN _).mpr ((isN_iff i hi).mp q))) e
          exact iteF ⟨xs, _, rfl, sm, hx, hr, nd, fr, .inr ⟨hN, rfl⟩⟩
      rintro σ H2 ⟨xs, rs, rfl, sm, hx, hr, nd, fr, hcase⟩
      have ht := hat i hi
      refine ⟨.str (T l), rfl, .int (0 + (i : Nat)), rfl, T l, _, l[i], rfl, rfl, hz, by rw [Int.zero_add]; exact ht, rfl, _, rfl, ite2 (fun e => ?_) (fun e => ?_)⟩
      · have hN : isN l i = true := (isN_iff i hi).mpr ((eqN _).mp (of_decide_eq_true e))
        have hrs : rs = if 0 < i ∧ isN l (i - 1) = true then runsTo l i else runsTo l i ++ [(i, 0)] := by
          rcases hcase with z | z
          · exact z.2
          · rw [hN] at z
            cases z.1
        have hrs2 : runsTo l (i + 1) = bump rs := by
          conv => lhs; unfold runsTo
          rw [if_pos hN, hrs]
        have hne : rs ≠ [] := by
          rw [hrs]
          split
          · rename_i c
            have := runsTo_ne c.2
            rwa [Nat.sub_add_cancel c.1] at this
          · simp
        obtain ⟨r0, r, rfl⟩ : ∃ r0 r, rs = r0 ++ [r] := ⟨rs.dropLast, rs.getLast hne, (List.dropLast_concat_getLast hne).symm⟩
        obtain ⟨zs, x, rfl, h1, q, rfl, nq, hq⟩ := paired_snoc_inv hr
        have hzl : (zs ++ [V.ref q]).length = zs.length + 1 := by rw [List.length_append]; rfl
        have hlast : atI (zs ++ [V.ref q]) ((((zs ++ [V.ref q]).length : Nat) : Int) - 1) = some (V.ref q) := by
          rw [hzl, show (((zs.length + 1 : Nat) : Int) - 1) = ((zs.length : Nat) : Int) by omega]
          exact atI_nat (by simp)
        refine ⟨.ref pl, rfl, .ref pl, rfl, pl, _, rfl, .inl (.inl (.inl hx)), _, 1, rfl, rfl, pl, _, _, .ref q, rfl, rfl, .inl (.inl hx), hlast, q, _, 1, .int (r.2 : Int), rfl, rfl, .inl (.inl hq), atI_nat (j := 1) rfl, _, 1, rfl, rfl, .ref pl, rfl, .ref pl, rfl, pl, _, rfl, .inl (.inl (.inl hx)), _, 1, rfl, rfl, pl, _, _, .ref q, rfl, rfl, .inl (.inl hx), hlast, q, _, 1, 1, rfl, rfl, hq, rfl, ?_⟩
        have hqH : H q = none := fr q (by simp)
        have nzs : V.ref q ∉ zs := fun z => (List.nodup_append.mp nd).2.2 _ z _ (List.mem_singleton.mpr rfl) rfl
        refine ⟨_, _, rfl, fun b o e => ?_, ?_, ?_, nd, fr⟩
        · rw [upd_ne (ne_of_none e hqH)]
          exact sm _ _ e
        · rw [upd_ne nq.symm]
          exact hx
        · rw [hrs2, bump_snoc]
          have h1' : Rns pl (upd H2 q (.lst ([V.int (r.1 : Int), .int (r.2 : Int)].set 1 (.int ((r.2 : Int) + 1))))) zs r0 := Rns.mono h1 fun b o m n e => by
            rw [upd_ne (fun z => nzs (by rw [← z]; exact m))]
            exact e
          exact Paired.snoc h1' ⟨q, rfl, nq, upd_same⟩
      · have hN : isN l i = false := by
          cases q : isN l i with
          | false => rfl
          | true => exact absurd (decide_eq_true ((eqN _).mpr ((isN_iff i hi).mp q))) e
        have hrs : rs = runsTo l i := by
          rcases hcase with z | z
          · rw [hN] at z
            cases z.1
          · exact z.2
        refine ⟨xs, _, rfl, sm, hx, ?_, nd, fr⟩
        unfold runsTo
        rw [if_neg (by rw [hN]; decide), ← hrs]
        exact hr
    · rintro σ H1 ⟨xs, kv, rfl, sm, hx, hr, nd, fr⟩
      have hlr := runsTo_len l l.length
      have hlx : xs.length = (runs l).length := paired_len hr
      have hlr2 : (runs l).length ≤ l.length := hlr
      refine ⟨.str (T l), rfl, T l, rfl, hz, l.length, 4, by rw [T_len]; rfl, by decide, fun H2 p1 s2 hp1 h1 => ?_⟩
      refine ⟨.ref pl, rfl, pl, _, rfl, .inl (.inl (.inl (s2 _ _ hx))), (runs l).length, 4, by rw [hlx]; rfl, by decide, fun H3 p2 s3 hp2 h2 => ?_⟩
      have s13 := s2.trans s3
      have hx3 := s13 _ _ hx
      have hr3 : Rns pl H3 xs (runs l) := hr.mono fun b o _ _ e => s13 _ _ e
      have b1 := be_len 4 l.length
      have b2 := be_len 4 (runs l).length
      refine ⟨p1, p2, _, _, rfl, rfl, s3 _ _ h1, h2, line_ok7 (by rw [List.length_map, List.length_map, b1, b2]; decide), fun pd hpd => ?_⟩
      have hd4 : upd H3 pd (.lst ((be 4 l.length).map V.int ++ (be 4 (runs l).length).map V.int)) pd = some (LI (be 4 l.length ++ be 4 (runs l).length)) := by
        rw [upd_same]
        show some (HO.lst _) = some (HO.lst _)
        rw [List.map_append]
      have npd : pl ≠ pd := ne_of_none hx3 hpd
      refine ⟨.ref pl, rfl, pl, rfl, ⟨xs, .inl (.inl (same_upd hpd _ _ hx3))⟩, ?_⟩
      refine for_list (K := K) (xs := xs) (fun i σ H' => ∃ kv sv zv : Option V, σ = [some (.str (T l)), some (.ref pl), kv, some (.ref pd), sv, zv, none, none] ∧ Same H3 H' ∧ H' pd = some (LI (be 4 l.length ++ be 4 (runs l).length ++ ((runs l).take i).flatMap rb))) ⟨kv, none, none, rfl, same_upd hpd, by rw [hd4, List.take_zero, List.flatMap_nil, List.append_nil]⟩ (fun i σ H' _ ⟨_, _, _, _, s, _⟩ => .inl (.inl (s _ _ hx3))) ?_ ?_
      · rintro i v σ H4 hv ⟨kv, sv, zv, rfl, s4, h4⟩
        obtain ⟨r, hr0, qa, rfl, nqa, hqa⟩ := paired_get hr3 hv
        have hir : i < (runs l).length := (List.getElem?_eq_some_iff.mp hr0).1
        have hfl : (((runs l).take i).flatMap rb).length = i * 8 := by
          rw [rb_len, List.length_take]
          omega
        refine ⟨qa, _, rfl, .inl (.inl (s4 _ _ hqa)), rfl, _, _, rfl, _, _, rfl, rfl, ?_⟩
        refine ⟨.ref pd, rfl, .inl ⟨rfl, _, .inl (.inl h4)⟩, .int r.1, rfl, r.1, 4, rfl, by decide, fun H5 c1 s5 hc1 e1 => ⟨.int r.2, rfl, r.2, 4, rfl, by decide, fun H6 c2 s6 hc2 e2 => ⟨c1, c2, _, _, rfl, rfl, s6 _ _ e1, e2, line_ok7 (by rw [List.length_map, List.length_map, be_len, be_len]; decide), fun c3 hc3 => ?_⟩⟩⟩
        have h6 := (s5.trans s6) _ _ h4
        refine ⟨pd, c3, _, _, rfl, rfl, by rw [upd_ne (ne_of_none h6 hc3)]; exact h6, upd_same, line_ok7 ?_, _, _, _, rfl, fun b o e => ?_, ?_⟩
        · rw [List.length_map, List.length_append, List.length_append, List.length_append, List.length_map, List.length_map, be_len, be_len, hfl, be_len, be_len]
          omega
        · have e4 := s4 _ _ e
          rw [upd_ne (ne_of_none e hpd), upd_ne (ne_of_none ((s5.trans s6) _ _ e4) hc3)]
          exact (s5.trans s6) _ _ e4
        · have e3 : List.flatMap rb (some r).toList = be 4 r.1 ++ be 4 r.2 := by simp [rb]
          rw [upd_same, List.take_add_one, hr0, List.flatMap_append, e3]
          show some (HO.lst _) = some (HO.lst _)
          simp only [List.map_append, List.append_assoc]
      · rintro σ H4 ⟨kv, sv, zv, rfl, s4, h4⟩
        rw [hlx, List.take_length] at h4
        refine ⟨.str (T l), rfl, T l, rfl, fun D hD => ?_⟩
        refine lc_gen (n := (T l).cps.size) (fun j H2 => Same H4 H2 ∧ j ≤ l.length ∧ H2 D = some (LI ((l.take j).map cd))) ⟨same_upd hD, Nat.zero_le _, upd_same⟩ (fun j H2 hj _ => hj) (fun H2 _ => Nat.le_refl _) ?_ ?_
        · rintro j H5 x H6 hj ⟨s5, _, hd5⟩ ⟨rfl, c, hc, rfl⟩
          have hc2 : l[j]? = some c := by
            rw [← T_at]
            exact hc
          have hjl2 : j < l.length := (List.getElem?_eq_some_iff.mp hc2).1
          refine ⟨rfl, ?_⟩
          dsimp only [tYes]
          rw [if_pos rfl]
          refine ⟨rfl, .str ⟨#[c]⟩, rfl, _, _, rfl, rfl, 0, _, rfl, _, hd5, line_ok6 (by rw [List.length_map, List.length_map, List.length_take]; omega), fun b o e => ?_, hjl2, ?_⟩
          · rw [upd_ne (ne_of_none e hD)]
            exact s5 b o e
          · have e2 := cd_find (hd c (List.mem_of_getElem? hc2))
            rw [upd_same, List.take_add_one, hc2, List.map_append]
            refine congrArg some (Eq.trans ?_ (LI_snoc _ _).symm)
            rw [← e2]
            try rfl
        · rintro H5 ⟨s5, _, hd5⟩
          rw [T_size, List.take_length] at hd5
          refine ⟨by show 3 ≤ sizeLine; decide, fun p3 hp3 => ⟨D, p3, _, _, rfl, rfl, by rw [upd_ne (ne_of_none hd5 hp3)]; exact hd5, upd_same, line_ok7 (by rw [List.length_map, List.length_map]; show l.length + 3 ≤ 10000000; omega), fun pg hpg => ?_⟩⟩
          have npg : pd ≠ pg := ne_of_none ((s5.trans (same_upd hp3)) _ _ h4) hpg
          have hg6 : upd (upd H5 p3 (.lst [.int 0, .int 0, .int 0])) pg (.lst ((l.map cd).map V.int ++ [.int 0, .int 0, .int 0])) pg = some (LI (l.map cd ++ [0, 0, 0])) := by
            rw [upd_same]
            show some (HO.lst _) = some (HO.lst _)
            rw [List.map_append]
            rfl
          have s46 : Same H4 (upd (upd H5 p3 (.lst [.int 0, .int 0, .int 0])) pg (.lst ((l.map cd).map V.int ++ [.int 0, .int 0, .int 0]))) := (s5.trans (same_upd hp3)).trans (same_upd hpg)
          refine ⟨.str (T l), rfl, T l, rfl, hz, _, 3, rfl, rfl, _, 4, rfl, rfl, ⟨by decide, by decide⟩, _, rfl, ?_, ?_, ?_⟩
          · rw [T_len]
            omega
          · rw [T_len]
            omega
          rw [T_len, show ((((l.length : Nat) : Int) + 3) / 4).toNat = (l.length + 3) / 4 by omega]
          refine for_range (lo := 0) (n := (l.length + 3) / 4) (fun i σ H' => ∃ kv sv zv : Option V, σ = [some (.str (T l)), some (.ref pl), kv, some (.ref pd), sv, zv, some (.ref pg), none] ∧ Same H3 H' ∧ H' pg = some (LI (l.map cd ++ [0, 0, 0])) ∧ H' pd = some (LI (be 4 l.length ++ be 4 (runs l).length ++ (runs l).flatMap rb ++ (List.range i).map (qb l)))) ⟨_, _, _, rfl, s4.trans s46, hg6, by rw [s46 _ _ h4, List.range_zero, List.map_nil, List.append_nil]⟩ ?_ ?_
          · rintro i σ H7 hi ⟨kv, sv, zv, rfl, s7, hg7, hd7⟩
            have ix : ∀ j : Nat, j < 4 → atI ((l.map cd ++ [0, 0, 0]).map V.int) ((4 : Int) * (0 + ((i : Nat) : Int)) + (j : Nat)) = some (.int (gl l (4 * i + j))) := fun j hj => by
              rw [show (4 : Int) * (0 + ((i : Nat) : Int)) + (j : Nat) = ((4 * i + j : Nat) : Int) by omega]
              exact atI_nat (gl_at (by omega))
            have ix0 : atI ((l.map cd ++ [0, 0, 0]).map V.int) ((4 : Int) * (0 + ((i : Nat) : Int))) = some (.int (gl l (4 * i))) := by
              have := ix 0 (by decide)
              rwa [show (4 : Int) * (0 + ((i : Nat) : Int)) + ((0 : Nat) : Int) = 4 * (0 + ((i : Nat) : Int)) by omega] at this
            have g0 := gl_bound l (4 * i)
            have g1 := gl_bound l (4 * i + 1)
            have g2 := gl_bound l (4 * i + 2)
            refine ⟨.ref pd, rfl, .inl ⟨rfl, _, .inl (.inl hd7)⟩, .ref pg, rfl, .int (0 + (i : Nat)), rfl, 4, _, rfl, rfl, .inl ⟨by decide, by decide⟩, pg, _, _, .int (gl l (4 * i)), rfl, rfl, .inl (.inl hg7), ix0, _, 64, rfl, rfl, .inl ⟨by omega, by omega⟩, ?_⟩
            refine ⟨.ref pg, rfl, .int (0 + (i : Nat)), rfl, 4, _, rfl, rfl, .inl ⟨by decide, by decide⟩, _, 1, rfl, rfl, pg, _, _, .int (gl l (4 * i + 1)), rfl, rfl, .inl (.inl hg7), ix 1 (by decide), _, 16, rfl, rfl, .inl ⟨by omega, by omega⟩, _, _, rfl, rfl, ?_⟩
            refine ⟨.ref pg, rfl, .int (0 + (i : Nat)), rfl, 4, _, rfl, rfl, .inl ⟨by decide, by decide⟩, _, 2, rfl, rfl, pg, _, _, .int (gl l (4 * i + 2)), rfl, rfl, .inl (.inl hg7), ix 2 (by decide), _, 4, rfl, rfl, .inl ⟨by omega, by omega⟩, _, _, rfl, rfl, ?_⟩
            refine ⟨.ref pg, rfl, .int (0 + (i : Nat)), rfl, 4, _, rfl, rfl, .inl ⟨by decide, by decide⟩, _, 3, rfl, rfl, pg, _, _, .int (gl l (4 * i + 3)), rfl, rfl, .inl (.inl hg7), ix 3 (by decide), _, _, rfl, rfl, ?_⟩
            refine ⟨pd, _, _, rfl, rfl, hd7, line_ok7 ?_, _, _, _, rfl, fun b o e => ?_, ?_, ?_⟩
            · rw [List.length_map, List.length_append, List.length_append, List.length_append, be_len, be_len, rb_len, List.length_map, List.length_range]
              omega
            · rw [upd_ne (ne_of_none e hpd)]
              exact s7 _ _ e
            · rw [upd_ne npg.symm]
              exact hg7
            · rw [upd_same, List.range_succ]
              show some (HO.lst _) = some (HO.lst _)
              simp only [List.map_append, List.append_assoc]
              rfl
          · rintro σ H7 ⟨kv, sv, zv, rfl, s7, hg7, hd7⟩
            exact ⟨.ref pd, rfl, q H7 pd (sm.trans (s13.trans s7)) ((sm.trans s13).free hpd) hd7⟩
end
/-! ### numbers as bytes, the program's way -/
theorem be_at : ∀ (c n : Nat) {j : Nat}, j < c → (be c n)[j]? = some ((n / 256 ^ (c - 1 - j) % 256 : Nat) : Int)
  | 0, _, j, h => absurd h (Nat.not_lt_zero j)
  | c + 1, n, 0, _ => by
    show some _ = _
    rw [Nat.sub_zero, Nat.add_sub_cancel]
  | c + 1, n, j + 1, h => by
    show (be c n)[j]? = _
    rw [be_at c n (by omega), show c + 1 - 1 - (j + 1) = c - 1 - j by omega]
def rAnd255 : R2 := fun x y H Q => ∃ (i : Int) (k : Nat), x = .int i ∧ y = .int (2 ^ k - 1) ∧ Q (.int (i % 2 ^ k)) H
def NNb : List Str := ["number", "size", "place"]
theorem scNumB : FnScope NNb ["number", "size"] (defScope sNumB) := ⟨rfl, rfl, rfl, by decide +kernel, rfl, by decide +kernel, by decide +kernel⟩
section
variable {P : Program} {w : World} {K : PySem.W.Frag} {mg : Str → Option Value} {base : Heap}
def spNumB : Sp := fun vs H Q _ => ∃ n c : Nat, vs = [.int (n : Int), .int (c : Int)] ∧ c ≤ 1000 ∧ ∀ (H' : Hp) (p : Addr), Same H H' → H p = none → H' p = some (LI (be c n)) → Q (.ref p) H'
theorem ok_numb {f : Addr} {fd : FuncData} {k : Nat} (F : Fun K "number_bytes" "number_bytes" sNumB f fd) (mrange : mg "range" = none) (mrev : mg "reversed" = none) : FnOk P w K mg base CX0 (k + 1) f fd ["number", "size"] spNumB := by
  refine F.ok scNumB (fun vs H Q E h => ?_) (fun cdv A outer s H vs Q E hr h => ?_)
  · obtain ⟨n, c, rfl, _⟩ := h
    rfl
  · obtain ⟨n, c, rfl, hc, q⟩ := h
    refine ⟨_, pss_one (ps_ret (pe_lc (own := [("place", 2)]) (g := gName 2) (tt := tYes) (te := tOp rAnd255 (tOp (rI (fun _ j => 0 ≤ j) fun i j => V.int (i / 2 ^ j.toNat)) (tVar 0) (tOp (rI CMul fun i j => V.int (i * j)) (tC (.int 8)) (tVar 2))) (tC (.int 255))) (by rfl) scNumB.nd (pi_revR rfl mrev (prg_1 rfl mrange (pv 1))) (blkOk_by (own := [("place", 2)]) (N := NNb) (sc := defScope sNumB) (by decide +kernel))
      (fun _ _ _ _ _ => pg_name (i := 2) scNumB.nd rfl (Or.inl rfl)) (fun _ _ _ _ _ => pts_nil) (fun _ _ _ _ _ => pe_op (r := rAnd255) op_andM (pe_op op_shr (pv 0) (pe_op op_mul pe_int (pv 2))) pe_int))), ?_⟩
    refine ⟨.int c, rfl, c, rfl, by decide, by decide, by omega, by omega, fun D hD => ?_⟩
    have hcn : ((c : Int) - 0).toNat = c := by omega
    rw [hcn]
    refine lc_gen (n := c) (fun j H2 => Same H H2 ∧ j ≤ c ∧ H2 D = some (LI ((be c n).take j))) ⟨same_upd hD, Nat.zero_le _, upd_same⟩ (fun j H2 hj _ => hj) (fun H2 _ => Nat.le_refl _) ?_ ?_
    · rintro j H2 x H3 hj ⟨s2, _, hd2⟩ ⟨rfl, rfl⟩
      have ep : (0 : Int) + (c : Nat) - 1 + (j : Nat) * (-1) = ((c - 1 - j : Nat) : Int) := by omega
      have hat := be_at c n hj
      rw [ep]
      generalize hpl : c - 1 - j = pl at hat
      refine ⟨rfl, ?_⟩
      dsimp only [tYes]
      rw [if_pos rfl]
      refine ⟨.int n, rfl, .int pl, rfl, 8, _, rfl, rfl, .inl ⟨by decide, by decide⟩, _, _, rfl, rfl, by omega, _, 8, rfl, rfl, _, hd2, line_ok6 (by rw [List.length_map, List.length_take]; omega), fun b o e => ?_, hj, ?_⟩
      · rw [upd_ne (ne_of_none e hD)]
        exact s2 b o e
      · rw [upd_same, List.take_add_one, hat]
        refine congrArg some (Eq.trans ?_ (LI_snoc _ _).symm)
        show HO.lst (_ ++ [V.int ((n : Int) / 2 ^ (8 * (pl : Int)).toNat % 2 ^ 8)]) = _
        have e8 : (8 * (pl : Int)).toNat = 8 * pl := by omega
        have h256 : (256 : Nat) ^ pl = 2 ^ (8 * pl) := by rw [Nat.pow_mul]
        have ez : (n : Int) / 2 ^ (8 * pl) % 2 ^ 8 = ((n / 256 ^ pl % 256 : Nat) : Int) := by
          rw [h256, Int.natCast_emod, Int.natCast_ediv, Int.natCast_pow]
          rfl
        rw [e8, ez]
    · rintro H2 ⟨s2, _, hd2⟩
      rw [List.take_of_length_le (by rw [be_len]; exact Nat.le_refl _)] at hd2
      exact q H2 D s2 hD hd2
end
/-! ### read_index's parts that raise nothing -/
theorem bn_app1 (l : List Int) (x : Int) : l.foldl (fun a x => a * 256 + x) 0 * 256 + x = (l ++ [x]).foldl (fun a x => a * 256 + x) 0 := by
  rw [List.foldl_append]
  rfl
theorem cutV_any (xs : List V) (a k : Nat) : L2.cutV xs (some (a : Int)) (some ((a : Int) + (k : Int))) = (xs.drop a).take k := by
  unfold L2.cutV
  rw [← Int.natCast_add, HT.sIx_nat, HT.sIx_nat]
  by_cases h : a ≤ xs.length
  · rw [Nat.min_eq_left h]
    by_cases c : a + k ≤ xs.length
    · rw [Nat.min_eq_left c, Nat.add_sub_cancel_left]
    · rw [Nat.min_eq_right (by omega), List.take_of_length_le (by rw [List.length_drop]; exact Nat.le_refl _), List.take_of_length_le (by rw [List.length_drop]; omega)]
  · rw [Nat.min_eq_right (show xs.length ≤ a by omega), List.drop_of_length_le (Nat.le_refl _), List.drop_of_length_le (by omega), List.take_nil, List.take_nil]
theorem scNumAt : FnScope ["data", "at", "size", "number", "byte"] ["data", "at", "size"] (defScope sNumAt) := ⟨rfl, rfl, rfl, by decide +kernel, rfl, by decide +kernel, by decide +kernel⟩
/-- the number that bytes tell, the highest first -/
def bnN (l : List Int) : Int := l.foldl (fun a x => a * 256 + x) 0
section
variable {P : Program} {w : World} {K : PySem.W.Frag} {mg : Str → Option Value} {base : Heap}
def spNumAt (K : PySem.W.Frag) : Sp := fun vs H Q _ => ∃ (a : Addr) (ns : List Int) (b c : Nat), vs = [.ref a, .int (b : Int), .int (c : Int)] ∧ SqL K H a (ns.map V.int) ∧ ∀ H', Same H H' → Q (.int (bnN ((ns.drop b).take c))) H'
theorem ok_numat {f : Addr} {fd : FuncData} {k : Nat} (F : Fun K "number_at" "number_at" sNumAt f fd) : FnOk P w K mg base CX0 (k + 1) f fd ["data", "at", "size"] (spNumAt K) := by
  refine F.ok scNumAt (fun vs H Q E h => ?_) (fun cdv A outer s H vs Q E hr h => ?_)
  · obtain ⟨a, ns, b, c, rfl, _⟩ := h
    rfl
  · obtain ⟨a, ns, b, c, rfl, ha, q⟩ := h
    refine ⟨_, pss_cons (ps_set (i := 3) scNumAt.nd rfl (.inl rfl) pe_int)
      (pss_cons (ps_for PassesOwn.never rfl (pi_list (pe_slice sl_list (pv 0) (po_some (pv 1)) (po_some (pe_op op_add (pv 1) (pv 2))))) (pg_name (i := 4) scNumAt.nd rfl (.inl rfl))
        (pss_one (ps_set (i := 3) scNumAt.nd rfl (.inl rfl) (pe_op op_add (pe_op op_mul pe_int (pv 3)) (pv 4)))))
      (pss_one (ps_ret (pv 3)))), ?_⟩
    refine ⟨.ref a, rfl, .int b, rfl, b, rfl, .int b, rfl, .int c, rfl, b, c, rfl, rfl, _, rfl, a, _, rfl, ha, fun p hp => ?_⟩
    have hcu : upd H p (.lst (L2.cutV (ns.map V.int) (some (b : Int)) (some ((b : Int) + (c : Int))))) p = some (LI ((ns.drop b).take c)) := by
      rw [upd_same, cutV_any, ← List.map_drop, ← List.map_take]
    have sp := same_upd (o := .lst (L2.cutV (ns.map V.int) (some (b : Int)) (some ((b : Int) + (c : Int))))) hp
    generalize upd H p (.lst (L2.cutV (ns.map V.int) (some (b : Int)) (some ((b : Int) + (c : Int))))) = H1 at hcu sp
    refine ⟨p, rfl, ⟨_, .inl (.inl hcu)⟩, ?_⟩
    refine for_list (K := K) (xs := ((ns.drop b).take c).map V.int) (fun i σ H' => H' = H1 ∧ ∃ v4 : Option V, σ = [some (.ref a), some (.int (b : Int)), some (.int (c : Int)), some (.int (bnN (((ns.drop b).take c).take i))), v4]) ⟨rfl, none, rfl⟩ (fun i σ H' _ h => by rw [h.1]; exact .inl (.inl hcu)) ?_ ?_
    · rintro i v σ H2 hv ⟨rfl, v4, rfl⟩
      rw [List.getElem?_map] at hv
      obtain ⟨z, hz, rfl⟩ := Option.map_eq_some_iff.mp hv
      refine ⟨_, rfl, 256, _, rfl, rfl, .inl ⟨by decide, by decide⟩, _, rfl, _, _, rfl, rfl, rfl, some (.int z), ?_⟩
      rw [List.take_add_one, hz]
      show [_, _, _, some (V.int (256 * bnN (((ns.drop b).take c).take i) + z)), _] = _
      unfold bnN
      rw [Int.mul_comm, bn_app1]
      rfl
    · rintro σ H2 ⟨rfl, v4, rfl⟩
      rw [List.length_map, List.take_length]
      exact ⟨_, rfl, q _ sp⟩
end
theorem cut_mid (l : List Nat) (a b : Nat) : cutS (T l) (some (a : Int)) (some (b : Int)) = T ((l.drop a).take (b - a)) := by
  unfold cutS
  rw [HT.sIx_nat, HT.sIx_nat, T_len, T_list]
  show Str.mk _ = Str.mk _
  congr 2
  by_cases ha : a ≤ l.length
  · rw [Nat.min_eq_left ha]
    by_cases hb : b ≤ l.length
    · rw [Nat.min_eq_left hb]
    · rw [Nat.min_eq_right (a := b) (by omega), List.take_of_length_le (by rw [List.length_drop]; omega), List.take_of_length_le (by rw [List.length_drop]; omega)]
  · rw [Nat.min_eq_right (a := a) (by omega), List.drop_of_length_le (Nat.le_refl _), List.drop_of_length_le (by omega), List.take_nil, List.take_nil]
theorem scIntegers : FnScope ["values", "value"] ["values"] (defScope sIntegers) := ⟨rfl, rfl, rfl, by decide +kernel, rfl, by decide +kernel, by decide +kernel⟩
section
variable {P : Program} {w : World} {K : PySem.W.Frag} {mg : Str → Option Value} {base : Heap}
def spIntegers : Sp := fun vs H Q _ => ∃ (a : Addr) (ns : List Int), vs = [.ref a] ∧ H a = some (LI ns) ∧ ns.length ≤ 10000000 ∧ ∀ H', Same H H' → Q (.bl true) H'
theorem ok_integers {f : Addr} {fd : FuncData} (F : Fun K "_law_integers" "_law_integers" sIntegers f fd) (B : Bl mg) (mlist : mg "list" = none) (mall : mg "all" = none) (hI : Has P w K mg base 2 "_law_integer" ["value"] spInteger) : FnOk P w K mg base CX0 3 f fd ["values"] spIntegers := by
  obtain ⟨fI, dI', GI, gI, kI, bI⟩ := hI
  refine F.ok scIntegers (fun vs H Q E h => ?_) (fun cdv A outer s H vs Q E hr h => ?_)
  · obtain ⟨a, ns, rfl, _⟩ := h
    rfl
  · obtain ⟨a, ns, rfl, hS, hl, q⟩ := h
    refine ⟨_, pss_one (ps_ret (pe_and (pe_callB call_isi (by rfl) B.isin (by decide +kernel) (pa_cons (pv 0) (pa_cons (pe_bltn (v := .ty "list") (by rfl) mlist (by decide +kernel) rfl) pa_nil)))
      (pe_one (pe_callB (cr_all rfl) (by rfl) mall (by decide +kernel) (pa_cons (pe_lc (own := [("value", 1)]) (g := gName 1) (tt := tYes) (te := tCall spInteger [] E0 (tCons (tVar 1) tNil)) rfl scIntegers.nd (pi_list (pv 0))
        (blkOk_by (own := [("value", 1)]) (N := ["values", "value"]) (sc := defScope sIntegers) (by decide +kernel))
        (fun _ _ _ _ _ => pg_name (i := 1) scIntegers.nd rfl (Or.inl rfl)) (fun _ _ _ _ _ => pts_nil) (fun _ _ _ _ _ => pe_call GI hr (by rfl) gI kI bI .nil pass0 (pa_cons (pv 1) pa_nil))) pa_nil))))), ?_⟩
    refine ⟨.ref a, rfl, _, .ty "list", _, _, true, rfl, .ty _, .base (.lst hS), kit_ty (by decide +kernel), true, rfl, iteT ?_⟩
    refine ⟨.ref a, rfl, a, rfl, ⟨_, .inl (.inl hS)⟩, fun D hD => ?_⟩
    refine lc_list (K := K) (xs := ns.map V.int) (fun j H1 => Same H H1 ∧ j ≤ ns.length ∧ H1 D = some (.lst ((List.replicate j true).map V.bl))) ⟨same_upd hD, Nat.zero_le _, upd_same⟩ (fun j H1 _ h => h.1.seq (.inl (.inl hS))) ?_ ?_
    · rintro j y H1 hjy ⟨s1, _, hd⟩
      rw [List.getElem?_map] at hjy
      obtain ⟨n1, hn1, rfl⟩ := Option.map_eq_some_iff.mp hjy
      have hj : j < ns.length := (List.getElem?_eq_some_iff.mp hn1).1
      refine ⟨rfl, ?_⟩
      dsimp only [tYes]
      rw [if_pos rfl]
      refine ⟨.int n1, rfl, n1, rfl, _, hd, line_ok7 (by rw [List.length_map, List.length_replicate]; omega), fun b o e => ?_, hj, ?_⟩
      · rw [upd_ne (ne_of_none e hD)]
        exact s1 b o e
      · rw [upd_same, List.replicate_succ', List.map_append]
        rfl
    · rintro H1 ⟨s1, _, hd⟩
      rw [List.length_map] at hd
      refine ⟨D, _, rfl, .inl (.inl hd), ?_⟩
      rw [List.all_replicate]
      have e : (if ns.length = 0 then true else id true) = true := by split <;> rfl
      rw [e]
      exact q _ s1
end
/-! ### xs[a:c] = ys -/
section
open PySem PySem.Spec PyProof.Rows L2
variable {X : Cx}
def gSl (to : TE) (tl th : TO) : TG := fun v σ H Q => to σ H fun x H1 => tl σ H1 fun i H2 => th σ H2 fun j H3 => ∃ (l b : Addr) (xs ys : List V) (a c : Int), x = .ref l ∧ v = .ref b ∧ i = some a ∧ j = some c ∧ H3 l = some (.lst xs) ∧ H3 b = some (.lst ys) ∧ l ≠ b ∧ 0 ≤ a ∧ a ≤ c ∧ c ≤ xs.length ∧
  xs.length + ys.length ≤ sizeLine ∧ Q σ (upd H3 l (.lst (xs.take a.toNat ++ ys ++ xs.drop c.toNat)))
theorem pg_slice {o : Expr} {lo hi : Option Expr} {to : TE} {tl th : TO} {p2 pos : Pos} (ho : PE X o to) (hl : PO X lo tl) (hu : PO X hi th)
    (ha : ∀ v, assign (.Subscript o (.Slice lo hi none p2) pos) X.env v = (do
      let ov ← holding [v] (eval o X.env)
      let iv ← holding [v, ov] (eval (.Slice lo hi none p2) X.env)
      standAt pos
      holding [v, ov, iv] (setItem ov iv v)
      release [iv, v, ov] []) := by intro _; rfl) : PG X (.Subscript o (.Slice lo hi none p2) pos) (gSl to tl th) := by
  refine ⟨fun pins s σ H v u Q I r h => ?_⟩
  rw [ha]
  refine wpAny_bind (wpAny_holding (thn (ho.run pins s σ H _ I h) fun ov s1 ⟨x, H1, I1, r1, q1⟩ => ?_))
  refine wpAny_bind (wpAny_holding ?_)
  refine wpAny_Slice (thn (hl.run pins s1 σ H1 _ I1 q1) fun vl s2 ⟨ol, H2, I2, pl, q2⟩ => thn (hu.run pins s2 σ H2 _ I2 q2) fun vu s3 ⟨oc, H3, I3, pu, l, b, xs, ys, i, j, ex, ev, eol, eoc, hx, hy, ne, h0, hij, hjl, hz, q3⟩ => ?_)
  rw [evalPart_none]
  refine wpAny_pure ?_
  have I4 : Inv X pins σ H3 { s3 with heap := s3.heap.push { cls := .type "slice", data := .fields #[vl, vu, .none] } } := I3.kept (t' := s3.toks) fun b ob q => Heap.get?_push_of_some _ q
  subst ex ev eol eoc
  obtain rfl : ov = Value.ref l := r1
  obtain rfl : u = Value.ref b := r
  cases pl
  cases pu
  refine wpAny_bind (wpAny_standAt (wpAny_bind (wpAny_holding (set_slice I4 hx hy ne (Heap.IsSliceOf.new ..) ⟨_, rfl⟩ ⟨_, rfl⟩ h0 hij hjl hz fun s' I' => ?_))))
  exact wpAny_release ⟨σ, _, I', q3⟩
end
/-! ### runs, as the program finds them -/
theorem runs_skip {l : List Nat} {p q : Nat} (h : p ≤ q) (hn : ∀ j, p ≤ j → j < q → isN l j = false) : runsTo l q = runsTo l p := by
  induction q with
  | zero => rw [show p = 0 by omega]
  | succ q ih =>
    by_cases e : p = q + 1
    · rw [e]
    · rw [← ih (by omega) fun j h1 h2 => hn j h1 (by omega)]
      show (if isN l q = true then _ else runsTo l q) = _
      rw [hn q (by omega) (by omega), if_neg Bool.false_ne_true]
theorem runs_block {l : List Nat} {p : Nat} (hp : p = 0 ∨ isN l (p - 1) = false) : ∀ m, (∀ j, p ≤ j → j < p + (m + 1) → isN l j = true) → runsTo l (p + (m + 1)) = runsTo l p ++ [(p, m + 1)]
  | 0, h => by
    show (if isN l p = true then bump (if 0 < p ∧ isN l (p - 1) = true then runsTo l p else runsTo l p ++ [(p, 0)]) else runsTo l p) = _
    rw [h p (by omega) (by omega), if_pos rfl, if_neg (fun z => by
      rcases hp with e | e
      · omega
      · rw [e] at z
        exact Bool.false_ne_true z.2), bump_snoc]
  | m + 1, h => by
    have ih := runs_block hp m fun j h1 h2 => h j h1 (by omega)
    show (if isN l (p + (m + 1)) = true then bump (if 0 < p + (m + 1) ∧ isN l (p + (m + 1) - 1) = true then runsTo l (p + (m + 1)) else _) else _) = _
    rw [h (p + (m + 1)) (by omega) (by omega), if_pos rfl, if_pos ⟨by omega, h (p + (m + 1) - 1) (by omega) (by omega)⟩, ih, bump_snoc]
theorem isN_lt {l : List Nat} {j : Nat} (h : isN l j = true) : j < l.length := by
  have e : l[j]? = some 78 := of_decide_eq_true h
  exact (List.getElem?_eq_some_iff.mp e).1
theorem find_next (l : List Nat) (p : Nat) : (Txt.find3 (T l) ⟨#[78]⟩ (p : Int) = -1 ∧ ∀ j, p ≤ j → isN l j = false) ∨ ∃ k : Nat, Txt.find3 (T l) ⟨#[78]⟩ (p : Int) = (k : Int) ∧ p ≤ k ∧ k < l.length ∧ isN l k = true ∧ ∀ j, p ≤ j → j < k → isN l j = false := by
  have ef : PySem.fromIndex (T l).length (p : Int) = p := by
    unfold PySem.fromIndex
    rw [if_neg (by omega)]
    omega
  have gd : ∀ j, j < l.length → (T l).cps.getD j 0 = l.getD j 0 := fun j hj => by
    show l.toArray.getD j 0 = _
    simp
  have nn : ∀ j, j < l.length → l.getD j 0 ≠ 78 → isN l j = false := fun j hj h => by
    unfold isN
    rw [List.getElem?_eq_getElem hj]
    refine decide_eq_false fun z => h ?_
    rw [List.getD_eq_getElem?_getD, List.getElem?_eq_getElem hj]
    exact Option.some.inj z
  rcases StrLaws.find3_spec (T l) 78 (p : Int) with ⟨h, hn⟩ | ⟨k, h, h1, h2, h3, hn⟩
  · refine .inl ⟨h, fun j hj => ?_⟩
    by_cases hl : j < l.length
    · refine nn j hl ?_
      rw [← gd j hl]
      exact hn j (by rw [ef]; exact hj) (by rw [T_len]; exact hl)
    · cases e : isN l j with
      | false => rfl
      | true => exact absurd (isN_lt e) hl
  · rw [ef] at h1
    rw [T_len] at h2
    refine .inr ⟨k, h, h1, h2, ?_, fun j hj hk => ?_⟩
    · rw [gd k h2] at h3
      unfold isN
      rw [List.getD_eq_getElem?_getD, List.getElem?_eq_getElem h2] at h3
      rw [List.getElem?_eq_getElem h2]
      exact decide_eq_true (congrArg some h3)
    · refine nn j (by omega) ?_
      rw [← gd j (by omega)]
      exact hn j (by rw [ef]; exact hj) hk
/-! ### what the runs are -/
structure RunsOk (l : List Nat) (i : Nat) (rs : List Rn) : Prop where
  pos : ∀ r ∈ rs, 1 ≤ r.2 ∧ r.1 + r.2 ≤ i ∧ ∀ j, r.1 ≤ j → j < r.1 + r.2 → isN l j = true
  apart : rs.Pairwise fun r s => r.1 + r.2 + 1 ≤ s.1
  all : ∀ j, j < i → isN l j = true → ∃ r ∈ rs, r.1 ≤ j ∧ j < r.1 + r.2
theorem runs_ok_aux (l : List Nat) : ∀ i, RunsOk l i (runsTo l i) ∧ (0 < i → isN l (i - 1) = true → ∃ a r, runsTo l i = a ++ [r] ∧ r.1 + r.2 = i) ∧ (0 < i → isN l (i - 1) = false → ∀ r ∈ runsTo l i, r.1 + r.2 + 1 ≤ i)
  | 0 => ⟨⟨fun r hr => (nomatch hr), .nil, fun j hj => absurd hj (Nat.not_lt_zero j)⟩, fun h => absurd h (Nat.lt_irrefl 0), fun h => absurd h (Nat.lt_irrefl 0)⟩
  | k + 1 => by
    obtain ⟨R, L1, L2⟩ := runs_ok_aux l k
    have ed : runsTo l (k + 1) = if isN l k = true then bump (if 0 < k ∧ isN l (k - 1) = true then runsTo l k else runsTo l k ++ [(k, 0)]) else runsTo l k := rfl
    rw [ed]
    cases hN : isN l k with
    | false =>
      rw [if_neg Bool.false_ne_true]
      refine ⟨⟨fun r hr => ?_, R.apart, fun j hj hn => ?_⟩, fun _ h => ?_, fun _ _ r hr => ?_⟩
      · have := R.pos r hr
        exact ⟨this.1, by omega, this.2.2⟩
      · refine R.all j ?_ hn
        by_cases e : j = k
        · rw [e, hN] at hn
          cases hn
        · omega
      · rw [Nat.add_sub_cancel, hN] at h
        cases h
      · have := (R.pos r hr).2.1
        omega
    | true =>
      rw [if_pos rfl]
      by_cases hc : 0 < k ∧ isN l (k - 1) = true
      · rw [if_pos hc]
        obtain ⟨a, r, er, hr⟩ := L1 hc.1 hc.2
        rw [er, bump_snoc]
        rw [er] at R
        have hpr := R.pos r (by simp)
        have hap := List.pairwise_append.mp R.apart
        refine ⟨⟨fun s hs => ?_, ?_, fun j hj hn => ?_⟩, fun _ _ => ⟨a, _, rfl, by show r.1 + (r.2 + 1) = k + 1; omega⟩, fun _ h => ?_⟩
        · rcases List.mem_append.mp hs with z | z
          · have := R.pos s (List.mem_append_left _ z)
            exact ⟨this.1, by omega, this.2.2⟩
          · obtain rfl : s = (r.1, r.2 + 1) := by simpa using z
            refine ⟨by show 1 ≤ r.2 + 1; omega, by show r.1 + (r.2 + 1) ≤ k + 1; omega, fun j h1 h2 => ?_⟩
            have h2' : j < r.1 + (r.2 + 1) := h2
            by_cases e : j = k
            · rw [e]
              exact hN
            · exact hpr.2.2 j h1 (by omega)
        · refine List.pairwise_append.mpr ⟨hap.1, List.pairwise_singleton _ _, fun s hs t ht => ?_⟩
          obtain rfl : t = (r.1, r.2 + 1) := by simpa using ht
          exact hap.2.2 s hs r (List.mem_singleton.mpr rfl)
        · by_cases e : j = k
          · exact ⟨(r.1, r.2 + 1), by simp, by show r.1 ≤ j; omega, by show j < r.1 + (r.2 + 1); omega⟩
          · obtain ⟨s, hs, h1, h2⟩ := R.all j (by omega) hn
            rcases List.mem_append.mp hs with z | z
            · exact ⟨s, List.mem_append_left _ z, h1, h2⟩
            · obtain rfl : s = r := by simpa using z
              exact ⟨(s.1, s.2 + 1), by simp, h1, by show j < s.1 + (s.2 + 1); omega⟩
        · rw [Nat.add_sub_cancel, hN] at h
          cases h
      · rw [if_neg hc, bump_snoc]
        refine ⟨⟨fun s hs => ?_, ?_, fun j hj hn => ?_⟩, fun _ _ => ⟨runsTo l k, _, rfl, by show k + (0 + 1) = k + 1; omega⟩, fun _ h => ?_⟩
        · rcases List.mem_append.mp hs with z | z
          · have := R.pos s z
            exact ⟨this.1, by omega, this.2.2⟩
          · obtain rfl : s = (k, 0 + 1) := by simpa using z
            refine ⟨(show 1 ≤ 0 + 1 by decide), by show k + (0 + 1) ≤ k + 1; omega, fun j h1 h2 => ?_⟩
            have h1' : k ≤ j := h1
            have h2' : j < k + (0 + 1) := h2
            rw [show j = k by omega]
            exact hN
        · refine List.pairwise_append.mpr ⟨R.apart, List.pairwise_singleton _ _, fun s hs t ht => ?_⟩
          obtain rfl : t = (k, 0 + 1) := by simpa using ht
          show s.1 + s.2 + 1 ≤ k
          by_cases hk : 0 < k
          · cases hp : isN l (k - 1) with
            | true => exact absurd ⟨hk, hp⟩ hc
            | false => exact L2 hk hp s hs
          · have := R.pos s hs
            omega
        · by_cases e : j = k
          · exact ⟨(k, 0 + 1), by simp, by show k ≤ j; omega, by show j < k + (0 + 1); omega⟩
          · obtain ⟨s, hs, h1, h2⟩ := R.all j (by omega) hn
            exact ⟨s, List.mem_append_left _ hs, h1, h2⟩
        · rw [Nat.add_sub_cancel, hN] at h
          cases h
theorem runs_ok (l : List Nat) : RunsOk l l.length (runs l) := (runs_ok_aux l l.length).1
/-! ### bytes back -/
theorem bn_be : ∀ c n : Nat, bn (be c n) = ((n % 256 ^ c : Nat) : Int)
  | 0, n => by
    rw [Nat.pow_zero, Nat.mod_one]
    rfl
  | c + 1, n => by
    have key : ∀ (l : List Int) (a : Int), l.foldl (fun a x => a * 256 + x) a = a * 256 ^ l.length + l.foldl (fun a x => a * 256 + x) 0 := by
      intro l
      induction l with
      | nil =>
        intro a
        show a = a * 256 ^ 0 + 0
        omega
      | cons x r ih =>
        intro a
        rw [List.foldl_cons, List.foldl_cons, ih (a * 256 + x), ih (0 * 256 + x), List.length_cons, Int.pow_succ, Int.zero_mul, Int.zero_add, Int.add_mul, Int.mul_assoc, Int.mul_comm 256, Int.add_assoc]
    have ih := bn_be c n
    unfold bn at ih ⊢
    show (be c n).foldl (fun a x => a * 256 + x) (0 * 256 + ((n / 256 ^ c % 256 : Nat) : Int)) = _
    rw [key, ih, be_len, Int.zero_mul, Int.zero_add]
    have e2 : (n / 256 ^ c % 256) * 256 ^ c + n % 256 ^ c = n % 256 ^ (c + 1) := by
      rw [Nat.pow_succ, Nat.mod_mul, Nat.mul_comm, Nat.add_comm]
    rw [← e2, Int.natCast_add, Int.natCast_mul, Int.natCast_pow]
    rfl
theorem bn_be4 {n : Nat} (h : n < 4294967296) : bn (be 4 n) = (n : Int) := by
  rw [bn_be, Nat.mod_eq_of_lt (Nat.lt_of_lt_of_le h (by decide))]
theorem rg_ch {n k : Nat} (hn : n ≤ 1000000) (h1 : 1 ≤ k) (hk : k ≤ 1000) : RgC 0 (n : Int) (k : Int) ((n + k - 1) / k) := by
  have h0 : (0 : Int) ≤ (n : Int) := by omega
  have hc : (1 : Int) ≤ (k : Int) := by omega
  have e : (((n + k - 1) / k : Nat) : Int) = ((n : Int) + (k : Int) - 1) / (k : Int) := by
    rw [Int.natCast_ediv, show ((n + k - 1 : Nat) : Int) = (n : Int) + (k : Int) - 1 by omega]
  refine ⟨by omega, by omega, ?_, ?_⟩
  · unfold Builtin.Range.small
    rw [rangeSize_pos hc h0, ← e]
    have q1 : (n + k - 1) / k ≤ n + k - 1 := Nat.div_le_self _ _
    generalize (n + k - 1) / k = qq at q1
    simp only [Builtin.Range.rangeFitsLong, Bool.and_eq_true, Bool.or_eq_true, decide_eq_true_eq, beq_iff_eq]
    refine ⟨⟨⟨⟨by omega, by omega, by omega⟩, by omega, by omega⟩, by omega, by omega⟩, .inr ?_⟩
    rw [if_pos (by omega), Bool.and_eq_true, decide_eq_true_eq, decide_eq_true_eq]
    omega
  · rw [rangeSize_pos hc h0, e]
/-! ### the program: packing -/
theorem iteN {c A B : Prop} [Decidable c] (h1 : ¬ c → A) (h2 : c → B) : if (!decide c) = true then A else B := by
  by_cases h : c
  · rw [decide_eq_true h]
    exact iteF (h2 h)
  · rw [decide_eq_false h]
    exact iteT (h1 h)
theorem tN : Str.ofString "N" = T [78] := by decide +kernel
theorem one_eq {c d : Nat} {s : Str} (h : s = T [d]) : (V.str (T [c]) = V.str s) ↔ c = d := by
  rw [h]
  constructor
  · intro e
    have := T_inj (V.str.inj e)
    simpa using this
  · intro e
    rw [e]
theorem at_T {l : List Nat} {i : Nat} (h : i < l.length) : atI (T l).cps.toList (i : Int) = some l[i] := atI_nat (List.getElem?_eq_getElem h)
theorem isN_at {l : List Nat} {i : Nat} (h : i < l.length) : isN l i = decide (l[i] = 78) := by
  unfold isN
  rw [List.getElem?_eq_getElem h]
  exact decide_eq_decide.mpr ⟨fun e => Option.some.inj e, fun e => congrArg some e⟩
def RT (H : Hp) : List V → List Rn → Prop := Paired fun v r => ∃ q, v = .ref q ∧ H q = some (.tup [.int (r.1 : Int), .int (r.2 : Int)])
theorem RT.mono {H H' : Hp} {xs : List V} {rs : List Rn} (h : RT H xs rs) (k : ∀ q ys, H q = some (.tup ys) → H' q = some (.tup ys)) : RT H' xs rs :=
  Paired.mapP h fun _ _ ⟨q, e, t⟩ => ⟨q, e, k q _ t⟩
theorem scRunsOf : FnScope ["text", "runs", "first", "behind"] ["text"] (defScope sRunsOf) := ⟨rfl, rfl, rfl, by decide +kernel, rfl, by decide +kernel, by decide +kernel⟩
theorem scLetB : FnScope ["text", "codes", "letter", "at"] ["text"] (defScope sLetB) := ⟨rfl, rfl, rfl, by decide +kernel, rfl, by decide +kernel, by decide +kernel⟩
theorem scPack : FnScope ["text", "runs", "data", "first", "size"] ["text"] (defScope sPack) := ⟨rfl, rfl, rfl, by decide +kernel, rfl, by decide +kernel, by decide +kernel⟩
def KD (K : PySem.W.Frag) (w : World) (d : Addr) (g : Nat → V) : Prop := ∀ c, Sg c → KDct K w d (T [c]) (g c)
theorem find_z (l : List Nat) : Txt.find (T l) ⟨#[78]⟩ = Txt.find3 (T l) ⟨#[78]⟩ ((0 : Nat) : Int) := PyProof.Rows.find_is_find3 _ _
/-- codes and zeros -/
theorem gl_zeros (l : List Nat) (z i : Nat) (hz : z ≤ 3) (hi : i < l.length + z) : (l.map cd ++ List.replicate z 0)[i]? = some (gl l i) := by
  unfold gl
  rw [List.getD_eq_getElem?_getD]
  by_cases h : i < l.length
  · rw [List.getElem?_append_left (by rw [List.length_map]; exact h), List.getElem?_append_left (by rw [List.length_map]; exact h), List.getElem?_eq_getElem (by rw [List.length_map]; exact h)]
    rfl
  · rw [List.getElem?_append_right (by rw [List.length_map]; omega), List.getElem?_append_right (by rw [List.length_map]; omega), List.length_map, List.getElem?_replicate, if_pos (by omega)]
    have : i - l.length = 0 ∨ i - l.length = 1 ∨ i - l.length = 2 := by omega
    rcases this with e | e | e <;> rw [e] <;> rfl
def teQ (K : PySem.W.Frag) : TE := tOp (rI0 fun i j => V.int (i + j)) (tOp (rI0 fun i j => V.int (i + j)) (tOp (rI0 fun i j => V.int (i + j)) (tOp (rI CMul fun i j => V.int (i * j)) (tC (.int 64)) (tOp (rIxL K) (tVar 1) (tVar 3))) (tOp (rI CMul fun i j => V.int (i * j)) (tC (.int 16)) (tOp (rIxL K) (tVar 1) (tOp (rI0 fun i j => V.int (i + j)) (tVar 3) (tC (.int 1)))))) (tOp (rI CMul fun i j => V.int (i * j)) (tC (.int 4)) (tOp (rIxL K) (tVar 1) (tOp (rI0 fun i j => V.int (i + j)) (tVar 3) (tC (.int 2)))))) (tOp (rIxL K) (tVar 1) (tOp (rI0 fun i j => V.int (i + j)) (tVar 3) (tC (.int 3))))
theorem rg4 {n : Nat} (h : n ≤ 1000000) (h4 : n % 4 = 0) : RgC 0 (n : Int) 4 (n / 4) := by
  have h1 := rg_ch (n := n) (k := 4) h (by decide) (by decide)
  have e : (n + 4 - 1) / 4 = n / 4 := by omega
  rw [e] at h1
  exact h1
section
variable {P : Program} {w : World} {K : PySem.W.Frag} {mg : Str → Option Value} {base : Heap}
def spRunsOf : Sp := fun vs H Q _ => ∃ l : List Nat, vs = [.str (T l)] ∧ l.length ≤ 100000 ∧ ∀ (H' : Hp) (p : Addr) (xs : List V), Same H H' → H p = none → H' p = some (.lst xs) → RT H' xs (runs l) → Q (.ref p) H'
theorem ok_runsOf {f : Addr} {fd : FuncData} {k : Nat} (F : Fun K "_runs_of" "_runs_of" sRunsOf f fd) (mlen : mg "len" = none) : FnOk P w K mg base CX0 (k + 1) f fd ["text"] spRunsOf := by
  refine F.ok scRunsOf (fun vs H Q E h => ?_) (fun cdv A outer s H vs Q E hr h => ?_)
  · obtain ⟨l, rfl, _⟩ := h
    rfl
  · obtain ⟨l, rfl, hl, q⟩ := h
    refine ⟨_, (pss_cons (ps_set (i := 1) scRunsOf.nd rfl (.inl rfl) (pe_lst pa_nil))
      (pss_cons (ps_set (i := 2) scRunsOf.nd rfl (.inl rfl) (pe_bm PySem.F.plainAttrs_str PySem.F.slot_str_find PySem.F.type_str_find mt_find (pv 0) (pa_cons pe_str pa_nil)))
      (C8.pss_cut (ps_while PassesOwn.never (pt_cmpR op_ge (pv 2) pe_int (nomark _))
        (pss_cons (ps_set (i := 3) scRunsOf.nd rfl (.inl rfl) (pv 2))
      (C8.pss_cut (ps_while PassesOwn.never (PW.pt (pw_and (pt_cmpR op_lt (pv 3) (pe_callB call_len_str (by rfl) mlen PySem.boot_len (pa_cons (pv 0) pa_nil)) (nomark _)) (pw_and1 (pt_cmpR op_eq (pe_ix ix_str (pv 0) (pv 3) (fun _ _ => rfl)) pe_str (nomark _)))))
        (pss_one (ps_aug (i := 3) scRunsOf.nd rfl (.inl rfl) pe_int ip_add)))
      (pss_cons (ps_expr (pe_bm PySem.F.plainAttrs_list PySem.F.slot_list_append PySem.F.type_list_append mt_append (pv 1) (pa_cons (pe_tup (pa_cons (pv 2) (pa_cons (pe_op op_sub (pv 3) (pv 2)) pa_nil))) pa_nil)))
      (pss_one (ps_set (i := 2) scRunsOf.nd rfl (.inl rfl) (pe_bm PySem.F.plainAttrs_str PySem.F.slot_str_find PySem.F.type_str_find mt_find3 (pv 0) (pa_cons pe_str (pa_cons (pv 3) pa_nil)))))))))
      (pss_one (ps_ret (pv 1)))))), ?_⟩
    have hz : (T l).length ≤ sizeLine := line_ok6 (by rw [T_len]; omega)
    refine ⟨Nat.zero_le _, fun p hp => ?_⟩
    refine ⟨_, rfl, rfl, T l, ⟨#[78]⟩, rfl, by rw [show (⟨#[78]⟩ : Str) = T [78] from rfl, ← tN], ?_⟩
    rw [find_z]
    refine ⟨fun σ H' => ∃ (xs : List V) (v2 v3 : Option V), Same H H' ∧ H' p = some (.lst xs) ∧ RT H' xs (runs l) ∧ σ = [some (.str (T l)), some (.ref p), v2, v3], ?_, ?_⟩
    · refine while_by (fun σ H' => ∃ (b : Nat) (xs : List V) (v3 : Option V), b ≤ l.length ∧ (b = 0 ∨ isN l b = false) ∧ Same H H' ∧ H' p = some (.lst xs) ∧ RT H' xs (runsTo l b) ∧ σ = [some (.str (T l)), some (.ref p), some (.int (Txt.find3 (T l) ⟨#[78]⟩ (b : Int))), v3])
        (fun (σ : L2.St) (_ : Hp) => match σ[2]? with | some (some (V.int x)) => if 0 ≤ x then l.length - x.toNat + 1 else 0 | _ => 0) ⟨0, [], none, Nat.zero_le _, .inl rfl, same_upd hp, upd_same, .nil, rfl⟩ ?_ ?_
      · rintro σ H1 ⟨b, xs, v3, hb, hbN, s1, hx, hr1, rfl⟩
        rcases find_next l b with ⟨ef, hn⟩ | ⟨k, ef, hbk, hkl, hkN, hn⟩
        · rw [ef]
          refine ⟨_, rfl, _, 0, rfl, rfl, _, rfl, ?_⟩
          rw [decide_eq_false (show ¬ ((-1 : Int) ≥ 0) by decide)]
          refine iteF ⟨xs, _, v3, s1, hx, ?_, rfl⟩
          have e := runs_skip (l := l) hb fun j h1 _ => hn j h1
          unfold runs
          rw [e]
          exact hr1
        · rw [ef]
          refine ⟨_, rfl, _, 0, rfl, rfl, _, rfl, ?_⟩
          rw [decide_eq_true (show ((k : Int) ≥ 0) by omega)]
          refine iteT ⟨_, rfl, ?_⟩
          have hk0 : k = 0 ∨ isN l (k - 1) = false := by
            by_cases h0 : k = 0
            · exact .inl h0
            · refine .inr (hn (k - 1) ?_ (by omega))
              by_cases hbe : b = k
              · rcases hbN with z | z
                · omega
                · rw [hbe, hkN] at z
                  cases z
              · omega
          have ek := runs_skip (l := l) hbk fun j h1 h2 => hn j h1 h2
          -- the run's end
          refine ⟨fun σ H' => H' = H1 ∧ ∃ m : Nat, k + (m + 1) ≤ l.length ∧ (∀ j, k ≤ j → j < k + (m + 1) → isN l j = true) ∧ isN l (k + (m + 1)) = false ∧ σ = [some (.str (T l)), some (.ref p), some (.int (k : Int)), some (.int ((k + (m + 1) : Nat) : Int))], ?_, ?_⟩
          · refine while_by (fun σ H' => H' = H1 ∧ ∃ m : Nat, k + m ≤ l.length ∧ (∀ j, k ≤ j → j < k + m → isN l j = true) ∧ σ = [some (.str (T l)), some (.ref p), some (.int (k : Int)), some (.int ((k + m : Nat) : Int))])
              (fun (σ : L2.St) (_ : Hp) => match σ[3]? with | some (some (V.int x)) => l.length - x.toNat | _ => 0) ⟨rfl, 0, by omega, fun j h1 h2 => absurd h2 (by omega), rfl⟩ ?_ ?_
            · rintro σ H2 ⟨rfl, m, hm, hall, rfl⟩
              have stop : isN l (k + m) = false → ∃ m' : Nat, k + (m' + 1) ≤ l.length ∧ (∀ j, k ≤ j → j < k + (m' + 1) → isN l j = true) ∧ isN l (k + (m' + 1)) = false ∧ [some (V.str (T l)), some (.ref p), some (.int (k : Int)), some (.int ((k + m : Nat) : Int))] = [some (V.str (T l)), some (.ref p), some (.int (k : Int)), some (.int ((k + (m' + 1) : Nat) : Int))] := fun h => by
                have hm0 : m ≠ 0 := fun z => by
                  rw [z, Nat.add_zero, hkN] at h
                  cases h
                obtain ⟨m', rfl⟩ : ∃ m', m = m' + 1 := ⟨m - 1, by omega⟩
                exact ⟨m', hm, hall, h, rfl⟩
              refine ⟨_, rfl, _, rfl, T l, rfl, hz, _, _, rfl, rfl, _, rfl, ?_⟩
              by_cases hlt : k + m < l.length
              · rw [decide_eq_true (show ((k + m : Nat) : Int) < ((T l).length : Nat) by rw [T_len]; omega)]
                refine iteT ⟨_, rfl, _, rfl, T l, _, _, rfl, rfl, hz, at_T hlt, rfl, _, rfl, ?_⟩
                have ed : decide (V.str ⟨#[l[k + m]]⟩ = V.str (Str.ofString "N")) = isN l (k + m) := by
                  rw [isN_at hlt]
                  exact decide_eq_decide.mpr (one_eq tN)
                rw [ed]
                cases hNN : isN l (k + m) with
                | false => exact iteF ⟨rfl, stop hNN⟩
                | true =>
                  refine iteT ⟨_, rfl, _, 1, rfl, rfl, ⟨rfl, m + 1, by omega, fun j h1 h2 => ?_, rfl⟩, ?_⟩
                  · by_cases e : j = k + m
                    · rw [e]
                      exact hNN
                    · exact hall j h1 (by omega)
                  · show l.length - (((k + m : Nat) : Int) + 1).toNat < l.length - ((k + m : Nat) : Int).toNat
                    omega
              · rw [decide_eq_false (show ¬ ((k + m : Nat) : Int) < ((T l).length : Nat) by rw [T_len]; omega)]
                have hNN : isN l (k + m) = false := by
                  cases e : isN l (k + m) with
                  | false => rfl
                  | true => exact absurd (isN_lt e) hlt
                exact iteF (iteF ⟨rfl, stop hNN⟩)
            · rintro σ H2 Q1 Q2 mo ⟨v1, e1, v2, e2, z, e3, h3, i, j, e4, e5, b1, e6, h6⟩
              refine ⟨v1, e1, v2, e2, z, e3, h3, i, j, e4, e5, b1, e6, ?_⟩
              cases b1 with
              | false => exact mo _ _ h6
              | true =>
                obtain ⟨u1, d1, u2, d2, z2, i2, c2, d3, d4, d5, d6, d7, b2, d8, h8⟩ := h6
                exact ⟨u1, d1, u2, d2, z2, i2, c2, d3, d4, d5, d6, d7, b2, d8, mo _ _ h8⟩
          rintro σ H2 ⟨rfl, m, hm, hall, hend, rfl⟩
          have hxl : xs.length ≤ b := by
            rw [paired_len hr1]
            exact runsTo_len l b
          refine ⟨.ref p, rfl, .inl ⟨rfl, _, .inl (.inl hx)⟩, _, rfl, _, rfl, _, rfl, _, _, rfl, rfl, by show 2 ≤ sizeLine; decide, fun q2 hq2 => ?_⟩
          have npq : p ≠ q2 := ne_of_none hx hq2
          refine ⟨p, xs, _, rfl, rfl, by rw [upd_ne npq]; exact hx, line_ok7 (by omega), ?_⟩
          refine ⟨_, rfl, rfl, _, rfl, T l, ⟨#[78]⟩, _, rfl, by rw [show (⟨#[78]⟩ : Str) = T [78] from rfl, ← tN], ⟨k + (m + 1), xs ++ [.ref q2], _, hm, .inr hend, fun bb o e => ?_, upd_same, ?_, rfl⟩, ?_⟩
          · rw [upd_ne (ne_of_none e hp)]
            exact same_upd hq2 _ _ (s1 _ _ e)
          · rw [runs_block hk0 m hall, ek]
            refine Paired.snoc (RT.mono hr1 fun bb ys hb => ?_) ⟨q2, rfl, ?_⟩
            · rw [upd_ne (fun z => by rw [z, hx] at hb; cases hb), upd_ne (ne_of_none hb hq2)]
              exact hb
            · rw [upd_ne npq.symm, upd_same]
              show some (HO.tup [V.int (k : Int), V.int (((k + (m + 1) : Nat) : Int) - (k : Int))]) = some (HO.tup [V.int (k : Int), V.int ((m + 1 : Nat) : Int)])
              rw [show ((k + (m + 1) : Nat) : Int) - (k : Int) = ((m + 1 : Nat) : Int) by omega]
          · show (if 0 ≤ Txt.find3 (T l) ⟨#[78]⟩ ((k + (m + 1) : Nat) : Int) then l.length - (Txt.find3 (T l) ⟨#[78]⟩ ((k + (m + 1) : Nat) : Int)).toNat + 1 else 0) < (if 0 ≤ (k : Int) then l.length - (k : Int).toNat + 1 else 0)
            rw [if_pos (show (0 : Int) ≤ (k : Int) by omega)]
            rcases find_next l (k + (m + 1)) with ⟨e2, _⟩ | ⟨k2, e2, h2, h3, _, _⟩
            · rw [e2, if_neg (by decide)]
              omega
            · rw [e2, if_pos (by omega)]
              omega
      · rintro σ H1 Q1 Q2 mo ⟨v1, e1, i, j, e4, e5, b1, e6, h6⟩
        exact ⟨v1, e1, i, j, e4, e5, b1, e6, mo _ _ h6⟩
    · rintro σ H1 ⟨xs, v2, v3, s1, hx, hr1, rfl⟩
      exact ⟨_, rfl, q H1 p xs s1 hp hx hr1⟩
def spLetB : Sp := fun vs H Q _ => ∃ l : List Nat, vs = [.str (T l)] ∧ Dna l ∧ l.length ≤ 100000 ∧ ∀ (H' : Hp) (p : Addr), Same H H' → H p = none → H' p = some (LI ((List.range ((l.length + 3) / 4)).map (qb l))) → Q (.ref p) H'
theorem ok_letB {f q0 : Addr} {fd : FuncData} {k : Nat} (F : Fun K "_letter_bytes" "_letter_bytes" sLetB f fd) (mlen : mg "len" = none) (mrange : mg "range" = none) (gd : mg "_CODES" = some (.ref q0)) (D : KD K w q0 fun c => .int (cd c)) : FnOk P w K mg base CX0 (k + 1) f fd ["text"] spLetB := by
  refine F.ok scLetB (fun vs H Q E h => ?_) (fun cdv A outer s H vs Q E hr h => ?_)
  · obtain ⟨l, rfl, _⟩ := h
    rfl
  · obtain ⟨l, rfl, hd, hl, q⟩ := h
    refine ⟨_, (pss_cons (ps_set (i := 1) scLetB.nd rfl (.inr rfl) (pe_lc (own := [("letter", 2)]) (g := gName 2) (tt := tYes) (te := tOp (rIxD K w) (tC (.ref q0)) (tVar 2)) (by rfl) scLetB.nd (pi_str (pv 0)) (blkOk_by (own := [("letter", 2)]) (N := ["text", "codes", "letter", "at"]) (sc := defScope sLetB) (by decide +kernel)) (fun _ _ _ _ _ => pg_name (i := 2) scLetB.nd rfl (Or.inl rfl)) (fun _ _ _ _ _ => pts_nil) (fun _ _ _ _ _ => pe_ix (r := (rIxD K w)) ix_kdict (pe_glob (v := .ref q0) (by rfl) gd rfl) (pv 2) (fun _ _ => rfl))))
      (C8.pss_cut (ps_while PassesOwn.never (pt_cmpR op_gt (pe_op op_mod (pe_callB call_len_seq (by rfl) mlen PySem.boot_len (pa_cons (pv 1) pa_nil)) pe_int) pe_int (nomark _))
        (pss_one (ps_expr (pe_bm PySem.F.plainAttrs_list PySem.F.slot_list_append PySem.F.type_list_append mt_append (pv 1) (pa_cons pe_int pa_nil)))))
      (pss_one (ps_ret (pe_lc (own := [("at", 3)]) (g := gName 3) (tt := tYes) (te := teQ K) (by rfl) scLetB.nd (pi_range3 rfl mrange (pa_cons pe_int (pa_cons (pe_callB call_len_seq (by rfl) mlen PySem.boot_len (pa_cons (pv 1) pa_nil)) (pa_cons pe_int pa_nil)))) (blkOk_by (own := [("at", 3)]) (N := ["text", "codes", "letter", "at"]) (sc := defScope sLetB) (by decide +kernel)) (fun _ _ _ _ _ => pg_name (i := 3) scLetB.nd rfl (Or.inl rfl)) (fun _ _ _ _ _ => pts_nil) (fun _ _ _ _ _ => pe_op op_add (pe_op op_add (pe_op op_add (pe_op op_mul pe_int (pe_ix (r := rIxL K) ix_list (pv 1) (pv 3) (fun _ _ => rfl))) (pe_op op_mul pe_int (pe_ix (r := rIxL K) ix_list (pv 1) (pe_op op_add (pv 3) pe_int) (fun _ _ => rfl)))) (pe_op op_mul pe_int (pe_ix (r := rIxL K) ix_list (pv 1) (pe_op op_add (pv 3) pe_int) (fun _ _ => rfl)))) (pe_ix (r := rIxL K) ix_list (pv 1) (pe_op op_add (pv 3) pe_int) (fun _ _ => rfl)))))))), ?_⟩
    refine ⟨_, rfl, T l, rfl, fun D1 hD1 => ?_⟩
    refine lc_gen (n := (T l).cps.size) (fun j H2 => Same H H2 ∧ j ≤ l.length ∧ H2 D1 = some (LI ((l.take j).map cd))) ⟨same_upd hD1, Nat.zero_le _, upd_same⟩ (fun j H2 hj _ => hj) (fun H2 _ => Nat.le_refl _) ?_ ?_
    · rintro j H5 x H6 hj ⟨s5, _, hd5⟩ ⟨rfl, c, hc, rfl⟩
      have hc2 : l[j]? = some c := by
        rw [← T_at]
        exact hc
      have hjl2 : j < l.length := (List.getElem?_eq_some_iff.mp hc2).1
      refine ⟨rfl, ?_⟩
      dsimp only [tYes]
      rw [if_pos rfl]
      refine ⟨_, rfl, q0, T [c], .int (cd c), rfl, rfl, D c (hd c (List.mem_of_getElem? hc2)), _, hd5, line_ok6 (by rw [List.length_map, List.length_map, List.length_take]; omega), fun b o e => ?_, hjl2, ?_⟩
      · rw [upd_ne (ne_of_none e hD1)]
        exact s5 b o e
      · rw [upd_same, List.take_add_one, hc2, List.map_append]
        exact congrArg some (LI_snoc _ _).symm
    rintro H1 ⟨s1, _, hd1⟩
    rw [T_size, List.take_length] at hd1
    refine ⟨fun σ H' => Same H H' ∧ ∃ z : Nat, z ≤ 3 ∧ (l.length + z) % 4 = 0 ∧ H' D1 = some (LI (l.map cd ++ List.replicate z 0)) ∧ σ = [some (.str (T l)), some (.ref D1), none, none], ?_, ?_⟩
    · have hzl : ∀ z : Nat, ((l.map cd ++ List.replicate z (0 : Int)).map V.int).length = l.length + z := fun z => by
        rw [List.length_map, List.length_append, List.length_map, List.length_replicate]
      refine while_by (fun σ H' => Same H H' ∧ ∃ z : Nat, z ≤ 3 ∧ (∀ y, y < z → (l.length + y) % 4 ≠ 0) ∧ H' D1 = some (LI (l.map cd ++ List.replicate z 0)) ∧ σ = [some (.str (T l)), some (.ref D1), none, none])
        (fun (_ : L2.St) (H' : Hp) => match H' D1 with | some (.lst xs) => 1000000 - xs.length | _ => 0) ⟨s1, 0, Nat.zero_le _, fun y h => absurd h (Nat.not_lt_zero y), by rw [List.replicate_zero, List.append_nil]; exact hd1, rfl⟩ ?_ ?_
      · rintro σ H2 ⟨s2, z, hz3, hne, h2, rfl⟩
        refine ⟨_, rfl, D1, _, rfl, .inl (.inl (.inl h2)), _, 4, rfl, rfl, (show (0 : Int) < 4 by decide), _, 0, rfl, rfl, _, rfl, ite2 (fun e => ?_) (fun e => ?_)⟩
        · have hm := of_decide_eq_true e
          rw [hzl] at hm
          have hm2 : (l.length + z) % 4 ≠ 0 := by omega
          refine ⟨_, rfl, .inl ⟨rfl, _, .inl (.inl h2)⟩, D1, _, _, rfl, rfl, h2, line_ok6 (by rw [hzl]; omega), ⟨fun b o e => ?_, z + 1, ?_, fun y hy => ?_, ?_, rfl⟩, ?_⟩
          · rw [upd_ne (ne_of_none e hD1)]
            exact s2 b o e
          · by_cases h : z = 3
            · have h0 := hne 0 (by omega)
              have h1 := hne 1 (by omega)
              have h2 := hne 2 (by omega)
              omega
            · omega
          · by_cases h : y = z
            · rw [h]
              exact hm2
            · exact hne y (by omega)
          · rw [upd_same, List.replicate_succ', ← List.append_assoc]
            exact congrArg some (LI_snoc _ _).symm
          · show (match (upd H2 D1 (.lst ((l.map cd ++ List.replicate z 0).map V.int ++ [.int 0]))) D1 with | some (.lst xs) => 1000000 - xs.length | _ => 0) < (match H2 D1 with | some (.lst xs) => 1000000 - xs.length | _ => 0)
            rw [upd_same, h2]
            show 1000000 - ((l.map cd ++ List.replicate z 0).map V.int ++ [V.int 0]).length < 1000000 - ((l.map cd ++ List.replicate z 0).map V.int).length
            rw [List.length_append, hzl, List.length_singleton]
            omega
        · have hm : ¬ (((l.map cd ++ List.replicate z (0 : Int)).map V.int).length : Int) % 4 > 0 := fun y => e (decide_eq_true y)
          rw [hzl] at hm
          exact ⟨s2, z, hz3, by omega, h2, rfl⟩
      · rintro σ H2 Q1 Q2 mo ⟨v1, e1, p1, ys, e2, e3, i, j, e4, e5, e6, i2, j2, e7, e8, b1, e9, h9⟩
        exact ⟨v1, e1, p1, ys, e2, e3, i, j, e4, e5, e6, i2, j2, e7, e8, b1, e9, mo _ _ h9⟩
    rintro σ H2 ⟨s2, z, hz3, hz4, h2, rfl⟩
    have hzl : ((l.map cd ++ List.replicate z (0 : Int)).map V.int).length = l.length + z := by
      rw [List.length_map, List.length_append, List.length_map, List.length_replicate]
    refine ⟨_, rfl, D1, _, rfl, .inl (.inl (.inl h2)), 0, _, 4, (l.length + z) / 4, rfl, by rw [hzl]; exact rg4 (by omega) hz4, fun D hD => ?_⟩
    have hcnt : (l.length + z) / 4 = (l.length + 3) / 4 := by omega
    refine lc_gen (n := (l.length + z) / 4) (fun j H3 => Same H2 H3 ∧ H3 D = some (LI ((List.range j).map (qb l)))) ⟨same_upd hD, upd_same⟩ (fun j H3 hj _ => hj) (fun H3 _ => Nat.le_refl _) ?_ ?_
    · rintro j H3 x H4 hj ⟨s3, hd3⟩ ⟨rfl, rfl⟩
      refine ⟨rfl, ?_⟩
      dsimp only [tYes]
      rw [if_pos rfl]
      have h3 := s3 _ _ h2
      have hat : ∀ y : Nat, y < 4 → atI ((l.map cd ++ List.replicate z (0 : Int)).map V.int) ((4 * j + y : Nat) : Int) = some (.int (gl l (4 * j + y))) := fun y hy => by
        refine atI_nat ?_
        rw [List.getElem?_map, gl_zeros l z _ hz3 (by omega)]
        rfl
      have a0 := hat 0 (by decide)
      have a1 := hat 1 (by decide)
      have a2 := hat 2 (by decide)
      have a3 := hat 3 (by decide)
      have e0 : (0 : Int) + (j : Nat) * 4 = ((4 * j + 0 : Nat) : Int) := by omega
      have e1 : (0 : Int) + (j : Nat) * 4 + 1 = ((4 * j + 1 : Nat) : Int) := by omega
      have e2 : (0 : Int) + (j : Nat) * 4 + 2 = ((4 * j + 2 : Nat) : Int) := by omega
      have e3 : (0 : Int) + (j : Nat) * 4 + 3 = ((4 * j + 3 : Nat) : Int) := by omega
      rw [← e0] at a0
      rw [← e1] at a1
      rw [← e2] at a2
      rw [← e3] at a3
      refine ⟨_, rfl, _, rfl, D1, _, _, _, rfl, rfl, .inl (.inl h3), a0, 64, _, rfl, rfl, .inl ⟨by decide, by decide⟩, _, rfl, _, rfl, _, 1, rfl, rfl, D1, _, _, _, rfl, rfl, .inl (.inl h3), a1, 16, _, rfl, rfl, .inl ⟨by decide, by decide⟩, _, _, rfl, rfl, _, rfl, _, rfl, _, 2, rfl, rfl, D1, _, _, _, rfl, rfl, .inl (.inl h3), a2, 4, _, rfl, rfl, .inl ⟨by decide, by decide⟩, _, _, rfl, rfl, _, rfl, _, rfl, _, 3, rfl, rfl, D1, _, _, _, rfl, rfl, .inl (.inl h3), a3, _, _, rfl, rfl, ?_⟩
      refine ⟨_, hd3, line_ok6 (by rw [List.length_map, List.length_map, List.length_range]; omega), fun b o e => ?_, ?_⟩
      · rw [upd_ne (ne_of_none e hD)]
        exact s3 b o e
      · rw [upd_same, List.range_succ, List.map_append]
        have eq : 64 * gl l (4 * j + 0) + 16 * gl l (4 * j + 1) + 4 * gl l (4 * j + 2) + gl l (4 * j + 3) = qb l j := by
          unfold qb
          rw [Nat.add_zero]
          omega
        refine congrArg some (Eq.trans ?_ (LI_snoc _ _).symm)
        show HO.lst (_ ++ [V.int (64 * gl l (4 * j + 0) + 16 * gl l (4 * j + 1) + 4 * gl l (4 * j + 2) + gl l (4 * j + 3))]) = _
        rw [eq]
    · rintro H3 ⟨s3, hd3⟩
      rw [hcnt] at hd3
      exact q H3 D (s2.trans s3) (s2.free hD) hd3
def spPack : Sp := fun vs H Q _ => ∃ l : List Nat, vs = [.str (T l)] ∧ Dna l ∧ l.length ≤ 100000 ∧ ∀ (H' : Hp) (p : Addr), Same H H' → H p = none → H' p = some (LI (packed l)) → Q (.ref p) H'
theorem ok_pack {f : Addr} {fd : FuncData} {k : Nat} {t4 : Tok} (F : Fun K "pack" "pack" sPack f fd) (mlen : mg "len" = none) (g4 : mg "_NUMBER_SIZE" = some (.int 4 t4)) (hR : Has P w K mg base (k + 1) "_runs_of" ["text"] spRunsOf) (hL : Has P w K mg base (k + 1) "_letter_bytes" ["text"] spLetB) (hN : Has P w K mg base (k + 1) "number_bytes" ["number", "size"] spNumB) :
    FnOk P w K mg base CX0 (k + 2) f fd ["text"] spPack := by
  obtain ⟨fR, dR, GR, gR, kR, bR⟩ := hR
  obtain ⟨fL, dL, GL, gL, kL, bL⟩ := hL
  obtain ⟨fN, dN, GN, gN, kN, bN⟩ := hN
  refine F.ok scPack (fun vs H Q E h => ?_) (fun cdv A outer s H vs Q E hr h => ?_)
  · obtain ⟨l, rfl, _⟩ := h
    rfl
  · obtain ⟨l, rfl, hd, hl, q⟩ := h
    refine ⟨_, (pss_cons (ps_set (i := 1) scPack.nd rfl (.inl rfl) (pe_call GR hr (by rfl) gR kR bR .nil pass0 (pa_cons (pv 0) pa_nil)))
      (pss_cons (ps_set (i := 2) scPack.nd rfl (.inl rfl) (pe_op op_cat (pe_call GN hr (by rfl) gN kN bN .nil pass0 (pa_cons (pe_callB call_len_str (by rfl) mlen PySem.boot_len (pa_cons (pv 0) pa_nil)) (pa_cons (pe_glob (v := .int 4) (by rfl) g4 ⟨_, rfl⟩) pa_nil))) (pe_call GN hr (by rfl) gN kN bN .nil pass0 (pa_cons (pe_callB call_len_seq (by rfl) mlen PySem.boot_len (pa_cons (pv 1) pa_nil)) (pa_cons (pe_glob (v := .int 4) (by rfl) g4 ⟨_, rfl⟩) pa_nil)))))
      (pss_cons (ps_for PassesOwn.never rfl (pi_list (pv 1)) (pg_tup rfl (pgs_cons (pg_name (i := 3) scPack.nd rfl (.inl rfl)) (pgs_cons (pg_name (i := 4) scPack.nd rfl (.inl rfl)) pgs_nil)))
        (pss_one (ps_expr (pe_bm PySem.F.plainAttrs_list PySem.F.slot_list_extend PySem.F.type_list_extend mt_extend (pv 2) (pa_cons (pe_op op_cat (pe_call GN hr (by rfl) gN kN bN .nil pass0 (pa_cons (pv 3) (pa_cons (pe_glob (v := .int 4) (by rfl) g4 ⟨_, rfl⟩) pa_nil))) (pe_call GN hr (by rfl) gN kN bN .nil pass0 (pa_cons (pv 4) (pa_cons (pe_glob (v := .int 4) (by rfl) g4 ⟨_, rfl⟩) pa_nil)))) pa_nil)))))
      (pss_cons (ps_expr (pe_bm PySem.F.plainAttrs_list PySem.F.slot_list_extend PySem.F.type_list_extend mt_extend (pv 2) (pa_cons (pe_call GL hr (by rfl) gL kL bL .nil pass0 (pa_cons (pv 0) pa_nil)) pa_nil)))
      (pss_one (ps_ret (pv 2))))))), ?_⟩
    have hz : (T l).length ≤ sizeLine := line_ok6 (by rw [T_len]; omega)
    have R := runs_ok l
    refine ⟨_, rfl, l, rfl, hl, fun H1 pr xs s1 hpr hx ht => ?_⟩
    have hxl := paired_len ht
    have hrl : (runs l).length ≤ l.length := runsTo_len l l.length
    refine ⟨_, rfl, T l, rfl, hz, l.length, 4, by rw [T_len]; rfl, by decide, fun H2 p1 s2 hp1 h1 => ?_⟩
    refine ⟨_, rfl, pr, _, rfl, .inl (.inl (.inl (s2 _ _ hx))), (runs l).length, 4, by rw [hxl]; rfl, by decide, fun H3 p2 s3 hp2 h2 => ?_⟩
    have b1 := be_len 4 l.length
    have b2 := be_len 4 (runs l).length
    refine ⟨p1, p2, _, _, rfl, rfl, s3 _ _ h1, h2, line_ok7 (by rw [List.length_map, List.length_map, b1, b2]; decide), fun pd hpd => ?_⟩
    have s13 := s2.trans s3
    have hx3 := s13 _ _ hx
    have ht3 : RT H3 xs (runs l) := ht.mono fun b ys hb => s13 _ _ hb
    have hd4 : upd H3 pd (.lst ((be 4 l.length).map V.int ++ (be 4 (runs l).length).map V.int)) pd = some (LI (be 4 l.length ++ be 4 (runs l).length)) := by
      rw [upd_same]
      show some (HO.lst _) = some (HO.lst _)
      rw [List.map_append]
    have hpdH : H pd = none := (s1.trans s13).free hpd
    have npd : pr ≠ pd := ne_of_none hx3 hpd
    have s34 := same_upd (o := .lst ((be 4 l.length).map V.int ++ (be 4 (runs l).length).map V.int)) hpd
    generalize upd H3 pd (.lst ((be 4 l.length).map V.int ++ (be 4 (runs l).length).map V.int)) = H4 at hd4 s34 ⊢
    have hx4 := s34 _ _ hx3
    refine ⟨_, rfl, pr, rfl, ⟨xs, .inl (.inl hx4)⟩, ?_⟩
    refine for_list (K := K) (xs := xs) (fun i σ H' => ∃ v3 v4 : Option V, Same H3 H' ∧ H' pd = some (LI (be 4 l.length ++ be 4 (runs l).length ++ ((runs l).take i).flatMap rb)) ∧ σ = [some (.str (T l)), some (.ref pr), some (.ref pd), v3, v4]) ⟨none, none, s34, by rw [List.take_zero, List.flatMap_nil, List.append_nil]; exact hd4, rfl⟩ (fun i σ H' _ ⟨_, _, s, _, _⟩ => .inl (.inl (s _ _ hx3))) ?_ ?_
    · rintro i v σ H5 hv ⟨v3, v4, s5, h5, rfl⟩
      obtain ⟨r, hr0, qa, rfl, hqa⟩ := paired_get ht3 hv
      have hir : i < (runs l).length := (List.getElem?_eq_some_iff.mp hr0).1
      have hfl : (((runs l).take i).flatMap rb).length = i * 8 := by
        rw [rb_len, List.length_take]
        omega
      refine ⟨qa, _, rfl, .inl (.inl (s5 _ _ hqa)), rfl, _, _, rfl, _, _, rfl, rfl, ?_⟩
      refine ⟨_, rfl, .inl ⟨rfl, _, .inl (.inl h5)⟩, _, rfl, r.1, 4, rfl, by decide, fun H6 c1 s6 hc1 e1 => ⟨_, rfl, r.2, 4, rfl, by decide, fun H7 c2 s7 hc2 e2 => ⟨c1, c2, _, _, rfl, rfl, s7 _ _ e1, e2, line_ok7 (by rw [List.length_map, List.length_map, be_len, be_len]; decide), fun c3 hc3 => ?_⟩⟩⟩
      have h7 := (s6.trans s7) _ _ h5
      refine ⟨pd, c3, _, _, rfl, rfl, by rw [upd_ne (ne_of_none h7 hc3)]; exact h7, upd_same, line_ok7 ?_, some (.int (r.1 : Int)), some (.int (r.2 : Int)), fun b o e => ?_, ?_, rfl⟩
      · rw [List.length_map, List.length_append, List.length_append, List.length_append, List.length_map, List.length_map, be_len, be_len, hfl, be_len, be_len]
        omega
      · have e4 := s5 _ _ e
        rw [upd_ne (ne_of_none e hpd), upd_ne (ne_of_none ((s6.trans s7) _ _ e4) hc3)]
        exact (s6.trans s7) _ _ e4
      · have e3 : List.flatMap rb (some r).toList = be 4 r.1 ++ be 4 r.2 := by simp [rb]
        rw [upd_same, List.take_add_one, hr0, List.flatMap_append, e3]
        show some (HO.lst _) = some (HO.lst _)
        simp only [List.map_append, List.append_assoc]
    · rintro σ H5 ⟨v3, v4, s5, h5, rfl⟩
      rw [hxl, List.take_length] at h5
      refine ⟨_, rfl, .inl ⟨rfl, _, .inl (.inl h5)⟩, _, rfl, l, rfl, hd, hl, fun H6 c s6 hc0 hc => ?_⟩
      refine ⟨pd, c, _, _, rfl, rfl, s6 _ _ h5, hc, line_ok7 ?_, ?_⟩
      · rw [List.length_map, List.length_map, List.length_append, List.length_append, be_len, be_len, rb_len, List.length_map, List.length_range]
        omega
      · refine ⟨_, rfl, q _ pd (fun b o e => ?_) hpdH ?_⟩
        · have e4 := s5 _ _ ((s1.trans s13) _ _ e)
          rw [upd_ne (ne_of_none e hpdH)]
          exact s6 _ _ e4
        · rw [upd_same]
          unfold packed
          show some (HO.lst _) = some (HO.lst _)
          simp only [List.map_append]
end
/-- a def of the module that may let InvalidLine out -/
def HasX (P : Program) (w : World) (K : PySem.W.Frag) (mg : Str → Option Value) (base : Heap) (k : Nat) (x : Str) (ps : List Str) (sp : Sp) : Prop :=
  ∃ f fd, FnOk P w K mg base (L2.CX P w) k f fd ps sp ∧ mg x = some (.ref f) ∧ PySem.W.keepIn K (.ref f) = true ∧ Binds K fd ps []
/-! ### the program: unpacking -/
def n4 (d : List Int) (a : Nat) : Nat := (bn ((d.drop a).take 4)).toNat
theorem n4_val {d : List Int} (hb : Byt d) (a : Nat) : bnN ((d.drop a).take 4) = (n4 d a : Int) := by
  have h := bn_bound (l := (d.drop a).take 4) fun x hx => hb x (List.mem_of_mem_drop (List.mem_of_mem_take hx))
  unfold n4
  show bn ((d.drop a).take 4) = _
  rw [Int.toNat_of_nonneg h.1]
theorem n4_lt {d : List Int} (hb : Byt d) (a : Nat) : n4 d a < 4294967296 := by
  have h := (bn_bound (l := (d.drop a).take 4) fun x hx => hb x (List.mem_of_mem_drop (List.mem_of_mem_take hx))).2
  have h2 : (256 : Int) ^ ((d.drop a).take 4).length ≤ 256 ^ 4 := by
    have h3 : ((d.drop a).take 4).length ≤ 4 := by rw [List.length_take]; omega
    have h4 : ((d.drop a).take 4).length = 0 ∨ ((d.drop a).take 4).length = 1 ∨ ((d.drop a).take 4).length = 2 ∨ ((d.drop a).take 4).length = 3 ∨ ((d.drop a).take 4).length = 4 := by omega
    rcases h4 with z | z | z | z | z <;> rw [z] <;> decide
  have h5 : (256 : Int) ^ 4 = 4294967296 := by decide
  unfold n4
  omega
def chr4 (x : Int) : Nat := if x = 1 then 67 else if x = 2 then 71 else if x = 3 then 84 else 65
def quad (b : Int) : List Nat := [chr4 (b / 64), chr4 (b / 16 % 4), chr4 (b / 4 % 4), chr4 (b % 4)]
def coded (bs : List Int) : List Nat := bs.flatMap quad
theorem coded_len : ∀ bs : List Int, (coded bs).length = 4 * bs.length
  | [] => rfl
  | b :: r => by
    show (quad b ++ coded r).length = _
    rw [List.length_append, coded_len r, List.length_cons]
    show 4 + _ = _
    omega
theorem coded_at : ∀ (bs : List Int) (j : Nat) (x : Int), bs[j / 4]? = some x → (coded bs)[j]? = some ((quad x).getD (j % 4) 0)
  | [], j, x, h => by cases h
  | b :: r, j, x, h => by
    show (quad b ++ coded r)[j]? = _
    by_cases hj : j < 4
    · have e0 : j / 4 = 0 := by omega
      rw [e0] at h
      obtain rfl : b = x := Option.some.inj h
      rw [List.getElem?_append_left (show j < 4 from hj), show j % 4 = j by omega]
      have : j = 0 ∨ j = 1 ∨ j = 2 ∨ j = 3 := by omega
      rcases this with e | e | e | e <;> subst e <;> rfl
    · rw [List.getElem?_append_right (show 4 ≤ j by omega)]
      have e1 : j / 4 = (j - 4) / 4 + 1 := by omega
      rw [e1] at h
      have ih := coded_at r (j - 4) x h
      show (coded r)[j - 4]? = _
      rw [ih, show (j - 4) % 4 = j % 4 by omega]
def four4 : List Nat := [65, 67, 71, 84]
theorem four4_text : Str.ofString "ACGT" = T four4 := by decide +kernel
theorem chr4_at {x : Int} (h0 : 0 ≤ x) (h4 : x < 4) : atI (Str.ofString "ACGT").cps.toList x = some (chr4 x) := by
  have h : x = 0 ∨ x = 1 ∨ x = 2 ∨ x = 3 := by omega
  rcases h with h | h | h | h <;> subst h <;> decide +kernel
theorem chr4_zero {x : Int} (h0 : 0 ≤ x) (h4 : x < 4) : chr4 x = 65 ↔ x = 0 := by
  have h : x = 0 ∨ x = 1 ∨ x = 2 ∨ x = 3 := by omega
  rcases h with h | h | h | h <;> subst h <;> decide
abbrev LC (l : List Nat) : HO := .lst (l.map fun c => V.str (T [c]))
def fsR (d : List Int) (i : Nat) : Nat := n4 d (8 + 8 * i)
def szR (d : List Int) (i : Nat) : Nat := n4 d (12 + 8 * i)
def leR (d : List Int) : Nat → Nat
  | 0 => 0
  | i + 1 => fsR d i + szR d i + 1
def OkR (d : List Int) (n i : Nat) : Prop := leR d i ≤ fsR d i ∧ 0 < szR d i ∧ fsR d i + szR d i ≤ n
def inR (d : List Int) (i j : Nat) : Bool := (List.range i).any fun k => decide (fsR d k ≤ j) && decide (j < fsR d k + szR d k)
def repL (d : List Int) (L : List Nat) (i : Nat) : List Nat := (List.range L.length).map fun j => if inR d i j = true then 78 else L.getD j 0
def letL (d : List Int) : List Nat := coded (d.drop (8 + 8 * n4 d 4))
structure Good (d : List Int) (t : List Nat) : Prop where
  size : d.length = 8 + 8 * n4 d 4 + (n4 d 0 + 3) / 4
  tail : ∀ j, n4 d 0 ≤ j → j < (letL d).length → (letL d).getD j 0 = 65
  runs : ∀ i, i < n4 d 4 → OkR d (n4 d 0) i
  zero : ∀ i, i < n4 d 4 → ∀ j, fsR d i ≤ j → j < fsR d i + szR d i → (letL d).getD j 0 = 65
  text : t = (repL d (letL d) (n4 d 4)).take (n4 d 0)
theorem inR_iff (d : List Int) (i j : Nat) : inR d i j = true ↔ ∃ k, k < i ∧ fsR d k ≤ j ∧ j < fsR d k + szR d k := by
  unfold inR
  rw [List.any_eq_true]
  constructor
  · rintro ⟨k, hk, h⟩
    rw [Bool.and_eq_true, decide_eq_true_iff, decide_eq_true_iff] at h
    exact ⟨k, List.mem_range.mp hk, h.1, h.2⟩
  · rintro ⟨k, hk, h1, h2⟩
    exact ⟨k, List.mem_range.mpr hk, by rw [decide_eq_true h1, decide_eq_true h2]; rfl⟩
theorem runs_rise {d : List Int} {n m : Nat} (h : ∀ i, i < m → OkR d n i) : ∀ i, i < m → ∀ k, k < i → fsR d k + szR d k + 1 ≤ fsR d i
  | 0, _, k, hk => absurd hk (Nat.not_lt_zero k)
  | i + 1, hi, k, hk => by
    have h1 := (h (i + 1) hi).1
    have e : leR d (i + 1) = fsR d i + szR d i + 1 := rfl
    rw [e] at h1
    by_cases hki : k = i
    · rw [hki]
      exact h1
    · have h2 := runs_rise h i (by omega) k (by omega)
      omega
theorem repL_len (d : List Int) (L : List Nat) (i : Nat) : (repL d L i).length = L.length := by
  unfold repL
  rw [List.length_map, List.length_range]
theorem repL_at {d : List Int} {L : List Nat} {i j : Nat} (h : j < L.length) : (repL d L i)[j]? = some (if inR d i j = true then 78 else L.getD j 0) := by
  unfold repL
  rw [List.getElem?_map, List.getElem?_range h]
  rfl
theorem repL_getD {d : List Int} {L : List Nat} {i j : Nat} (h : j < L.length) : (repL d L i).getD j 0 = if inR d i j = true then 78 else L.getD j 0 := by
  rw [List.getD_eq_getElem?_getD, repL_at h]
  rfl
theorem repL_zero (d : List Int) (L : List Nat) : repL d L 0 = L := by
  refine List.ext_getElem? fun j => ?_
  by_cases h : j < L.length
  · rw [repL_at h, List.getD_eq_getElem?_getD, List.getElem?_eq_getElem h]
    rfl
  · rw [List.getElem?_eq_none (by rw [repL_len]; omega), List.getElem?_eq_none (by omega)]
theorem repL_step {d : List Int} {L : List Nat} {i : Nat} (h : fsR d i + szR d i ≤ L.length) : (repL d L i).take (fsR d i) ++ List.replicate (szR d i) 78 ++ (repL d L i).drop (fsR d i + szR d i) = repL d L (i + 1) := by
  refine List.ext_getElem? fun j => ?_
  have e1 : ((repL d L i).take (fsR d i)).length = fsR d i := by rw [List.length_take, repL_len]; omega
  have e2 : ((repL d L i).take (fsR d i) ++ List.replicate (szR d i) 78).length = fsR d i + szR d i := by rw [List.length_append, e1, List.length_replicate]
  have hin : inR d (i + 1) j = (inR d i j || (decide (fsR d i ≤ j) && decide (j < fsR d i + szR d i))) := by
    unfold inR
    rw [List.range_succ, List.any_append]
    simp
  by_cases hj : j < L.length
  · rw [repL_at hj, hin]
    by_cases h1 : j < fsR d i
    · rw [List.getElem?_append_left (by rw [e2]; omega), List.getElem?_append_left (by rw [e1]; exact h1), List.getElem?_take, if_pos h1, repL_at hj, decide_eq_false (show ¬ fsR d i ≤ j by omega), Bool.false_and, Bool.or_false]
    · by_cases h2 : j < fsR d i + szR d i
      · rw [List.getElem?_append_left (by rw [e2]; exact h2), List.getElem?_append_right (by rw [e1]; omega), e1, List.getElem?_replicate, if_pos (by omega), decide_eq_true (show fsR d i ≤ j by omega), decide_eq_true h2, Bool.and_self, Bool.or_true, if_pos rfl]
      · rw [List.getElem?_append_right (by rw [e2]; omega), e2, List.getElem?_drop, show fsR d i + szR d i + (j - (fsR d i + szR d i)) = j by omega, repL_at hj, decide_eq_false h2, Bool.and_false, Bool.or_false]
  · rw [List.getElem?_eq_none (by rw [List.length_append, e2, List.length_drop, repL_len]; omega), List.getElem?_eq_none (by rw [repL_len]; omega)]
theorem rgk {k : Int} {m : Nat} (hk : k = 8) (h : m ≤ 1000000) : RgC k (k + (m : Int) * k) k m := by
  have es : Builtin.Range.rangeSize k (k + (m : Int) * k) k = m := by
    unfold Builtin.Range.rangeSize
    subst hk
    rw [if_pos (by decide)]
    split <;> omega
  refine ⟨by omega, by omega, ?_, es⟩
  have hmk : (m : Int) * k = (m : Int) * 8 := by rw [hk]
  unfold Builtin.Range.small
  rw [es]
  generalize (m : Int) * k = mk at hmk
  simp only [Builtin.Range.rangeFitsLong, Bool.and_eq_true, Bool.or_eq_true, decide_eq_true_eq, beq_iff_eq]
  refine ⟨⟨⟨⟨by omega, by omega, by omega⟩, by omega, by omega⟩, by omega, by omega⟩, .inr ?_⟩
  rw [if_pos (by omega), Bool.and_eq_true, decide_eq_true_eq, decide_eq_true_eq]
  omega
theorem rg8 {m : Nat} (h : m ≤ 1000000) : RgC 8 (8 + (m : Int) * 8) 8 m := rgk rfl h
theorem scCoded : FnScope ["data", "letters", "byte"] ["data"] (defScope sCoded) := ⟨rfl, rfl, rfl, by decide +kernel, rfl, by decide +kernel, by decide +kernel⟩
theorem scCheckZ : FnScope ["letters", "begin", "end", "at"] ["letters", "begin", "end"] (defScope sCheckZ) := ⟨rfl, rfl, rfl, by decide +kernel, rfl, by decide +kernel, by decide +kernel⟩
theorem scTRuns : FnScope ["data", "many", "length", "runs", "least", "at", "first", "size"] ["data", "many", "length"] (defScope sTRuns) := ⟨rfl, rfl, rfl, by decide +kernel, rfl, by decide +kernel, by decide +kernel⟩
theorem scUnpack : FnScope ["data", "length", "many_runs", "letters_at", "letters", "first", "size"] ["data"] (defScope sUnpack) := ⟨rfl, rfl, rfl, by decide +kernel, rfl, by decide +kernel, by decide +kernel⟩
theorem tA : Str.ofString "A" = T [65] := by decide +kernel
/-- what is known of InvalidPack -/
structure IPk (K : PySem.W.Frag) (mg : Str → Option Value) (C : Addr) : Prop where
  gC : mg "InvalidPack" = some (.ref C)
  q : PySem.W.excIn K C [.type "ValueError", .type "Exception", .type "BaseException", .type "object"] "ValueError.__new__" = true
  kC : PySem.W.keepIn K (.ref C) = true
  sb : PySem.W.subIn K (.ref C) (.type "BaseException") = some true
  ty : PySem.W.typeIn K (.ref C) = some (.type "type")
def BadP (E : XK) (C : Addr) (H : Hp) : Prop := ∀ H', Same H H' → E (.ref C) none H'
theorem BadP.same {E : XK} {C : Addr} {H H1 : Hp} (b : BadP E C H) (s : Same H H1) : BadP E C H1 := fun H' s' => b H' (s.trans s')
section
variable {P : Program} {w : World} {K : PySem.W.Frag} {mg : Str → Option Value} {base : Heap}
def spCoded (K : PySem.W.Frag) : Sp := fun vs H Q _ => ∃ (a : Addr) (bs : List Int), vs = [.ref a] ∧ SqL K H a (bs.map V.int) ∧ Byt bs ∧ bs.length ≤ 1000000 ∧ ∀ (H' : Hp) (p : Addr), Same H H' → H p = none → H' p = some (LC (coded bs)) → Q (.ref p) H'
theorem ok_coded {f : Addr} {fd : FuncData} {k : Nat} {t1 : Tok} (F : Fun K "_coded_letters" "_coded_letters" sCoded f fd) (gC : mg "_CODED" = some (.str (Str.ofString "ACGT") t1)) : FnOk P w K mg base CX0 (k + 1) f fd ["data"] (spCoded K) := by
  refine F.ok scCoded (fun vs H Q E h => ?_) (fun cdv A outer s H vs Q E hr h => ?_)
  · obtain ⟨a, bs, rfl, _⟩ := h
    rfl
  · obtain ⟨a, bs, rfl, hS, hb, hl, q⟩ := h
    refine ⟨_, (pss_cons (ps_set (i := 1) scCoded.nd rfl (.inl rfl) (pe_lst pa_nil))
      (pss_cons (ps_for PassesOwn.never rfl (pi_list (pv 0)) (pg_name (i := 2) scCoded.nd rfl (.inl rfl))
        (pss_one (ps_expr (pe_bm PySem.F.plainAttrs_list PySem.F.slot_list_extend PySem.F.type_list_extend mt_extend (pv 1) (pa_cons (pe_lst (pa_cons (pe_ix ix_str (pe_glob (v := .str (Str.ofString "ACGT")) (by rfl) gC ⟨_, rfl⟩) (pe_op op_fdiv (pv 2) pe_int) (fun _ _ => rfl)) (pa_cons (pe_ix ix_str (pe_glob (v := .str (Str.ofString "ACGT")) (by rfl) gC ⟨_, rfl⟩) (pe_op op_mod (pe_op op_fdiv (pv 2) pe_int) pe_int) (fun _ _ => rfl)) (pa_cons (pe_ix ix_str (pe_glob (v := .str (Str.ofString "ACGT")) (by rfl) gC ⟨_, rfl⟩) (pe_op op_mod (pe_op op_fdiv (pv 2) pe_int) pe_int) (fun _ _ => rfl)) (pa_cons (pe_ix ix_str (pe_glob (v := .str (Str.ofString "ACGT")) (by rfl) gC ⟨_, rfl⟩) (pe_op op_mod (pv 2) pe_int) (fun _ _ => rfl)) pa_nil))))) pa_nil)))))
      (pss_one (ps_ret (pv 1))))), ?_⟩
    refine ⟨Nat.zero_le _, fun p hp => ?_⟩
    refine ⟨_, rfl, a, rfl, ⟨_, (same_upd hp).seq hS⟩, ?_⟩
    refine for_list (K := K) (xs := bs.map V.int) (fun i σ H' => Same H H' ∧ H' p = some (LC (coded (bs.take i))) ∧ ∃ v2 : Option V, σ = [some (.ref a), some (.ref p), v2]) ⟨same_upd hp, upd_same, none, rfl⟩ (fun i σ H' _ h => h.1.seq hS) ?_ ?_
    · rintro i v σ H1 hv ⟨s1, h1, v2, rfl⟩
      rw [List.getElem?_map] at hv
      obtain ⟨x, hx, rfl⟩ := Option.map_eq_some_iff.mp hv
      have hbx := hb x (List.mem_of_getElem? hx)
      have hil : i < bs.length := (List.getElem?_eq_some_iff.mp hx).1
      have b1 := chr4_at (x := x / 64) (by omega) (by omega)
      have b2 := chr4_at (x := x / 16 % 4) (by omega) (by omega)
      have b3 := chr4_at (x := x / 4 % 4) (by omega) (by omega)
      have b4 := chr4_at (x := x % 4) (by omega) (by omega)
      refine ⟨_, rfl, .inl ⟨rfl, _, .inl (.inl h1)⟩, _, rfl, x, 64, rfl, rfl, ⟨by decide, by decide⟩, _, _, _, rfl, rfl, by decide, b1, _, rfl, x, 16, rfl, rfl, ⟨by decide, by decide⟩, _, 4, rfl, rfl, (show (0 : Int) < 4 by decide), _, _, _, rfl, rfl, by decide, b2, _, rfl, x, 4, rfl, rfl, ⟨by decide, by decide⟩, _, 4, rfl, rfl, (show (0 : Int) < 4 by decide), _, _, _, rfl, rfl, by decide, b3, _, rfl, x, 4, rfl, rfl, (show (0 : Int) < 4 by decide), _, _, _, rfl, rfl, by decide, b4, by show 4 ≤ sizeLine; decide, fun u hu => ?_⟩
      have npu : p ≠ u := ne_of_none h1 hu
      have hcl := coded_len (bs.take i)
      rw [List.length_take] at hcl
      refine ⟨p, u, _, _, rfl, rfl, by rw [upd_ne npu]; exact h1, upd_same, line_ok7 (by rw [List.length_map, hcl]; show _ + 4 ≤ 10000000; omega), fun b o e => ?_, ?_, some (.int x), rfl⟩
      · rw [upd_ne (ne_of_none e hp)]
        exact same_upd hu _ _ (s1 _ _ e)
      · rw [upd_same, List.take_add_one, hx]
        unfold coded
        rw [List.flatMap_append]
        show some (HO.lst _) = some (HO.lst _)
        rw [List.map_append]
        rfl
    · rintro σ H1 ⟨s1, h1, v2, rfl⟩
      rw [List.length_map, List.take_length] at h1
      exact ⟨_, rfl, q H1 p s1 hp h1⟩
def spCheckZ (K : PySem.W.Frag) (C : Addr) : Sp := fun vs H Q E => ∃ (a : Addr) (L : List Nat) (b e : Nat), vs = [.ref a, .int (b : Int), .int (e : Int)] ∧ H a = some (LC L) ∧ e ≤ L.length ∧ L.length ≤ 10000000 ∧ b ≤ 4294967296 ∧ ((∀ j, b ≤ j → j < e → L.getD j 0 = 65) → Q .non H) ∧ ((∃ j, b ≤ j ∧ j < e ∧ L.getD j 0 ≠ 65) → BadP E C H)
theorem ok_checkZ {f C : Addr} {fd : FuncData} {k : Nat} (F : Fun K "_check_zeros" "_check_zeros" sCheckZ f fd) (D : IPk K mg C) (mrange : mg "range" = none) : FnOk P w K mg base (L2.CX P w) (k + 1) f fd ["letters", "begin", "end"] (spCheckZ K C) := by
  refine F.okX scCheckZ (fun vs H Q E h => ?_) (fun cdv A outer s H vs Q E hr h => ?_)
  · obtain ⟨a, L, b, e, rfl, _⟩ := h
    rfl
  · obtain ⟨a, L, b, e, rfl, hS, he, hL, hb9, q, qb⟩ := h
    refine ⟨_, (pss_one (ps_for (passes_of rfl) rfl (pi_range2 rfl mrange (pa_cons (pv 1) (pa_cons (pv 2) pa_nil))) (pg_name (i := 3) scCheckZ.nd rfl (.inl rfl))
        (pss_one (ps_if (pt_cmpR op_ne (pe_ix ix_list (pv 0) (pv 3) (fun _ _ => rfl)) pe_str (nomark _)) (pss_one (ps_raise rfl (takes_of rfl rfl rfl rfl) (pmk_own PySem.F.excBase_ValueError D.q D.gC D.kC (raises_own D.sb D.ty) (by exact rfl)))) pss_nil)))), ?_⟩
    refine ⟨_, rfl, _, rfl, _, _, rfl, ⟨by omega, by omega, by omega, by omega⟩, ?_⟩
    refine for_range (lo := (b : Int)) (n := ((e : Int) - (b : Int)).toNat) (fun i σ H' => H' = H ∧ (∀ j, b ≤ j → j < b + i → L.getD j 0 = 65) ∧ ∃ v3 : Option V, σ = [some (.ref a), some (.int (b : Int)), some (.int (e : Int)), v3]) ⟨rfl, fun j h1 h2 => absurd h2 (by omega), none, rfl⟩ ?_ ?_
    · rintro i σ H' hi ⟨rfl, hall, v3, rfl⟩
      have hil : b + i < L.length := by omega
      have hat : atI (L.map fun c => V.str (T [c])) ((b : Int) + (i : Nat)) = some (.str (T [L[b + i]])) := by
        rw [show (b : Int) + (i : Nat) = ((b + i : Nat) : Int) by omega]
        refine atI_nat ?_
        rw [List.getElem?_map, List.getElem?_eq_getElem hil]
        rfl
      have eg : L.getD (b + i) 0 = L[b + i] := by
        rw [List.getD_eq_getElem?_getD, List.getElem?_eq_getElem hil]
        rfl
      refine ⟨_, rfl, _, rfl, a, _, _, _, rfl, rfl, .inl (.inl hS), hat, rfl, _, rfl, iteN (fun z => ?_) (fun z => ?_)⟩
      · exact qb ⟨b + i, by omega, by omega, fun y => z ((one_eq tA).mpr (by rw [← eg]; exact y))⟩ _ (Same.refl _)
      · refine ⟨rfl, fun j h1 h2 => ?_, some (.int ((b : Int) + (i : Nat))), rfl⟩
        by_cases hj : j = b + i
        · rw [hj, eg]
          exact (one_eq tA).mp z
        · exact hall j h1 (by omega)
    · rintro σ H' ⟨rfl, hall, v3, rfl⟩
      exact q fun j h1 h2 => hall j h1 (by omega)
def spTRuns (K : PySem.W.Frag) (C : Addr) : Sp := fun vs H Q E => ∃ (a : Addr) (d : List Int) (m n : Nat), vs = [.ref a, .int (m : Int), .int (n : Int)] ∧ SqL K H a (d.map V.int) ∧ Byt d ∧ m ≤ 1000000 ∧
  ((∀ i, i < m → OkR d n i) → ∀ (H' : Hp) (p : Addr) (xs : List V), Same H H' → H p = none → H' p = some (.lst xs) → RT H' xs ((List.range m).map fun i => (fsR d i, szR d i)) → Q (.ref p) H') ∧ ((∃ i, i < m ∧ ¬ OkR d n i) → BadP E C H)
theorem ok_truns {f C : Addr} {fd : FuncData} {k : Nat} {u4 u8 u9 : Tok} (F : Fun K "_told_runs" "_told_runs" sTRuns f fd) (D : IPk K mg C) (mrange : mg "range" = none) (g4 : mg "_NUMBER_SIZE" = some (.int 4 u4)) (g8 : mg "_HEAD_SIZE" = some (.int 8 u8)) (g9 : mg "_RUN_SIZE" = some (.int 8 u9))
    (hN : Has P w K mg base (k + 1) "number_at" ["data", "at", "size"] (spNumAt K)) : FnOk P w K mg base (L2.CX P w) (k + 2) f fd ["data", "many", "length"] (spTRuns K C) := by
  obtain ⟨fN, dN, GN, gN, kN, bN⟩ := hN
  refine F.okX scTRuns (fun vs H Q E h => ?_) (fun cdv A outer s H vs Q E hr h => ?_)
  · obtain ⟨a, d, m, n, rfl, _⟩ := h
    rfl
  · obtain ⟨a, d, m, n, rfl, hS, hb, hm, q, qb⟩ := h
    refine ⟨_, (pss_cons (ps_set (i := 3) scTRuns.nd rfl (.inl rfl) (pe_lst pa_nil))
      (pss_cons (ps_set (i := 4) scTRuns.nd rfl (.inl rfl) pe_int)
      (pss_cons (ps_for (passes_of rfl) rfl (pi_range3 rfl mrange (pa_cons (pe_glob (v := .int 8) (by rfl) g8 ⟨_, rfl⟩) (pa_cons (pe_op op_add (pe_glob (v := .int 8) (by rfl) g8 ⟨_, rfl⟩) (pe_op op_mul (pv 1) (pe_glob (v := .int 8) (by rfl) g9 ⟨_, rfl⟩))) (pa_cons (pe_glob (v := .int 8) (by rfl) g9 ⟨_, rfl⟩) pa_nil)))) (pg_name (i := 5) scTRuns.nd rfl (.inl rfl))
        (pss_cons (ps_set (i := 6) scTRuns.nd rfl (.inl rfl) (pe_call GN (hr.mono (by omega)) (by rfl) gN kN bN .nil pass0 (pa_cons (pv 0) (pa_cons (pv 5) (pa_cons (pe_glob (v := .int 4) (by rfl) g4 ⟨_, rfl⟩) pa_nil)))))
      (pss_cons (ps_set (i := 7) scTRuns.nd rfl (.inl rfl) (pe_call GN (hr.mono (by omega)) (by rfl) gN kN bN .nil pass0 (pa_cons (pv 0) (pa_cons (pe_op op_add (pv 5) (pe_glob (v := .int 4) (by rfl) g4 ⟨_, rfl⟩)) (pa_cons (pe_glob (v := .int 4) (by rfl) g4 ⟨_, rfl⟩) pa_nil)))))
      (pss_cons (ps_if (PW.pt (pw_or (pt_cmpR op_lt (pv 6) (pv 4) (nomark _)) (pw_or (pt_cmpR op_eq (pv 7) pe_int (nomark _)) (pw_or1 (pt_cmpR op_gt (pe_op op_add (pv 6) (pv 7)) (pv 2) (nomark _)))))) (pss_one (ps_raise rfl (takes_of rfl rfl rfl rfl) (pmk_own PySem.F.excBase_ValueError D.q D.gC D.kC (raises_own D.sb D.ty) (by exact rfl)))) pss_nil)
      (pss_cons (ps_expr (pe_bm PySem.F.plainAttrs_list PySem.F.slot_list_append PySem.F.type_list_append mt_append (pv 3) (pa_cons (pe_tup (pa_cons (pv 6) (pa_cons (pv 7) pa_nil))) pa_nil)))
      (pss_one (ps_set (i := 4) scTRuns.nd rfl (.inl rfl) (pe_op op_add (pe_op op_add (pv 6) (pv 7)) pe_int))))))))
      (pss_one (ps_ret (pv 3)))))), ?_⟩
    refine ⟨Nat.zero_le _, fun p hp => ?_⟩
    refine ⟨_, rfl, _, 8, rfl, rfl, .inl ⟨by omega, by omega⟩, 8, _, rfl, rfl, 8, _, 8, m, rfl, rg8 hm, ?_⟩
    refine for_gen (J := Itc 8 8 m) (n := m) (fun i σ H' => Same H H' ∧ (∀ j, j < i → OkR d n j) ∧ ∃ (xs : List V) (v5 v6 v7 : Option V), H' p = some (.lst xs) ∧ RT H' xs ((List.range i).map fun i => (fsR d i, szR d i)) ∧ σ = [some (.ref a), some (.int (m : Int)), some (.int (n : Int)), some (.ref p), some (.int (leR d i : Nat)), v5, v6, v7]) ⟨same_upd hp, fun j h => absurd h (Nat.not_lt_zero j), [], none, none, none, upd_same, .nil, rfl⟩ (fun i σ H' hi _ => hi) (fun σ H' _ => Nat.le_refl _) ?_ ?_
    · rintro i σ H1 x H2 hi ⟨s1, hok, xs, v5, v6, v7, hx, ht, rfl⟩ ⟨rfl, rfl⟩
      have ea : (8 : Int) + (i : Nat) * 8 = ((8 + 8 * i : Nat) : Int) := by omega
      have eb : (8 : Int) + (i : Nat) * 8 + 4 = ((12 + 8 * i : Nat) : Int) := by omega
      have hxl : xs.length = i := by
        have := paired_len ht
        rw [List.length_map, List.length_range] at this
        exact this
      refine ⟨_, rfl, _, rfl, a, d, 8 + 8 * i, 4, by rw [ea]; rfl, s1.seq hS, fun H3 s3 => ?_⟩
      rw [n4_val hb]
      refine ⟨_, rfl, _, rfl, _, _, rfl, rfl, a, d, 12 + 8 * i, 4, by show [V.ref a, V.int (8 + (i : Nat) * 8 + 4), V.int 4] = _; rw [eb]; rfl, (s1.trans s3).seq hS, fun H4 s4 => ?_⟩
      rw [n4_val hb]
      have s14 := (s1.trans s3).trans s4
      have hx4 := s4 _ _ (s3 _ _ hx)
      have ht4 : RT H4 xs ((List.range i).map fun i => (fsR d i, szR d i)) := ht.mono fun b ys hb => s4 _ _ (s3 _ _ hb)
      have bad : ¬ OkR d n i → E (.ref C) none H4 := fun h => qb ⟨i, hi, h⟩ H4 s14
      refine ⟨_, rfl, _, rfl, _, _, rfl, rfl, _, rfl, ite2 (fun e => ?_) (fun e => ?_)⟩
      · have h1 : ((fsR d i : Nat) : Int) < ((leR d i : Nat) : Int) := of_decide_eq_true e
        exact bad fun z => by have := z.1; omega
      have h1 : ¬ ((fsR d i : Nat) : Int) < ((leR d i : Nat) : Int) := fun z => e (decide_eq_true z)
      refine ⟨_, rfl, rfl, _, rfl, ite2 (fun e => ?_) (fun e => ?_)⟩
      · have h2 : ((szR d i : Nat) : Int) = 0 := V.int.inj (of_decide_eq_true e)
        exact bad fun z => by have := z.2.1; omega
      have h2 : ¬ ((szR d i : Nat) : Int) = 0 := fun z => e (decide_eq_true (congrArg V.int z))
      refine ⟨_, rfl, _, rfl, _, _, rfl, rfl, _, rfl, _, _, rfl, rfl, _, rfl, ite2 (fun e => ?_) (fun e => ?_)⟩
      · have h3 : ((fsR d i : Nat) : Int) + ((szR d i : Nat) : Int) > (n : Int) := of_decide_eq_true e
        exact bad fun z => by have := z.2.2; omega
      have h3 : ¬ ((fsR d i : Nat) : Int) + ((szR d i : Nat) : Int) > (n : Int) := fun z => e (decide_eq_true z)
      refine ⟨_, rfl, .inl ⟨rfl, _, .inl (.inl hx4)⟩, _, rfl, _, rfl, by show 2 ≤ sizeLine; decide, fun u hu => ?_⟩
      have npu : p ≠ u := ne_of_none hx4 hu
      refine ⟨p, xs, _, rfl, rfl, by rw [upd_ne npu]; exact hx4, line_ok7 (by omega), ?_⟩
      refine ⟨_, rfl, _, rfl, _, _, rfl, rfl, _, 1, rfl, rfl, fun b o e => ?_, fun j hj => ?_, xs ++ [.ref u], some (.int (8 + (i : Nat) * 8)), some (.int (fsR d i : Nat)), some (.int (szR d i : Nat)), upd_same, ?_, rfl⟩
      · rw [upd_ne (ne_of_none e hp)]
        exact same_upd hu _ _ (s14 _ _ e)
      · by_cases hji : j = i
        · rw [hji]
          exact ⟨by omega, by omega, by omega⟩
        · exact hok j (by omega)
      · rw [List.range_succ, List.map_append]
        refine Paired.snoc (RT.mono ht4 fun b ys hb => ?_) ⟨u, rfl, ?_⟩
        · rw [upd_ne (fun z => by rw [z, hx4] at hb; cases hb), upd_ne (ne_of_none hb hu)]
          exact hb
        · rw [upd_ne npu.symm, upd_same]
          rfl
    · rintro σ H1 ⟨s1, hok, xs, v5, v6, v7, hx, ht, rfl⟩
      exact ⟨_, rfl, q hok H1 p xs s1 hp hx ht⟩
def spUnpack (K : PySem.W.Frag) (C : Addr) : Sp := fun vs H Q E => ∃ (a : Addr) (d : List Int), vs = [.ref a] ∧ SqL K H a (d.map V.int) ∧ Byt d ∧ d.length ≤ 900000 ∧ (∀ t, Good d t → ∀ H', Same H H' → Q (.str (T t)) H') ∧ ((¬ ∃ t, Good d t) → BadP E C H)
theorem ok_unpack {f C : Addr} {fd : FuncData} {k : Nat} {u4 u8 u9 : Tok} (F : Fun K "unpack" "unpack" sUnpack f fd) (D : IPk K mg C) (mlen : mg "len" = none) (g4 : mg "_NUMBER_SIZE" = some (.int 4 u4)) (g8 : mg "_HEAD_SIZE" = some (.int 8 u8)) (g9 : mg "_RUN_SIZE" = some (.int 8 u9))
    (hN : Has P w K mg base (k + 2) "number_at" ["data", "at", "size"] (spNumAt K)) (hCd : Has P w K mg base (k + 2) "_coded_letters" ["data"] (spCoded K)) (hZ : HasX P w K mg base (k + 2) "_check_zeros" ["letters", "begin", "end"] (spCheckZ K C)) (hT : HasX P w K mg base (k + 2) "_told_runs" ["data", "many", "length"] (spTRuns K C)) :
    FnOk P w K mg base (L2.CX P w) (k + 3) f fd ["data"] (spUnpack K C) := by
  obtain ⟨fN, dN, GN, gN, kN, bN⟩ := hN
  obtain ⟨fCd, dCd, GCd, gCd, kCd, bCd⟩ := hCd
  obtain ⟨fZ, dZ, GZ, gZ, kZ, bZ⟩ := hZ
  obtain ⟨fT, dT, GT, gT, kT, bT⟩ := hT
  refine F.okX scUnpack (fun vs H Q E h => ?_) (fun cdv A outer s H vs Q E hr h => ?_)
  · obtain ⟨a, d, rfl, _⟩ := h
    rfl
  · obtain ⟨a, d, rfl, hS, hb, hl, q, qb⟩ := h
    refine ⟨_, (pss_cons (ps_set (i := 1) scUnpack.nd rfl (.inl rfl) (pe_call GN (hr.mono (by omega)) (by rfl) gN kN bN .nil pass0 (pa_cons (pv 0) (pa_cons pe_int (pa_cons (pe_glob (v := .int 4) (by rfl) g4 ⟨_, rfl⟩) pa_nil)))))
      (pss_cons (ps_set (i := 2) scUnpack.nd rfl (.inl rfl) (pe_call GN (hr.mono (by omega)) (by rfl) gN kN bN .nil pass0 (pa_cons (pv 0) (pa_cons (pe_glob (v := .int 4) (by rfl) g4 ⟨_, rfl⟩) (pa_cons (pe_glob (v := .int 4) (by rfl) g4 ⟨_, rfl⟩) pa_nil)))))
      (pss_cons (ps_set (i := 3) scUnpack.nd rfl (.inl rfl) (pe_op op_add (pe_glob (v := .int 8) (by rfl) g8 ⟨_, rfl⟩) (pe_op op_mul (pv 2) (pe_glob (v := .int 8) (by rfl) g9 ⟨_, rfl⟩))))
      (pss_cons (ps_if (pt_cmpR op_ne (pe_callB call_len_seq (by rfl) mlen PySem.boot_len (pa_cons (pv 0) pa_nil)) (pe_op op_add (pv 3) (pe_op op_fdiv (pe_op op_add (pv 1) pe_int) pe_int)) (nomark _)) (pss_one (ps_raise rfl (takes_of rfl rfl rfl rfl) (pmk_own PySem.F.excBase_ValueError D.q D.gC D.kC (raises_own D.sb D.ty) (by exact rfl)))) pss_nil)
      (pss_cons (ps_set (i := 4) scUnpack.nd rfl (.inl rfl) (pe_call GCd (hr.mono (by omega)) (by rfl) gCd kCd bCd .nil pass0 (pa_cons (pe_slice sl_list (pv 0) (po_some (pv 3)) po_none) pa_nil)))
      (pss_cons (ps_expr (pe_call GZ (hr.mono (by omega)) (by rfl) gZ kZ bZ .nil (passes_call (takes_of rfl rfl rfl rfl) fun _ _ _ _ h => h) (pa_cons (pv 4) (pa_cons (pv 1) (pa_cons (pe_callB call_len_seq (by rfl) mlen PySem.boot_len (pa_cons (pv 4) pa_nil)) pa_nil)))))
      (pss_cons (ps_for (passes_of rfl) rfl (pi_list (pe_call GT (hr.mono (by omega)) (by rfl) gT kT bT .nil (passes_call (takes_of rfl rfl rfl rfl) fun _ _ _ _ h => h) (pa_cons (pv 0) (pa_cons (pv 2) (pa_cons (pv 1) pa_nil))))) (pg_tup rfl (pgs_cons (pg_name (i := 5) scUnpack.nd rfl (.inl rfl)) (pgs_cons (pg_name (i := 6) scUnpack.nd rfl (.inl rfl)) pgs_nil)))
        (pss_cons (ps_expr (pe_call GZ (hr.mono (by omega)) (by rfl) gZ kZ bZ .nil (passes_call (takes_of rfl rfl rfl rfl) fun _ _ _ _ h => h) (pa_cons (pv 4) (pa_cons (pv 5) (pa_cons (pe_op op_add (pv 5) (pv 6)) pa_nil)))))
      (pss_one (ps_asg (pe_op op_rep (pe_lst (pa_cons pe_str pa_nil)) (pv 6)) (pg_slice (pv 4) (po_some (pv 5)) (po_some (pe_op op_add (pv 5) (pv 6))))))))
      (pss_one (ps_ret (pe_join pe_str (pe_slice sl_list (pv 4) po_none (po_some (pv 1))))))))))))), ?_⟩
    refine ⟨_, rfl, a, d, 0, 4, rfl, hS, fun H1 s1 => ?_⟩
    rw [n4_val hb]
    refine ⟨_, rfl, a, d, 4, 4, rfl, s1.seq hS, fun H2 s2 => ?_⟩
    rw [n4_val hb]
    have hm4 : n4 d 4 < 4294967296 := n4_lt hb 4
    have s02 := s1.trans s2
    refine ⟨_, rfl, _, 8, rfl, rfl, .inl ⟨by omega, by omega⟩, 8, _, rfl, rfl, ?_⟩
    refine ⟨_, rfl, a, _, rfl, .inl (s02.seq hS), _, rfl, _, rfl, _, 3, rfl, rfl, _, 4, rfl, rfl, ⟨by decide, by decide⟩, _, _, rfl, rfl, rfl, _, rfl, iteN (fun e => ?_) (fun e => ?_)⟩
    · refine qb (fun ⟨t, g⟩ => e ?_) H2 s02
      have := g.size
      rw [List.length_map]
      show V.int (d.length : Int) = V.int (8 + (n4 d 4 : Int) * 8 + ((n4 d 0 : Int) + 3) / 4)
      congr 1
      omega
    have hsize : d.length = 8 + 8 * n4 d 4 + (n4 d 0 + 3) / 4 := by
      have e2 : V.int ((d.map V.int).length : Nat) = V.int (8 + (n4 d 4 : Int) * 8 + ((n4 d 0 : Int) + 3) / 4) := e
      have := V.int.inj e2
      rw [List.length_map] at this
      omega
    have ela : (8 : Int) + (n4 d 4 : Int) * 8 = ((8 + 8 * n4 d 4 : Nat) : Int) := by omega
    refine ⟨_, rfl, _, rfl, _, rfl, a, _, rfl, s02.seq hS, fun p1 hp1 => ?_⟩
    have hd1 : (upd H2 p1 (.lst (L2.cutV (d.map V.int) (some (8 + (n4 d 4 : Int) * 8)) none))) p1 = some (LI (d.drop (8 + 8 * n4 d 4))) := by
      rw [upd_same, ela, cutV_from, ← List.map_drop]
    have sp1 := same_upd (o := .lst (L2.cutV (d.map V.int) (some (8 + (n4 d 4 : Int) * 8)) none)) hp1
    generalize upd H2 p1 (.lst (L2.cutV (d.map V.int) (some (8 + (n4 d 4 : Int) * 8)) none)) = H3 at hd1 sp1 ⊢
    have hbd : Byt (d.drop (8 + 8 * n4 d 4)) := fun x hx => hb x (List.mem_of_mem_drop hx)
    refine ⟨p1, _, rfl, .inl (.inl hd1), hbd, by rw [List.length_drop]; omega, fun H4 pl s4 hpl0 hpl => ?_⟩
    have s04 := (s02.trans sp1).trans s4
    have hplH : H pl = none := (s02.trans sp1).free hpl0
    have hLl : (letL d).length = 4 * ((n4 d 0 + 3) / 4) := by
      unfold letL
      rw [coded_len, List.length_drop]
      omega
    have hplL : H4 pl = some (LC (letL d)) := hpl
    have hlm : ((letL d).map fun c => V.str (T [c])).length = (letL d).length := List.length_map _
    refine ⟨_, rfl, _, rfl, _, rfl, pl, _, rfl, .inl (.inl (.inl hplL)), pl, letL d, n4 d 0, (letL d).length, by rw [hlm]; rfl, hplL, Nat.le_refl _, by omega, Nat.le_of_lt (n4_lt hb 0), fun htail => ?_, fun ⟨j, h1, h2, h3⟩ => qb (fun ⟨t, g⟩ => h3 (g.tail j h1 h2)) |>.same s04⟩
    refine ⟨_, rfl, _, rfl, _, rfl, a, d, n4 d 4, n4 d 0, rfl, s04.seq hS, hb, by omega, fun hok H5 pr xs s5 hpr0 hpr hrt => ?_, fun ⟨i, hi, h⟩ => (qb fun ⟨t, g⟩ => h (g.runs i hi)).same s04⟩
    have hpl5 := s5 _ _ hplL
    have npl : pr ≠ pl := fun z => by rw [z, hplL] at hpr0; cases hpr0
    refine ⟨pr, rfl, ⟨xs, .inl (.inl hpr)⟩, ?_⟩
    have hxl : xs.length = n4 d 4 := by
      have := paired_len hrt
      rw [List.length_map, List.length_range] at this
      exact this
    have hin : ∀ i, i < n4 d 4 → fsR d i + szR d i ≤ (letL d).length := fun i hi => by
      have := (hok i hi).2.2
      omega
    refine for_list (K := K) (xs := xs) (fun i σ H' => (∀ b o, b ≠ pl → H5 b = some o → H' b = some o) ∧ (∀ k, k < i → ∀ j, fsR d k ≤ j → j < fsR d k + szR d k → (letL d).getD j 0 = 65) ∧ H' pl = some (LC (repL d (letL d) i)) ∧ ∃ v5 v6 : Option V, σ = [some (.ref a), some (.int (n4 d 0 : Nat)), some (.int (n4 d 4 : Nat)), some (.int (8 + (n4 d 4 : Int) * 8)), some (.ref pl), v5, v6]) ⟨fun b o _ e => e, fun k h => absurd h (Nat.not_lt_zero k), by rw [repL_zero]; exact hpl5, none, none, rfl⟩ (fun i σ H' _ h => .inl (.inl (h.1 _ _ npl hpr))) ?_ ?_
    · rintro i v σ H6 hv ⟨s6, hz, h6, v5, v6, rfl⟩
      have hi : i < n4 d 4 := by
        have := (List.getElem?_eq_some_iff.mp hv).1
        omega
      obtain ⟨r, hr0, qa, rfl, hqa⟩ := paired_get hrt hv
      have er : r = (fsR d i, szR d i) := by
        rw [List.getElem?_map, List.getElem?_range hi] at hr0
        exact (Option.some.inj hr0).symm
      subst er
      have nqa : qa ≠ pl := fun z => by rw [z, hpl5] at hqa; cases hqa
      have hfit := hin i hi
      have hrise := runs_rise hok i hi
      have eqz : ∀ j, fsR d i ≤ j → j < fsR d i + szR d i → (repL d (letL d) i).getD j 0 = (letL d).getD j 0 := fun j h1 h2 => by
        rw [repL_getD (by omega), if_neg]
        intro hi2
        obtain ⟨k, hk, h3, h4⟩ := (inR_iff d i j).mp hi2
        have := hrise k hk
        omega
      have s06 : ∀ b o, H b = some o → H6 b = some o := fun b o e => s6 _ _ (ne_of_none e hplH) (s5 _ _ (s04 _ _ e))
      refine ⟨qa, _, rfl, .inl (.inl (s6 _ _ nqa hqa)), rfl, _, _, rfl, _, _, rfl, rfl, ?_⟩
      refine ⟨_, rfl, _, rfl, _, rfl, _, rfl, _, _, rfl, rfl, pl, repL d (letL d) i, fsR d i, fsR d i + szR d i, rfl, h6, by rw [repL_len]; exact hfit, by rw [repL_len]; omega, Nat.le_of_lt (n4_lt hb _), fun hzz => ?_, fun ⟨j, h1, h2, h3⟩ => qb (fun ⟨t, g⟩ => h3 (by rw [eqz j h1 h2]; exact g.zero i hi j h1 h2)) |>.same s06⟩
      refine ⟨by show 1 ≤ sizeLine; decide, fun u hu => ?_⟩
      have nplu : pl ≠ u := ne_of_none h6 hu
      have hs1 : (szR d i : Int) < 2 ^ 63 := by omega
      refine ⟨_, rfl, u, _, _, rfl, rfl, upd_same, by omega, hs1, line_ok7 (by show 1 * (szR d i : Int).toNat ≤ _; omega), fun u2 hu2 => ?_⟩
      have nplu2 : pl ≠ u2 := fun z => by rw [← z, upd_ne nplu, h6] at hu2; cases hu2
      have hrep : (List.replicate ((szR d i : Nat) : Int).toNat [V.str (Str.ofString "N")]).flatten = (List.replicate (szR d i) 78).map fun c => V.str (T [c]) := by
        rw [Int.toNat_natCast, List.map_replicate, ← tN]
        generalize szR d i = z
        induction z with
        | zero => rfl
        | succ z ih =>
          rw [List.replicate_succ, List.flatten_cons, ih, List.replicate_succ]
          rfl
      refine ⟨_, rfl, _, rfl, _, rfl, _, rfl, _, rfl, _, _, rfl, rfl, _, rfl, pl, u2, _, _, _, _, rfl, rfl, rfl, rfl, by rw [upd_ne nplu2, upd_ne nplu]; exact h6, upd_same, nplu2, by omega, by omega, by rw [List.length_map, repL_len]; omega, line_ok7 ?_, ?_⟩
      · rw [hrep, List.length_map, List.length_map, repL_len, List.length_replicate]
        omega
      · refine ⟨fun b o hbp e => ?_, fun k hk j h1 h2 => ?_, ?_, some (.int (fsR d i : Nat)), some (.int (szR d i : Nat)), rfl⟩
        · rw [upd_ne hbp, upd_ne (ne_of_none (s6 _ _ hbp e) (new_old hu2)), upd_ne (ne_of_none (s6 _ _ hbp e) hu)]
          exact s6 _ _ hbp e
        · by_cases hki : k = i
          · subst hki
            rw [← eqz j h1 h2]
            exact hzz j h1 h2
          · exact hz k (by omega) j h1 h2
        · rw [upd_same, hrep, show ((fsR d i : Nat) : Int) + ((szR d i : Nat) : Int) = ((fsR d i + szR d i : Nat) : Int) by omega, Int.toNat_natCast, Int.toNat_natCast, ← repL_step hfit]
          show some (HO.lst _) = some (HO.lst _)
          rw [List.map_append, List.map_append, List.map_take, List.map_drop]
    · rintro σ H6 ⟨s6, hz, h6, v5, v6, rfl⟩
      rw [hxl] at hz h6
      have g : Good d ((repL d (letL d) (n4 d 4)).take (n4 d 0)) := ⟨hsize, htail, hok, hz, rfl⟩
      have s06 : Same H H6 := fun b o e => s6 _ _ (ne_of_none e hplH) (s5 _ _ (s04 _ _ e))
      refine ⟨⟨_, rfl⟩, _, rfl, _, rfl, _, rfl, pl, _, rfl, .inl (.inl h6), fun u hu => ?_⟩
      have hcu : (upd H6 u (.lst (L2.cutV ((repL d (letL d) (n4 d 4)).map fun c => V.str (T [c])) none (some (n4 d 0 : Nat))))) u = some (.lst ((((repL d (letL d) (n4 d 4)).take (n4 d 0)).map fun c => T [c]).map V.str)) := by
        rw [upd_same, cutV_to, ← List.map_take, List.map_map]
        rfl
      refine ⟨Str.ofString "", u, _, rfl, rfl, .inl (.inl (.inl hcu)), ?_, ?_⟩
      · rw [sum_ones, show (Str.ofString "").length = 0 by decide +kernel, List.length_take, repL_len]
        omega
      · rw [TL.join_eq, T_nil, join_ones]
        exact q _ g _ (s06.trans (same_upd hu))
end
/-! ### a packed text is good -/
theorem n4_of {a b : List Int} {x p : Nat} (hp : a.length = p) (hx : x < 4294967296) : n4 (a ++ (be 4 x ++ b)) p = x := by
  have ht : (be 4 x ++ b).take 4 = be 4 x := by
    have := List.take_left (l₁ := be 4 x) (l₂ := b)
    rw [be_len] at this
    exact this
  unfold n4
  rw [← hp, List.drop_left, ht, bn_be4 hx]
  omega
theorem flat_rb {rs : List Rn} {i : Nat} {r : Rn} (h : rs[i]? = some r) : rs.flatMap rb = (rs.take i).flatMap rb ++ (be 4 r.1 ++ (be 4 r.2 ++ (rs.drop (i + 1)).flatMap rb)) := by
  obtain ⟨hi, e⟩ := List.getElem?_eq_some_iff.mp h
  have e2 : rs = rs.take i ++ r :: rs.drop (i + 1) := by
    rw [← e, ← List.drop_eq_getElem_cons hi, List.take_append_drop]
  have e3 : rs.flatMap rb = (rs.take i ++ r :: rs.drop (i + 1)).flatMap rb := congrArg (List.flatMap rb) e2
  rw [e3, List.flatMap_append, List.flatMap_cons]
  unfold rb
  rw [List.append_assoc]
section
variable {l : List Nat} (hd : Dna l) (hl : l.length ≤ 100000)
include hl in
theorem pk_n : n4 (packed l) 0 = l.length := by
  have h := n4_of (a := []) (b := be 4 (runs l).length ++ ((runs l).flatMap rb ++ (List.range ((l.length + 3) / 4)).map (qb l))) (x := l.length) (p := 0) rfl (by omega)
  have e : packed l = [] ++ (be 4 l.length ++ (be 4 (runs l).length ++ ((runs l).flatMap rb ++ (List.range ((l.length + 3) / 4)).map (qb l)))) := by
    unfold packed
    simp only [List.append_assoc, List.nil_append]
  rw [e]
  exact h
include hl in
theorem pk_m : n4 (packed l) 4 = (runs l).length := by
  have hr : (runs l).length ≤ l.length := runsTo_len l l.length
  have h := n4_of (a := be 4 l.length) (b := (runs l).flatMap rb ++ (List.range ((l.length + 3) / 4)).map (qb l)) (x := (runs l).length) (p := 4) (be_len _ _) (by omega)
  have e : packed l = be 4 l.length ++ (be 4 (runs l).length ++ ((runs l).flatMap rb ++ (List.range ((l.length + 3) / 4)).map (qb l))) := by
    unfold packed
    simp only [List.append_assoc]
  rw [e]
  exact h
include hl in
theorem pk_run {i : Nat} {r : Rn} (h : (runs l)[i]? = some r) : fsR (packed l) i = r.1 ∧ szR (packed l) i = r.2 := by
  have R := runs_ok l
  have hp := R.pos r (List.mem_of_getElem? h)
  have hi : i < (runs l).length := (List.getElem?_eq_some_iff.mp h).1
  have hlen : (((runs l).take i).flatMap rb).length = i * 8 := by
    rw [rb_len, List.length_take]
    omega
  have e : packed l = be 4 l.length ++ be 4 (runs l).length ++ ((runs l).take i).flatMap rb ++ (be 4 r.1 ++ (be 4 r.2 ++ ((runs l).drop (i + 1)).flatMap rb ++ (List.range ((l.length + 3) / 4)).map (qb l))) := by
    unfold packed
    rw [flat_rb h]
    simp only [List.append_assoc]
  have e2 : packed l = be 4 l.length ++ be 4 (runs l).length ++ ((runs l).take i).flatMap rb ++ be 4 r.1 ++ (be 4 r.2 ++ (((runs l).drop (i + 1)).flatMap rb ++ (List.range ((l.length + 3) / 4)).map (qb l))) := by
    rw [e]
    simp only [List.append_assoc]
  refine ⟨?_, ?_⟩
  · unfold fsR
    rw [e]
    exact n4_of (by rw [List.length_append, List.length_append, be_len, be_len, hlen]; omega) (by omega)
  · unfold szR
    rw [e2]
    exact n4_of (by rw [List.length_append, List.length_append, List.length_append, be_len, be_len, be_len, hlen]; omega) (by omega)
include hl in
theorem pk_tail : (packed l).drop (8 + 8 * n4 (packed l) 4) = (List.range ((l.length + 3) / 4)).map (qb l) := by
  rw [pk_m hl]
  have e : packed l = (be 4 l.length ++ be 4 (runs l).length ++ (runs l).flatMap rb) ++ (List.range ((l.length + 3) / 4)).map (qb l) := rfl
  have hlen : (be 4 l.length ++ be 4 (runs l).length ++ (runs l).flatMap rb).length = 8 + 8 * (runs l).length := by
    rw [List.length_append, List.length_append, be_len, be_len, rb_len]
    omega
  rw [e, ← hlen, List.drop_left]
theorem quad_qb (l : List Nat) (k y : Nat) (hy : y < 4) : (quad (qb l k)).getD y 0 = chr4 (gl l (4 * k + y)) := by
  have g0 := gl_bound l (4 * k)
  have g1 := gl_bound l (4 * k + 1)
  have g2 := gl_bound l (4 * k + 2)
  have g3 := gl_bound l (4 * k + 3)
  have e0 : qb l k / 64 = gl l (4 * k) := by unfold qb; omega
  have e1 : qb l k / 16 % 4 = gl l (4 * k + 1) := by unfold qb; omega
  have e2 : qb l k / 4 % 4 = gl l (4 * k + 2) := by unfold qb; omega
  have e3 : qb l k % 4 = gl l (4 * k + 3) := by unfold qb; omega
  unfold quad
  rw [e0, e1, e2, e3]
  have : y = 0 ∨ y = 1 ∨ y = 2 ∨ y = 3 := by omega
  rcases this with e | e | e | e <;> subst e <;> rfl
include hl in
theorem pk_let {j : Nat} (hj : j < (letL (packed l)).length) : (letL (packed l)).getD j 0 = chr4 (gl l j) := by
  unfold letL at hj ⊢
  rw [pk_tail hl] at hj ⊢
  rw [coded_len, List.length_map, List.length_range] at hj
  have hq : j / 4 < (l.length + 3) / 4 := by omega
  have h := coded_at ((List.range ((l.length + 3) / 4)).map (qb l)) j (qb l (j / 4)) (by rw [List.getElem?_map, List.getElem?_range hq]; rfl)
  rw [List.getD_eq_getElem?_getD, h]
  show (quad (qb l (j / 4))).getD (j % 4) 0 = _
  rw [quad_qb l (j / 4) (j % 4) (by omega), show 4 * (j / 4) + j % 4 = j by omega]
include hl in
theorem pk_letlen : (letL (packed l)).length = 4 * ((l.length + 3) / 4) := by
  unfold letL
  rw [pk_tail hl, coded_len, List.length_map, List.length_range]
theorem gl_in {j : Nat} (h : j < l.length) : gl l j = cd l[j] := by
  unfold gl
  rw [List.getD_eq_getElem?_getD, List.getElem?_append_left (by rw [List.length_map]; exact h), List.getElem?_map, List.getElem?_eq_getElem h]
  rfl
theorem gl_out {j : Nat} (h : l.length ≤ j) : gl l j = 0 := by
  unfold gl
  rw [List.getD_eq_getElem?_getD, List.getElem?_append_right (by rw [List.length_map]; exact h), List.length_map]
  have : j - l.length = 0 ∨ j - l.length = 1 ∨ j - l.length = 2 ∨ 3 ≤ j - l.length := by omega
  rcases this with e | e | e | e
  · rw [e]; rfl
  · rw [e]; rfl
  · rw [e]; rfl
  · rw [List.getElem?_eq_none (show ([0, 0, 0] : List Int).length ≤ j - l.length from e)]
    rfl
theorem chr_cd {c : Nat} (h : Sg c) : chr4 (cd c) = if c = 78 then 65 else c := by
  rcases h with e | e | e | e | e <;> subst e <;> decide
include hd hl in
theorem packed_good : Good (packed l) l := by
  have R := runs_ok l
  have em := pk_m hl
  have en := pk_n hl
  have hrun : ∀ i, i < (runs l).length → ∃ r, (runs l)[i]? = some r ∧ r ∈ runs l ∧ fsR (packed l) i = r.1 ∧ szR (packed l) i = r.2 := fun i hi => by
    have h : (runs l)[i]? = some (runs l)[i] := List.getElem?_eq_getElem hi
    exact ⟨_, h, List.mem_of_getElem? h, pk_run hl h⟩
  have hN : ∀ j (h : j < l.length), (isN l j = true ↔ l[j] = 78) := fun j h => by
    rw [isN_at h, decide_eq_true_iff]
  refine ⟨?_, fun j h1 h2 => ?_, fun i hi => ?_, fun i hi j h1 h2 => ?_, ?_⟩
  · rw [em, en]
    unfold packed
    rw [List.length_append, List.length_append, List.length_append, be_len, be_len, rb_len, List.length_map, List.length_range]
    omega
  · rw [en] at h1
    rw [pk_let hl h2, gl_out h1]
    rfl
  · rw [em] at hi
    rw [en]
    obtain ⟨r, hr, hm, e1, e2⟩ := hrun i hi
    have hp := R.pos r hm
    refine ⟨?_, by omega, by omega⟩
    cases i with
    | zero => exact Nat.zero_le _
    | succ i =>
      obtain ⟨s, hs, hms, e3, e4⟩ := hrun i (by omega)
      show fsR (packed l) i + szR (packed l) i + 1 ≤ fsR (packed l) (i + 1)
      rw [e1, e3, e4]
      obtain ⟨a1, b1⟩ := List.getElem?_eq_some_iff.mp hr
      obtain ⟨a2, b2⟩ := List.getElem?_eq_some_iff.mp hs
      have := List.pairwise_iff_getElem.mp R.apart i (i + 1) a2 a1 (by omega)
      rw [b1, b2] at this
      exact this
  · rw [em] at hi
    obtain ⟨r, hr, hm, e1, e2⟩ := hrun i hi
    have hp := R.pos r hm
    rw [e1] at h1
    rw [e1, e2] at h2
    have hj : j < l.length := by omega
    rw [pk_let hl (by rw [pk_letlen hl]; omega), gl_in hj, chr_cd (hd _ (List.getElem_mem hj)), if_pos ((hN j hj).mp (hp.2.2 j h1 h2))]
  · refine List.ext_getElem? fun j => ?_
    rw [en, em, List.getElem?_take]
    by_cases hj : j < l.length
    · have hjL : j < (letL (packed l)).length := by rw [pk_letlen hl]; omega
      rw [if_pos hj, repL_at hjL, pk_let hl hjL, gl_in hj, chr_cd (hd _ (List.getElem_mem hj)), List.getElem?_eq_getElem hj]
      by_cases hc : l[j] = 78
      · obtain ⟨r, hm, h1, h2⟩ := R.all j hj ((hN j hj).mpr hc)
        obtain ⟨i, hi, e⟩ := List.mem_iff_getElem.mp hm
        obtain ⟨s, hs, _, e1, e2⟩ := hrun i hi
        rw [List.getElem?_eq_getElem hi, e] at hs
        obtain rfl := Option.some.inj hs
        rw [if_pos ((inR_iff _ _ _).mpr ⟨i, hi, by rw [e1]; exact h1, by rw [e1, e2]; exact h2⟩), hc]
      · have hni : ¬ inR (packed l) (runs l).length j = true := fun z => by
          obtain ⟨i, hi, h1, h2⟩ := (inR_iff _ _ _).mp z
          obtain ⟨r, hr, hm, e1, e2⟩ := hrun i hi
          rw [e1] at h1
          rw [e1, e2] at h2
          exact hc ((hN j hj).mp ((R.pos r hm).2.2 j h1 h2))
        rw [if_neg hni, if_neg hc]
    · rw [if_neg hj, List.getElem?_eq_none (by omega)]
end
theorem packed_len {l : List Nat} : (packed l).length ≤ 9 * l.length + 12 := by
  have hr : (runs l).length ≤ l.length := runsTo_len l l.length
  unfold packed
  rw [List.length_append, List.length_append, List.length_append, be_len, be_len, rb_len, List.length_map, List.length_range]
  omega
/-! ### the law -/
theorem op_mulM2 {X : Cx} : OpR X (binaryOp .Mult) (fun x y H Q => ∃ (l : List Nat) (n : Int), x = .str (T l) ∧ y = .int n ∧ l.length ≤ 100 ∧ 0 ≤ n ∧ n ≤ 2000 ∧ ∀ m : List Nat, m.length = n.toNat * l.length → (∀ c ∈ m, c ∈ l) → Q (.str (T m)) H) := by
  intro pins s σ H x y v u Q I rx ry h
  obtain ⟨l, n, rfl, rfl, hl, h0, hn, q⟩ := h
  obtain ⟨t, rfl⟩ := rx
  obtain ⟨t', rfl⟩ := ry
  refine SB.mul (mulOk_of 100 2000 (by rw [T_len]; exact hl) hn (by omega) (by decide) (by decide)) fun t1 tk => ?_
  rw [mul_T l n h0]
  exact ⟨.str (T (List.replicate n.toNat l).flatten), H, I.tok _, ⟨_, rfl⟩, q _ (rep_len _ _) fun c hc => rep_mem hc⟩
theorem cut_some (l : List Nat) (lo hi : Option Int) : ∃ m : List Nat, cutS (T l) lo hi = T m ∧ (∀ c ∈ m, c ∈ l) ∧ m.length ≤ l.length := by
  refine ⟨_, rfl, fun c hc => List.mem_of_mem_drop (List.mem_of_mem_take hc), ?_⟩
  rw [List.length_take, List.length_drop, T_list]
  omega
theorem cut_dna {l : List Nat} (h : Dna l) (lo hi : Option Int) : ∃ m : List Nat, cutS (T l) lo hi = T m ∧ Dna m ∧ m.length ≤ l.length := by
  obtain ⟨m, e, hm, hl⟩ := cut_some l lo hi
  exact ⟨m, e, fun c hc => h c (hm c hc), hl⟩
theorem scLong : FnScope ["shape", "cell", "size", "text", "at"] ["shape", "cell"] (defScope sLong) := ⟨rfl, rfl, rfl, by decide +kernel, rfl, by decide +kernel, by decide +kernel⟩
def NL : List Str := ["script", "texts", "k", "shape", "text", "expected", "actual", "handed", "back"]
theorem scLaw : FnScope NL ["script"] (defScope sLaw) := ⟨rfl, rfl, rfl, by decide +kernel, rfl, by decide +kernel, by decide +kernel⟩
section
variable {P : Program} {w : World} {K : PySem.W.Frag} {mg : Str → Option Value} {base : Heap}
def spLong : Sp := fun vs H Q _ => ∃ a b : Int, vs = [.int a, .int b] ∧ ∀ (H' : Hp) (l : List Nat), Same H H' → Dna l → l.length ≤ 70000 → Q (.str (T l)) H'
theorem ok_long {f : Addr} {fd : FuncData} (F : Fun K "_law_long" "_law_long" sLong f fd) (B : Bl mg) (mmax : mg "max" = none) (mmin : mg "min" = none) (hLe : Has P w K mg base 3 "_law_letters" ["cell", "size", "letters"] (spLetters K)) : FnOk P w K mg base CX0 4 f fd ["shape", "cell"] spLong := by
  obtain ⟨fLe, dLe, GLe, gLe, kLe, bLe⟩ := hLe
  refine F.ok scLong (fun vs H Q E h => ?_) (fun cdv A outer s H vs Q E hr h => ?_)
  · obtain ⟨a, b, rfl, _⟩ := h
    rfl
  · obtain ⟨x, c, rfl, q⟩ := h
    refine ⟨_, (C8.pss_cut (ps_set (i := 2) scLong.nd rfl (.inl rfl) (pe_ix ix_list (pe_lst (pa_cons pe_int (pa_cons (pe_op op_add pe_int (pe_op op_mod (pe_op op_fdiv (pv 0) pe_int) pe_int)) (pa_cons (pe_op op_add pe_int (pe_op op_mod (pe_op op_fdiv (pv 0) pe_int) pe_int)) pa_nil)))) (pe_op op_add (pe_callTy call_int1 (by rfl) B.int (by decide +kernel) (pa_cons (pe_cmpR op_eq (pe_op op_mod (pv 0) pe_int) pe_int (nomark _)) pa_nil)) (pe_callTy call_int1 (by rfl) B.int (by decide +kernel) (pa_cons (pe_cmpR op_eq (pe_op op_mod (pv 0) pe_int) pe_int (nomark _)) pa_nil))) (fun _ _ => rfl)))
      (C8.pss_cut (ps_set (i := 3) scLong.nd rfl (.inl rfl) (pe_slice sl_str (pe_op op_mulM2 (pe_call GLe hr (by rfl) gLe kLe bLe .nil pass0 (pa_cons (pv 1) (pa_cons pe_int (pa_cons pe_str pa_nil)))) pe_int) po_none (po_some (pv 2))))
      (C8.pss_cut (ps_set (i := 4) scLong.nd rfl (.inl rfl) (pe_op op_sub (pe_op op_sub (pv 2) pe_int) (pe_op op_mod (pe_op op_fdiv (pv 0) pe_int) (pe_callB (call_max2 rfl) (by rfl) mmax (by decide +kernel) (pa_cons pe_int (pa_cons (pe_callB (call_min2 rfl) (by rfl) mmin (by decide +kernel) (pa_cons (pv 2) (pa_cons pe_int pa_nil))) pa_nil))))))
      (pss_one (ps_ret (pe_slice sl_str (pe_op op_add_str (pe_op op_add_str (pe_slice sl_str (pv 3) po_none (po_some (pe_callB (call_max2 rfl) (by rfl) mmax (by decide +kernel) (pa_cons pe_int (pa_cons (pv 4) pa_nil))))) (pe_op op_mulM2 pe_str (pe_op op_mod (pe_op op_fdiv (pv 0) pe_int) pe_int))) (pe_slice sl_str (pv 3) (po_some (pe_callB (call_max2 rfl) (by rfl) mmax (by decide +kernel) (pa_cons pe_int (pa_cons (pv 4) pa_nil)))) po_none)) po_none (po_some (pv 2)))))))), ?_⟩
    have c0 := Int.emod_nonneg (x / 64) (show (351 : Int) ≠ 0 by decide)
    have c1 := Int.emod_lt_of_pos (x / 64) (show (0 : Int) < 351 by decide)
    have d0 := Int.emod_nonneg (x / 64) (show (201 : Int) ≠ 0 by decide)
    have d1 := Int.emod_lt_of_pos (x / 64) (show (0 : Int) < 201 by decide)
    refine ⟨fun σ H1 => Same H H1 ∧ ∃ z : Int, 0 ≤ z ∧ z ≤ 65700 ∧ σ = [some (.int x), some (.int c), some (.int z), none, none], ?_, ?_⟩
    · refine ⟨_, rfl, x, 64, rfl, rfl, ⟨by decide, by decide⟩, _, 351, rfl, rfl, (show (0 : Int) < 351 by decide), 250, _, rfl, rfl, _, rfl, x, 64, rfl, rfl, ⟨by decide, by decide⟩, _, 201, rfl, rfl, (show (0 : Int) < 201 by decide), 65500, _, rfl, rfl, by show 3 ≤ sizeLine; decide, fun p hp => ?_⟩
      refine ⟨_, rfl, x, 8, rfl, rfl, (show (0 : Int) < 8 by decide), rfl, .inr ⟨_, rfl, _, rfl, x, 64, rfl, rfl, (show (0 : Int) < 64 by decide), rfl, .inr ⟨_, rfl, _, _, rfl, rfl, ?_⟩⟩⟩
      have sp := same_upd (o := .lst [.int 0, .int (250 + x / 64 % 351), .int (65500 + x / 64 % 201)]) hp
      have fin : ∀ (b1 b2 : Bool), rIxL K (.ref p) (.int ((if b1 = true then 1 else 0) + (if b2 = true then 1 else 0))) (upd H p (.lst [.int 0, .int (250 + x / 64 % 351), .int (65500 + x / 64 % 201)])) fun v H1 => gName 2 v [some (.int x), some (.int c), none, none, none] H1 fun σ H1 => Same H H1 ∧ ∃ z : Int, 0 ≤ z ∧ z ≤ 65700 ∧ σ = [some (.int x), some (.int c), some (.int z), none, none] := by
        intro b1 b2
        cases b1 <;> cases b2
        · exact ⟨p, _, _, .int 0, rfl, rfl, .inl (.inl upd_same), atI_nat (j := 0) rfl, sp, 0, by omega, by omega, rfl⟩
        · exact ⟨p, _, _, .int (250 + x / 64 % 351), rfl, rfl, .inl (.inl upd_same), atI_nat (j := 1) rfl, sp, 250 + x / 64 % 351, by omega, by omega, rfl⟩
        · exact ⟨p, _, _, .int (250 + x / 64 % 351), rfl, rfl, .inl (.inl upd_same), atI_nat (j := 1) rfl, sp, 250 + x / 64 % 351, by omega, by omega, rfl⟩
        · exact ⟨p, _, _, .int (65500 + x / 64 % 201), rfl, rfl, .inl (.inl upd_same), atI_nat (j := 2) rfl, sp, 65500 + x / 64 % 201, by omega, by omega, rfl⟩
      exact fin _ _
    rintro σ H1 ⟨s1, z, z0, z1, rfl⟩
    refine ⟨fun σ H2 => Same H H2 ∧ ∃ l : List Nat, Dna l ∧ l.length ≤ 65712 ∧ σ = [some (.int x), some (.int c), some (.int z), some (.str (T l)), none], ?_, ?_⟩
    · refine ⟨_, rfl, c, 37, [65, 67, 71, 84], by rw [← four_text]; rfl, by decide, by decide, by decide, by decide, fun H2 l s2 hll hal => ?_⟩
      refine ⟨l, 1776, rfl, rfl, by rw [hll]; decide, by decide, by decide, fun m hm hmc => ?_⟩
      have hml : m.length = 65712 := by rw [hm, hll]; rfl
      have dm : Dna m := fun y hy => sg_four (hal y (hmc y hy))
      obtain ⟨m2, em, dm2, lm2⟩ := cut_dna dm none (some z)
      refine ⟨_, rfl, z, rfl, T m, rfl, line_ok6 (by rw [T_len]; omega), s1.trans s2, m2, dm2, by omega, ?_⟩
      rw [em]
      rfl
    rintro σ H2 ⟨s2, l, dl, ll, rfl⟩
    refine ⟨fun σ H3 => H3 = H2 ∧ ∃ y : Int, σ = [some (.int x), some (.int c), some (.int z), some (.str (T l)), some (.int y)], ?_, ?_⟩
    · refine ⟨_, rfl, _, 1, rfl, rfl, _, rfl, x, 4096, rfl, rfl, ⟨by decide, by decide⟩, _, rfl, z, 300, rfl, 1, _, rfl, _, _, rfl, rfl, ?_, _, _, rfl, rfl, rfl, _, rfl⟩
      show (0 : Int) < if (if (300 : Int) < z then 300 else z) > 1 then (if (300 : Int) < z then 300 else z) else 1
      split <;> omega
    rintro σ H3 ⟨rfl, y, rfl⟩
    have hzl : (T l).length ≤ sizeLine := line_ok (by rw [T_len]; omega)
    obtain ⟨m1, e1, dm1, lm1⟩ := cut_dna dl none (some (if y > 0 then y else 0))
    obtain ⟨m2, e2, dm2, lm2⟩ := cut_dna dl (some (if y > 0 then y else 0)) none
    have g0 := Int.emod_nonneg (x / 100) (show (7 : Int) ≠ 0 by decide)
    have g1 := Int.emod_lt_of_pos (x / 100) (show (0 : Int) < 7 by decide)
    refine ⟨_, rfl, _, rfl, 0, y, rfl, _, rfl, T l, rfl, hzl, _, rfl, x, 100, rfl, rfl, ⟨by decide, by decide⟩, _, 7, rfl, rfl, (show (0 : Int) < 7 by decide), [78], x / 100 % 7, by rw [← tN], rfl, by decide, by omega, by omega, fun nn hnn hnc => ?_⟩
    have hnl : nn.length ≤ 6 := by
      rw [hnn]
      show (x / 100 % 7).toNat * 1 ≤ 6
      omega
    have dn : Dna nn := fun y hy => by
      have := hnc y hy
      obtain rfl : y = 78 := by simpa using this
      exact .inr (.inr (.inr (.inr rfl)))
    refine ⟨_, _, rfl, rfl, ?_, _, rfl, _, rfl, 0, y, rfl, _, rfl, T l, rfl, hzl, _, _, rfl, rfl, ?_, _, rfl, z, rfl, _, rfl, ?_, ?_⟩
    · rw [e1, T_len, T_len]
      exact line_ok (by omega)
    · rw [e1, e2, T_app, T_len, T_len, List.length_append]
      exact line_ok6 (by omega)
    · rw [e1, e2, T_app, T_app, T_len, List.length_append, List.length_append]
      exact line_ok6 (by omega)
    · rw [e1, e2, T_app, T_app]
      have da : Dna (m1 ++ nn ++ m2) := (dm1.app dn).app dm2
      have e3 : cutS (T (m1 ++ nn ++ m2)) none (some z) = T ((m1 ++ nn ++ m2).take z.toNat) := by
        have h := cut_head (m1 ++ nn ++ m2) z.toNat
        rw [Int.toNat_of_nonneg z0] at h
        exact h
      rw [e3]
      refine q _ _ s2 (fun y hy => da y (List.mem_of_mem_take hy)) ?_
      rw [List.length_take]
      omega
def spLaw (K : PySem.W.Frag) : Sp := fun vs H Q _ => ∃ (a : Addr) (ns : List Int), vs = [.ref a] ∧ SqL K H a (ns.map V.int) ∧ ∀ H', Q (.bl true) H'
theorem ok_law {f C : Addr} {fd : FuncData} (F : Fun K "law" "law" sLaw f fd) (B : Bl mg) (mlist : mg "list" = none)
    (hC : Has P w K mg base 5 "_law_cell" ["script", "k"] (spCell K)) (hT : Has P w K mg base 4 "_law_text" ["shape", "cell", "most"] (spText K)) (hLg : Has P w K mg base 4 "_law_long" ["shape", "cell"] spLong) (hIS : Has P w K mg base 3 "_law_integers" ["values"] spIntegers)
    (hP : Has P w K mg base 5 "_law_packed" ["text"] spPacked) (hK : Has P w K mg base 5 "pack" ["text"] spPack) (hU : HasX P w K mg base 5 "unpack" ["data"] (spUnpack K C)) : FnOk P w K mg base CX0 6 f fd ["script"] (spLaw K) := by
  obtain ⟨fC, dC, GC, gC, kC, bC⟩ := hC
  obtain ⟨fT, dT', GT, gT, kT, bT⟩ := hT
  obtain ⟨fLg, dLg, GLg, gLg, kLg, bLg⟩ := hLg
  obtain ⟨fIS, dIS, GIS, gIS, kIS, bIS⟩ := hIS
  obtain ⟨fP, dP, GP, gP, kP, bP⟩ := hP
  obtain ⟨fK, dK', GK, gK, kK, bK⟩ := hK
  obtain ⟨fU, dU, GU, gU, kU, bU⟩ := hU
  refine F.ok scLaw (fun vs H Q E h => ?_) (fun cdv A outer s H vs Q E hr h => ?_)
  · obtain ⟨c, ns, rfl, _⟩ := h
    rfl
  · obtain ⟨a, ns, rfl, hsq, q⟩ := h
    refine ⟨_, (pss_cons (ps_set (i := 1) scLaw.nd rfl (.inl rfl) (pe_lst (pa_cons (pe_call GLg (hr.mono (by omega)) (by rfl) gLg kLg bLg .nil pass0 (pa_cons (pe_call GC (hr.mono (by omega)) (by rfl) gC kC bC .nil pass0 (pa_cons (pv 0) (pa_cons pe_int pa_nil))) (pa_cons (pe_call GC (hr.mono (by omega)) (by rfl) gC kC bC .nil pass0 (pa_cons (pv 0) (pa_cons pe_int pa_nil))) pa_nil))) pa_nil)))
      (pss_cons (ps_for PassesOwn.never rfl (pi_range1 rfl B.range (pa_cons pe_int pa_nil)) (pg_name (i := 2) scLaw.nd rfl (.inl rfl))
        (C8.pss_cut (ps_set (i := 3) scLaw.nd rfl (.inl rfl) (pe_call GC (hr.mono (by omega)) (by rfl) gC kC bC .nil pass0 (pa_cons (pv 0) (pa_cons (pe_op op_add pe_int (pe_op op_mul pe_int (pv 2))) pa_nil))))
      (pss_cons (ps_set (i := 4) scLaw.nd rfl (.inl rfl) (pe_call GT (hr.mono (by omega)) (by rfl) gT kT bT .nil pass0 (pa_cons (pe_op op_fdiv (pv 3) pe_int) (pa_cons (pe_call GC (hr.mono (by omega)) (by rfl) gC kC bC .nil pass0 (pa_cons (pv 0) (pa_cons (pe_op op_add pe_int (pe_op op_mul pe_int (pv 2))) pa_nil))) (pa_cons pe_int pa_nil)))))
      (pss_one (ps_expr (pe_bm PySem.F.plainAttrs_list PySem.F.slot_list_append PySem.F.type_list_append mt_append (pv 1) (pa_cons (pe_slice sl_str (pv 4) (po_some (pe_callTy call_int1 (by rfl) B.int (by decide +kernel) (pa_cons (pe_cmpR op_eq (pe_op op_mod (pv 3) pe_int) pe_int (nomark _)) pa_nil))) po_none) pa_nil)))))))
      (pss_cons (ps_for PassesOwn.never rfl (pi_list (pv 1)) (pg_name (i := 4) scLaw.nd rfl (.inl rfl))
        (pss_cons (ps_set (i := 5) scLaw.nd rfl (.inl rfl) (pe_call GP (hr.mono (by omega)) (by rfl) gP kP bP .nil pass0 (pa_cons (pv 4) pa_nil)))
      (pss_cons (ps_set (i := 6) scLaw.nd rfl (.inl rfl) (pe_call GK (hr.mono (by omega)) (by rfl) gK kK bK .nil pass0 (pa_cons (pv 4) pa_nil)))
      (C8.pss_cut (ps_if (PW.pt (pw_or (pt_not (pt_val (pe_call GIS (hr.mono (by omega)) (by rfl) gIS kIS bIS .nil pass0 (pa_cons (pv 6) pa_nil)))) (pw_or1 (pt_cmpR (op_neD hr.units) (pv 6) (pv 5) (nomark _))))) (pss_one (ps_ret pe_bl)) pss_nil)
      (pss_cons (ps_set (i := 7) scLaw.nd rfl (.inl rfl) (pe_callTy call_list_of (by rfl) mlist (by decide +kernel) (pa_cons (pv 6) pa_nil)))
      (pss_cons (ps_set (i := 8) scLaw.nd rfl (.inl rfl) (pe_call GU (hr.mono (by omega)) (by rfl) gU kU bU .nil passL (pa_cons (pv 7) pa_nil)))
      (pss_one (ps_if (PW.pt (pw_or (pt_not (pt_val (pe_callB call_isi (by rfl) B.isin (by decide +kernel) (pa_cons (pv 8) (pa_cons (pe_bltn (v := .ty "str") (by rfl) B.str (by decide +kernel) rfl) pa_nil))))) (pw_or (pt_cmpR op_ne (pv 8) (pv 4) (nomark _)) (pw_or1 (pt_cmpR (op_neD hr.units) (pv 7) (pv 5) (nomark _)))))) (pss_one (ps_ret pe_bl)) pss_nil))))))))
      (pss_one (ps_ret pe_bl))))), ?_⟩
    refine ⟨_, rfl, a, ns, 0, rfl, hsq, fun x0 => ⟨_, rfl, a, ns, 1, rfl, hsq, fun x1 => ⟨x0, x1, rfl, fun H1 l0 s1 dl0 ll0 => ⟨by show 1 ≤ sizeLine; decide, fun pt hpt => ?_⟩⟩⟩⟩
    have hptH : H pt = none := s1.free hpt
    refine ⟨6, rfl, by decide, by decide, ?_⟩
    refine for_range (lo := 0) (n := 6) (fun i σ H' => Same H H' ∧ ∃ (ls : List (List Nat)) (v2 v3 v4 : Option V), H' pt = some (.lst (ls.map fun l => V.str (T l))) ∧ ls.length = 1 + i ∧ (∀ l ∈ ls, Dna l ∧ l.length ≤ 70000) ∧ σ = [some (.ref a), some (.ref pt), v2, v3, v4, none, none, none, none]) ⟨s1.trans (same_upd hpt), [l0], none, none, none, upd_same, rfl, fun l hm => by
        obtain rfl : l = l0 := by simpa using hm
        exact ⟨dl0, ll0⟩, rfl⟩ ?_ ?_
    · rintro i σ H2 hi ⟨s2, ls, v2, v3, v4, hx, hll, hg, rfl⟩
      refine ⟨fun σ H3 => H3 = H2 ∧ ∃ x : Int, σ = [some (.ref a), some (.ref pt), some (.int (0 + (i : Nat))), some (.int x), v4, none, none, none, none], ⟨_, rfl, _, rfl, 2, _, rfl, rfl, .inl ⟨by decide, by decide⟩, 2, _, rfl, rfl, a, ns, 2 + 2 * i, cell_arg2 a 2 2 i, s2.seq hsq, fun x => ⟨rfl, x, rfl⟩⟩, ?_⟩
      rintro σ H3 ⟨rfl, x, rfl⟩
      refine ⟨_, rfl, x, 3, rfl, rfl, ⟨by decide, by decide⟩, _, rfl, _, rfl, 2, _, rfl, rfl, .inl ⟨by decide, by decide⟩, 3, _, rfl, rfl, a, ns, 3 + 2 * i, cell_arg2 a 3 2 i, s2.seq hsq, fun y => ⟨x / 3, y, 91, rfl, by decide, by decide, fun H4 l s4 dl l1 l2 => ?_⟩⟩
      have hx4 := s4 _ _ hx
      have hcut : ∀ b : Bool, ∃ m, cutS (T l) (some (if b = true then 1 else 0)) none = T m ∧ Dna m ∧ m.length ≤ l.length := fun b => cut_dna dl _ _
      obtain ⟨m, em, dm, lm⟩ := hcut (decide (V.int (x % 3) = V.int 0))
      refine ⟨_, rfl, .inl ⟨rfl, _, .inl (.inl hx4)⟩, _, rfl, _, rfl, x, 3, rfl, rfl, (show (0 : Int) < 3 by decide), rfl, .inr ⟨_, rfl, _, rfl, T l, rfl, line_ok (by rw [T_len]; omega), ?_⟩⟩
      refine ⟨pt, _, _, rfl, rfl, hx4, line_ok6 (by rw [List.length_map]; omega), fun b o e => ?_, ls ++ [m], some (.int (0 + (i : Nat))), some (.int x), some (.str (T l)), ?_, by rw [List.length_append, hll]; rfl, fun l' hm => ?_, rfl⟩
      · rw [upd_ne (ne_of_none e hptH)]
        exact s4 _ _ (s2 _ _ e)
      · rw [upd_same, List.map_append]
        have e5 : V.str (cutS (T l) (some (if decide (V.int (x % 3) = V.int 0) = true then 1 else 0)) none) = V.str (T m) := by rw [em]
        exact congrArg (fun z => some (HO.lst (ls.map (fun l => V.str (T l)) ++ [z]))) e5
      · rcases List.mem_append.mp hm with z | z
        · exact hg l' z
        · obtain rfl : l' = m := by simpa using z
          exact ⟨dm, by omega⟩
    · rintro σ H2 ⟨s2, ls, v2, v3, v4, hx, hll, hg, rfl⟩
      refine ⟨_, rfl, pt, rfl, ⟨_, .inl (.inl hx)⟩, ?_⟩
      refine for_list (K := K) (xs := ls.map fun l => V.str (T l)) (fun i σ H' => Same H2 H' ∧ ∃ v4 v5 v6 v7 v8 : Option V, σ = [some (.ref a), some (.ref pt), v2, v3, v4, v5, v6, v7, v8]) ⟨Same.refl _, _, _, _, _, _, rfl⟩ (fun i σ H' _ h => .inl (.inl (h.1 _ _ hx))) ?_ ?_
      · rintro i v σ H3 hv ⟨s3, v4, v5, v6, v7, v8, rfl⟩
        rw [List.getElem?_map] at hv
        obtain ⟨l, hl0, rfl⟩ := Option.map_eq_some_iff.mp hv
        obtain ⟨dl, ll⟩ := hg l (List.mem_of_getElem? hl0)
        have hpl := packed_len (l := l)
        refine ⟨_, rfl, l, rfl, dl, by omega, fun H4 pe s4 hpe0 hpe => ?_⟩
        refine ⟨_, rfl, l, rfl, dl, by omega, fun H5 pa s5 hpa0 hpa => ?_⟩
        have hpe5 := s5 _ _ hpe
        refine ⟨fun σ H' => Same H5 H' ∧ σ = [some (.ref a), some (.ref pt), v2, v3, some (.str (T l)), some (.ref pe), some (.ref pa), v7, v8], ?_, ?_⟩
        · refine ⟨_, rfl, pa, _, rfl, hpa, by omega, fun H6 s6 => ⟨true, rfl, iteF ?_⟩⟩
          refine ⟨_, rfl, _, rfl, dI (packed l), dI (packed l), dp_dI (.inl (.inl (s6 _ _ hpa))), dp_dI (.inl (.inl (s6 _ _ hpe5))), shaped_dI _, shaped_dI _, _, rfl, ?_⟩
          rw [eqv_ints]
          exact iteF ⟨s6, rfl⟩
        rintro σ H6 ⟨s6, rfl⟩
        have hpe6 := s6 _ _ hpe5
        refine ⟨_, rfl, pa, _, rfl, .inl (.inl (.inl (s6 _ _ hpa))), fun ph hph => ?_⟩
        have sph := same_upd (o := LI (packed l)) hph
        refine ⟨_, rfl, ph, packed l, rfl, .inl (.inl upd_same), packed_byt l, by omega, fun t ht H7 s7 => ?_, fun h => absurd ⟨l, packed_good dl (by omega)⟩ h⟩
        have etl : t = l := ht.text.trans (packed_good dl (by omega)).text.symm
        subst etl
        have hph7 := s7 _ _ upd_same
        have hpe7 := s7 _ _ (sph _ _ hpe6)
        refine ⟨_, rfl, .str (T t), .ty "str", _, _, true, rfl, .ty _, .base (.str _), kit_ty (by decide +kernel), true, rfl, iteF ?_⟩
        refine ⟨_, rfl, _, rfl, rfl, _, rfl, iteNS rfl ?_⟩
        refine ⟨_, rfl, _, rfl, dI (packed t), dI (packed t), dp_dI (.inl (.inl hph7)), dp_dI (.inl (.inl hpe7)), shaped_dI _, shaped_dI _, _, rfl, ?_⟩
        rw [eqv_ints]
        exact iteF ⟨((s3.trans s4).trans (s5.trans s6)).trans (sph.trans s7), _, _, _, _, _, rfl⟩
      · rintro σ H3 _
        exact q _
end
theorem all_mk {l : PySem.W.OpenLaw} {w : World} {K : PySem.W.Frag} {h : Heap} {mg : Str → Option Value} {fa fNB fNA fPK fUP fRO fLB fCL fTR fCZ fC fR fLL fT fI fIS fBY fLP fLO fL : Addr} (X : K.In h) (G : h.Ns mainGlobals mg) (hfa : mg "law" = some (.ref fa))
    {odNB anNB : Option Addr} {slNB : Array (Option Value)} {ocNB kVNB dcNB pmNB cdNB ctNB : Value}
    {odNA anNA : Option Addr} {slNA : Array (Option Value)} {ocNA kVNA dcNA pmNA cdNA ctNA : Value}
    {odPK anPK : Option Addr} {slPK : Array (Option Value)} {ocPK kVPK dcPK pmPK cdPK ctPK : Value}
    {odUP anUP : Option Addr} {slUP : Array (Option Value)} {ocUP kVUP dcUP pmUP cdUP ctUP : Value}
    {odRO anRO : Option Addr} {slRO : Array (Option Value)} {ocRO kVRO dcRO pmRO cdRO ctRO : Value}
    {odLB anLB : Option Addr} {slLB : Array (Option Value)} {ocLB kVLB dcLB pmLB cdLB ctLB : Value}
    {odCL anCL : Option Addr} {slCL : Array (Option Value)} {ocCL kVCL dcCL pmCL cdCL ctCL : Value}
    {odTR anTR : Option Addr} {slTR : Array (Option Value)} {ocTR kVTR dcTR pmTR cdTR ctTR : Value}
    {odCZ anCZ : Option Addr} {slCZ : Array (Option Value)} {ocCZ kVCZ dcCZ pmCZ cdCZ ctCZ : Value}
    {odC anC : Option Addr} {slC : Array (Option Value)} {ocC kVC dcC pmC cdC ctC : Value}
    {odR anR : Option Addr} {slR : Array (Option Value)} {ocR kVR dcR pmR cdR ctR : Value}
    {odLL anLL : Option Addr} {slLL : Array (Option Value)} {ocLL kVLL dcLL pmLL cdLL ctLL : Value}
    {odT anT : Option Addr} {slT : Array (Option Value)} {ocT kVT dcT pmT cdT ctT : Value}
    {odI anI : Option Addr} {slI : Array (Option Value)} {ocI kVI dcI pmI cdI ctI : Value}
    {odIS anIS : Option Addr} {slIS : Array (Option Value)} {ocIS kVIS dcIS pmIS cdIS ctIS : Value}
    {odBY anBY : Option Addr} {slBY : Array (Option Value)} {ocBY kVBY dcBY pmBY cdBY ctBY : Value}
    {odLP anLP : Option Addr} {slLP : Array (Option Value)} {ocLP kVLP dcLP pmLP cdLP ctLP : Value}
    {odLO anLO : Option Addr} {slLO : Array (Option Value)} {ocLO kVLO dcLO pmLO cdLO ctLO : Value}
    {odL anL : Option Addr} {slL : Array (Option Value)} {ocL kVL dcL pmL cdL ctL : Value}
    (aNB : PySem.W.nsIn K mainGlobals "number_bytes" = some (some (.ref fNB))) (lNB : K.lookup fNB = some ⟨ocNB, odNB, .func (PySem.W.fnOf "number_bytes" "number_bytes" (defArgs sNumB) (defBody sNumB) (defScope sNumB) .none kVNB dcNB pmNB anNB cdNB ctNB), slNB⟩) (cNB : PySem.W.codeIn K cdNB "number_bytes" = true) (kNB : PySem.W.keepIn K (.ref fNB) = true)
    (aNA : PySem.W.nsIn K mainGlobals "number_at" = some (some (.ref fNA))) (lNA : K.lookup fNA = some ⟨ocNA, odNA, .func (PySem.W.fnOf "number_at" "number_at" (defArgs sNumAt) (defBody sNumAt) (defScope sNumAt) .none kVNA dcNA pmNA anNA cdNA ctNA), slNA⟩) (cNA : PySem.W.codeIn K cdNA "number_at" = true) (kNA : PySem.W.keepIn K (.ref fNA) = true)
    (aPK : PySem.W.nsIn K mainGlobals "pack" = some (some (.ref fPK))) (lPK : K.lookup fPK = some ⟨ocPK, odPK, .func (PySem.W.fnOf "pack" "pack" (defArgs sPack) (defBody sPack) (defScope sPack) .none kVPK dcPK pmPK anPK cdPK ctPK), slPK⟩) (cPK : PySem.W.codeIn K cdPK "pack" = true) (kPK : PySem.W.keepIn K (.ref fPK) = true)
    (aUP : PySem.W.nsIn K mainGlobals "unpack" = some (some (.ref fUP))) (lUP : K.lookup fUP = some ⟨ocUP, odUP, .func (PySem.W.fnOf "unpack" "unpack" (defArgs sUnpack) (defBody sUnpack) (defScope sUnpack) .none kVUP dcUP pmUP anUP cdUP ctUP), slUP⟩) (cUP : PySem.W.codeIn K cdUP "unpack" = true) (kUP : PySem.W.keepIn K (.ref fUP) = true)
    (aRO : PySem.W.nsIn K mainGlobals "_runs_of" = some (some (.ref fRO))) (lRO : K.lookup fRO = some ⟨ocRO, odRO, .func (PySem.W.fnOf "_runs_of" "_runs_of" (defArgs sRunsOf) (defBody sRunsOf) (defScope sRunsOf) .none kVRO dcRO pmRO anRO cdRO ctRO), slRO⟩) (cRO : PySem.W.codeIn K cdRO "_runs_of" = true) (kRO : PySem.W.keepIn K (.ref fRO) = true)
    (aLB : PySem.W.nsIn K mainGlobals "_letter_bytes" = some (some (.ref fLB))) (lLB : K.lookup fLB = some ⟨ocLB, odLB, .func (PySem.W.fnOf "_letter_bytes" "_letter_bytes" (defArgs sLetB) (defBody sLetB) (defScope sLetB) .none kVLB dcLB pmLB anLB cdLB ctLB), slLB⟩) (cLB : PySem.W.codeIn K cdLB "_letter_bytes" = true) (kLB : PySem.W.keepIn K (.ref fLB) = true)
    (aCL : PySem.W.nsIn K mainGlobals "_coded_letters" = some (some (.ref fCL))) (lCL : K.lookup fCL = some ⟨ocCL, odCL, .func (PySem.W.fnOf "_coded_letters" "_coded_letters" (defArgs sCoded) (defBody sCoded) (defScope sCoded) .none kVCL dcCL pmCL anCL cdCL ctCL), slCL⟩) (cCL : PySem.W.codeIn K cdCL "_coded_letters" = true) (kCL : PySem.W.keepIn K (.ref fCL) = true)
    (aTR : PySem.W.nsIn K mainGlobals "_told_runs" = some (some (.ref fTR))) (lTR : K.lookup fTR = some ⟨ocTR, odTR, .func (PySem.W.fnOf "_told_runs" "_told_runs" (defArgs sTRuns) (defBody sTRuns) (defScope sTRuns) .none kVTR dcTR pmTR anTR cdTR ctTR), slTR⟩) (cTR : PySem.W.codeIn K cdTR "_told_runs" = true) (kTR : PySem.W.keepIn K (.ref fTR) = true)
    (aCZ : PySem.W.nsIn K mainGlobals "_check_zeros" = some (some (.ref fCZ))) (lCZ : K.lookup fCZ = some ⟨ocCZ, odCZ, .func (PySem.W.fnOf "_check_zeros" "_check_zeros" (defArgs sCheckZ) (defBody sCheckZ) (defScope sCheckZ) .none kVCZ dcCZ pmCZ anCZ cdCZ ctCZ), slCZ⟩) (cCZ : PySem.W.codeIn K cdCZ "_check_zeros" = true) (kCZ : PySem.W.keepIn K (.ref fCZ) = true)
    (aC : PySem.W.nsIn K mainGlobals "_law_cell" = some (some (.ref fC))) (lC : K.lookup fC = some ⟨ocC, odC, .func (PySem.W.fnOf "_law_cell" "_law_cell" (defArgs sCell) (defBody sCell) (defScope sCell) .none kVC dcC pmC anC cdC ctC), slC⟩) (cC : PySem.W.codeIn K cdC "_law_cell" = true) (kC : PySem.W.keepIn K (.ref fC) = true)
    (aR : PySem.W.nsIn K mainGlobals "_law_row" = some (some (.ref fR))) (lR : K.lookup fR = some ⟨ocR, odR, .func (PySem.W.fnOf "_law_row" "_law_row" (defArgs sRow) (defBody sRow) (defScope sRow) .none kVR dcR pmR anR cdR ctR), slR⟩) (cR : PySem.W.codeIn K cdR "_law_row" = true) (kR : PySem.W.keepIn K (.ref fR) = true)
    (aLL : PySem.W.nsIn K mainGlobals "_law_letters" = some (some (.ref fLL))) (lLL : K.lookup fLL = some ⟨ocLL, odLL, .func (PySem.W.fnOf "_law_letters" "_law_letters" (defArgs sLetters) (defBody sLetters) (defScope sLetters) .none kVLL dcLL pmLL anLL cdLL ctLL), slLL⟩) (cLL : PySem.W.codeIn K cdLL "_law_letters" = true) (kLL : PySem.W.keepIn K (.ref fLL) = true)
    (aT : PySem.W.nsIn K mainGlobals "_law_text" = some (some (.ref fT))) (lT : K.lookup fT = some ⟨ocT, odT, .func (PySem.W.fnOf "_law_text" "_law_text" (defArgs sText) (defBody sText) (defScope sText) .none kVT dcT pmT anT cdT ctT), slT⟩) (cT : PySem.W.codeIn K cdT "_law_text" = true) (kT : PySem.W.keepIn K (.ref fT) = true)
    (aI : PySem.W.nsIn K mainGlobals "_law_integer" = some (some (.ref fI))) (lI : K.lookup fI = some ⟨ocI, odI, .func (PySem.W.fnOf "_law_integer" "_law_integer" (defArgs sInteger) (defBody sInteger) (defScope sInteger) .none kVI dcI pmI anI cdI ctI), slI⟩) (cI : PySem.W.codeIn K cdI "_law_integer" = true) (kI : PySem.W.keepIn K (.ref fI) = true)
    (aIS : PySem.W.nsIn K mainGlobals "_law_integers" = some (some (.ref fIS))) (lIS : K.lookup fIS = some ⟨ocIS, odIS, .func (PySem.W.fnOf "_law_integers" "_law_integers" (defArgs sIntegers) (defBody sIntegers) (defScope sIntegers) .none kVIS dcIS pmIS anIS cdIS ctIS), slIS⟩) (cIS : PySem.W.codeIn K cdIS "_law_integers" = true) (kIS : PySem.W.keepIn K (.ref fIS) = true)
    (aBY : PySem.W.nsIn K mainGlobals "_law_bytes" = some (some (.ref fBY))) (lBY : K.lookup fBY = some ⟨ocBY, odBY, .func (PySem.W.fnOf "_law_bytes" "_law_bytes" (defArgs sBytes) (defBody sBytes) (defScope sBytes) .none kVBY dcBY pmBY anBY cdBY ctBY), slBY⟩) (cBY : PySem.W.codeIn K cdBY "_law_bytes" = true) (kBY : PySem.W.keepIn K (.ref fBY) = true)
    (aLP : PySem.W.nsIn K mainGlobals "_law_packed" = some (some (.ref fLP))) (lLP : K.lookup fLP = some ⟨ocLP, odLP, .func (PySem.W.fnOf "_law_packed" "_law_packed" (defArgs sPacked) (defBody sPacked) (defScope sPacked) .none kVLP dcLP pmLP anLP cdLP ctLP), slLP⟩) (cLP : PySem.W.codeIn K cdLP "_law_packed" = true) (kLP : PySem.W.keepIn K (.ref fLP) = true)
    (aLO : PySem.W.nsIn K mainGlobals "_law_long" = some (some (.ref fLO))) (lLO : K.lookup fLO = some ⟨ocLO, odLO, .func (PySem.W.fnOf "_law_long" "_law_long" (defArgs sLong) (defBody sLong) (defScope sLong) .none kVLO dcLO pmLO anLO cdLO ctLO), slLO⟩) (cLO : PySem.W.codeIn K cdLO "_law_long" = true) (kLO : PySem.W.keepIn K (.ref fLO) = true)
    (aL : PySem.W.nsIn K mainGlobals "law" = some (some (.ref fL))) (lL : K.lookup fL = some ⟨ocL, odL, .func (PySem.W.fnOf "law" "law" (defArgs sLaw) (defBody sLaw) (defScope sLaw) .none kVL dcL pmL anL cdL ctL), slL⟩) (cL : PySem.W.codeIn K cdL "law" = true) (kL : PySem.W.keepIn K (.ref fL) = true)
    {tNS : Tok} (nNS : PySem.W.nsIn K mainGlobals "_NUMBER_SIZE" = some (some (.int 4 tNS)))
    {tHS : Tok} (nHS : PySem.W.nsIn K mainGlobals "_HEAD_SIZE" = some (some (.int 8 tHS)))
    {tRS : Tok} (nRS : PySem.W.nsIn K mainGlobals "_RUN_SIZE" = some (some (.int 8 tRS)))
    {tCO : Tok} (nCO : PySem.W.nsIn K mainGlobals "_CODED" = some (some (.str (Str.ofString "ACGT") tCO)))
    {qY CP : Addr} {esY : Array DictEntry} {nY : Nat} {tY0 tY1 tY2 tY3 tY4 : Tok}
    (dY : PySem.W.nsIn K mainGlobals "_CODES" = some (some (.ref qY)))
    (eY : K.lookup qY = some ⟨.type "dict", none, .dict esY nY, #[]⟩)
    (yY : PySem.W.KeysLit w.params esY.toList)
    (vY0 : PySem.W.nsIn K qY "A" = some (some (.int 0 tY0)))
    (vY1 : PySem.W.nsIn K qY "C" = some (some (.int 1 tY1)))
    (vY2 : PySem.W.nsIn K qY "G" = some (some (.int 2 tY2)))
    (vY3 : PySem.W.nsIn K qY "T" = some (some (.int 3 tY3)))
    (vY4 : PySem.W.nsIn K qY "N" = some (some (.int 0 tY4)))
    (gP : PySem.W.nsIn K mainGlobals "InvalidPack" = some (some (.ref CP)))
    (qP : PySem.W.excIn K CP [.type "ValueError", .type "Exception", .type "BaseException", .type "object"] "ValueError.__new__" = true)
    (kP : PySem.W.keepIn K (.ref CP) = true)
    (sP : PySem.W.subIn K (.ref CP) (.type "BaseException") = some true)
    (yP : PySem.W.typeIn K (.ref CP) = some (.type "type"))
    (zlen : PySem.W.nsIn K mainGlobals "len" = some none) (zint : PySem.W.nsIn K mainGlobals "int" = some none) (zabs : PySem.W.nsIn K mainGlobals "abs" = some none) (zrange : PySem.W.nsIn K mainGlobals "range" = some none) (zisinstance : PySem.W.nsIn K mainGlobals "isinstance" = some none) (zbool : PySem.W.nsIn K mainGlobals "bool" = some none) (zstr : PySem.W.nsIn K mainGlobals "str" = some none) (zlist : PySem.W.nsIn K mainGlobals "list" = some none) (zall : PySem.W.nsIn K mainGlobals "all" = some none) (zmax : PySem.W.nsIn K mainGlobals "max" = some none) (zmin : PySem.W.nsIn K mainGlobals "min" = some none) (zreversed : PySem.W.nsIn K mainGlobals "reversed" = some none) :
    ∃ fd : FuncData, (∀ (s : Shared) (v : Value), BindsTo s fd ⟨[v], []⟩ [("script", v)]) ∧ ∀ base : Heap, K.In base → base.Ns mainGlobals mg → FnOk l.prog w K mg base CX0 6 fa fd ["script"] (spLaw K) := by
  have e := hfa.symm.trans (PySem.W.mg_of X G aL)
  cases e
  have FNB := fun_mk (st := sNumB) lNB cNB kNB
  have FNA := fun_mk (st := sNumAt) lNA cNA kNA
  have FPK := fun_mk (st := sPack) lPK cPK kPK
  have FUP := fun_mk (st := sUnpack) lUP cUP kUP
  have FRO := fun_mk (st := sRunsOf) lRO cRO kRO
  have FLB := fun_mk (st := sLetB) lLB cLB kLB
  have FCL := fun_mk (st := sCoded) lCL cCL kCL
  have FTR := fun_mk (st := sTRuns) lTR cTR kTR
  have FCZ := fun_mk (st := sCheckZ) lCZ cCZ kCZ
  have FC := fun_mk (st := sCell) lC cC kC
  have FR := fun_mk (st := sRow) lR cR kR
  have FLL := fun_mk (st := sLetters) lLL cLL kLL
  have FT := fun_mk (st := sText) lT cT kT
  have FI := fun_mk (st := sInteger) lI cI kI
  have FIS := fun_mk (st := sIntegers) lIS cIS kIS
  have FBY := fun_mk (st := sBytes) lBY cBY kBY
  have FLP := fun_mk (st := sPacked) lLP cLP kLP
  have FLO := fun_mk (st := sLong) lLO cLO kLO
  have FL := fun_mk (st := sLaw) lL cL kL
  have B : Bl mg := ⟨PySem.W.mg_none_of X G zlen, PySem.W.mg_none_of X G zint, PySem.W.mg_none_of X G zabs, PySem.W.mg_none_of X G zrange, PySem.W.mg_none_of X G zisinstance, PySem.W.mg_none_of X G zbool, PySem.W.mg_none_of X G zstr⟩
  have bNB := FNB.binds (ps := ["number", "size"]) fun _ _ _ _ _ _ us hl => match us, hl with | [_, _], _ => rfl
  have bNA := FNA.binds (ps := ["data", "at", "size"]) fun _ _ _ _ _ _ us hl => match us, hl with | [_, _, _], _ => rfl
  have bPK := FPK.binds (ps := ["text"]) fun _ _ _ _ _ _ us hl => match us, hl with | [_], _ => rfl
  have bUP := FUP.binds (ps := ["data"]) fun _ _ _ _ _ _ us hl => match us, hl with | [_], _ => rfl
  have bRO := FRO.binds (ps := ["text"]) fun _ _ _ _ _ _ us hl => match us, hl with | [_], _ => rfl
  have bLB := FLB.binds (ps := ["text"]) fun _ _ _ _ _ _ us hl => match us, hl with | [_], _ => rfl
  have bCL := FCL.binds (ps := ["data"]) fun _ _ _ _ _ _ us hl => match us, hl with | [_], _ => rfl
  have bTR := FTR.binds (ps := ["data", "many", "length"]) fun _ _ _ _ _ _ us hl => match us, hl with | [_, _, _], _ => rfl
  have bCZ := FCZ.binds (ps := ["letters", "begin", "end"]) fun _ _ _ _ _ _ us hl => match us, hl with | [_, _, _], _ => rfl
  have bC := FC.binds (ps := ["script", "k"]) fun _ _ _ _ _ _ us hl => match us, hl with | [_, _], _ => rfl
  have bR := FR.binds (ps := ["cell", "count", "bound"]) fun _ _ _ _ _ _ us hl => match us, hl with | [_, _, _], _ => rfl
  have bLL := FLL.binds (ps := ["cell", "size", "letters"]) fun _ _ _ _ _ _ us hl => match us, hl with | [_, _, _], _ => rfl
  have bT := FT.binds (ps := ["shape", "cell", "most"]) fun _ _ _ _ _ _ us hl => match us, hl with | [_, _, _], _ => rfl
  have bI := FI.binds (ps := ["value"]) fun _ _ _ _ _ _ us hl => match us, hl with | [_], _ => rfl
  have bIS := FIS.binds (ps := ["values"]) fun _ _ _ _ _ _ us hl => match us, hl with | [_], _ => rfl
  have bBY := FBY.binds (ps := ["number", "count"]) fun _ _ _ _ _ _ us hl => match us, hl with | [_, _], _ => rfl
  have bLP := FLP.binds (ps := ["text"]) fun _ _ _ _ _ _ us hl => match us, hl with | [_], _ => rfl
  have bLO := FLO.binds (ps := ["shape", "cell"]) fun _ _ _ _ _ _ us hl => match us, hl with | [_, _], _ => rfl
  have DY : KD K w qY fun c => .int (cd c) := fun c hc => by
    rcases hc with e | e | e | e | e <;> subst e
    · exact ⟨_, _, _, eY, yY, vY0, ⟨_, rfl⟩⟩
    · exact ⟨_, _, _, eY, yY, vY1, ⟨_, rfl⟩⟩
    · exact ⟨_, _, _, eY, yY, vY2, ⟨_, rfl⟩⟩
    · exact ⟨_, _, _, eY, yY, vY3, ⟨_, rfl⟩⟩
    · exact ⟨_, _, _, eY, yY, vY4, ⟨_, rfl⟩⟩
  have IP : IPk K mg CP := ⟨PySem.W.mg_of X G gP, qP, kP, sP, yP⟩
  have zr := PySem.W.mg_none_of X G zreversed
  have zx := PySem.W.mg_none_of X G zmax
  have g4 := PySem.W.mg_of X G nNS
  have g8 := PySem.W.mg_of X G nHS
  have g9 := PySem.W.mg_of X G nRS
  have fin : ∀ base : Heap, FnOk l.prog w K mg base CX0 6 fa _ ["script"] (spLaw K) := fun base =>
    have hNB : Has l.prog w K mg base 4 "number_bytes" ["number", "size"] spNumB := ⟨fNB, _, ok_numb (k := 3) FNB B.range zr, PySem.W.mg_of X G aNB, kNB, bNB⟩
    have hRO : Has l.prog w K mg base 4 "_runs_of" ["text"] spRunsOf := ⟨fRO, _, ok_runsOf (k := 3) FRO B.len, PySem.W.mg_of X G aRO, kRO, bRO⟩
    have hLB : Has l.prog w K mg base 4 "_letter_bytes" ["text"] spLetB := ⟨fLB, _, ok_letB (k := 3) FLB B.len B.range (PySem.W.mg_of X G dY) DY, PySem.W.mg_of X G aLB, kLB, bLB⟩
    have hPK : Has l.prog w K mg base 5 "pack" ["text"] spPack := ⟨fPK, _, ok_pack (k := 3) FPK B.len g4 hRO hLB hNB, PySem.W.mg_of X G aPK, kPK, bPK⟩
    have hNA3 : Has l.prog w K mg base 3 "number_at" ["data", "at", "size"] (spNumAt K) := ⟨fNA, _, ok_numat (k := 2) FNA, PySem.W.mg_of X G aNA, kNA, bNA⟩
    have hNA4 : Has l.prog w K mg base 4 "number_at" ["data", "at", "size"] (spNumAt K) := ⟨fNA, _, ok_numat (k := 3) FNA, PySem.W.mg_of X G aNA, kNA, bNA⟩
    have hCL : Has l.prog w K mg base 4 "_coded_letters" ["data"] (spCoded K) := ⟨fCL, _, ok_coded (k := 3) FCL (PySem.W.mg_of X G nCO), PySem.W.mg_of X G aCL, kCL, bCL⟩
    have hCZ : HasX l.prog w K mg base 4 "_check_zeros" ["letters", "begin", "end"] (spCheckZ K CP) := ⟨fCZ, _, ok_checkZ (k := 3) FCZ IP B.range, PySem.W.mg_of X G aCZ, kCZ, bCZ⟩
    have hTR : HasX l.prog w K mg base 4 "_told_runs" ["data", "many", "length"] (spTRuns K CP) := ⟨fTR, _, ok_truns (k := 2) FTR IP B.range g4 g8 g9 hNA3, PySem.W.mg_of X G aTR, kTR, bTR⟩
    have hUP : HasX l.prog w K mg base 5 "unpack" ["data"] (spUnpack K CP) := ⟨fUP, _, ok_unpack (k := 2) FUP IP B.len g4 g8 g9 hNA4 hCL hCZ hTR, PySem.W.mg_of X G aUP, kUP, bUP⟩
    have hR2 : Has l.prog w K mg base 2 "_law_row" ["cell", "count", "bound"] (spRow K) := ⟨fR, _, ok_row (k := 1) FR B, PySem.W.mg_of X G aR, kR, bR⟩
    have hLL : Has l.prog w K mg base 3 "_law_letters" ["cell", "size", "letters"] (spLetters K) := ⟨fLL, _, ok_letters FLL B hR2, PySem.W.mg_of X G aLL, kLL, bLL⟩
    have hI : Has l.prog w K mg base 2 "_law_integer" ["value"] spInteger := ⟨fI, _, ok_integer (k := 1) FI B, PySem.W.mg_of X G aI, kI, bI⟩
    have hBY : Has l.prog w K mg base 4 "_law_bytes" ["number", "count"] spBytes := ⟨fBY, _, ok_bytes (k := 3) FBY B, PySem.W.mg_of X G aBY, kBY, bBY⟩
    ok_law FL B (PySem.W.mg_none_of X G zlist) ⟨fC, _, ok_cell (k := 4) FC B, PySem.W.mg_of X G aC, kC, bC⟩ ⟨fT, _, ok_text FT B hLL, PySem.W.mg_of X G aT, kT, bT⟩ ⟨fLO, _, ok_long FLO B zx (PySem.W.mg_none_of X G zmin) hLL, PySem.W.mg_of X G aLO, kLO, bLO⟩
      ⟨fIS, _, ok_integers FIS B (PySem.W.mg_none_of X G zlist) (PySem.W.mg_none_of X G zall) hI, PySem.W.mg_of X G aIS, kIS, bIS⟩ ⟨fLP, _, ok_packed (k := 3) FLP B zx hBY, PySem.W.mg_of X G aLP, kLP, bLP⟩ hPK hUP
  exact ⟨PySem.W.fnOf "law" "law" (defArgs sLaw) (defBody sLaw) (defScope sLaw) .none kVL dcL pmL anL cdL ctL, fun s v => .of_eq rfl, fun base _ _ => fin base⟩
end Hr
open PySem PySem.W PyProof.Rows
set_option maxHeartbeats 0 in
theorem PySem.Challenge.cw_homereads_k10_packed_texts_holds : PySem.Challenge.rw_homereads_k10_packed_texts.Holds := by
  w_on; o_law; k_head; (case hw => w_witness2)
  k_fill
  refine L2.walk_of (l := PySem.Challenge.rw_homereads_k10_packed_texts) (n := 63) (k := 6) (x := "script") (CX := fun _ => L2.CX0) (sp := fun w => Hr.spLaw _) rfl (by decide) rfl ⟨rfl, by decide, by decide⟩ (fun w h Y => PySem.W.kIn_of Y) ?F (fun _ _ a ns hl _ hS => ⟨a, ns, rfl, hS, fun _ => rfl⟩) (fun _ _ _ _ _ h => h)
  case F =>
    intro w mg fa h KX G hmg
    refine' Hr.all_mk KX G hmg ?aNB ?lNB ?cNB ?kNB ?aNA ?lNA ?cNA ?kNA ?aPK ?lPK ?cPK ?kPK ?aUP ?lUP ?cUP ?kUP ?aRO ?lRO ?cRO ?kRO ?aLB ?lLB ?cLB ?kLB ?aCL ?lCL ?cCL ?kCL ?aTR ?lTR ?cTR ?kTR ?aCZ ?lCZ ?cCZ ?kCZ ?aC ?lC ?cC ?kC ?aR ?lR ?cR ?kR ?aLL ?lLL ?cLL ?kLL ?aT ?lT ?cT ?kT ?aI ?lI ?cI ?kI ?aIS ?lIS ?cIS ?kIS ?aBY ?lBY ?cBY ?kBY ?aLP ?lLP ?cLP ?kLP ?aLO ?lLO ?cLO ?kLO ?aL ?lL ?cL ?kL ?nNS ?nHS ?nRS ?nCO ?dY ?eY ?yY ?vY0 ?vY1 ?vY2 ?vY3 ?vY4 ?gP ?qP ?kP ?sP ?yP ?zlen ?zint ?zabs ?zrange ?zisinstance ?zbool ?zstr ?zlist ?zall ?zmax ?zmin ?zreversed
    (case aNB => k_is)
    (case lNB => k_is)
    (case cNB => k_is)
    (case kNB => k_is)
    (case aNA => k_is)
    (case lNA => k_is)
    (case cNA => k_is)
    (case kNA => k_is)
    (case aPK => k_is)
    (case lPK => k_is)
    (case cPK => k_is)
    (case kPK => k_is)
    (case aUP => k_is)
    (case lUP => k_is)
    (case cUP => k_is)
    (case kUP => k_is)
    (case aRO => k_is)
    (case lRO => k_is)
    (case cRO => k_is)
    (case kRO => k_is)
    (case aLB => k_is)
    (case lLB => k_is)
    (case cLB => k_is)
    (case kLB => k_is)
    (case aCL => k_is)
    (case lCL => k_is)
    (case cCL => k_is)
    (case kCL => k_is)
    (case aTR => k_is)
    (case lTR => k_is)
    (case cTR => k_is)
    (case kTR => k_is)
    (case aCZ => k_is)
    (case lCZ => k_is)
    (case cCZ => k_is)
    (case kCZ => k_is)
    (case aC => k_is)
    (case lC => k_is)
    (case cC => k_is)
    (case kC => k_is)
    (case aR => k_is)
    (case lR => k_is)
    (case cR => k_is)
    (case kR => k_is)
    (case aLL => k_is)
    (case lLL => k_is)
    (case cLL => k_is)
    (case kLL => k_is)
    (case aT => k_is)
    (case lT => k_is)
    (case cT => k_is)
    (case kT => k_is)
    (case aI => k_is)
    (case lI => k_is)
    (case cI => k_is)
    (case kI => k_is)
    (case aIS => k_is)
    (case lIS => k_is)
    (case cIS => k_is)
    (case kIS => k_is)
    (case aBY => k_is)
    (case lBY => k_is)
    (case cBY => k_is)
    (case kBY => k_is)
    (case aLP => k_is)
    (case lLP => k_is)
    (case cLP => k_is)
    (case kLP => k_is)
    (case aLO => k_is)
    (case lLO => k_is)
    (case cLO => k_is)
    (case kLO => k_is)
    (case aL => k_is)
    (case lL => k_is)
    (case cL => k_is)
    (case kL => k_is)
    (case nNS => k_is)
    (case nHS => k_is)
    (case nRS => k_is)
    (case nCO => k_is)
    (case dY => k_is)
    (case eY => k_is)
    (case yY => k_keys)
    (case vY0 => k_is)
    (case vY1 => k_is)
    (case vY2 => k_is)
    (case vY3 => k_is)
    (case vY4 => k_is)
    (case gP => k_is)
    (case qP => k_exc)
    (case kP => k_is)
    (case sP => k_is)
    (case yP => k_is)
    (case zlen => k_is)
    (case zint => k_is)
    (case zabs => k_is)
    (case zrange => k_is)
    (case zisinstance => k_is)
    (case zbool => k_is)
    (case zstr => k_is)
    (case zlist => k_is)
    (case zall => k_is)
    (case zmax => k_is)
    (case zmin => k_is)
    (case zreversed => k_is)
