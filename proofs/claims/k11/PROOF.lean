import PyProof.Rows.All
import Wide.All
import OpenK.AllK
import Wide.FinOn
import HandS.Base
import HandS.Call
import HandS.List
import HandS.Comp
import HandS.Ends
import HandS.Dict
import HandS.Iter
import HandS.Text
import HandS.Words
import HandS.WordsList
import HandS.More
import HandS.Codes
import HandS.Replace
import HandS.IsInst
import HandS.ExcInit
import HandS.WordsExc
import HandS.Exc
import HandS.TryOnly
import HandS.ExcOwn
import KE.SortKeyHeap
import HandS.Lambda
import HandS.Nested
import HandS.SortKw
import HandS.EndTab
import HandS.SetFor
import HandS.Strs
import HandS.SortInts
import HandS.Zip
import HandS.DictComp
import KE.GoesEnumKw
import KE.OsSetLaws
import HandS.MakeKwOnly
import HandS.Defaults
import HandS.RevRange
import HandS.WideBits
import HandS.Conv
import KE.KDictList
import HandS.Rev
import HandS.ReplaceLit
import HandS.RaiseMore
import KE.GoesMore
import HandS.FStr
import HandS.StrMore
import HandS.ExcIs
import HandS.ExcField
import KE.KExcIs
import PySem.Challenge.RW_homereads_k11_unpacked_bytes
set_option Elab.async false
set_option linter.all false
set_option maxRecDepth 100000
set_option maxHeartbeats 4000000
namespace Hr
open PySem PySem.Spec PyProof.Rows L2
/-! ### the text -/
def topS (i : Nat) : Stmt := PySem.Challenge.pw_homereads_k11_unpacked_bytes.main.body.getD i (.Pass ⟨0, 0, 0, 0⟩)
abbrev sNumAt : Stmt := topS 1
abbrev sUnpack : Stmt := topS 14
abbrev sCoded : Stmt := topS 15
abbrev sTRuns : Stmt := topS 16
abbrev sCheckZ : Stmt := topS 17
abbrev sCell : Stmt := topS 19
abbrev sRow : Stmt := topS 20
abbrev sLetters : Stmt := topS 21
abbrev sText : Stmt := topS 22
abbrev sBytes : Stmt := topS 23
abbrev sNumber : Stmt := topS 24
abbrev sPacked : Stmt := topS 25
abbrev sUnpacked : Stmt := topS 26
abbrev sRunCh : Stmt := topS 27
abbrev sChanged : Stmt := topS 28
abbrev sTold : Stmt := topS 29
abbrev sLaw : Stmt := topS 30
theorem scCell : FnScope ["script", "k"] ["script", "k"] (defScope sCell) := ⟨rfl, rfl, rfl, by decide +kernel, rfl, by decide +kernel, by decide +kernel⟩
theorem scRow : FnScope ["cell", "count", "bound", "rest", "mixed", "row", "k"] ["cell", "count", "bound"] (defScope sRow) := ⟨rfl, rfl, rfl, by decide +kernel, rfl, by decide +kernel, by decide +kernel⟩
/-! ### walks of a known number of turns -/
theorem for_gen {J : It} {n : Nat} {g : TG} {tb : TS} {D : Ends} {σ : L2.St} {H : Hp} (Pv : Nat → L2.St → Hp → Prop) (h0 : Pv 0 σ H) (hgo : ∀ i σ H, i < n → Pv i σ H → J.go i H) (hstop : ∀ σ H, Pv n σ H → J.stop n H)
    (hs : ∀ i σ H x H', i < n → Pv i σ H → J.yld i H x H' → g x σ H' fun σ2 H2 => tb { D with nx := Pv (i + 1), ct := Pv (i + 1), bk := D.nx } σ2 H2) (hd : ∀ σ H, Pv n σ H → D.nx σ H) :
    ∃ W : Nat → Nat → L2.St → Hp → Prop, (∃ m, W 0 m σ H) ∧ ∀ i m σ H, W i m σ H →
      (J.stop i H ∧ D.nx σ H) ∨ (J.go i H ∧ ∃ N : L2.St → Hp → Prop, (∀ σ' H', N σ' H' → ∃ m', m' < m ∧ W (i + 1) m' σ' H') ∧ ∀ x H', J.yld i H x H' → g x σ H' fun σ2 H2 => tb { D with nx := N, ct := N, bk := D.nx } σ2 H2) := by
  refine ⟨fun i m σ H => i + m = n ∧ Pv i σ H, ⟨n, Nat.zero_add n, h0⟩, fun i m σ H hw => ?_⟩
  obtain ⟨em, p⟩ := hw
  cases m with
  | zero =>
    obtain rfl : i = n := em
    exact .inl ⟨hstop σ H p, hd σ H p⟩
  | succ m =>
    have lt : i < n := by omega
    exact .inr ⟨hgo i σ H lt p, Pv (i + 1), fun σ' H' p' => ⟨m, Nat.lt_succ_self m, by omega, p'⟩, fun x H' y => hs i σ H x H' lt p y⟩
theorem lc_gen {J : It} {n : Nat} {g : TG} {tt : TT} {te : TE} {vs : List Nat} {σ : L2.St} {H1 : Hp} {D : Addr} {Qd : Hp → Prop} (Pv : Nat → Hp → Prop) (h0 : Pv 0 (upd H1 D (.lst []))) (hgo : ∀ i H, i < n → Pv i H → J.go i H) (hstop : ∀ H, Pv n H → J.stop n H)
    (hs : ∀ i H x H', i < n → Pv i H → J.yld i H x H' → g x (wipe σ vs) H' fun σ2 H2 => wipe σ2 vs = wipe σ vs ∧ tt σ2 H2 fun b H3 =>
      if b = true then te σ2 H3 fun y H4 => ∃ acc, H4 D = some (.lst acc) ∧ acc.length < sizeLine ∧ Pv (i + 1) (upd H4 D (.lst (acc ++ [y]))) else Pv (i + 1) H3) (hd : ∀ H, Pv n H → Qd H) :
    ∃ W : Nat → Nat → Hp → Prop, (∃ m, W 0 m (upd H1 D (.lst []))) ∧ ∀ i m H, W i m H →
      (J.stop i H ∧ Qd H) ∨ (J.go i H ∧ ∃ Nx : Hp → Prop, (∀ H', Nx H' → ∃ m', m' < m ∧ W (i + 1) m' H') ∧ ∀ x H', J.yld i H x H' → g x (wipe σ vs) H' fun σ2 H2 => wipe σ2 vs = wipe σ vs ∧ tt σ2 H2 fun b H3 =>
        if b = true then te σ2 H3 fun y H4 => ∃ acc, H4 D = some (.lst acc) ∧ acc.length < sizeLine ∧ Nx (upd H4 D (.lst (acc ++ [y]))) else Nx H3) := by
  refine ⟨fun i m H => i + m = n ∧ Pv i H, ⟨n, Nat.zero_add n, h0⟩, fun i m H hw => ?_⟩
  obtain ⟨em, p⟩ := hw
  cases m with
  | zero =>
    obtain rfl : i = n := em
    exact .inl ⟨hstop H p, hd H p⟩
  | succ m =>
    have lt : i < n := by omega
    exact .inr ⟨hgo i H lt p, Pv (i + 1), fun H' p' => ⟨m, Nat.lt_succ_self m, by omega, p'⟩, fun x H' y => hs i H x H' lt p y⟩
/-- a loop over a text's signs -/
theorem for_str {z : Str} {g : TG} {tb : TS} {D : Ends} {σ : L2.St} {H : Hp} (Pv : Nat → L2.St → Hp → Prop) (h0 : Pv 0 σ H)
    (hs : ∀ i c σ H, z.cps[i]? = some c → Pv i σ H → g (.str ⟨#[c]⟩) σ H fun σ2 H2 => tb { D with nx := Pv (i + 1), ct := Pv (i + 1), bk := D.nx } σ2 H2) (hd : ∀ σ H, Pv z.cps.size σ H → D.nx σ H) :
    ∃ W : Nat → Nat → L2.St → Hp → Prop, (∃ m, W 0 m σ H) ∧ ∀ i m σ H, W i m σ H →
      ((Its z).stop i H ∧ D.nx σ H) ∨ ((Its z).go i H ∧ ∃ N : L2.St → Hp → Prop, (∀ σ' H', N σ' H' → ∃ m', m' < m ∧ W (i + 1) m' σ' H') ∧ ∀ x H', (Its z).yld i H x H' → g x σ H' fun σ2 H2 => tb { D with nx := N, ct := N, bk := D.nx } σ2 H2) :=
  for_gen (J := Its z) (n := z.cps.size) Pv h0 (fun i σ H hi _ => hi) (fun σ H _ => Nat.le_refl _) (fun i σ H x H' hi p y => by
    obtain ⟨e, c, hc, ex⟩ := y
    subst e
    subst ex
    exact hs i c σ _ hc p) hd
/-! ### texts by lists -/
def T (l : List Nat) : Str := ⟨l.toArray⟩
theorem T_len (l : List Nat) : (T l).length = l.length := by
  show l.toArray.size = l.length
  simp
theorem T_size (l : List Nat) : (T l).cps.size = l.length := by
  show l.toArray.size = l.length
  simp
theorem T_list (l : List Nat) : (T l).cps.toList = l := rfl
theorem T_at (l : List Nat) (i : Nat) : (T l).cps[i]? = l[i]? := by
  show l.toArray[i]? = l[i]?
  simp
theorem T_app (a b : List Nat) : T a ++ T b = T (a ++ b) := by
  show Str.mk (a.toArray ++ b.toArray) = Str.mk (a ++ b).toArray
  simp
theorem T_inj {a b : List Nat} (h : T a = T b) : a = b := by
  have e : (T a).cps.toList = (T b).cps.toList := by rw [h]
  exact e
theorem T_nil : (Str.ofString "" : Str) = T [] := by decide +kernel
def Sg (c : Nat) : Prop := c = 65 ∨ c = 67 ∨ c = 71 ∨ c = 84 ∨ c = 78
def Dna (l : List Nat) : Prop := ∀ c ∈ l, Sg c
theorem Dna.app {a b : List Nat} (h : Dna a) (k : Dna b) : Dna (a ++ b) := fun c hc => by
  rcases List.mem_append.mp hc with q | q
  · exact h c q
  · exact k c q
theorem Dna.one {c : Nat} (h : Sg c) : Dna [c] := fun d hd => by
  obtain rfl : d = c := by simpa using hd
  exact h
theorem line_ok {n : Nat} (h : n ≤ 100000) : n ≤ sizeLine := by
  rw [sizeLine_eq]
  omega
theorem line_lt {n : Nat} (h : n ≤ 100000) : n < sizeLine := by
  rw [sizeLine_eq]
  omega
theorem same_upd {H : Hp} {p : Addr} {o : HO} (h : H p = none) : Same H (upd H p o) := fun b x e => by
  rw [upd_ne (ne_of_none e h)]
  exact e
theorem upd_upd {H : Hp} {p : Addr} {o o' : HO} : upd (upd H p o) p o' = upd H p o' := by
  funext b
  by_cases e : b = p
  · rw [e, upd_same, upd_same]
  · rw [upd_ne e, upd_ne e, upd_ne e]
/-! ### names that are still the built-in ones -/
structure Bl (mg : Str → Option Value) : Prop where
  len : mg "len" = none
  int : mg "int" = none
  abs : mg "abs" = none
  range : mg "range" = none
  isin : mg "isinstance" = none
  bool : mg "bool" = none
  str : mg "str" = none
section
variable {P : Program} {w : World} {K : PySem.W.Frag} {mg : Str → Option Value} {base : Heap}
/-! ### _law_cell -/
def spCell (K : PySem.W.Frag) : Sp := fun vs H Q _ => ∃ (a : Addr) (ns : List Int) (k : Nat), vs = [.ref a, .int (k : Int)] ∧ SqL K H a (ns.map V.int) ∧ ∀ x : Int, Q (.int x) H
theorem ok_cell {f : Addr} {fd : FuncData} {k : Nat} (F : Fun K "_law_cell" "_law_cell" sCell f fd) (B : Bl mg) : FnOk P w K mg base CX0 (k + 1) f fd ["script", "k"] (spCell K) := by
  refine F.ok scCell (fun vs H Q E h => ?_) (fun cdv A outer s H vs Q E hr h => ?_)
  · obtain ⟨a, ns, j, rfl, _⟩ := h
    rfl
  · obtain ⟨a, ns, j, rfl, hS, q⟩ := h
    refine ⟨_, pss_cons (ps_if (pt_cmpR op_lt (pv 1) (pe_callB call_len_seq (by rfl) B.len PySem.boot_len (pa_cons (pv 0) pa_nil)) (nomark _))
        (pss_one (ps_ret (pe_callTy call_int1 (by rfl) B.int (by decide +kernel) (pa_cons (pe_ix ix_list (pv 0) (pv 1) (fun _ _ => rfl)) pa_nil)))) pss_nil)
      (pss_one (ps_ret pe_int)), ?_⟩
    refine ⟨.int j, rfl, .ref a, rfl, a, ns.map V.int, rfl, .inl hS, j, _, rfl, rfl, _, rfl, ite2 (fun e => ?_) (fun e => q 0)⟩
    have h1 : (j : Int) < ((ns.map V.int).length : Int) := of_decide_eq_true e
    have h2 : j < ns.length := by
      rw [List.length_map] at h1
      omega
    have g1 : (ns.map V.int)[j]? = some (.int ns[j]) := by
      rw [List.getElem?_map, List.getElem?_eq_getElem h2]
      rfl
    exact ⟨.ref a, rfl, .int j, rfl, a, _, j, .int ns[j], rfl, rfl, hS, atI_nat g1, .inl ⟨_, rfl, q _⟩⟩
/-! ### _law_row -/
def spRow (K : PySem.W.Frag) : Sp := fun vs H Q _ => ∃ (c n b : Int), vs = [.int c, .int n, .int b] ∧ 0 ≤ n ∧ n ≤ 100000 ∧ 1 < b ∧ b ≤ 1000000001 ∧
  ∀ (H' : Hp) (p : Addr) (xs : List Int), Same H H' → H p = none → H' p = some (.lst (xs.map V.int)) → xs.length = n.toNat → (∀ x ∈ xs, 0 ≤ x ∧ x < b) → Q (.ref p) H'
theorem ok_row {f : Addr} {fd : FuncData} {k : Nat} (F : Fun K "_law_row" "_law_row" sRow f fd) (B : Bl mg) : FnOk P w K mg base CX0 (k + 1) f fd ["cell", "count", "bound"] (spRow K) := by
  refine F.ok scRow (fun vs H Q E h => ?_) (fun cdv A outer s H vs Q E hr h => ?_)
  · obtain ⟨c, n, b, rfl, _⟩ := h
    rfl
  · obtain ⟨c, n, b, rfl, hn0, hn, hb1, hb2, q⟩ := h
    refine ⟨_, pss_cons (ps_set (i := 3) scRow.nd rfl (.inl rfl) (pe_callB call_abs (by rfl) B.abs (by decide +kernel) (pa_cons (pe_callTy call_int1 (by rfl) B.int (by decide +kernel) (pa_cons (pv 0) pa_nil)) pa_nil)))
      (pss_cons (ps_set (i := 4) scRow.nd rfl (.inl rfl) (pe_op op_add (pe_op op_mod (pe_callTy call_int1 (by rfl) B.int (by decide +kernel) (pa_cons (pv 0) pa_nil)) pe_int) pe_int))
      (pss_cons (ps_set (i := 5) scRow.nd rfl (.inl rfl) (pe_lst pa_nil))
      (pss_cons (ps_for PassesOwn.never rfl (pi_range1 rfl B.range (pa_cons (pv 1) pa_nil)) (pg_name (i := 6) scRow.nd rfl (.inl rfl))
        (pss_one (ps_if (pt_cmpR op_ge (pv 3) (pv 2) (nomark _))
          (pss_cons (ps_expr (pe_bm PySem.F.plainAttrs_list PySem.F.slot_list_append PySem.F.type_list_append mt_append (pv 5) (pa_cons (pe_op op_mod (pe_callTy call_int1 (by rfl) B.int (by decide +kernel) (pa_cons (pv 3) pa_nil)) (pv 2)) pa_nil)))
            (pss_one (ps_set (i := 3) scRow.nd rfl (.inl rfl) (pe_op op_fdiv (pv 3) (pv 2)))))
          (pss_cons (ps_set (i := 4) scRow.nd rfl (.inl rfl) (pe_op op_mod (pe_callTy call_int1 (by rfl) B.int (by decide +kernel) (pa_cons (pe_op op_add (pe_op op_add (pe_op op_mul (pv 4) pe_int) (pe_op op_mul pe_int (pv 6))) pe_int) pa_nil)) pe_int))
            (pss_one (ps_expr (pe_bm PySem.F.plainAttrs_list PySem.F.slot_list_append PySem.F.type_list_append mt_append (pv 5) (pa_cons (pe_op op_mod (pe_callTy call_int1 (by rfl) B.int (by decide +kernel) (pa_cons (pe_op op_fdiv (pe_op op_mul (pv 4) pe_int) pe_int) pa_nil)) (pv 2)) pa_nil))))))))
      (pss_one (ps_ret (pv 5)))))), ?_⟩
    refine ⟨.int c, rfl, .inl ⟨c, rfl, c, rfl, ?_⟩⟩
    refine ⟨.int c, rfl, .inl ⟨c, rfl, c, 1000003, rfl, rfl, (show (0 : Int) < 1000003 by decide), _, _, rfl, rfl, ?_⟩⟩
    refine ⟨Nat.zero_le _, fun p hp => ?_⟩
    refine ⟨.int n, rfl, n, rfl, by omega, by omega, ?_⟩
    refine for_range (lo := 0) (n := n.toNat) (fun i σ H' => ∃ (r m : Int) (kv : Option V) (xs : List Int), σ = [some (.int c), some (.int n), some (.int b), some (.int r), some (.int m), some (.ref p), kv] ∧ 0 ≤ m ∧ m < 4294967296 ∧ Same H H' ∧
      H' p = some (.lst (xs.map V.int)) ∧ xs.length = i ∧ ∀ x ∈ xs, 0 ≤ x ∧ x < b) ?_ ?_ ?_
    · refine ⟨_, _, none, [], rfl, ?_, ?_, same_upd hp, upd_same, rfl, fun x hx => by cases hx⟩
      · have := Int.emod_nonneg c (show (1000003 : Int) ≠ 0 by decide)
        omega
      · have := Int.emod_lt_of_pos c (show (0 : Int) < 1000003 by decide)
        omega
    · rintro i σ H' hi ⟨r, m, kv, xs, rfl, hm0, hm1, sm, hx, hl, hall⟩
      have grow : ∀ (y : Int) (τ : L2.St) (r' m' : Int), 0 ≤ y → y < b → 0 ≤ m' → m' < 4294967296 → τ = [some (.int c), some (.int n), some (.int b), some (.int r'), some (.int m'), some (.ref p), some (.int (0 + (i : Nat)))] →
          ∃ (r m : Int) (kv : Option V) (zs : List Int), τ = [some (.int c), some (.int n), some (.int b), some (.int r), some (.int m), some (.ref p), kv] ∧ 0 ≤ m ∧ m < 4294967296 ∧ Same H (upd H' p (.lst (xs.map V.int ++ [.int y]))) ∧
          (upd H' p (.lst (xs.map V.int ++ [.int y]))) p = some (.lst (zs.map V.int)) ∧ zs.length = i + 1 ∧ ∀ x ∈ zs, 0 ≤ x ∧ x < b := by
        intro y τ r' m' y0 y1 h0 h1 e
        refine ⟨r', m', _, xs ++ [y], e, h0, h1, fun q o k => ?_, ?_, ?_, ?_⟩
        · rw [upd_ne (ne_of_none k hp)]
          exact sm q o k
        · rw [upd_same, List.map_append]
          rfl
        · rw [List.length_append, hl]
          rfl
        · intro x hxm
          rcases List.mem_append.mp hxm with z | z
          · exact hall x z
          · obtain rfl : x = y := by simpa using z
            exact ⟨y0, y1⟩
      have hsz : (xs.map V.int).length < sizeLine := line_lt (by rw [List.length_map]; omega)
      refine ⟨.int r, rfl, .int b, rfl, r, b, rfl, rfl, _, rfl, ite2 (fun e => ?_) (fun e => ?_)⟩
      · refine ⟨.ref p, rfl, .inl ⟨rfl, _, .inl (.inl hx)⟩, .int r, rfl, .inl ⟨r, rfl, .int b, rfl, r, b, rfl, rfl, (show 0 < b by omega), p, _, _, rfl, rfl, hx, hsz, ?_⟩⟩
        refine ⟨.int r, rfl, .int b, rfl, r, b, rfl, rfl, ⟨by omega, by omega⟩, ?_⟩
        exact grow _ _ (r / b) m (Int.emod_nonneg r (by omega)) (Int.emod_lt_of_pos r (by omega)) hm0 hm1 rfl
      · refine ⟨.int m, rfl, m, 48271, rfl, rfl, .inl ⟨by omega, by omega⟩, .int (0 + (i : Nat)), rfl, 11, _, rfl, rfl, .inl ⟨by decide, by decide⟩, _, _, rfl, rfl, _, _, rfl, rfl, .inl ⟨_, rfl, _, 2147483647, rfl, rfl, (show (0 : Int) < 2147483647 by decide), ?_⟩⟩
        have b0 : 0 ≤ (m * 48271 + 11 * (0 + ((i : Nat) : Int)) + 7) % 2147483647 := Int.emod_nonneg _ (by decide)
        have b1 : (m * 48271 + 11 * (0 + ((i : Nat) : Int)) + 7) % 2147483647 < 2147483647 := Int.emod_lt_of_pos _ (by decide)
        refine ⟨.ref p, rfl, .inl ⟨rfl, _, .inl (.inl hx)⟩, _, rfl, (m * 48271 + 11 * (0 + ((i : Nat) : Int)) + 7) % 2147483647, 2862933555777941757, rfl, rfl, .inl ⟨by omega, by omega⟩, _, 1024, rfl, rfl, ⟨by decide, by decide⟩, .inl ⟨_, rfl, .int b, rfl, _, b, rfl, rfl, (show 0 < b by omega), p, _, _, rfl, rfl, hx, hsz, ?_⟩⟩
        exact grow _ _ r ((m * 48271 + 11 * (0 + ((i : Nat) : Int)) + 7) % 2147483647) (Int.emod_nonneg _ (by omega)) (Int.emod_lt_of_pos _ (by omega)) b0 (by omega) rfl
    · rintro σ H' ⟨r, m, kv, xs, rfl, hm0, hm1, sm, hx, hl, hall⟩
      exact ⟨.ref p, rfl, q H' p xs sm hp hx hl hall⟩
/-! ### _law_integer -/
end
theorem line_ok6 {n : Nat} (h : n ≤ 1000000) : n ≤ sizeLine := by
  rw [sizeLine_eq]
  omega
theorem line_ok7 {n : Nat} (h : n ≤ 10000000) : n ≤ sizeLine := by
  rw [sizeLine_eq]
  omega
theorem new_ne {H : Hp} {p q : Addr} {o : HO} (h : upd H p o q = none) : q ≠ p := fun e => by
  rw [e, upd_same] at h
  cases h
theorem new_old {H : Hp} {p q : Addr} {o : HO} (h : upd H p o q = none) : H q = none := by
  rw [upd_ne (new_ne h)] at h
  exact h
theorem cell_arg2 (a : Addr) (c d i : Nat) : [V.ref a, V.int ((c : Int) + (d : Int) * (0 + ((i : Nat) : Int)))] = [V.ref a, V.int ((c + d * i : Nat) : Int)] := by
  congr 2
  rw [Int.zero_add]
  simp
theorem cell_arg3 (a : Addr) (d i : Nat) : [V.ref a, V.int ((d : Int) * (0 + ((i : Nat) : Int)))] = [V.ref a, V.int ((d * i : Nat) : Int)] := by
  congr 2
  rw [Int.zero_add]
  simp
theorem cell_arg4 (a : Addr) (c d i : Nat) : [V.ref a, V.int ((d : Int) * (0 + ((i : Nat) : Int)) + (c : Int))] = [V.ref a, V.int ((d * i + c : Nat) : Int)] := by
  congr 2
  rw [Int.zero_add]
  simp
theorem map_int_at {ns : List Int} {i : Nat} (h : i < ns.length) : (ns.map V.int)[i]? = some (.int ns[i]) := by
  rw [List.getElem?_map, List.getElem?_eq_getElem h]
  rfl
def rFind : V → List V → Hp → VK → Prop := fun x xs H Q => ∃ a b, x = .str a ∧ xs = [.str b] ∧ Q (.int (Txt.find a b)) H
def rMaxP : List V → Hp → VK → Prop := fun xs H Q => ∃ i j, xs = [.int i, .int j] ∧ Q (.int (if j > i then j else i)) H
/-! ### lists of ints as data -/
abbrev LI (ns : List Int) : HO := .lst (ns.map V.int)
theorem LI_snoc (l : List Int) (x : Int) : LI (l ++ [x]) = .lst (l.map V.int ++ [.int x]) := by
  show HO.lst ((l ++ [x]).map V.int) = _
  rw [List.map_append]
  rfl
def dI (ns : List Int) : PyData := .list (ns.map .int)
theorem can_ints (ns : List Int) : PyData.canLayAll0 (ns.map .int) = true := by
  induction ns with
  | nil => rfl
  | cons n r ih => exact ih
theorem depth_intsD (ns : List Int) : PyData.depthAll (ns.map .int) = 0 := by
  induction ns with
  | nil => rfl
  | cons n r ih =>
    show max 0 (PyData.depthAll (r.map .int)) = 0
    rw [ih]
    rfl
theorem shaped_dI (ns : List Int) : SeqAt.shaped (dI ns) = true := by
  unfold SeqAt.shaped
  have e1 : (dI ns).canLay0 = true := can_ints ns
  have e2 : PyData.depth (dI ns) ≤ 64 := by
    show PyData.depthAll (ns.map .int) + 1 ≤ 64
    rw [depth_intsD]
    decide
  rw [e1, decide_eq_true e2]
  rfl
theorem dp_ints {K : PySem.W.Frag} {H : Hp} : ∀ ns : List Int, DpAll K H (ns.map V.int) (ns.map .int)
  | [] => .nil
  | n :: r => .cons (.int n) (dp_ints r)
theorem dp_dI {K : PySem.W.Frag} {H : Hp} {a : Addr} {ns : List Int} (h : SqL K H a (ns.map V.int)) : Dp K H (.ref a) (dI ns) := .lst h (dp_ints ns)
theorem eqv_ints (ns : List Int) : PyData.eqv (dI ns) (dI ns) = true := SeqAt.eqv_refl _ (can_ints ns)
theorem cutV_to (xs : List V) (k : Nat) : L2.cutV xs none (some (k : Int)) = xs.take k := by
  unfold L2.cutV
  rw [HT.sIx_none, HT.sIx_nat, List.drop_zero, Nat.sub_zero]
  by_cases h : k ≤ xs.length
  · rw [Nat.min_eq_left h]
  · rw [Nat.min_eq_right (by omega), List.take_of_length_le (Nat.le_refl _), List.take_of_length_le (by omega)]
theorem cutV_from (xs : List V) (k : Nat) : L2.cutV xs (some (k : Int)) none = xs.drop k := by
  unfold L2.cutV
  rw [HT.sIx_none, HT.sIx_nat]
  by_cases h : k ≤ xs.length
  · rw [Nat.min_eq_left h, List.take_of_length_le (by rw [List.length_drop]; omega)]
  · rw [Nat.min_eq_right (by omega), List.drop_of_length_le (Nat.le_refl _), List.drop_of_length_le (by omega), List.take_nil]
theorem ix_set {xs : List V} {i : Int} {j : Nat} (e : i = (j : Int)) (h : j < xs.length) : ixN xs.length i = some j := by
  rw [e]
  unfold ixN
  rw [if_pos (by omega), if_pos (by omega)]
  rfl
/-- a def of the module that keeps a promise -/
def Has (P : Program) (w : World) (K : PySem.W.Frag) (mg : Str → Option Value) (base : Heap) (k : Nat) (x : Str) (ps : List Str) (sp : Sp) : Prop :=
  ∃ f fd, FnOk P w K mg base CX0 k f fd ps sp ∧ mg x = some (.ref f) ∧ PySem.W.keepIn K (.ref f) = true ∧ Binds K fd ps []
/-- lists of bytes -/
def Byt (l : List Int) : Prop := ∀ x ∈ l, 0 ≤ x ∧ x < 256
theorem Byt.app {a b : List Int} (h : Byt a) (k : Byt b) : Byt (a ++ b) := fun x hx => by
  rcases List.mem_append.mp hx with z | z
  · exact h x z
  · exact k x z
theorem Byt.take {a : List Int} (h : Byt a) (n : Nat) : Byt (a.take n) := fun x hx => h x (List.mem_of_mem_take hx)
theorem Byt.rep {a : List Int} (h : Byt a) (n : Nat) : Byt (List.replicate n a).flatten := fun x hx => by
  obtain ⟨z, hz1, hz2⟩ := List.mem_flatten.mp hx
  rw [List.eq_of_mem_replicate hz1] at hz2
  exact h x hz2
theorem rep_map {α β : Type} (f : α → β) (n : Nat) (l : List α) : (List.replicate n (l.map f)).flatten = (List.replicate n l).flatten.map f := by
  rw [List.map_flatten, List.map_replicate]
theorem rep_len {α : Type} (n : Nat) (l : List α) : (List.replicate n l).flatten.length = n * l.length := by simp
theorem join_ones : ∀ l : List Nat, Str.join (T []) (l.map fun c => T [c]) = T l
  | [] => rfl
  | [c] => rfl
  | c :: e :: r => by
    have ih := join_ones (e :: r)
    show T [c] ++ T [] ++ Str.join (T []) ((e :: r).map fun c => T [c]) = _
    rw [ih, T_app, T_app]
    rfl
theorem sum_ones (l : List Nat) : ((l.map fun c => T [c]).map (·.length)).sum = l.length := by
  induction l with
  | nil => rfl
  | cons c r ih =>
    rw [List.map_cons, List.map_cons, List.sum_cons, ih, T_len, List.length_cons]
    show 1 + r.length = r.length + 1
    omega
section
variable {X : Cx}
theorem fold_app : ∀ (n : Nat) (z acc : Array Nat), (List.replicate n z).foldl (· ++ ·) acc = acc ++ ((List.replicate n z.toList).flatten).toArray
  | 0, z, acc => by simp
  | n + 1, z, acc => by
    rw [List.replicate_succ, List.foldl_cons, fold_app n z (acc ++ z), List.replicate_succ, List.flatten_cons]
    apply Array.toList_inj.mp
    simp
theorem mul_T (l : List Nat) (n : Int) (h0 : 0 ≤ n) : Txt.mul (T l) n = T (List.replicate n.toNat l).flatten := by
  unfold Txt.mul
  by_cases h1 : n < 1
  · rw [if_pos h1, show n.toNat = 0 by omega]
    exact T_nil
  · rw [if_neg h1]
    by_cases h2 : (n == 1 || (T l).length == 0) = true
    · rw [if_pos h2]
      rw [T_len] at h2
      rcases (Bool.or_eq_true _ _).mp h2 with z | z
      · have e : n = 1 := by simpa using z
        subst e
        show T l = T (List.replicate 1 l).flatten
        simp
      · have e : l = [] := by simpa using z
        subst e
        have : ∀ m : Nat, (List.replicate m ([] : List Nat)).flatten = [] := fun m => by simp
        rw [this]
    · rw [if_neg h2]
      show Str.mk _ = Str.mk _
      congr 1
      rw [fold_app, T_list]
      simp
/-- a text n times -/
theorem op_mulT : OpR X (binaryOp .Mult) (fun x y H Q => ∃ (l : List Nat) (n : Int), x = .str (T l) ∧ y = .int n ∧ l.length ≤ 100 ∧ 0 ≤ n ∧ n ≤ 1000 ∧ Q (.str (T (List.replicate n.toNat l).flatten)) H) := by
  intro pins s σ H x y v u Q I rx ry h
  obtain ⟨l, n, rfl, rfl, hl, h0, hn, q⟩ := h
  obtain ⟨t, rfl⟩ := rx
  obtain ⟨t', rfl⟩ := ry
  refine SB.mul (mulOk_of 100 1000 (by rw [T_len]; exact hl) hn (by omega) (by decide) (by decide)) fun t1 tk => ?_
  rw [mul_T l n h0]
  exact ⟨.str (T (List.replicate n.toNat l).flatten), H, I.tok _, ⟨_, rfl⟩, q⟩
end
theorem rep_mem {n : Nat} {l : List Nat} {c : Nat} (h : c ∈ (List.replicate n l).flatten) : c ∈ l := by
  obtain ⟨z, hz1, hz2⟩ := List.mem_flatten.mp h
  rw [List.eq_of_mem_replicate hz1] at hz2
  exact hz2
/-- a text n times: only how long it is and what stands in it -/
theorem op_mulM {X : Cx} : OpR X (binaryOp .Mult) (fun x y H Q => ∃ (l : List Nat) (n : Int), x = .str (T l) ∧ y = .int n ∧ l.length ≤ 100 ∧ 0 ≤ n ∧ n ≤ 1000 ∧ ∀ m : List Nat, m.length = n.toNat * l.length → (∀ c ∈ m, c ∈ l) → Q (.str (T m)) H) := by
  intro pins s σ H x y v u Q I rx ry h
  obtain ⟨l, n, e1, e2, hl, h0, hn, q⟩ := h
  exact op_mulT pins s σ H x y v u Q I rx ry ⟨l, n, e1, e2, hl, h0, hn, q _ (rep_len _ _) fun c hc => rep_mem hc⟩
theorem paired_len {α β : Type} {F : α → β → Prop} : ∀ {xs : List α} {ys : List β}, Paired F xs ys → xs.length = ys.length
  | _, _, .nil => rfl
  | _, _, .cons _ t => congrArg (· + 1) (paired_len t)
theorem paired_get {α β : Type} {F : α → β → Prop} : ∀ {xs : List α} {ys : List β} {i : Nat} {x : α}, Paired F xs ys → xs[i]? = some x → ∃ y, ys[i]? = some y ∧ F x y
  | _, _, 0, _, .cons r _, e => ⟨_, rfl, by cases e; exact r⟩
  | _, _, i + 1, _, .cons _ t, e => paired_get (i := i) t e
theorem scLetters : FnScope ["cell", "size", "letters", "x"] ["cell", "size", "letters"] (defScope sLetters) := ⟨rfl, rfl, rfl, by decide +kernel, rfl, by decide +kernel, by decide +kernel⟩
theorem scText : FnScope ["shape", "cell", "most", "size", "kind"] ["shape", "cell", "most"] (defScope sText) := ⟨rfl, rfl, rfl, by decide +kernel, rfl, by decide +kernel, by decide +kernel⟩
/-! ### letters and texts -/
theorem cut_head (l : List Nat) (k : Nat) : cutS (T l) none (some (k : Int)) = T (l.take k) := by
  unfold cutS
  rw [HT.sIx_nat, HT.sIx_none, T_len, T_list, List.drop_zero, Nat.sub_zero]
  show Str.mk _ = Str.mk _
  congr 2
  by_cases h : k ≤ l.length
  · rw [Nat.min_eq_left h]
  · rw [Nat.min_eq_right (by omega), List.take_of_length_le (Nat.le_refl _), List.take_of_length_le (by omega)]
section
variable {P : Program} {w : World} {K : PySem.W.Frag} {mg : Str → Option Value} {base : Heap}
def spLetters (K : PySem.W.Frag) : Sp := fun vs H Q _ => ∃ (c n : Int) (al : List Nat), vs = [.int c, .int n, .str (T al)] ∧ 0 ≤ n ∧ n ≤ 100000 ∧ 2 ≤ al.length ∧ al.length ≤ 1000 ∧ ∀ (H' : Hp) (l : List Nat), Same H H' → l.length = n.toNat → (∀ c ∈ l, c ∈ al) → Q (.str (T l)) H'
theorem ok_letters {f : Addr} {fd : FuncData} (F : Fun K "_law_letters" "_law_letters" sLetters f fd) (B : Bl mg) (hO : Has P w K mg base 2 "_law_row" ["cell", "count", "bound"] (spRow K)) : FnOk P w K mg base CX0 3 f fd ["cell", "size", "letters"] (spLetters K) := by
  obtain ⟨fO, dO, GO, gO, kO, bO⟩ := hO
  refine F.ok scLetters (fun vs H Q E h => ?_) (fun cdv A outer s H vs Q E hr h => ?_)
  · obtain ⟨c, n, al, rfl, _⟩ := h
    rfl
  · obtain ⟨c, n, al, rfl, hn0, hn, a2, a3, q⟩ := h
    refine ⟨_, pss_one (ps_ret (pe_join pe_str (pe_lc (own := [("x", 3)]) (g := gName 3) (tt := tYes) (te := tOp rIxS (tVar 2) (tVar 3)) rfl scLetters.nd
        (pi_list (pe_call GO hr (by rfl) gO kO bO .nil pass0 (pa_cons (pv 0) (pa_cons (pv 1) (pa_cons (pe_callB call_len_str (by rfl) B.len PySem.boot_len (pa_cons (pv 2) pa_nil)) pa_nil)))))
        (blkOk_by (own := [("x", 3)]) (N := ["cell", "size", "letters", "x"]) (sc := defScope sLetters) (by decide +kernel))
        (fun _ _ _ _ _ => pg_name (i := 3) scLetters.nd rfl (Or.inl rfl)) (fun _ _ _ _ _ => pts_nil) (fun _ _ _ _ _ => pe_ix (r := rIxS) ix_str (pv 2) (pv 3) (fun _ _ => rfl))))), ?_⟩
    have hz : (T al).length ≤ sizeLine := line_ok6 (by rw [T_len]; omega)
    refine ⟨⟨_, rfl⟩, .int c, rfl, .int n, rfl, .str (T al), rfl, T al, rfl, hz, c, n, ((T al).length : Nat), rfl, hn0, hn, by rw [T_len]; omega, by rw [T_len]; omega, fun H1 p ns s1 hp hlp hll hb => ?_⟩
    refine ⟨p, rfl, ⟨_, .inl (.inl hlp)⟩, fun D hD => ?_⟩
    have got : ∀ n ∈ ns, 0 ≤ n ∧ n.toNat < al.length := fun n hn => by
      have := hb n hn
      rw [T_len] at this
      omega
    refine lc_list (K := K) (xs := ns.map V.int) (fun j H2 => Same H1 H2 ∧ ∃ l : List Nat, l.length = j ∧ (∀ c ∈ l, c ∈ al) ∧ H2 D = some (.lst ((l.map fun c => T [c]).map V.str))) ⟨same_upd hD, [], rfl, (fun c hc => by cases hc), upd_same⟩ (fun j H2 _ h => h.1.seq (.inl (.inl hlp))) ?_ ?_
    · rintro j y H2 hjy ⟨s2, l, hl, hal, hd⟩
      rw [List.getElem?_map] at hjy
      obtain ⟨n1, hn1, rfl⟩ := Option.map_eq_some_iff.mp hjy
      obtain ⟨g0, g1⟩ := got n1 (List.mem_of_getElem? hn1)
      obtain ⟨m, rfl⟩ : ∃ m : Nat, n1 = (m : Int) := ⟨n1.toNat, by omega⟩
      rw [Int.toNat_natCast] at g1
      have hj : j < ns.length := (List.getElem?_eq_some_iff.mp hn1).1
      refine ⟨rfl, ?_⟩
      dsimp only [tYes]
      rw [if_pos rfl]
      have hat : atI (T al).cps.toList (m : Int) = some al[m] := atI_nat (List.getElem?_eq_getElem g1)
      refine ⟨.str (T al), rfl, .int m, rfl, T al, _, al[m], rfl, rfl, hz, hat, _, hd, line_ok6 (by rw [List.length_map, List.length_map]; omega), fun b o e => ?_, l ++ [al[m]], by rw [List.length_append, hl]; rfl, fun c hc => ?_, ?_⟩
      · rw [upd_ne (ne_of_none e hD)]
        exact s2 b o e
      · rcases List.mem_append.mp hc with z | z
        · exact hal c z
        · obtain rfl : c = al[m] := by simpa using z
          exact List.getElem_mem g1
      · rw [upd_same, List.map_append, List.map_append]
        rfl
    · rintro H2 ⟨s2, l, hl, hal, hd⟩
      rw [List.length_map] at hl
      refine ⟨Str.ofString "", D, l.map fun c => T [c], rfl, rfl, .inl (.inl (.inl hd)), ?_, ?_⟩
      · rw [sum_ones, show (Str.ofString "").length = 0 by decide +kernel]
        omega
      · rw [TL.join_eq, T_nil, join_ones]
        exact q H2 l (s1.trans s2) (by omega) hal
end
def lets : List Nat := [65, 67, 71, 84, 78]
theorem lets_text : Str.ofString "ACGTN" = T lets := by decide +kernel
theorem four_text : Str.ofString "ACGT" = T [65, 67, 71, 84] := by decide +kernel
theorem two_text : Str.ofString "AC" = T [65, 67] := by decide +kernel
theorem sg_lets {c : Nat} (h : c ∈ lets) : Sg c := by
  simp only [lets, List.mem_cons, List.not_mem_nil, or_false] at h
  rcases h with h | h | h | h | h <;> subst h
  · exact .inl rfl
  · exact .inr (.inl rfl)
  · exact .inr (.inr (.inl rfl))
  · exact .inr (.inr (.inr (.inl rfl)))
  · exact .inr (.inr (.inr (.inr rfl)))
theorem sg_four {c : Nat} (h : c ∈ [65, 67, 71, 84]) : Sg c := by
  refine sg_lets ?_
  simp only [lets, List.mem_cons, List.not_mem_nil, or_false] at h ⊢
  rcases h with h | h | h | h
  · exact .inl h
  · exact .inr (.inl h)
  · exact .inr (.inr (.inl h))
  · exact .inr (.inr (.inr (.inl h)))
theorem sg_two {c : Nat} (h : c ∈ [65, 67]) : Sg c := by
  simp only [List.mem_cons, List.not_mem_nil, or_false] at h
  rcases h with h | h
  · exact .inl h
  · exact .inr (.inl h)
section
variable {P : Program} {w : World} {K : PySem.W.Frag} {mg : Str → Option Value} {base : Heap}
def spText (K : PySem.W.Frag) : Sp := fun vs H Q _ => ∃ (s c : Int) (m : Nat), vs = [.int s, .int c, .int (m : Int)] ∧ 1 ≤ m ∧ m ≤ 300 ∧ ∀ (H' : Hp) (l : List Nat), Same H H' → Dna l → 1 ≤ l.length → l.length ≤ m → Q (.str (T l)) H'
theorem ok_text {f : Addr} {fd : FuncData} (F : Fun K "_law_text" "_law_text" sText f fd) (B : Bl mg) (hO : Has P w K mg base 3 "_law_letters" ["cell", "size", "letters"] (spLetters K)) : FnOk P w K mg base CX0 4 f fd ["shape", "cell", "most"] (spText K) := by
  obtain ⟨fO, dO, GO, gO, kO, bO⟩ := hO
  refine F.ok scText (fun vs H Q E h => ?_) (fun cdv A outer s H vs Q E hr h => ?_)
  · obtain ⟨s, c, m, rfl, _⟩ := h
    rfl
  · obtain ⟨x, c, m, rfl, hm1, hm2, q⟩ := h
    refine ⟨_, C8.pss_cut (ps_set (i := 3) scText.nd rfl (.inl rfl) (pe_op op_add pe_int (pe_op op_mod (pe_callTy call_int1 (by rfl) B.int (by decide +kernel) (pa_cons (pv 0) pa_nil)) (pv 2))))
      (C8.pss_cut (ps_set (i := 4) scText.nd rfl (.inl rfl) (pe_op op_mod (pe_op op_fdiv (pe_callTy call_int1 (by rfl) B.int (by decide +kernel) (pa_cons (pv 0) pa_nil)) (pv 2)) pe_int))
      (pss_cons (ps_if (pt_cmpR op_eq (pv 4) pe_int (nomark _)) (pss_one (ps_ret (pe_call GO hr (by rfl) gO kO bO .nil pass0 (pa_cons (pv 1) (pa_cons (pv 3) (pa_cons pe_str pa_nil)))))) pss_nil)
      (pss_cons (ps_if (pt_cmpR op_eq (pv 4) pe_int (nomark _)) (pss_one (ps_ret (pe_call GO hr (by rfl) gO kO bO .nil pass0 (pa_cons (pv 1) (pa_cons (pv 3) (pa_cons pe_str pa_nil)))))) pss_nil)
      (pss_cons (ps_if (pt_cmpR op_eq (pv 4) pe_int (nomark _)) (pss_one (ps_ret (pe_slice sl_str (pe_op op_mulM (pe_call GO hr (by rfl) gO kO bO .nil pass0 (pa_cons (pv 1) (pa_cons (pe_op op_add pe_int (pe_op op_mod (pe_op op_fdiv (pe_callTy call_int1 (by rfl) B.int (by decide +kernel) (pa_cons (pv 0) pa_nil)) (pe_op op_mul pe_int (pv 2))) pe_int)) (pa_cons pe_str pa_nil)))) (pv 3)) po_none (po_some (pv 3))))) pss_nil)
      (pss_one (ps_ret (pe_call GO hr (by rfl) gO kO bO .nil pass0 (pa_cons (pv 1) (pa_cons (pv 3) (pa_cons pe_str pa_nil)))))))))), ?_⟩
    have hmz : (0 : Int) < (m : Int) := by omega
    refine ⟨fun σ H' => H' = H ∧ ∃ z : Nat, 1 ≤ z ∧ z ≤ m ∧ σ = [some (.int x), some (.int c), some (.int (m : Int)), some (.int (z : Int)), none], ?_, ?_⟩
    · have b0 := Int.emod_nonneg x (show (m : Int) ≠ 0 by omega)
      have b1 := Int.emod_lt_of_pos x hmz
      refine ⟨.int x, rfl, .inl ⟨x, rfl, .int m, rfl, x, m, rfl, rfl, hmz, 1, _, rfl, rfl, rfl, (1 + x % (m : Int)).toNat, by omega, by omega, ?_⟩⟩
      rw [Int.toNat_of_nonneg (by omega)]
      rfl
    rintro σ H' ⟨rfl, z, z1, z2, rfl⟩
    refine ⟨fun σ H1 => H1 = H' ∧ ∃ kd : Int, σ = [some (.int x), some (.int c), some (.int (m : Int)), some (.int (z : Int)), some (.int kd)], ⟨.int x, rfl, .inl ⟨x, rfl, .int m, rfl, x, m, rfl, rfl, ⟨hmz, by omega⟩, _, 4, rfl, rfl, (show (0 : Int) < 4 by decide), rfl, _, rfl⟩⟩, ?_⟩
    rintro σ H1 ⟨rfl, kd, rfl⟩
    refine ⟨.int kd, rfl, rfl, _, rfl, ite2 (fun _ => ?_) (fun _ => ?_)⟩
    · exact ⟨.int c, rfl, .int z, rfl, c, z, lets, by rw [← lets_text]; rfl, by omega, by omega, by decide, by decide, fun H2 l s2 hl hal => q H2 l s2 (fun c hc => sg_lets (hal c hc)) (by omega) (by omega)⟩
    refine ⟨.int kd, rfl, rfl, _, rfl, ite2 (fun _ => ?_) (fun _ => ?_)⟩
    · exact ⟨.int c, rfl, .int z, rfl, c, z, [65, 67], by rw [← two_text]; rfl, by omega, by omega, by decide, by decide, fun H2 l s2 hl hal => q H2 l s2 (fun c hc => sg_two (hal c hc)) (by omega) (by omega)⟩
    refine ⟨.int kd, rfl, rfl, _, rfl, ite2 (fun _ => ?_) (fun _ => ?_)⟩
    · have b0 := Int.emod_nonneg (x / (4 * (m : Int))) (show (6 : Int) ≠ 0 by decide)
      have b1 := Int.emod_lt_of_pos (x / (4 * (m : Int))) (show (0 : Int) < 6 by decide)
      refine ⟨.int c, rfl, .int x, rfl, .inl ⟨x, rfl, .int m, rfl, 4, _, rfl, rfl, .inl ⟨by decide, by decide⟩, x, _, rfl, rfl, ⟨by omega, by omega⟩, _, 6, rfl, rfl, (show (0 : Int) < 6 by decide), 1, _, rfl, rfl, c, 1 + x / (4 * (m : Int)) % 6, lets, by rw [← lets_text]; rfl, by omega, by omega, by decide, by decide, fun H2 l s2 hl hal => ?_⟩⟩
      refine ⟨.int z, rfl, l, z, rfl, rfl, by omega, by omega, by omega, fun m2 hm2l hm2c => ?_⟩
      refine ⟨.int z, rfl, _, rfl, T m2, rfl, line_ok6 (by rw [T_len, hm2l]; have : (z : Int).toNat * l.length ≤ 300 * 6 := Nat.mul_le_mul (by omega) (by omega); omega), ?_⟩
      rw [cut_head]
      have hz2 : z ≤ m2.length := by
        rw [hm2l, Int.toNat_natCast]
        exact Nat.le_mul_of_pos_right z (by omega)
      exact q H2 _ s2 (fun c hc => sg_lets (hal c (hm2c c (List.mem_of_mem_take hc)))) (by rw [List.length_take]; omega) (by rw [List.length_take]; omega)
    · exact ⟨.int c, rfl, .int z, rfl, c, z, [65, 67, 71, 84], by rw [← four_text]; rfl, by omega, by omega, by decide, by decide, fun H2 l s2 hl hal => q H2 l s2 (fun c hc => sg_four (hal c hc)) (by omega) (by omega)⟩
end
theorem scBytes : FnScope ["number", "count", "data", "k"] ["number", "count"] (defScope sBytes) := ⟨rfl, rfl, rfl, by decide +kernel, rfl, by decide +kernel, by decide +kernel⟩
theorem scNumber : FnScope ["data", "at", "count", "number", "k"] ["data", "at", "count"] (defScope sNumber) := ⟨rfl, rfl, rfl, by decide +kernel, rfl, by decide +kernel, by decide +kernel⟩
/-! ### numbers as bytes -/
/-- the last c bytes of n, the highest first -/
def be : Nat → Nat → List Int
  | 0, _ => []
  | c + 1, n => ((n / 256 ^ c % 256 : Nat) : Int) :: be c n
theorem be_len : ∀ c n, (be c n).length = c
  | 0, _ => rfl
  | c + 1, n => congrArg (· + 1) (be_len c n)
theorem be_byt : ∀ c n, Byt (be c n)
  | 0, _ => fun x hx => by cases hx
  | c + 1, n => fun x hx => by
    rcases List.mem_cons.mp hx with e | e
    · rw [e]
      have := Nat.mod_lt (n / 256 ^ c) (show 256 > 0 by decide)
      omega
    · exact be_byt c n x e
/-- the number that bytes tell -/
def bn (l : List Int) : Int := l.foldl (fun a x => a * 256 + x) 0
theorem bn_snoc (l : List Int) (x : Int) : bn (l ++ [x]) = bn l * 256 + x := by
  unfold bn
  rw [List.foldl_append]
  rfl
theorem bn_bound : ∀ {l : List Int}, Byt l → 0 ≤ bn l ∧ bn l < 256 ^ l.length := by
  intro l
  suffices h : ∀ n (l : List Int), l.length = n → Byt l → 0 ≤ bn l ∧ bn l < 256 ^ n from h l.length l rfl
  intro n
  induction n with
  | zero =>
    intro l hl _
    obtain rfl : l = [] := List.length_eq_zero_iff.mp hl
    exact ⟨by decide, by decide⟩
  | succ n ih =>
    intro l hl hb
    obtain ⟨m, x, rfl⟩ : ∃ m x, l = m ++ [x] := ⟨l.dropLast, l.getLast (by intro z; rw [z] at hl; cases hl), (List.dropLast_concat_getLast _).symm⟩
    have h1 := ih m (by rw [List.length_append, List.length_singleton] at hl; omega) fun y hy => hb y (List.mem_append_left _ hy)
    have h2 := hb x (List.mem_append_right _ (List.mem_singleton.mpr rfl))
    rw [bn_snoc, Int.pow_succ]
    omega
section
variable {P : Program} {w : World} {K : PySem.W.Frag} {mg : Str → Option Value} {base : Heap}
def spBytes : Sp := fun vs H Q _ => ∃ n c : Nat, vs = [.int (n : Int), .int (c : Int)] ∧ c ≤ 1000 ∧ ∀ (H' : Hp) (p : Addr), Same H H' → H p = none → H' p = some (LI (be c n)) → Q (.ref p) H'
theorem ok_bytes {f : Addr} {fd : FuncData} {k : Nat} (F : Fun K "_law_bytes" "_law_bytes" sBytes f fd) (B : Bl mg) : FnOk P w K mg base CX0 (k + 1) f fd ["number", "count"] spBytes := by
  refine F.ok scBytes (fun vs H Q E h => ?_) (fun cdv A outer s H vs Q E hr h => ?_)
  · obtain ⟨n, c, rfl, _⟩ := h
    rfl
  · obtain ⟨n, c, rfl, hc, q⟩ := h
    refine ⟨_, pss_cons (ps_set (i := 2) scBytes.nd rfl (.inl rfl) (pe_lst pa_nil))
      (pss_cons (ps_for PassesOwn.never rfl (pi_range1 rfl B.range (pa_cons (pv 1) pa_nil)) (pg_name (i := 3) scBytes.nd rfl (.inl rfl))
        (pss_cons (ps_set (i := 2) scBytes.nd rfl (.inl rfl) (pe_op op_cat (pe_lst (pa_cons (pe_op op_mod (pe_callTy call_int1 (by rfl) B.int (by decide +kernel) (pa_cons (pv 0) pa_nil)) pe_int) pa_nil)) (pv 2)))
        (pss_one (ps_set (i := 0) scBytes.nd rfl (.inl rfl) (pe_op op_fdiv (pv 0) pe_int)))))
      (pss_one (ps_ret (pv 2)))), ?_⟩
    refine ⟨Nat.zero_le _, fun p hp => ⟨.int c, rfl, _, rfl, by omega, by omega, ?_⟩⟩
    refine for_range (lo := 0) (n := (c : Int).toNat) (fun i σ H1 => ∃ (p : Addr) (kv : Option V), σ = [some (.int ((n / 256 ^ i : Nat) : Int)), some (.int (c : Int)), some (.ref p), kv] ∧ Same H H1 ∧ H p = none ∧ H1 p = some (LI (be i n))) ⟨p, none, by rw [Nat.pow_zero, Nat.div_one]; rfl, same_upd hp, hp, upd_same⟩ ?_ ?_
    · rintro i σ H1 hi ⟨p, kv, rfl, sm, hp, h1⟩
      have hl := be_len i n
      refine ⟨.int ((n / 256 ^ i : Nat) : Int), rfl, .inl ⟨_, rfl, _, 256, rfl, rfl, (show (0 : Int) < 256 by decide), by show 1 ≤ sizeLine; decide, fun p1 hp1 => ?_⟩⟩
      refine ⟨.ref p, rfl, p1, p, _, _, rfl, rfl, upd_same, by rw [upd_ne (ne_of_none h1 hp1)]; exact h1, line_ok7 (by rw [List.length_map, hl]; show 1 + i ≤ 10000000; omega), fun p2 hp2 => ?_⟩
      refine ⟨_, rfl, _, 256, rfl, rfl, ⟨by decide, by decide⟩, p2, some (.int (0 + (i : Nat))), ?_, (sm.trans (same_upd hp1)).trans (same_upd hp2), sm.free (new_old hp2), ?_⟩
      · show [some (V.int (((n / 256 ^ i : Nat) : Int) / 256)), _, _, _] = [some (V.int ((n / 256 ^ (i + 1) : Nat) : Int)), _, _, _]
        rw [Nat.pow_succ, ← Nat.div_div_eq_div_mul]
        rfl
      · rw [upd_same]
        show some (HO.lst ([V.int (((n / 256 ^ i : Nat) : Int) % 256)] ++ (be i n).map V.int)) = some (HO.lst (V.int ((n / 256 ^ i % 256 : Nat) : Int) :: (be i n).map V.int))
        rw [show (((n / 256 ^ i : Nat) : Int) % 256) = ((n / 256 ^ i % 256 : Nat) : Int) from rfl]
        rfl
    · rintro σ H1 ⟨p, kv, rfl, sm, hp, h1⟩
      rw [Int.toNat_natCast] at h1
      exact ⟨.ref p, rfl, q H1 p sm hp h1⟩
def spNumber (K : PySem.W.Frag) : Sp := fun vs H Q _ => ∃ (a : Addr) (ns : List Int) (b c : Nat), vs = [.ref a, .int (b : Int), .int (c : Int)] ∧ SqL K H a (ns.map V.int) ∧ Byt ns ∧ b + c ≤ ns.length ∧ c ≤ 4 ∧ Q (.int (bn ((ns.drop b).take c))) H
theorem ok_number {f : Addr} {fd : FuncData} {k : Nat} (F : Fun K "_law_number" "_law_number" sNumber f fd) (B : Bl mg) : FnOk P w K mg base CX0 (k + 1) f fd ["data", "at", "count"] (spNumber K) := by
  refine F.ok scNumber (fun vs H Q E h => ?_) (fun cdv A outer s H vs Q E hr h => ?_)
  · obtain ⟨a, ns, b, c, rfl, _⟩ := h
    rfl
  · obtain ⟨a, ns, b, c, rfl, hS, hb, hl, hc, q⟩ := h
    refine ⟨_, pss_cons (ps_set (i := 3) scNumber.nd rfl (.inl rfl) pe_int)
      (pss_cons (ps_for PassesOwn.never rfl (pi_range1 rfl B.range (pa_cons (pv 2) pa_nil)) (pg_name (i := 4) scNumber.nd rfl (.inl rfl))
        (pss_one (ps_set (i := 3) scNumber.nd rfl (.inl rfl) (pe_op op_add (pe_op op_mul (pv 3) pe_int) (pe_ix ix_list (pv 0) (pe_op op_add (pv 1) (pv 4)) (fun _ _ => rfl))))))
      (pss_one (ps_ret (pv 3)))), ?_⟩
    refine ⟨.int c, rfl, _, rfl, by omega, by omega, ?_⟩
    refine for_range (lo := 0) (n := (c : Int).toNat) (fun i σ H1 => H1 = H ∧ ∃ kv : Option V, σ = [some (.ref a), some (.int (b : Int)), some (.int (c : Int)), some (.int (bn ((ns.drop b).take i))), kv]) ⟨rfl, none, by rw [List.take_zero]; rfl⟩ ?_ ?_
    · rintro i σ H1 hi ⟨rfl, kv, rfl⟩
      have hlt : b + i < ns.length := by omega
      have hb1 := bn_bound (l := (ns.drop b).take i) fun x hx => hb x (List.mem_of_mem_drop (List.mem_of_mem_take hx))
      have hli : ((ns.drop b).take i).length = i := by rw [List.length_take, List.length_drop]; omega
      rw [hli] at hb1
      have hp : (256 : Int) ^ i ≤ 256 ^ 4 := by
        have h4 : i = 0 ∨ i = 1 ∨ i = 2 ∨ i = 3 := by omega
        rcases h4 with z | z | z | z <;> subst z <;> decide
      have hp2 : (256 : Int) ^ 4 = 4294967296 := by decide
      refine ⟨_, rfl, _, 256, rfl, rfl, .inl ⟨by omega, by omega⟩, .ref a, rfl, .int b, rfl, .int (0 + (i : Nat)), rfl, _, _, rfl, rfl, a, _, _, .int ns[b + i], rfl, rfl, hS, ?_, _, _, rfl, rfl, rfl, some (.int (0 + (i : Nat))), ?_⟩
      · rw [show (b : Int) + (0 + ((i : Nat) : Int)) = ((b + i : Nat) : Int) by omega]
        exact atI_nat (map_int_at hlt)
      · have et : (ns.drop b).take (i + 1) = (ns.drop b).take i ++ [ns[b + i]] := by
          rw [List.take_add_one, List.getElem?_drop, List.getElem?_eq_getElem hlt]
          rfl
        rw [et, bn_snoc]
        rfl
    · rintro σ H1 ⟨rfl, kv, rfl⟩
      rw [Int.toNat_natCast]
      exact ⟨_, rfl, q⟩
end
theorem scPacked : FnScope ["text", "runs", "k", "data", "start", "size", "letters", "letter"] ["text"] (defScope sPacked) := ⟨rfl, rfl, rfl, by decide +kernel, rfl, by decide +kernel, by decide +kernel⟩
/-! ### packed texts -/
abbrev Rn := Nat × Nat
/-- the last run one longer -/
def bump : List Rn → List Rn
  | [] => []
  | [r] => [(r.1, r.2 + 1)]
  | r :: s :: t => r :: bump (s :: t)
theorem bump_snoc (rs : List Rn) (r : Rn) : bump (rs ++ [r]) = rs ++ [(r.1, r.2 + 1)] := by
  induction rs with
  | nil => rfl
  | cons a t ih =>
    cases t with
    | nil => rfl
    | cons b t =>
      show a :: bump (b :: t ++ [r]) = _
      rw [ih]
      rfl
def isN (l : List Nat) (k : Nat) : Bool := decide (l[k]? = some 78)
/-- the runs of N in the first i letters -/
def runsTo (l : List Nat) : Nat → List Rn
  | 0 => []
  | k + 1 => if isN l k = true then bump (if 0 < k ∧ isN l (k - 1) = true then runsTo l k else runsTo l k ++ [(k, 0)]) else runsTo l k
def runs (l : List Nat) : List Rn := runsTo l l.length
theorem bump_len (rs : List Rn) : (bump rs).length = rs.length := by
  induction rs with
  | nil => rfl
  | cons a t ih =>
    cases t with
    | nil => rfl
    | cons b t => exact congrArg (· + 1) ih
theorem runsTo_len (l : List Nat) : ∀ i, (runsTo l i).length ≤ i
  | 0 => Nat.le_refl _
  | k + 1 => by
    have h := runsTo_len l k
    unfold runsTo
    split
    · rw [bump_len]
      split
      · omega
      · rw [List.length_append]
        show (runsTo l k).length + 1 ≤ k + 1
        omega
    · omega
theorem runsTo_ne {l : List Nat} {k : Nat} (h : isN l k = true) : runsTo l (k + 1) ≠ [] := by
  unfold runsTo
  rw [if_pos h]
  intro z
  have e := congrArg List.length z
  rw [bump_len] at e
  cases k with
  | zero =>
    rw [if_neg (by omega)] at e
    cases e
  | succ j =>
    by_cases hc : 0 < j + 1 ∧ isN l (j + 1 - 1) = true
    · rw [if_pos hc] at e
      have hj : isN l j = true := hc.2
      exact runsTo_ne hj (List.length_eq_zero_iff.mp e)
    · rw [if_neg hc, List.length_append] at e
      exact absurd e (by show ¬ (runsTo l (j + 1)).length + 1 = 0; omega)
/-- a letter's number -/
def cd (c : Nat) : Int := if c = 67 then 1 else if c = 71 then 2 else if c = 84 then 3 else 0
theorem cd_find {c : Nat} (h : Sg c) : (if Txt.find (Str.ofString "ACGT") ⟨#[c]⟩ > 0 then Txt.find (Str.ofString "ACGT") ⟨#[c]⟩ else 0) = cd c := by
  rcases h with h | h | h | h | h <;> subst h <;> decide +kernel
theorem cd_bound (c : Nat) : 0 ≤ cd c ∧ cd c < 4 := by
  unfold cd
  split
  · decide
  · split
    · decide
    · split <;> decide
def gl (l : List Nat) (i : Nat) : Int := (l.map cd ++ [0, 0, 0]).getD i 0
theorem gl_bound (l : List Nat) (i : Nat) : 0 ≤ gl l i ∧ gl l i < 4 := by
  unfold gl
  rw [List.getD_eq_getElem?_getD]
  cases e : (l.map cd ++ [0, 0, 0])[i]? with
  | none => exact ⟨by decide, by decide⟩
  | some x =>
    show 0 ≤ x ∧ x < 4
    rcases List.mem_append.mp (List.mem_of_getElem? e) with z | z
    · obtain ⟨c, _, rfl⟩ := List.mem_map.mp z
      exact cd_bound c
    · simp only [List.mem_cons, List.not_mem_nil, or_false, or_self] at z
      rw [z]
      decide
theorem gl_at {l : List Nat} {i : Nat} (h : i < l.length + 3) : ((l.map cd ++ [0, 0, 0]).map V.int)[i]? = some (.int (gl l i)) := by
  have hl : i < (l.map cd ++ [0, 0, 0]).length := by
    rw [List.length_append, List.length_map]
    exact h
  rw [map_int_at hl]
  unfold gl
  rw [List.getD_eq_getElem?_getD, List.getElem?_eq_getElem hl]
  rfl
/-- four letters in a byte -/
def qb (l : List Nat) (k : Nat) : Int := gl l (4 * k) * 64 + gl l (4 * k + 1) * 16 + gl l (4 * k + 2) * 4 + gl l (4 * k + 3)
def rb (r : Rn) : List Int := be 4 r.1 ++ be 4 r.2
theorem rb_len : ∀ rs : List Rn, (rs.flatMap rb).length = rs.length * 8
  | [] => rfl
  | r :: rs => by
    rw [List.flatMap_cons, List.length_append, rb_len rs, List.length_cons]
    unfold rb
    rw [List.length_append, be_len, be_len]
    omega
def packed (l : List Nat) : List Int := be 4 l.length ++ be 4 (runs l).length ++ (runs l).flatMap rb ++ (List.range ((l.length + 3) / 4)).map (qb l)
theorem packed_byt (l : List Nat) : Byt (packed l) := by
  refine (((be_byt _ _).app (be_byt _ _)).app fun x hx => ?_).app fun x hx => ?_
  · obtain ⟨r, _, h⟩ := List.mem_flatMap.mp hx
    exact ((be_byt _ _).app (be_byt _ _)) x h
  · obtain ⟨k, _, rfl⟩ := List.mem_map.mp hx
    have h0 := gl_bound l (4 * k)
    have h1 := gl_bound l (4 * k + 1)
    have h2 := gl_bound l (4 * k + 2)
    have h3 := gl_bound l (4 * k + 3)
    show 0 ≤ _ ∧ gl l (4 * k) * 64 + gl l (4 * k + 1) * 16 + gl l (4 * k + 2) * 4 + gl l (4 * k + 3) < 256
    unfold qb
    omega
/-- runs in the heap: lists of two, in the list at pl -/
def Rns (pl : Addr) (H : Hp) : List V → List Rn → Prop := Paired fun v r => ∃ q, v = .ref q ∧ q ≠ pl ∧ H q = some (LI [(r.1 : Int), (r.2 : Int)])
theorem Rns.mono {pl : Addr} {H H' : Hp} {xs : List V} {rs : List Rn} (h : Rns pl H xs rs) (k : ∀ q o, V.ref q ∈ xs → q ≠ pl → H q = some o → H' q = some o) : Rns pl H' xs rs := by
  induction h with
  | nil => exact .nil
  | cons r t ih =>
    obtain ⟨q, rfl, n, e⟩ := r
    exact .cons ⟨q, rfl, n, k q _ List.mem_cons_self n e⟩ (ih fun q o m => k q o (List.mem_cons_of_mem _ m))
theorem paired_snoc_inv {α β : Type} {F : α → β → Prop} : ∀ {xs : List α} {ys : List β} {y : β}, Paired F xs (ys ++ [y]) → ∃ zs x, xs = zs ++ [x] ∧ Paired F zs ys ∧ F x y
  | _, [], y, h => by
    cases h with
    | cons r t =>
      cases t
      exact ⟨[], _, rfl, .nil, r⟩
  | _, b :: ys, y, h => by
    cases h with
    | cons r t =>
      obtain ⟨zs, x, rfl, h1, h2⟩ := paired_snoc_inv t
      exact ⟨_ :: zs, x, rfl, .cons r h1, h2⟩
section
variable {P : Program} {w : World} {K : PySem.W.Frag} {mg : Str → Option Value} {base : Heap}
def spPacked : Sp := fun vs H Q _ => ∃ l : List Nat, vs = [.str (T l)] ∧ Dna l ∧ l.length ≤ 100000 ∧ ∀ (H' : Hp) (p : Addr), Same H H' → H p = none → H' p = some (LI (packed l)) → Q (.ref p) H'
theorem ok_packed {f : Addr} {fd : FuncData} {k : Nat} (F : Fun K "_law_packed" "_law_packed" sPacked f fd) (B : Bl mg) (mmax : mg "max" = none) (hB : Has P w K mg base (k + 1) "_law_bytes" ["number", "count"] spBytes) : FnOk P w K mg base CX0 (k + 1 + 1) f fd ["text"] spPacked := by
  obtain ⟨fB, dB, GB, gB, kB, bB⟩ := hB
  refine F.ok scPacked (fun vs H Q E h => ?_) (fun cdv A outer s H vs Q E hr h => ?_)
  · obtain ⟨l, rfl, _⟩ := h
    rfl
  · obtain ⟨l, rfl, hd, hl, q⟩ := h
    refine ⟨_, pss_cons (ps_set (i := 1) scPacked.nd rfl (.inl rfl) (pe_lst pa_nil))
      (pss_cons (ps_for PassesOwn.never rfl (pi_range1 rfl B.range (pa_cons (pe_callB call_len_str (by rfl) B.len PySem.boot_len (pa_cons (pv 0) pa_nil)) pa_nil)) (pg_name (i := 2) scPacked.nd rfl (.inl rfl))
        (C8.pss_cut (ps_if (PW.pt (pw_and (pt_cmpR op_eq (pe_ix ix_str (pv 0) (pv 2) (fun _ _ => rfl)) pe_str (nomark _)) (pw_and1 (PW.pt (pw_or (pt_cmpR op_eq (pv 2) pe_int (nomark _)) (pw_or1 (pt_cmpR op_ne (pe_ix ix_str (pv 0) (pe_op op_sub (pv 2) pe_int) (fun _ _ => rfl)) pe_str (nomark _))))))))
          (pss_one (ps_expr (pe_bm PySem.F.plainAttrs_list PySem.F.slot_list_append PySem.F.type_list_append mt_append (pv 1) (pa_cons (pe_lst (pa_cons (pv 2) (pa_cons pe_int pa_nil))) pa_nil)))) pss_nil)
        (pss_one (ps_if (pt_cmpR op_eq (pe_ix ix_str (pv 0) (pv 2) (fun _ _ => rfl)) pe_str (nomark _))
          (pss_one (ps_asg (pe_op op_add (pe_ix ix_list (pe_ix ix_list (pv 1) (pe_op op_sub (pe_callB call_len_seq (by rfl) B.len PySem.boot_len (pa_cons (pv 1) pa_nil)) pe_int) (fun _ _ => rfl)) pe_int (fun _ _ => rfl)) pe_int)
            (pg_sub (pe_ix ix_list (pv 1) (pe_op op_sub (pe_callB call_len_seq (by rfl) B.len PySem.boot_len (pa_cons (pv 1) pa_nil)) pe_int) (fun _ _ => rfl)) pe_int set_list))) pss_nil))))
      (pss_cons (ps_set (i := 3) scPacked.nd rfl (.inl rfl) (pe_op op_cat (pe_call GB hr (by rfl) gB kB bB .nil pass0 (pa_cons (pe_callB call_len_str (by rfl) B.len PySem.boot_len (pa_cons (pv 0) pa_nil)) (pa_cons pe_int pa_nil))) (pe_call GB hr (by rfl) gB kB bB .nil pass0 (pa_cons (pe_callB call_len_seq (by rfl) B.len PySem.boot_len (pa_cons (pv 1) pa_nil)) (pa_cons pe_int pa_nil)))))
      (pss_cons (ps_for PassesOwn.never rfl (pi_list (pv 1)) (pg_lst rfl (pgs_cons (pg_name (i := 4) scPacked.nd rfl (.inl rfl)) (pgs_cons (pg_name (i := 5) scPacked.nd rfl (.inl rfl)) pgs_nil)))
        (pss_one (ps_expr (pe_bm PySem.F.plainAttrs_list PySem.F.slot_list_extend PySem.F.type_list_extend mt_extend (pv 3) (pa_cons (pe_op op_cat (pe_call GB hr (by rfl) gB kB bB .nil pass0 (pa_cons (pv 4) (pa_cons pe_int pa_nil))) (pe_call GB hr (by rfl) gB kB bB .nil pass0 (pa_cons (pv 5) (pa_cons pe_int pa_nil)))) pa_nil)))))
      (pss_cons (ps_set (i := 6) scPacked.nd rfl (.inl rfl) (pe_op op_cat (pe_lc (own := [("letter", 7)]) (g := gName 7) (tt := tYes) (te := tCB rMaxP (tCons (tC (.int 0)) (tCons (tBM K "str" rFind (tC (.str (Str.ofString "ACGT"))) (tCons (tVar 7) tNil)) tNil))) rfl scPacked.nd (pi_str (pv 0)) (blkOk_by (own := [("letter", 7)]) (N := ["text", "runs", "k", "data", "start", "size", "letters", "letter"]) (sc := defScope sPacked) (by decide +kernel))
          (fun _ _ _ _ _ => pg_name (i := 7) scPacked.nd rfl (Or.inl rfl)) (fun _ _ _ _ _ => pts_nil) (fun _ _ _ _ _ => pe_callB (r := rMaxP) (call_max2 rfl) (by rfl) mmax (by decide +kernel) (pa_cons pe_int (pa_cons (pe_bm (r := rFind) PySem.F.plainAttrs_str PySem.F.slot_str_find PySem.F.type_str_find mt_find pe_str (pa_cons (pv 7) pa_nil)) pa_nil)))) (pe_lst (pa_cons pe_int (pa_cons pe_int (pa_cons pe_int pa_nil))))))
      (pss_cons (ps_for PassesOwn.never rfl (pi_range1 rfl B.range (pa_cons (pe_op op_fdiv (pe_op op_add (pe_callB call_len_str (by rfl) B.len PySem.boot_len (pa_cons (pv 0) pa_nil)) pe_int) pe_int) pa_nil)) (pg_name (i := 2) scPacked.nd rfl (.inl rfl))
        (pss_one (ps_expr (pe_bm PySem.F.plainAttrs_list PySem.F.slot_list_append PySem.F.type_list_append mt_append (pv 3) (pa_cons (pe_op op_add (pe_op op_add (pe_op op_add (pe_op op_mul (pe_ix ix_list (pv 6) (pe_op op_mul pe_int (pv 2)) (fun _ _ => rfl)) pe_int)
          (pe_op op_mul (pe_ix ix_list (pv 6) (pe_op op_add (pe_op op_mul pe_int (pv 2)) pe_int) (fun _ _ => rfl)) pe_int)) (pe_op op_mul (pe_ix ix_list (pv 6) (pe_op op_add (pe_op op_mul pe_int (pv 2)) pe_int) (fun _ _ => rfl)) pe_int)) (pe_ix ix_list (pv 6) (pe_op op_add (pe_op op_mul pe_int (pv 2)) pe_int) (fun _ _ => rfl))) pa_nil)))))
      (pss_one (ps_ret (pv 3)))))))), ?_⟩
    have hz : (T l).length ≤ sizeLine := line_ok6 (by rw [T_len]; omega)
    have eqN : ∀ c : Nat, V.str ⟨#[c]⟩ = V.str (Str.ofString "N") ↔ c = 78 := fun c => by
      rw [show Str.ofString "N" = T [78] by decide +kernel]
      constructor
      · intro e
        have := T_inj (a := [c]) (b := [78]) (V.str.inj e)
        simpa using this
      · intro e
        rw [e]
        rfl
    have hat : ∀ k, (h : k < l.length) → atI (T l).cps.toList ((k : Nat) : Int) = some l[k] := fun k h => atI_nat (List.getElem?_eq_getElem h)
    have isN_iff : ∀ k, (h : k < l.length) → (isN l k = true ↔ l[k] = 78) := fun k h => by
      unfold isN
      rw [List.getElem?_eq_getElem h]
      simp
    refine ⟨Nat.zero_le _, fun pl hpl => ?_⟩
    refine ⟨.str (T l), rfl, T l, rfl, hz, _, rfl, by rw [T_len]; omega, by rw [T_len]; omega, ?_⟩
    rw [Int.toNat_natCast, T_len]
    refine for_range (lo := 0) (n := l.length) (fun i σ H1 => ∃ (xs : List V) (kv : Option V), σ = [some (.str (T l)), some (.ref pl), kv, none, none, none, none, none] ∧ Same H H1 ∧ H1 pl = some (.lst xs) ∧ Rns pl H1 xs (runsTo l i) ∧ xs.Nodup ∧ ∀ q, V.ref q ∈ xs → H q = none) ⟨[], none, rfl, same_upd hpl, upd_same, .nil, List.nodup_nil, (fun q hq => by cases hq)⟩ ?_ ?_
    · rintro i σ H1 hi ⟨xs, kv, rfl, sm, hx, hr, nd, fr⟩
      have hlr := runsTo_len l i
      have hlx : xs.length = (runsTo l i).length := paired_len hr
      -- a run begins
      refine ⟨fun σ H2 => ∃ (xs : List V) (rs : List Rn), σ = [some (.str (T l)), some (.ref pl), some (.int (0 + (i : Nat))), none, none, none, none, none] ∧ Same H H2 ∧ H2 pl = some (.lst xs) ∧ Rns pl H2 xs rs ∧ xs.Nodup ∧ (∀ q, V.ref q ∈ xs → H q = none) ∧
        ((isN l i = true ∧ rs = if 0 < i ∧ isN l (i - 1) = true then runsTo l i else runsTo l i ++ [(i, 0)]) ∨ (isN l i = false ∧ rs = runsTo l i)), ?_, ?_⟩
      · have grow : ∀ (q : Addr), H1 q = none → ∀ Hq, Hq = upd (upd H1 q (.lst [.int (0 + (i : Nat)), .int 0])) pl (.lst (xs ++ [.ref q])) → Same H Hq ∧ Hq pl = some (.lst (xs ++ [V.ref q])) ∧ Rns pl Hq (xs ++ [.ref q]) (runsTo l i ++ [(i, 0)]) ∧ (xs ++ [V.ref q]).Nodup ∧ ∀ z, V.ref z ∈ xs ++ [V.ref q] → H z = none := by
          rintro q hq _ rfl
          have npq : pl ≠ q := ne_of_none hx hq
          refine ⟨fun b o e => ?_, upd_same, ?_, ?_, fun z hz => ?_⟩
          · rw [upd_ne (ne_of_none e hpl), upd_ne (ne_of_none (sm _ _ e) hq)]
            exact sm _ _ e
          · refine Paired.snoc (hr.mono fun b o _ n e => ?_) ⟨q, rfl, npq.symm, ?_⟩
            · rw [upd_ne n, upd_ne (ne_of_none e hq)]
              exact e
            · rw [upd_ne npq.symm, upd_same, Int.zero_add]
              rfl
          · refine List.nodup_append.mpr ⟨nd, (by simp), fun x hx' y hy z => ?_⟩
            obtain rfl : y = V.ref q := by simpa using hy
            subst z
            obtain ⟨j, hj, e⟩ := List.mem_iff_getElem.mp hx'
            obtain ⟨r, _, q2, e2, _, h2⟩ := paired_get hr (List.getElem?_eq_getElem hj)
            rw [e] at e2
            cases e2
            rw [hq] at h2
            cases h2
          · rcases List.mem_append.mp hz with y | y
            · exact fr z y
            · obtain rfl : z = q := by simpa using y
              exact sm.free hq
        have ht := hat i hi
        refine ⟨.str (T l), rfl, .int (0 + (i : Nat)), rfl, T l, _, l[i], rfl, rfl, hz, by rw [Int.zero_add]; exact ht, rfl, _, rfl, ite2 (fun e => ?_) (fun e => ?_)⟩
        · have hN : isN l i = true := (isN_iff i hi).mpr ((eqN _).mp (of_decide_eq_true e))
          refine ⟨.int (0 + (i : Nat)), rfl, rfl, _, rfl, ite2 (fun e0 => ?_) (fun e0 => ?_)⟩
          · have hi0 : i = 0 := by
              have := V.int.inj (of_decide_eq_true e0)
              omega
            refine ⟨.ref pl, rfl, .inl ⟨rfl, _, .inl (.inl hx)⟩, .int (0 + (i : Nat)), rfl, by show 2 ≤ sizeLine; decide, fun q hq => ⟨pl, xs, _, rfl, rfl, by rw [upd_ne (ne_of_none hx hq)]; exact hx, line_ok7 (by omega), ?_⟩⟩
            obtain ⟨g1, g2, g3, g4, g5⟩ := grow q hq _ rfl
            exact ⟨_, _, rfl, g1, g2, g3, g4, g5, .inl ⟨hN, by rw [if_neg (by omega)]⟩⟩
          · have hi0 : 0 < i := by
              refine Nat.pos_of_ne_zero fun z => e0 (decide_eq_true ?_)
              rw [z]
              rfl
            refine ⟨.str (T l), rfl, .int (0 + (i : Nat)), rfl, _, 1, rfl, rfl, T l, _, l[i - 1], rfl, rfl, hz, by rw [show (0 : Int) + ((i : Nat) : Int) - 1 = ((i - 1 : Nat) : Int) by omega]; exact hat (i - 1) (by omega), rfl, _, rfl, ite2 (fun e1 => ?_) (fun e1 => ?_)⟩
            · have hp : ¬ isN l (i - 1) = true := fun z => by
                have h1 : l[i - 1] = 78 := (isN_iff (i - 1) (by omega)).mp z
                have h2 : decide (V.str ⟨#[l[i - 1]]⟩ = V.str (Str.ofString "N")) = true := decide_eq_true ((eqN _).mpr h1)
                rw [show (!decide (V.str ⟨#[l[i - 1]]⟩ = V.str (Str.ofString "N"))) = false by rw [h2]; rfl] at e1
                cases e1
              refine ⟨.ref pl, rfl, .inl ⟨rfl, _, .inl (.inl hx)⟩, .int (0 + (i : Nat)), rfl, by show 2 ≤ sizeLine; decide, fun q hq => ⟨pl, xs, _, rfl, rfl, by rw [upd_ne (ne_of_none hx hq)]; exact hx, line_ok7 (by omega), ?_⟩⟩
              obtain ⟨g1, g2, g3, g4, g5⟩ := grow q hq _ rfl
              exact ⟨_, _, rfl, g1, g2, g3, g4, g5, .inl ⟨hN, by rw [if_neg (fun z => hp z.2)]⟩⟩
            · have hp : isN l (i - 1) = true := (isN_iff (i - 1) (by omega)).mpr ((eqN _).mp (by
                have h2 : decide (V.str ⟨#[l[i - 1]]⟩ = V.str (Str.ofString "N")) = true := by simpa using e1
                exact of_decide_eq_true h2))
              exact ⟨xs, _, rfl, sm, hx, hr, nd, fr, .inl ⟨hN, by rw [if_pos ⟨hi0, hp⟩]⟩⟩
        · have hN : isN l i = false := by
            cases q : isN l i with
            | false => rfl
            | true => exact absurd (decide_eq_true ((eqN _).mpr ((isN_iff i hi).mp q))) e
          exact iteF ⟨xs, _, rfl, sm, hx, hr, nd, fr, .inr ⟨hN, rfl⟩⟩
      rintro σ H2 ⟨xs, rs, rfl, sm, hx, hr, nd, fr, hcase⟩
      have ht := hat i hi
      refine ⟨.str (T l), rfl, .int (0 + (i : Nat)), rfl, T l, _, l[i], rfl, rfl, hz, by rw [Int.zero_add]; exact ht, rfl, _, rfl, ite2 (fun e => ?_) (fun e => ?_)⟩
      · have hN : isN l i = true := (isN_iff i hi).mpr ((eqN _).mp (of_decide_eq_true e))
        have hrs : rs = if 0 < i ∧ isN l (i - 1) = true then runsTo l i else runsTo l i ++ [(i, 0)] := by
          rcases hcase with z | z
          · exact z.2
          · rw [hN] at z
            cases z.1
        have hrs2 : runsTo l (i + 1) = bump rs := by
          conv => lhs; unfold runsTo
          rw [if_pos hN, hrs]
        have hne : rs ≠ [] := by
          rw [hrs]
          split
          · rename_i c
            have := runsTo_ne c.2
            rwa [Nat.sub_add_cancel c.1] at this
          · simp
        obtain ⟨r0, r, rfl⟩ : ∃ r0 r, rs = r0 ++ [r] := ⟨rs.dropLast, rs.getLast hne, (List.dropLast_concat_getLast hne).symm⟩
        obtain ⟨zs, x, rfl, h1, q, rfl, nq, hq⟩ := paired_snoc_inv hr
        have hzl : (zs ++ [V.ref q]).length = zs.length + 1 := by rw [List.length_append]; rfl
        have hlast : atI (zs ++ [V.ref q]) ((((zs ++ [V.ref q]).length : Nat) : Int) - 1) = some (V.ref q) := by
          rw [hzl, show (((zs.length + 1 : Nat) : Int) - 1) = ((zs.length : Nat) : Int) by omega]
          exact atI_nat (by simp)
        refine ⟨.ref pl, rfl, .ref pl, rfl, pl, _, rfl, .inl (.inl (.inl hx)), _, 1, rfl, rfl, pl, _, _, .ref q, rfl, rfl, .inl (.inl hx), hlast, q, _, 1, .int (r.2 : Int), rfl, rfl, .inl (.inl hq), atI_nat (j := 1) rfl, _, 1, rfl, rfl, .ref pl, rfl, .ref pl, rfl, pl, _, rfl, .inl (.inl (.inl hx)), _, 1, rfl, rfl, pl, _, _, .ref q, rfl, rfl, .inl (.inl hx), hlast, q, _, 1, 1, rfl, rfl, hq, rfl, ?_⟩
        have hqH : H q = none := fr q (by simp)
        have nzs : V.ref q ∉ zs := fun z => (List.nodup_append.mp nd).2.2 _ z _ (List.mem_singleton.mpr rfl) rfl
        refine ⟨_, _, rfl, fun b o e => ?_, ?_, ?_, nd, fr⟩
        · rw [upd_ne (ne_of_none e hqH)]
          exact sm _ _ e
        · rw [upd_ne nq.symm]
          exact hx
        · rw [hrs2, bump_snoc]
          have h1' : Rns pl (upd H2 q (.lst ([V.int (r.1 : Int), .int (r.2 : Int)].set 1 (.int ((r.2 : Int) + 1))))) zs r0 := Rns.mono h1 fun b o m n e => by
            rw [upd_ne (fun z => nzs (by rw [← z]; exact m))]
            exact e
          exact Paired.snoc h1' ⟨q, rfl, nq, upd_same⟩
      · have hN : isN l i = false := by
          cases q : isN l i with
          | false => rfl
          | true => exact absurd (decide_eq_true ((eqN _).mpr ((isN_iff i hi).mp q))) e
        have hrs : rs = runsTo l i := by
          rcases hcase with z | z
          · rw [hN] at z
            cases z.1
          · exact z.2
        refine ⟨xs, _, rfl, sm, hx, ?_, nd, fr⟩
        unfold runsTo
        rw [if_neg (by rw [hN]; decide), ← hrs]
        exact hr
    · rintro σ H1 ⟨xs, kv, rfl, sm, hx, hr, nd, fr⟩
      have hlr := runsTo_len l l.length
      have hlx : xs.length = (runs l).length := paired_len hr
      have hlr2 : (runs l).length ≤ l.length := hlr
      refine ⟨.str (T l), rfl, T l, rfl, hz, l.length, 4, by rw [T_len]; rfl, by decide, fun H2 p1 s2 hp1 h1 => ?_⟩
      refine ⟨.ref pl, rfl, pl, _, rfl, .inl (.inl (.inl (s2 _ _ hx))), (runs l).length, 4, by rw [hlx]; rfl, by decide, fun H3 p2 s3 hp2 h2 => ?_⟩
      have s13 := s2.trans s3
      have hx3 := s13 _ _ hx
      have hr3 : Rns pl H3 xs (runs l) := hr.mono fun b o _ _ e => s13 _ _ e
      have b1 := be_len 4 l.length
      have b2 := be_len 4 (runs l).length
      refine ⟨p1, p2, _, _, rfl, rfl, s3 _ _ h1, h2, line_ok7 (by rw [List.length_map, List.length_map, b1, b2]; decide), fun pd hpd => ?_⟩
      have hd4 : upd H3 pd (.lst ((be 4 l.length).map V.int ++ (be 4 (runs l).length).map V.int)) pd = some (LI (be 4 l.length ++ be 4 (runs l).length)) := by
        rw [upd_same]
        show some (HO.lst _) = some (HO.lst _)
        rw [List.map_append]
      have npd : pl ≠ pd := ne_of_none hx3 hpd
      refine ⟨.ref pl, rfl, pl, rfl, ⟨xs, .inl (.inl (same_upd hpd _ _ hx3))⟩, ?_⟩
      refine for_list (K := K) (xs := xs) (fun i σ H' => ∃ kv sv zv : Option V, σ = [some (.str (T l)), some (.ref pl), kv, some (.ref pd), sv, zv, none, none] ∧ Same H3 H' ∧ H' pd = some (LI (be 4 l.length ++ be 4 (runs l).length ++ ((runs l).take i).flatMap rb))) ⟨kv, none, none, rfl, same_upd hpd, by rw [hd4, List.take_zero, List.flatMap_nil, List.append_nil]⟩ (fun i σ H' _ ⟨_, _, _, _, s, _⟩ => .inl (.inl (s _ _ hx3))) ?_ ?_
      · rintro i v σ H4 hv ⟨kv, sv, zv, rfl, s4, h4⟩
        obtain ⟨r, hr0, qa, rfl, nqa, hqa⟩ := paired_get hr3 hv
        have hir : i < (runs l).length := (List.getElem?_eq_some_iff.mp hr0).1
        have hfl : (((runs l).take i).flatMap rb).length = i * 8 := by
          rw [rb_len, List.length_take]
          omega
        refine ⟨qa, _, rfl, .inl (.inl (s4 _ _ hqa)), rfl, _, _, rfl, _, _, rfl, rfl, ?_⟩
        refine ⟨.ref pd, rfl, .inl ⟨rfl, _, .inl (.inl h4)⟩, .int r.1, rfl, r.1, 4, rfl, by decide, fun H5 c1 s5 hc1 e1 => ⟨.int r.2, rfl, r.2, 4, rfl, by decide, fun H6 c2 s6 hc2 e2 => ⟨c1, c2, _, _, rfl, rfl, s6 _ _ e1, e2, line_ok7 (by rw [List.length_map, List.length_map, be_len, be_len]; decide), fun c3 hc3 => ?_⟩⟩⟩
        have h6 := (s5.trans s6) _ _ h4
        refine ⟨pd, c3, _, _, rfl, rfl, by rw [upd_ne (ne_of_none h6 hc3)]; exact h6, upd_same, line_ok7 ?_, _, _, _, rfl, fun b o e => ?_, ?_⟩
        · rw [List.length_map, List.length_append, List.length_append, List.length_append, List.length_map, List.length_map, be_len, be_len, hfl, be_len, be_len]
          omega
        · have e4 := s4 _ _ e
          rw [upd_ne (ne_of_none e hpd), upd_ne (ne_of_none ((s5.trans s6) _ _ e4) hc3)]
          exact (s5.trans s6) _ _ e4
        · have e3 : List.flatMap rb (some r).toList = be 4 r.1 ++ be 4 r.2 := by simp [rb]
          rw [upd_same, List.take_add_one, hr0, List.flatMap_append, e3]
          show some (HO.lst _) = some (HO.lst _)
          simp only [List.map_append, List.append_assoc]
      · rintro σ H4 ⟨kv, sv, zv, rfl, s4, h4⟩
        rw [hlx, List.take_length] at h4
        refine ⟨.str (T l), rfl, T l, rfl, fun D hD => ?_⟩
        refine lc_gen (n := (T l).cps.size) (fun j H2 => Same H4 H2 ∧ j ≤ l.length ∧ H2 D = some (LI ((l.take j).map cd))) ⟨same_upd hD, Nat.zero_le _, upd_same⟩ (fun j H2 hj _ => hj) (fun H2 _ => Nat.le_refl _) ?_ ?_
        · rintro j H5 x H6 hj ⟨s5, _, hd5⟩ ⟨rfl, c, hc, rfl⟩
          have hc2 : l[j]? = some c := by
            rw [← T_at]
            exact hc
          have hjl2 : j < l.length := (List.getElem?_eq_some_iff.mp hc2).1
          refine ⟨rfl, ?_⟩
          dsimp only [tYes]
          rw [if_pos rfl]
          refine ⟨rfl, .str ⟨#[c]⟩, rfl, _, _, rfl, rfl, 0, _, rfl, _, hd5, line_ok6 (by rw [List.length_map, List.length_map, List.length_take]; omega), fun b o e => ?_, hjl2, ?_⟩
          · rw [upd_ne (ne_of_none e hD)]
            exact s5 b o e
          · have e2 := cd_find (hd c (List.mem_of_getElem? hc2))
            rw [upd_same, List.take_add_one, hc2, List.map_append]
            refine congrArg some (Eq.trans ?_ (LI_snoc _ _).symm)
            rw [← e2]
            try rfl
        · rintro H5 ⟨s5, _, hd5⟩
          rw [T_size, List.take_length] at hd5
          refine ⟨by show 3 ≤ sizeLine; decide, fun p3 hp3 => ⟨D, p3, _, _, rfl, rfl, by rw [upd_ne (ne_of_none hd5 hp3)]; exact hd5, upd_same, line_ok7 (by rw [List.length_map, List.length_map]; show l.length + 3 ≤ 10000000; omega), fun pg hpg => ?_⟩⟩
          have npg : pd ≠ pg := ne_of_none ((s5.trans (same_upd hp3)) _ _ h4) hpg
          have hg6 : upd (upd H5 p3 (.lst [.int 0, .int 0, .int 0])) pg (.lst ((l.map cd).map V.int ++ [.int 0, .int 0, .int 0])) pg = some (LI (l.map cd ++ [0, 0, 0])) := by
            rw [upd_same]
            show some (HO.lst _) = some (HO.lst _)
            rw [List.map_append]
            rfl
          have s46 : Same H4 (upd (upd H5 p3 (.lst [.int 0, .int 0, .int 0])) pg (.lst ((l.map cd).map V.int ++ [.int 0, .int 0, .int 0]))) := (s5.trans (same_upd hp3)).trans (same_upd hpg)
          refine ⟨.str (T l), rfl, T l, rfl, hz, _, 3, rfl, rfl, _, 4, rfl, rfl, ⟨by decide, by decide⟩, _, rfl, ?_, ?_, ?_⟩
          · rw [T_len]
            omega
          · rw [T_len]
            omega
          rw [T_len, show ((((l.length : Nat) : Int) + 3) / 4).toNat = (l.length + 3) / 4 by omega]
          refine for_range (lo := 0) (n := (l.length + 3) / 4) (fun i σ H' => ∃ kv sv zv : Option V, σ = [some (.str (T l)), some (.ref pl), kv, some (.ref pd), sv, zv, some (.ref pg), none] ∧ Same H3 H' ∧ H' pg = some (LI (l.map cd ++ [0, 0, 0])) ∧ H' pd = some (LI (be 4 l.length ++ be 4 (runs l).length ++ (runs l).flatMap rb ++ (List.range i).map (qb l)))) ⟨_, _, _, rfl, s4.trans s46, hg6, by rw [s46 _ _ h4, List.range_zero, List.map_nil, List.append_nil]⟩ ?_ ?_
          · rintro i σ H7 hi ⟨kv, sv, zv, rfl, s7, hg7, hd7⟩
            have ix : ∀ j : Nat, j < 4 → atI ((l.map cd ++ [0, 0, 0]).map V.int) ((4 : Int) * (0 + ((i : Nat) : Int)) + (j : Nat)) = some (.int (gl l (4 * i + j))) := fun j hj => by
              rw [show (4 : Int) * (0 + ((i : Nat) : Int)) + (j : Nat) = ((4 * i + j : Nat) : Int) by omega]
              exact atI_nat (gl_at (by omega))
            have ix0 : atI ((l.map cd ++ [0, 0, 0]).map V.int) ((4 : Int) * (0 + ((i : Nat) : Int))) = some (.int (gl l (4 * i))) := by
              have := ix 0 (by decide)
              rwa [show (4 : Int) * (0 + ((i : Nat) : Int)) + ((0 : Nat) : Int) = 4 * (0 + ((i : Nat) : Int)) by omega] at this
            have g0 := gl_bound l (4 * i)
            have g1 := gl_bound l (4 * i + 1)
            have g2 := gl_bound l (4 * i + 2)
            refine ⟨.ref pd, rfl, .inl ⟨rfl, _, .inl (.inl hd7)⟩, .ref pg, rfl, .int (0 + (i : Nat)), rfl, 4, _, rfl, rfl, .inl ⟨by decide, by decide⟩, pg, _, _, .int (gl l (4 * i)), rfl, rfl, .inl (.inl hg7), ix0, _, 64, rfl, rfl, .inl ⟨by omega, by omega⟩, ?_⟩
            refine ⟨.ref pg, rfl, .int (0 + (i : Nat)), rfl, 4, _, rfl, rfl, .inl ⟨by decide, by decide⟩, _, 1, rfl, rfl, pg, _, _, .int (gl l (4 * i + 1)), rfl, rfl, .inl (.inl hg7), ix 1 (by decide), _, 16, rfl, rfl, .inl ⟨by omega, by omega⟩, _, _, rfl, rfl, ?_⟩
            refine ⟨.ref pg, rfl, .int (0 + (i : Nat)), rfl, 4, _, rfl, rfl, .inl ⟨by decide, by decide⟩, _, 2, rfl, rfl, pg, _, _, .int (gl l (4 * i + 2)), rfl, rfl, .inl (.inl hg7), ix 2 (by decide), _, 4, rfl, rfl, .inl ⟨by omega, by omega⟩, _, _, rfl, rfl, ?_⟩
            refine ⟨.ref pg, rfl, .int (0 + (i : Nat)), rfl, 4, _, rfl, rfl, .inl ⟨by decide, by decide⟩, _, 3, rfl, rfl, pg, _, _, .int (gl l (4 * i + 3)), rfl, rfl, .inl (.inl hg7), ix 3 (by decide), _, _, rfl, rfl, ?_⟩
            refine ⟨pd, _, _, rfl, rfl, hd7, line_ok7 ?_, _, _, _, rfl, fun b o e => ?_, ?_, ?_⟩
            · rw [List.length_map, List.length_append, List.length_append, List.length_append, be_len, be_len, rb_len, List.length_map, List.length_range]
              omega
            · rw [upd_ne (ne_of_none e hpd)]
              exact s7 _ _ e
            · rw [upd_ne npg.symm]
              exact hg7
            · rw [upd_same, List.range_succ]
              show some (HO.lst _) = some (HO.lst _)
              simp only [List.map_append, List.append_assoc]
              rfl
          · rintro σ H7 ⟨kv, sv, zv, rfl, s7, hg7, hd7⟩
            exact ⟨.ref pd, rfl, q H7 pd (sm.trans (s13.trans s7)) ((sm.trans s13).free hpd) hd7⟩
end
/-! ### read_index's parts that raise nothing -/
theorem bn_app1 (l : List Int) (x : Int) : l.foldl (fun a x => a * 256 + x) 0 * 256 + x = (l ++ [x]).foldl (fun a x => a * 256 + x) 0 := by
  rw [List.foldl_append]
  rfl
theorem cutV_any (xs : List V) (a k : Nat) : L2.cutV xs (some (a : Int)) (some ((a : Int) + (k : Int))) = (xs.drop a).take k := by
  unfold L2.cutV
  rw [← Int.natCast_add, HT.sIx_nat, HT.sIx_nat]
  by_cases h : a ≤ xs.length
  · rw [Nat.min_eq_left h]
    by_cases c : a + k ≤ xs.length
    · rw [Nat.min_eq_left c, Nat.add_sub_cancel_left]
    · rw [Nat.min_eq_right (by omega), List.take_of_length_le (by rw [List.length_drop]; exact Nat.le_refl _), List.take_of_length_le (by rw [List.length_drop]; omega)]
  · rw [Nat.min_eq_right (show xs.length ≤ a by omega), List.drop_of_length_le (Nat.le_refl _), List.drop_of_length_le (by omega), List.take_nil, List.take_nil]
theorem scNumAt : FnScope ["data", "at", "size", "number", "byte"] ["data", "at", "size"] (defScope sNumAt) := ⟨rfl, rfl, rfl, by decide +kernel, rfl, by decide +kernel, by decide +kernel⟩
/-- the number that bytes tell, the highest first -/
def bnN (l : List Int) : Int := l.foldl (fun a x => a * 256 + x) 0
section
variable {P : Program} {w : World} {K : PySem.W.Frag} {mg : Str → Option Value} {base : Heap}
def spNumAt (K : PySem.W.Frag) : Sp := fun vs H Q _ => ∃ (a : Addr) (ns : List Int) (b c : Nat), vs = [.ref a, .int (b : Int), .int (c : Int)] ∧ SqL K H a (ns.map V.int) ∧ ∀ H', Same H H' → Q (.int (bnN ((ns.drop b).take c))) H'
theorem ok_numat {f : Addr} {fd : FuncData} {k : Nat} (F : Fun K "number_at" "number_at" sNumAt f fd) : FnOk P w K mg base CX0 (k + 1) f fd ["data", "at", "size"] (spNumAt K) := by
  refine F.ok scNumAt (fun vs H Q E h => ?_) (fun cdv A outer s H vs Q E hr h => ?_)
  · obtain ⟨a, ns, b, c, rfl, _⟩ := h
    rfl
  · obtain ⟨a, ns, b, c, rfl, ha, q⟩ := h
    refine ⟨_, pss_cons (ps_set (i := 3) scNumAt.nd rfl (.inl rfl) pe_int)
      (pss_cons (ps_for PassesOwn.never rfl (pi_list (pe_slice sl_list (pv 0) (po_some (pv 1)) (po_some (pe_op op_add (pv 1) (pv 2))))) (pg_name (i := 4) scNumAt.nd rfl (.inl rfl))
        (pss_one (ps_set (i := 3) scNumAt.nd rfl (.inl rfl) (pe_op op_add (pe_op op_mul pe_int (pv 3)) (pv 4)))))
      (pss_one (ps_ret (pv 3)))), ?_⟩
    refine ⟨.ref a, rfl, .int b, rfl, b, rfl, .int b, rfl, .int c, rfl, b, c, rfl, rfl, _, rfl, a, _, rfl, ha, fun p hp => ?_⟩
    have hcu : upd H p (.lst (L2.cutV (ns.map V.int) (some (b : Int)) (some ((b : Int) + (c : Int))))) p = some (LI ((ns.drop b).take c)) := by
      rw [upd_same, cutV_any, ← List.map_drop, ← List.map_take]
    have sp := same_upd (o := .lst (L2.cutV (ns.map V.int) (some (b : Int)) (some ((b : Int) + (c : Int))))) hp
    generalize upd H p (.lst (L2.cutV (ns.map V.int) (some (b : Int)) (some ((b : Int) + (c : Int))))) = H1 at hcu sp
    refine ⟨p, rfl, ⟨_, .inl (.inl hcu)⟩, ?_⟩
    refine for_list (K := K) (xs := ((ns.drop b).take c).map V.int) (fun i σ H' => H' = H1 ∧ ∃ v4 : Option V, σ = [some (.ref a), some (.int (b : Int)), some (.int (c : Int)), some (.int (bnN (((ns.drop b).take c).take i))), v4]) ⟨rfl, none, rfl⟩ (fun i σ H' _ h => by rw [h.1]; exact .inl (.inl hcu)) ?_ ?_
    · rintro i v σ H2 hv ⟨rfl, v4, rfl⟩
      rw [List.getElem?_map] at hv
      obtain ⟨z, hz, rfl⟩ := Option.map_eq_some_iff.mp hv
      refine ⟨_, rfl, 256, _, rfl, rfl, .inl ⟨by decide, by decide⟩, _, rfl, _, _, rfl, rfl, rfl, some (.int z), ?_⟩
      rw [List.take_add_one, hz]
      show [_, _, _, some (V.int (256 * bnN (((ns.drop b).take c).take i) + z)), _] = _
      unfold bnN
      rw [Int.mul_comm, bn_app1]
      rfl
    · rintro σ H2 ⟨rfl, v4, rfl⟩
      rw [List.length_map, List.take_length]
      exact ⟨_, rfl, q _ sp⟩
end
theorem cut_mid (l : List Nat) (a b : Nat) : cutS (T l) (some (a : Int)) (some (b : Int)) = T ((l.drop a).take (b - a)) := by
  unfold cutS
  rw [HT.sIx_nat, HT.sIx_nat, T_len, T_list]
  show Str.mk _ = Str.mk _
  congr 2
  by_cases ha : a ≤ l.length
  · rw [Nat.min_eq_left ha]
    by_cases hb : b ≤ l.length
    · rw [Nat.min_eq_left hb]
    · rw [Nat.min_eq_right (a := b) (by omega), List.take_of_length_le (by rw [List.length_drop]; omega), List.take_of_length_le (by rw [List.length_drop]; omega)]
  · rw [Nat.min_eq_right (a := a) (by omega), List.drop_of_length_le (Nat.le_refl _), List.drop_of_length_le (by omega), List.take_nil, List.take_nil]
theorem rg_ch {n k : Nat} (hn : n ≤ 1000000) (h1 : 1 ≤ k) (hk : k ≤ 1000) : RgC 0 (n : Int) (k : Int) ((n + k - 1) / k) := by
  have h0 : (0 : Int) ≤ (n : Int) := by omega
  have hc : (1 : Int) ≤ (k : Int) := by omega
  have e : (((n + k - 1) / k : Nat) : Int) = ((n : Int) + (k : Int) - 1) / (k : Int) := by
    rw [Int.natCast_ediv, show ((n + k - 1 : Nat) : Int) = (n : Int) + (k : Int) - 1 by omega]
  refine ⟨by omega, by omega, ?_, ?_⟩
  · unfold Builtin.Range.small
    rw [rangeSize_pos hc h0, ← e]
    have q1 : (n + k - 1) / k ≤ n + k - 1 := Nat.div_le_self _ _
    generalize (n + k - 1) / k = qq at q1
    simp only [Builtin.Range.rangeFitsLong, Bool.and_eq_true, Bool.or_eq_true, decide_eq_true_eq, beq_iff_eq]
    refine ⟨⟨⟨⟨by omega, by omega, by omega⟩, by omega, by omega⟩, by omega, by omega⟩, .inr ?_⟩
    rw [if_pos (by omega), Bool.and_eq_true, decide_eq_true_eq, decide_eq_true_eq]
    omega
  · rw [rangeSize_pos hc h0, e]
/-- a def of the module that may let InvalidLine out -/
def HasX (P : Program) (w : World) (K : PySem.W.Frag) (mg : Str → Option Value) (base : Heap) (k : Nat) (x : Str) (ps : List Str) (sp : Sp) : Prop :=
  ∃ f fd, FnOk P w K mg base (L2.CX P w) k f fd ps sp ∧ mg x = some (.ref f) ∧ PySem.W.keepIn K (.ref f) = true ∧ Binds K fd ps []
/-! ### xs[a:c] = ys -/
section
open PySem PySem.Spec PyProof.Rows L2
variable {X : Cx}
def gSl (to : TE) (tl th : TO) : TG := fun v σ H Q => to σ H fun x H1 => tl σ H1 fun i H2 => th σ H2 fun j H3 => ∃ (l b : Addr) (xs ys : List V) (a c : Int), x = .ref l ∧ v = .ref b ∧ i = some a ∧ j = some c ∧ H3 l = some (.lst xs) ∧ H3 b = some (.lst ys) ∧ l ≠ b ∧ 0 ≤ a ∧ a ≤ c ∧ c ≤ xs.length ∧
  xs.length + ys.length ≤ sizeLine ∧ Q σ (upd H3 l (.lst (xs.take a.toNat ++ ys ++ xs.drop c.toNat)))
theorem pg_slice {o : Expr} {lo hi : Option Expr} {to : TE} {tl th : TO} {p2 pos : Pos} (ho : PE X o to) (hl : PO X lo tl) (hu : PO X hi th)
    (ha : ∀ v, assign (.Subscript o (.Slice lo hi none p2) pos) X.env v = (do
      let ov ← holding [v] (eval o X.env)
      let iv ← holding [v, ov] (eval (.Slice lo hi none p2) X.env)
      standAt pos
      holding [v, ov, iv] (setItem ov iv v)
      release [iv, v, ov] []) := by intro _; rfl) : PG X (.Subscript o (.Slice lo hi none p2) pos) (gSl to tl th) := by
  refine ⟨fun pins s σ H v u Q I r h => ?_⟩
  rw [ha]
  refine wpAny_bind (wpAny_holding (thn (ho.run pins s σ H _ I h) fun ov s1 ⟨x, H1, I1, r1, q1⟩ => ?_))
  refine wpAny_bind (wpAny_holding ?_)
  refine wpAny_Slice (thn (hl.run pins s1 σ H1 _ I1 q1) fun vl s2 ⟨ol, H2, I2, pl, q2⟩ => thn (hu.run pins s2 σ H2 _ I2 q2) fun vu s3 ⟨oc, H3, I3, pu, l, b, xs, ys, i, j, ex, ev, eol, eoc, hx, hy, ne, h0, hij, hjl, hz, q3⟩ => ?_)
  rw [evalPart_none]
  refine wpAny_pure ?_
  have I4 : Inv X pins σ H3 { s3 with heap := s3.heap.push { cls := .type "slice", data := .fields #[vl, vu, .none] } } := I3.kept (t' := s3.toks) fun b ob q => Heap.get?_push_of_some _ q
  subst ex ev eol eoc
  obtain rfl : ov = Value.ref l := r1
  obtain rfl : u = Value.ref b := r
  cases pl
  cases pu
  refine wpAny_bind (wpAny_standAt (wpAny_bind (wpAny_holding (set_slice I4 hx hy ne (Heap.IsSliceOf.new ..) ⟨_, rfl⟩ ⟨_, rfl⟩ h0 hij hjl hz fun s' I' => ?_))))
  exact wpAny_release ⟨σ, _, I', q3⟩
end
theorem iteN {c A B : Prop} [Decidable c] (h1 : ¬ c → A) (h2 : c → B) : if (!decide c) = true then A else B := by
  by_cases h : c
  · rw [decide_eq_true h]
    exact iteF (h2 h)
  · rw [decide_eq_false h]
    exact iteT (h1 h)
theorem tN : Str.ofString "N" = T [78] := by decide +kernel
theorem one_eq {c d : Nat} {s : Str} (h : s = T [d]) : (V.str (T [c]) = V.str s) ↔ c = d := by
  rw [h]
  constructor
  · intro e
    have := T_inj (V.str.inj e)
    simpa using this
  · intro e
    rw [e]
theorem at_T {l : List Nat} {i : Nat} (h : i < l.length) : atI (T l).cps.toList (i : Int) = some l[i] := atI_nat (List.getElem?_eq_getElem h)
theorem isN_at {l : List Nat} {i : Nat} (h : i < l.length) : isN l i = decide (l[i] = 78) := by
  unfold isN
  rw [List.getElem?_eq_getElem h]
  exact decide_eq_decide.mpr ⟨fun e => Option.some.inj e, fun e => congrArg some e⟩
def RT (H : Hp) : List V → List Rn → Prop := Paired fun v r => ∃ q, v = .ref q ∧ H q = some (.tup [.int (r.1 : Int), .int (r.2 : Int)])
theorem RT.mono {H H' : Hp} {xs : List V} {rs : List Rn} (h : RT H xs rs) (k : ∀ q ys, H q = some (.tup ys) → H' q = some (.tup ys)) : RT H' xs rs :=
  Paired.mapP h fun _ _ ⟨q, e, t⟩ => ⟨q, e, k q _ t⟩
/-! ### the program: unpacking -/
def n4 (d : List Int) (a : Nat) : Nat := (bn ((d.drop a).take 4)).toNat
theorem n4_val {d : List Int} (hb : Byt d) (a : Nat) : bnN ((d.drop a).take 4) = (n4 d a : Int) := by
  have h := bn_bound (l := (d.drop a).take 4) fun x hx => hb x (List.mem_of_mem_drop (List.mem_of_mem_take hx))
  unfold n4
  show bn ((d.drop a).take 4) = _
  rw [Int.toNat_of_nonneg h.1]
theorem n4_lt {d : List Int} (hb : Byt d) (a : Nat) : n4 d a < 4294967296 := by
  have h := (bn_bound (l := (d.drop a).take 4) fun x hx => hb x (List.mem_of_mem_drop (List.mem_of_mem_take hx))).2
  have h2 : (256 : Int) ^ ((d.drop a).take 4).length ≤ 256 ^ 4 := by
    have h3 : ((d.drop a).take 4).length ≤ 4 := by rw [List.length_take]; omega
    have h4 : ((d.drop a).take 4).length = 0 ∨ ((d.drop a).take 4).length = 1 ∨ ((d.drop a).take 4).length = 2 ∨ ((d.drop a).take 4).length = 3 ∨ ((d.drop a).take 4).length = 4 := by omega
    rcases h4 with z | z | z | z | z <;> rw [z] <;> decide
  have h5 : (256 : Int) ^ 4 = 4294967296 := by decide
  unfold n4
  omega
def chr4 (x : Int) : Nat := if x = 1 then 67 else if x = 2 then 71 else if x = 3 then 84 else 65
def quad (b : Int) : List Nat := [chr4 (b / 64), chr4 (b / 16 % 4), chr4 (b / 4 % 4), chr4 (b % 4)]
def coded (bs : List Int) : List Nat := bs.flatMap quad
theorem coded_len : ∀ bs : List Int, (coded bs).length = 4 * bs.length
  | [] => rfl
  | b :: r => by
    show (quad b ++ coded r).length = _
    rw [List.length_append, coded_len r, List.length_cons]
    show 4 + _ = _
    omega
theorem coded_at : ∀ (bs : List Int) (j : Nat) (x : Int), bs[j / 4]? = some x → (coded bs)[j]? = some ((quad x).getD (j % 4) 0)
  | [], j, x, h => by cases h
  | b :: r, j, x, h => by
    show (quad b ++ coded r)[j]? = _
    by_cases hj : j < 4
    · have e0 : j / 4 = 0 := by omega
      rw [e0] at h
      obtain rfl : b = x := Option.some.inj h
      rw [List.getElem?_append_left (show j < 4 from hj), show j % 4 = j by omega]
      have : j = 0 ∨ j = 1 ∨ j = 2 ∨ j = 3 := by omega
      rcases this with e | e | e | e <;> subst e <;> rfl
    · rw [List.getElem?_append_right (show 4 ≤ j by omega)]
      have e1 : j / 4 = (j - 4) / 4 + 1 := by omega
      rw [e1] at h
      have ih := coded_at r (j - 4) x h
      show (coded r)[j - 4]? = _
      rw [ih, show (j - 4) % 4 = j % 4 by omega]
def four4 : List Nat := [65, 67, 71, 84]
theorem four4_text : Str.ofString "ACGT" = T four4 := by decide +kernel
theorem chr4_at {x : Int} (h0 : 0 ≤ x) (h4 : x < 4) : atI (Str.ofString "ACGT").cps.toList x = some (chr4 x) := by
  have h : x = 0 ∨ x = 1 ∨ x = 2 ∨ x = 3 := by omega
  rcases h with h | h | h | h <;> subst h <;> decide +kernel
theorem chr4_zero {x : Int} (h0 : 0 ≤ x) (h4 : x < 4) : chr4 x = 65 ↔ x = 0 := by
  have h : x = 0 ∨ x = 1 ∨ x = 2 ∨ x = 3 := by omega
  rcases h with h | h | h | h <;> subst h <;> decide
abbrev LC (l : List Nat) : HO := .lst (l.map fun c => V.str (T [c]))
def fsR (d : List Int) (i : Nat) : Nat := n4 d (8 + 8 * i)
def szR (d : List Int) (i : Nat) : Nat := n4 d (12 + 8 * i)
def leR (d : List Int) : Nat → Nat
  | 0 => 0
  | i + 1 => fsR d i + szR d i + 1
def OkR (d : List Int) (n i : Nat) : Prop := leR d i ≤ fsR d i ∧ 0 < szR d i ∧ fsR d i + szR d i ≤ n
def inR (d : List Int) (i j : Nat) : Bool := (List.range i).any fun k => decide (fsR d k ≤ j) && decide (j < fsR d k + szR d k)
def repL (d : List Int) (L : List Nat) (i : Nat) : List Nat := (List.range L.length).map fun j => if inR d i j = true then 78 else L.getD j 0
def letL (d : List Int) : List Nat := coded (d.drop (8 + 8 * n4 d 4))
structure Good (d : List Int) (t : List Nat) : Prop where
  size : d.length = 8 + 8 * n4 d 4 + (n4 d 0 + 3) / 4
  tail : ∀ j, n4 d 0 ≤ j → j < (letL d).length → (letL d).getD j 0 = 65
  runs : ∀ i, i < n4 d 4 → OkR d (n4 d 0) i
  zero : ∀ i, i < n4 d 4 → ∀ j, fsR d i ≤ j → j < fsR d i + szR d i → (letL d).getD j 0 = 65
  text : t = (repL d (letL d) (n4 d 4)).take (n4 d 0)
theorem inR_iff (d : List Int) (i j : Nat) : inR d i j = true ↔ ∃ k, k < i ∧ fsR d k ≤ j ∧ j < fsR d k + szR d k := by
  unfold inR
  rw [List.any_eq_true]
  constructor
  · rintro ⟨k, hk, h⟩
    rw [Bool.and_eq_true, decide_eq_true_iff, decide_eq_true_iff] at h
    exact ⟨k, List.mem_range.mp hk, h.1, h.2⟩
  · rintro ⟨k, hk, h1, h2⟩
    exact ⟨k, List.mem_range.mpr hk, by rw [decide_eq_true h1, decide_eq_true h2]; rfl⟩
theorem runs_rise {d : List Int} {n m : Nat} (h : ∀ i, i < m → OkR d n i) : ∀ i, i < m → ∀ k, k < i → fsR d k + szR d k + 1 ≤ fsR d i
  | 0, _, k, hk => absurd hk (Nat.not_lt_zero k)
  | i + 1, hi, k, hk => by
    have h1 := (h (i + 1) hi).1
    have e : leR d (i + 1) = fsR d i + szR d i + 1 := rfl
    rw [e] at h1
    by_cases hki : k = i
    · rw [hki]
      exact h1
    · have h2 := runs_rise h i (by omega) k (by omega)
      omega
theorem repL_len (d : List Int) (L : List Nat) (i : Nat) : (repL d L i).length = L.length := by
  unfold repL
  rw [List.length_map, List.length_range]
theorem repL_at {d : List Int} {L : List Nat} {i j : Nat} (h : j < L.length) : (repL d L i)[j]? = some (if inR d i j = true then 78 else L.getD j 0) := by
  unfold repL
  rw [List.getElem?_map, List.getElem?_range h]
  rfl
theorem repL_getD {d : List Int} {L : List Nat} {i j : Nat} (h : j < L.length) : (repL d L i).getD j 0 = if inR d i j = true then 78 else L.getD j 0 := by
  rw [List.getD_eq_getElem?_getD, repL_at h]
  rfl
theorem repL_zero (d : List Int) (L : List Nat) : repL d L 0 = L := by
  refine List.ext_getElem? fun j => ?_
  by_cases h : j < L.length
  · rw [repL_at h, List.getD_eq_getElem?_getD, List.getElem?_eq_getElem h]
    rfl
  · rw [List.getElem?_eq_none (by rw [repL_len]; omega), List.getElem?_eq_none (by omega)]
theorem repL_step {d : List Int} {L : List Nat} {i : Nat} (h : fsR d i + szR d i ≤ L.length) : (repL d L i).take (fsR d i) ++ List.replicate (szR d i) 78 ++ (repL d L i).drop (fsR d i + szR d i) = repL d L (i + 1) := by
  refine List.ext_getElem? fun j => ?_
  have e1 : ((repL d L i).take (fsR d i)).length = fsR d i := by rw [List.length_take, repL_len]; omega
  have e2 : ((repL d L i).take (fsR d i) ++ List.replicate (szR d i) 78).length = fsR d i + szR d i := by rw [List.length_append, e1, List.length_replicate]
  have hin : inR d (i + 1) j = (inR d i j || (decide (fsR d i ≤ j) && decide (j < fsR d i + szR d i))) := by
    unfold inR
    rw [List.range_succ, List.any_append]
    simp
  by_cases hj : j < L.length
  · rw [repL_at hj, hin]
    by_cases h1 : j < fsR d i
    · rw [List.getElem?_append_left (by rw [e2]; omega), List.getElem?_append_left (by rw [e1]; exact h1), List.getElem?_take, if_pos h1, repL_at hj, decide_eq_false (show ¬ fsR d i ≤ j by omega), Bool.false_and, Bool.or_false]
    · by_cases h2 : j < fsR d i + szR d i
      · rw [List.getElem?_append_left (by rw [e2]; exact h2), List.getElem?_append_right (by rw [e1]; omega), e1, List.getElem?_replicate, if_pos (by omega), decide_eq_true (show fsR d i ≤ j by omega), decide_eq_true h2, Bool.and_self, Bool.or_true, if_pos rfl]
      · rw [List.getElem?_append_right (by rw [e2]; omega), e2, List.getElem?_drop, show fsR d i + szR d i + (j - (fsR d i + szR d i)) = j by omega, repL_at hj, decide_eq_false h2, Bool.and_false, Bool.or_false]
  · rw [List.getElem?_eq_none (by rw [List.length_append, e2, List.length_drop, repL_len]; omega), List.getElem?_eq_none (by rw [repL_len]; omega)]
theorem rgk {k : Int} {m : Nat} (hk : k = 8) (h : m ≤ 1000000) : RgC k (k + (m : Int) * k) k m := by
  have es : Builtin.Range.rangeSize k (k + (m : Int) * k) k = m := by
    unfold Builtin.Range.rangeSize
    subst hk
    rw [if_pos (by decide)]
    split <;> omega
  refine ⟨by omega, by omega, ?_, es⟩
  have hmk : (m : Int) * k = (m : Int) * 8 := by rw [hk]
  unfold Builtin.Range.small
  rw [es]
  generalize (m : Int) * k = mk at hmk
  simp only [Builtin.Range.rangeFitsLong, Bool.and_eq_true, Bool.or_eq_true, decide_eq_true_eq, beq_iff_eq]
  refine ⟨⟨⟨⟨by omega, by omega, by omega⟩, by omega, by omega⟩, by omega, by omega⟩, .inr ?_⟩
  rw [if_pos (by omega), Bool.and_eq_true, decide_eq_true_eq, decide_eq_true_eq]
  omega
theorem rg8 {m : Nat} (h : m ≤ 1000000) : RgC 8 (8 + (m : Int) * 8) 8 m := rgk rfl h
theorem scCoded : FnScope ["data", "letters", "byte"] ["data"] (defScope sCoded) := ⟨rfl, rfl, rfl, by decide +kernel, rfl, by decide +kernel, by decide +kernel⟩
theorem scCheckZ : FnScope ["letters", "begin", "end", "at"] ["letters", "begin", "end"] (defScope sCheckZ) := ⟨rfl, rfl, rfl, by decide +kernel, rfl, by decide +kernel, by decide +kernel⟩
theorem scTRuns : FnScope ["data", "many", "length", "runs", "least", "at", "first", "size"] ["data", "many", "length"] (defScope sTRuns) := ⟨rfl, rfl, rfl, by decide +kernel, rfl, by decide +kernel, by decide +kernel⟩
theorem scUnpack : FnScope ["data", "length", "many_runs", "letters_at", "letters", "first", "size"] ["data"] (defScope sUnpack) := ⟨rfl, rfl, rfl, by decide +kernel, rfl, by decide +kernel, by decide +kernel⟩
theorem tA : Str.ofString "A" = T [65] := by decide +kernel
/-- what is known of InvalidPack -/
structure IPk (K : PySem.W.Frag) (mg : Str → Option Value) (C : Addr) : Prop where
  gC : mg "InvalidPack" = some (.ref C)
  q : PySem.W.excIn K C [.type "ValueError", .type "Exception", .type "BaseException", .type "object"] "ValueError.__new__" = true
  kC : PySem.W.keepIn K (.ref C) = true
  sb : PySem.W.subIn K (.ref C) (.type "BaseException") = some true
  ty : PySem.W.typeIn K (.ref C) = some (.type "type")
def BadP (E : XK) (C : Addr) (H : Hp) : Prop := ∀ H', Same H H' → E (.ref C) none H'
theorem BadP.same {E : XK} {C : Addr} {H H1 : Hp} (b : BadP E C H) (s : Same H H1) : BadP E C H1 := fun H' s' => b H' (s.trans s')
section
variable {P : Program} {w : World} {K : PySem.W.Frag} {mg : Str → Option Value} {base : Heap}
def spCoded (K : PySem.W.Frag) : Sp := fun vs H Q _ => ∃ (a : Addr) (bs : List Int), vs = [.ref a] ∧ SqL K H a (bs.map V.int) ∧ Byt bs ∧ bs.length ≤ 1000000 ∧ ∀ (H' : Hp) (p : Addr), Same H H' → H p = none → H' p = some (LC (coded bs)) → Q (.ref p) H'
theorem ok_coded {f : Addr} {fd : FuncData} {k : Nat} {t1 : Tok} (F : Fun K "_coded_letters" "_coded_letters" sCoded f fd) (gC : mg "_CODED" = some (.str (Str.ofString "ACGT") t1)) : FnOk P w K mg base CX0 (k + 1) f fd ["data"] (spCoded K) := by
  refine F.ok scCoded (fun vs H Q E h => ?_) (fun cdv A outer s H vs Q E hr h => ?_)
  · obtain ⟨a, bs, rfl, _⟩ := h
    rfl
  · obtain ⟨a, bs, rfl, hS, hb, hl, q⟩ := h
    refine ⟨_, (pss_cons (ps_set (i := 1) scCoded.nd rfl (.inl rfl) (pe_lst pa_nil))
      (pss_cons (ps_for PassesOwn.never rfl (pi_list (pv 0)) (pg_name (i := 2) scCoded.nd rfl (.inl rfl))
        (pss_one (ps_expr (pe_bm PySem.F.plainAttrs_list PySem.F.slot_list_extend PySem.F.type_list_extend mt_extend (pv 1) (pa_cons (pe_lst (pa_cons (pe_ix ix_str (pe_glob (v := .str (Str.ofString "ACGT")) (by rfl) gC ⟨_, rfl⟩) (pe_op op_fdiv (pv 2) pe_int) (fun _ _ => rfl)) (pa_cons (pe_ix ix_str (pe_glob (v := .str (Str.ofString "ACGT")) (by rfl) gC ⟨_, rfl⟩) (pe_op op_mod (pe_op op_fdiv (pv 2) pe_int) pe_int) (fun _ _ => rfl)) (pa_cons (pe_ix ix_str (pe_glob (v := .str (Str.ofString "ACGT")) (by rfl) gC ⟨_, rfl⟩) (pe_op op_mod (pe_op op_fdiv (pv 2) pe_int) pe_int) (fun _ _ => rfl)) (pa_cons (pe_ix ix_str (pe_glob (v := .str (Str.ofString "ACGT")) (by rfl) gC ⟨_, rfl⟩) (pe_op op_mod (pv 2) pe_int) (fun _ _ => rfl)) pa_nil))))) pa_nil)))))
      (pss_one (ps_ret (pv 1))))), ?_⟩
    refine ⟨Nat.zero_le _, fun p hp => ?_⟩
    refine ⟨_, rfl, a, rfl, ⟨_, (same_upd hp).seq hS⟩, ?_⟩
    refine for_list (K := K) (xs := bs.map V.int) (fun i σ H' => Same H H' ∧ H' p = some (LC (coded (bs.take i))) ∧ ∃ v2 : Option V, σ = [some (.ref a), some (.ref p), v2]) ⟨same_upd hp, upd_same, none, rfl⟩ (fun i σ H' _ h => h.1.seq hS) ?_ ?_
    · rintro i v σ H1 hv ⟨s1, h1, v2, rfl⟩
      rw [List.getElem?_map] at hv
      obtain ⟨x, hx, rfl⟩ := Option.map_eq_some_iff.mp hv
      have hbx := hb x (List.mem_of_getElem? hx)
      have hil : i < bs.length := (List.getElem?_eq_some_iff.mp hx).1
      have b1 := chr4_at (x := x / 64) (by omega) (by omega)
      have b2 := chr4_at (x := x / 16 % 4) (by omega) (by omega)
      have b3 := chr4_at (x := x / 4 % 4) (by omega) (by omega)
      have b4 := chr4_at (x := x % 4) (by omega) (by omega)
      refine ⟨_, rfl, .inl ⟨rfl, _, .inl (.inl h1)⟩, _, rfl, x, 64, rfl, rfl, ⟨by decide, by decide⟩, _, _, _, rfl, rfl, by decide, b1, _, rfl, x, 16, rfl, rfl, ⟨by decide, by decide⟩, _, 4, rfl, rfl, (show (0 : Int) < 4 by decide), _, _, _, rfl, rfl, by decide, b2, _, rfl, x, 4, rfl, rfl, ⟨by decide, by decide⟩, _, 4, rfl, rfl, (show (0 : Int) < 4 by decide), _, _, _, rfl, rfl, by decide, b3, _, rfl, x, 4, rfl, rfl, (show (0 : Int) < 4 by decide), _, _, _, rfl, rfl, by decide, b4, by show 4 ≤ sizeLine; decide, fun u hu => ?_⟩
      have npu : p ≠ u := ne_of_none h1 hu
      have hcl := coded_len (bs.take i)
      rw [List.length_take] at hcl
      refine ⟨p, u, _, _, rfl, rfl, by rw [upd_ne npu]; exact h1, upd_same, line_ok7 (by rw [List.length_map, hcl]; show _ + 4 ≤ 10000000; omega), fun b o e => ?_, ?_, some (.int x), rfl⟩
      · rw [upd_ne (ne_of_none e hp)]
        exact same_upd hu _ _ (s1 _ _ e)
      · rw [upd_same, List.take_add_one, hx]
        unfold coded
        rw [List.flatMap_append]
        show some (HO.lst _) = some (HO.lst _)
        rw [List.map_append]
        rfl
    · rintro σ H1 ⟨s1, h1, v2, rfl⟩
      rw [List.length_map, List.take_length] at h1
      exact ⟨_, rfl, q H1 p s1 hp h1⟩
def spCheckZ (K : PySem.W.Frag) (C : Addr) : Sp := fun vs H Q E => ∃ (a : Addr) (L : List Nat) (b e : Nat), vs = [.ref a, .int (b : Int), .int (e : Int)] ∧ H a = some (LC L) ∧ e ≤ L.length ∧ L.length ≤ 10000000 ∧ b ≤ 4294967296 ∧ ((∀ j, b ≤ j → j < e → L.getD j 0 = 65) → Q .non H) ∧ ((∃ j, b ≤ j ∧ j < e ∧ L.getD j 0 ≠ 65) → BadP E C H)
theorem ok_checkZ {f C : Addr} {fd : FuncData} {k : Nat} (F : Fun K "_check_zeros" "_check_zeros" sCheckZ f fd) (D : IPk K mg C) (mrange : mg "range" = none) : FnOk P w K mg base (L2.CX P w) (k + 1) f fd ["letters", "begin", "end"] (spCheckZ K C) := by
  refine F.okX scCheckZ (fun vs H Q E h => ?_) (fun cdv A outer s H vs Q E hr h => ?_)
  · obtain ⟨a, L, b, e, rfl, _⟩ := h
    rfl
  · obtain ⟨a, L, b, e, rfl, hS, he, hL, hb9, q, qb⟩ := h
    refine ⟨_, (pss_one (ps_for (passes_of rfl) rfl (pi_range2 rfl mrange (pa_cons (pv 1) (pa_cons (pv 2) pa_nil))) (pg_name (i := 3) scCheckZ.nd rfl (.inl rfl))
        (pss_one (ps_if (pt_cmpR op_ne (pe_ix ix_list (pv 0) (pv 3) (fun _ _ => rfl)) pe_str (nomark _)) (pss_one (ps_raise rfl (takes_of rfl rfl rfl rfl) (pmk_own PySem.F.excBase_ValueError D.q D.gC D.kC (raises_own D.sb D.ty) (by exact rfl)))) pss_nil)))), ?_⟩
    refine ⟨_, rfl, _, rfl, _, _, rfl, ⟨by omega, by omega, by omega, by omega⟩, ?_⟩
    refine for_range (lo := (b : Int)) (n := ((e : Int) - (b : Int)).toNat) (fun i σ H' => H' = H ∧ (∀ j, b ≤ j → j < b + i → L.getD j 0 = 65) ∧ ∃ v3 : Option V, σ = [some (.ref a), some (.int (b : Int)), some (.int (e : Int)), v3]) ⟨rfl, fun j h1 h2 => absurd h2 (by omega), none, rfl⟩ ?_ ?_
    · rintro i σ H' hi ⟨rfl, hall, v3, rfl⟩
      have hil : b + i < L.length := by omega
      have hat : atI (L.map fun c => V.str (T [c])) ((b : Int) + (i : Nat)) = some (.str (T [L[b + i]])) := by
        rw [show (b : Int) + (i : Nat) = ((b + i : Nat) : Int) by omega]
        refine atI_nat ?_
        rw [List.getElem?_map, List.getElem?_eq_getElem hil]
        rfl
      have eg : L.getD (b + i) 0 = L[b + i] := by
        rw [List.getD_eq_getElem?_getD, List.getElem?_eq_getElem hil]
        rfl
      refine ⟨_, rfl, _, rfl, a, _, _, _, rfl, rfl, .inl (.inl hS), hat, rfl, _, rfl, iteN (fun z => ?_) (fun z => ?_)⟩
      · exact qb ⟨b + i, by omega, by omega, fun y => z ((one_eq tA).mpr (by rw [← eg]; exact y))⟩ _ (Same.refl _)
      · refine ⟨rfl, fun j h1 h2 => ?_, some (.int ((b : Int) + (i : Nat))), rfl⟩
        by_cases hj : j = b + i
        · rw [hj, eg]
          exact (one_eq tA).mp z
        · exact hall j h1 (by omega)
    · rintro σ H' ⟨rfl, hall, v3, rfl⟩
      exact q fun j h1 h2 => hall j h1 (by omega)
def spTRuns (K : PySem.W.Frag) (C : Addr) : Sp := fun vs H Q E => ∃ (a : Addr) (d : List Int) (m n : Nat), vs = [.ref a, .int (m : Int), .int (n : Int)] ∧ SqL K H a (d.map V.int) ∧ Byt d ∧ m ≤ 1000000 ∧
  ((∀ i, i < m → OkR d n i) → ∀ (H' : Hp) (p : Addr) (xs : List V), Same H H' → H p = none → H' p = some (.lst xs) → RT H' xs ((List.range m).map fun i => (fsR d i, szR d i)) → Q (.ref p) H') ∧ ((∃ i, i < m ∧ ¬ OkR d n i) → BadP E C H)
theorem ok_truns {f C : Addr} {fd : FuncData} {k : Nat} {u4 u8 u9 : Tok} (F : Fun K "_told_runs" "_told_runs" sTRuns f fd) (D : IPk K mg C) (mrange : mg "range" = none) (g4 : mg "_NUMBER_SIZE" = some (.int 4 u4)) (g8 : mg "_HEAD_SIZE" = some (.int 8 u8)) (g9 : mg "_RUN_SIZE" = some (.int 8 u9))
    (hN : Has P w K mg base (k + 1) "number_at" ["data", "at", "size"] (spNumAt K)) : FnOk P w K mg base (L2.CX P w) (k + 2) f fd ["data", "many", "length"] (spTRuns K C) := by
  obtain ⟨fN, dN, GN, gN, kN, bN⟩ := hN
  refine F.okX scTRuns (fun vs H Q E h => ?_) (fun cdv A outer s H vs Q E hr h => ?_)
  · obtain ⟨a, d, m, n, rfl, _⟩ := h
    rfl
  · obtain ⟨a, d, m, n, rfl, hS, hb, hm, q, qb⟩ := h
    refine ⟨_, (pss_cons (ps_set (i := 3) scTRuns.nd rfl (.inl rfl) (pe_lst pa_nil))
      (pss_cons (ps_set (i := 4) scTRuns.nd rfl (.inl rfl) pe_int)
      (pss_cons (ps_for (passes_of rfl) rfl (pi_range3 rfl mrange (pa_cons (pe_glob (v := .int 8) (by rfl) g8 ⟨_, rfl⟩) (pa_cons (pe_op op_add (pe_glob (v := .int 8) (by rfl) g8 ⟨_, rfl⟩) (pe_op op_mul (pv 1) (pe_glob (v := .int 8) (by rfl) g9 ⟨_, rfl⟩))) (pa_cons (pe_glob (v := .int 8) (by rfl) g9 ⟨_, rfl⟩) pa_nil)))) (pg_name (i := 5) scTRuns.nd rfl (.inl rfl))
        (pss_cons (ps_set (i := 6) scTRuns.nd rfl (.inl rfl) (pe_call GN (hr.mono (by omega)) (by rfl) gN kN bN .nil pass0 (pa_cons (pv 0) (pa_cons (pv 5) (pa_cons (pe_glob (v := .int 4) (by rfl) g4 ⟨_, rfl⟩) pa_nil)))))
      (pss_cons (ps_set (i := 7) scTRuns.nd rfl (.inl rfl) (pe_call GN (hr.mono (by omega)) (by rfl) gN kN bN .nil pass0 (pa_cons (pv 0) (pa_cons (pe_op op_add (pv 5) (pe_glob (v := .int 4) (by rfl) g4 ⟨_, rfl⟩)) (pa_cons (pe_glob (v := .int 4) (by rfl) g4 ⟨_, rfl⟩) pa_nil)))))
      (pss_cons (ps_if (PW.pt (pw_or (pt_cmpR op_lt (pv 6) (pv 4) (nomark _)) (pw_or (pt_cmpR op_eq (pv 7) pe_int (nomark _)) (pw_or1 (pt_cmpR op_gt (pe_op op_add (pv 6) (pv 7)) (pv 2) (nomark _)))))) (pss_one (ps_raise rfl (takes_of rfl rfl rfl rfl) (pmk_own PySem.F.excBase_ValueError D.q D.gC D.kC (raises_own D.sb D.ty) (by exact rfl)))) pss_nil)
      (pss_cons (ps_expr (pe_bm PySem.F.plainAttrs_list PySem.F.slot_list_append PySem.F.type_list_append mt_append (pv 3) (pa_cons (pe_tup (pa_cons (pv 6) (pa_cons (pv 7) pa_nil))) pa_nil)))
      (pss_one (ps_set (i := 4) scTRuns.nd rfl (.inl rfl) (pe_op op_add (pe_op op_add (pv 6) (pv 7)) pe_int))))))))
      (pss_one (ps_ret (pv 3)))))), ?_⟩
    refine ⟨Nat.zero_le _, fun p hp => ?_⟩
    refine ⟨_, rfl, _, 8, rfl, rfl, .inl ⟨by omega, by omega⟩, 8, _, rfl, rfl, 8, _, 8, m, rfl, rg8 hm, ?_⟩
    refine for_gen (J := Itc 8 8 m) (n := m) (fun i σ H' => Same H H' ∧ (∀ j, j < i → OkR d n j) ∧ ∃ (xs : List V) (v5 v6 v7 : Option V), H' p = some (.lst xs) ∧ RT H' xs ((List.range i).map fun i => (fsR d i, szR d i)) ∧ σ = [some (.ref a), some (.int (m : Int)), some (.int (n : Int)), some (.ref p), some (.int (leR d i : Nat)), v5, v6, v7]) ⟨same_upd hp, fun j h => absurd h (Nat.not_lt_zero j), [], none, none, none, upd_same, .nil, rfl⟩ (fun i σ H' hi _ => hi) (fun σ H' _ => Nat.le_refl _) ?_ ?_
    · rintro i σ H1 x H2 hi ⟨s1, hok, xs, v5, v6, v7, hx, ht, rfl⟩ ⟨rfl, rfl⟩
      have ea : (8 : Int) + (i : Nat) * 8 = ((8 + 8 * i : Nat) : Int) := by omega
      have eb : (8 : Int) + (i : Nat) * 8 + 4 = ((12 + 8 * i : Nat) : Int) := by omega
      have hxl : xs.length = i := by
        have := paired_len ht
        rw [List.length_map, List.length_range] at this
        exact this
      refine ⟨_, rfl, _, rfl, a, d, 8 + 8 * i, 4, by rw [ea]; rfl, s1.seq hS, fun H3 s3 => ?_⟩
      rw [n4_val hb]
      refine ⟨_, rfl, _, rfl, _, _, rfl, rfl, a, d, 12 + 8 * i, 4, by show [V.ref a, V.int (8 + (i : Nat) * 8 + 4), V.int 4] = _; rw [eb]; rfl, (s1.trans s3).seq hS, fun H4 s4 => ?_⟩
      rw [n4_val hb]
      have s14 := (s1.trans s3).trans s4
      have hx4 := s4 _ _ (s3 _ _ hx)
      have ht4 : RT H4 xs ((List.range i).map fun i => (fsR d i, szR d i)) := ht.mono fun b ys hb => s4 _ _ (s3 _ _ hb)
      have bad : ¬ OkR d n i → E (.ref C) none H4 := fun h => qb ⟨i, hi, h⟩ H4 s14
      refine ⟨_, rfl, _, rfl, _, _, rfl, rfl, _, rfl, ite2 (fun e => ?_) (fun e => ?_)⟩
      · have h1 : ((fsR d i : Nat) : Int) < ((leR d i : Nat) : Int) := of_decide_eq_true e
        exact bad fun z => by have := z.1; omega
      have h1 : ¬ ((fsR d i : Nat) : Int) < ((leR d i : Nat) : Int) := fun z => e (decide_eq_true z)
      refine ⟨_, rfl, rfl, _, rfl, ite2 (fun e => ?_) (fun e => ?_)⟩
      · have h2 : ((szR d i : Nat) : Int) = 0 := V.int.inj (of_decide_eq_true e)
        exact bad fun z => by have := z.2.1; omega
      have h2 : ¬ ((szR d i : Nat) : Int) = 0 := fun z => e (decide_eq_true (congrArg V.int z))
      refine ⟨_, rfl, _, rfl, _, _, rfl, rfl, _, rfl, _, _, rfl, rfl, _, rfl, ite2 (fun e => ?_) (fun e => ?_)⟩
      · have h3 : ((fsR d i : Nat) : Int) + ((szR d i : Nat) : Int) > (n : Int) := of_decide_eq_true e
        exact bad fun z => by have := z.2.2; omega
      have h3 : ¬ ((fsR d i : Nat) : Int) + ((szR d i : Nat) : Int) > (n : Int) := fun z => e (decide_eq_true z)
      refine ⟨_, rfl, .inl ⟨rfl, _, .inl (.inl hx4)⟩, _, rfl, _, rfl, by show 2 ≤ sizeLine; decide, fun u hu => ?_⟩
      have npu : p ≠ u := ne_of_none hx4 hu
      refine ⟨p, xs, _, rfl, rfl, by rw [upd_ne npu]; exact hx4, line_ok7 (by omega), ?_⟩
      refine ⟨_, rfl, _, rfl, _, _, rfl, rfl, _, 1, rfl, rfl, fun b o e => ?_, fun j hj => ?_, xs ++ [.ref u], some (.int (8 + (i : Nat) * 8)), some (.int (fsR d i : Nat)), some (.int (szR d i : Nat)), upd_same, ?_, rfl⟩
      · rw [upd_ne (ne_of_none e hp)]
        exact same_upd hu _ _ (s14 _ _ e)
      · by_cases hji : j = i
        · rw [hji]
          exact ⟨by omega, by omega, by omega⟩
        · exact hok j (by omega)
      · rw [List.range_succ, List.map_append]
        refine Paired.snoc (RT.mono ht4 fun b ys hb => ?_) ⟨u, rfl, ?_⟩
        · rw [upd_ne (fun z => by rw [z, hx4] at hb; cases hb), upd_ne (ne_of_none hb hu)]
          exact hb
        · rw [upd_ne npu.symm, upd_same]
          rfl
    · rintro σ H1 ⟨s1, hok, xs, v5, v6, v7, hx, ht, rfl⟩
      exact ⟨_, rfl, q hok H1 p xs s1 hp hx ht⟩
def spUnpack (K : PySem.W.Frag) (C : Addr) : Sp := fun vs H Q E => ∃ (a : Addr) (d : List Int), vs = [.ref a] ∧ SqL K H a (d.map V.int) ∧ Byt d ∧ d.length ≤ 900000 ∧ (∀ t, Good d t → ∀ H', Same H H' → Q (.str (T t)) H') ∧ ((¬ ∃ t, Good d t) → BadP E C H)
theorem ok_unpack {f C : Addr} {fd : FuncData} {k : Nat} {u4 u8 u9 : Tok} (F : Fun K "unpack" "unpack" sUnpack f fd) (D : IPk K mg C) (mlen : mg "len" = none) (g4 : mg "_NUMBER_SIZE" = some (.int 4 u4)) (g8 : mg "_HEAD_SIZE" = some (.int 8 u8)) (g9 : mg "_RUN_SIZE" = some (.int 8 u9))
    (hN : Has P w K mg base (k + 2) "number_at" ["data", "at", "size"] (spNumAt K)) (hCd : Has P w K mg base (k + 2) "_coded_letters" ["data"] (spCoded K)) (hZ : HasX P w K mg base (k + 2) "_check_zeros" ["letters", "begin", "end"] (spCheckZ K C)) (hT : HasX P w K mg base (k + 2) "_told_runs" ["data", "many", "length"] (spTRuns K C)) :
    FnOk P w K mg base (L2.CX P w) (k + 3) f fd ["data"] (spUnpack K C) := by
  obtain ⟨fN, dN, GN, gN, kN, bN⟩ := hN
  obtain ⟨fCd, dCd, GCd, gCd, kCd, bCd⟩ := hCd
  obtain ⟨fZ, dZ, GZ, gZ, kZ, bZ⟩ := hZ
  obtain ⟨fT, dT, GT, gT, kT, bT⟩ := hT
  refine F.okX scUnpack (fun vs H Q E h => ?_) (fun cdv A outer s H vs Q E hr h => ?_)
  · obtain ⟨a, d, rfl, _⟩ := h
    rfl
  · obtain ⟨a, d, rfl, hS, hb, hl, q, qb⟩ := h
    refine ⟨_, (pss_cons (ps_set (i := 1) scUnpack.nd rfl (.inl rfl) (pe_call GN (hr.mono (by omega)) (by rfl) gN kN bN .nil pass0 (pa_cons (pv 0) (pa_cons pe_int (pa_cons (pe_glob (v := .int 4) (by rfl) g4 ⟨_, rfl⟩) pa_nil)))))
      (pss_cons (ps_set (i := 2) scUnpack.nd rfl (.inl rfl) (pe_call GN (hr.mono (by omega)) (by rfl) gN kN bN .nil pass0 (pa_cons (pv 0) (pa_cons (pe_glob (v := .int 4) (by rfl) g4 ⟨_, rfl⟩) (pa_cons (pe_glob (v := .int 4) (by rfl) g4 ⟨_, rfl⟩) pa_nil)))))
      (pss_cons (ps_set (i := 3) scUnpack.nd rfl (.inl rfl) (pe_op op_add (pe_glob (v := .int 8) (by rfl) g8 ⟨_, rfl⟩) (pe_op op_mul (pv 2) (pe_glob (v := .int 8) (by rfl) g9 ⟨_, rfl⟩))))
      (pss_cons (ps_if (pt_cmpR op_ne (pe_callB call_len_seq (by rfl) mlen PySem.boot_len (pa_cons (pv 0) pa_nil)) (pe_op op_add (pv 3) (pe_op op_fdiv (pe_op op_add (pv 1) pe_int) pe_int)) (nomark _)) (pss_one (ps_raise rfl (takes_of rfl rfl rfl rfl) (pmk_own PySem.F.excBase_ValueError D.q D.gC D.kC (raises_own D.sb D.ty) (by exact rfl)))) pss_nil)
      (pss_cons (ps_set (i := 4) scUnpack.nd rfl (.inl rfl) (pe_call GCd (hr.mono (by omega)) (by rfl) gCd kCd bCd .nil pass0 (pa_cons (pe_slice sl_list (pv 0) (po_some (pv 3)) po_none) pa_nil)))
      (pss_cons (ps_expr (pe_call GZ (hr.mono (by omega)) (by rfl) gZ kZ bZ .nil (passes_call (takes_of rfl rfl rfl rfl) fun _ _ _ _ h => h) (pa_cons (pv 4) (pa_cons (pv 1) (pa_cons (pe_callB call_len_seq (by rfl) mlen PySem.boot_len (pa_cons (pv 4) pa_nil)) pa_nil)))))
      (pss_cons (ps_for (passes_of rfl) rfl (pi_list (pe_call GT (hr.mono (by omega)) (by rfl) gT kT bT .nil (passes_call (takes_of rfl rfl rfl rfl) fun _ _ _ _ h => h) (pa_cons (pv 0) (pa_cons (pv 2) (pa_cons (pv 1) pa_nil))))) (pg_tup rfl (pgs_cons (pg_name (i := 5) scUnpack.nd rfl (.inl rfl)) (pgs_cons (pg_name (i := 6) scUnpack.nd rfl (.inl rfl)) pgs_nil)))
        (pss_cons (ps_expr (pe_call GZ (hr.mono (by omega)) (by rfl) gZ kZ bZ .nil (passes_call (takes_of rfl rfl rfl rfl) fun _ _ _ _ h => h) (pa_cons (pv 4) (pa_cons (pv 5) (pa_cons (pe_op op_add (pv 5) (pv 6)) pa_nil)))))
      (pss_one (ps_asg (pe_op op_rep (pe_lst (pa_cons pe_str pa_nil)) (pv 6)) (pg_slice (pv 4) (po_some (pv 5)) (po_some (pe_op op_add (pv 5) (pv 6))))))))
      (pss_one (ps_ret (pe_join pe_str (pe_slice sl_list (pv 4) po_none (po_some (pv 1))))))))))))), ?_⟩
    refine ⟨_, rfl, a, d, 0, 4, rfl, hS, fun H1 s1 => ?_⟩
    rw [n4_val hb]
    refine ⟨_, rfl, a, d, 4, 4, rfl, s1.seq hS, fun H2 s2 => ?_⟩
    rw [n4_val hb]
    have hm4 : n4 d 4 < 4294967296 := n4_lt hb 4
    have s02 := s1.trans s2
    refine ⟨_, rfl, _, 8, rfl, rfl, .inl ⟨by omega, by omega⟩, 8, _, rfl, rfl, ?_⟩
    refine ⟨_, rfl, a, _, rfl, .inl (s02.seq hS), _, rfl, _, rfl, _, 3, rfl, rfl, _, 4, rfl, rfl, ⟨by decide, by decide⟩, _, _, rfl, rfl, rfl, _, rfl, iteN (fun e => ?_) (fun e => ?_)⟩
    · refine qb (fun ⟨t, g⟩ => e ?_) H2 s02
      have := g.size
      rw [List.length_map]
      show V.int (d.length : Int) = V.int (8 + (n4 d 4 : Int) * 8 + ((n4 d 0 : Int) + 3) / 4)
      congr 1
      omega
    have hsize : d.length = 8 + 8 * n4 d 4 + (n4 d 0 + 3) / 4 := by
      have e2 : V.int ((d.map V.int).length : Nat) = V.int (8 + (n4 d 4 : Int) * 8 + ((n4 d 0 : Int) + 3) / 4) := e
      have := V.int.inj e2
      rw [List.length_map] at this
      omega
    have ela : (8 : Int) + (n4 d 4 : Int) * 8 = ((8 + 8 * n4 d 4 : Nat) : Int) := by omega
    refine ⟨_, rfl, _, rfl, _, rfl, a, _, rfl, s02.seq hS, fun p1 hp1 => ?_⟩
    have hd1 : (upd H2 p1 (.lst (L2.cutV (d.map V.int) (some (8 + (n4 d 4 : Int) * 8)) none))) p1 = some (LI (d.drop (8 + 8 * n4 d 4))) := by
      rw [upd_same, ela, cutV_from, ← List.map_drop]
    have sp1 := same_upd (o := .lst (L2.cutV (d.map V.int) (some (8 + (n4 d 4 : Int) * 8)) none)) hp1
    generalize upd H2 p1 (.lst (L2.cutV (d.map V.int) (some (8 + (n4 d 4 : Int) * 8)) none)) = H3 at hd1 sp1 ⊢
    have hbd : Byt (d.drop (8 + 8 * n4 d 4)) := fun x hx => hb x (List.mem_of_mem_drop hx)
    refine ⟨p1, _, rfl, .inl (.inl hd1), hbd, by rw [List.length_drop]; omega, fun H4 pl s4 hpl0 hpl => ?_⟩
    have s04 := (s02.trans sp1).trans s4
    have hplH : H pl = none := (s02.trans sp1).free hpl0
    have hLl : (letL d).length = 4 * ((n4 d 0 + 3) / 4) := by
      unfold letL
      rw [coded_len, List.length_drop]
      omega
    have hplL : H4 pl = some (LC (letL d)) := hpl
    have hlm : ((letL d).map fun c => V.str (T [c])).length = (letL d).length := List.length_map _
    refine ⟨_, rfl, _, rfl, _, rfl, pl, _, rfl, .inl (.inl (.inl hplL)), pl, letL d, n4 d 0, (letL d).length, by rw [hlm]; rfl, hplL, Nat.le_refl _, by omega, Nat.le_of_lt (n4_lt hb 0), fun htail => ?_, fun ⟨j, h1, h2, h3⟩ => qb (fun ⟨t, g⟩ => h3 (g.tail j h1 h2)) |>.same s04⟩
    refine ⟨_, rfl, _, rfl, _, rfl, a, d, n4 d 4, n4 d 0, rfl, s04.seq hS, hb, by omega, fun hok H5 pr xs s5 hpr0 hpr hrt => ?_, fun ⟨i, hi, h⟩ => (qb fun ⟨t, g⟩ => h (g.runs i hi)).same s04⟩
    have hpl5 := s5 _ _ hplL
    have npl : pr ≠ pl := fun z => by rw [z, hplL] at hpr0; cases hpr0
    refine ⟨pr, rfl, ⟨xs, .inl (.inl hpr)⟩, ?_⟩
    have hxl : xs.length = n4 d 4 := by
      have := paired_len hrt
      rw [List.length_map, List.length_range] at this
      exact this
    have hin : ∀ i, i < n4 d 4 → fsR d i + szR d i ≤ (letL d).length := fun i hi => by
      have := (hok i hi).2.2
      omega
    refine for_list (K := K) (xs := xs) (fun i σ H' => (∀ b o, b ≠ pl → H5 b = some o → H' b = some o) ∧ (∀ k, k < i → ∀ j, fsR d k ≤ j → j < fsR d k + szR d k → (letL d).getD j 0 = 65) ∧ H' pl = some (LC (repL d (letL d) i)) ∧ ∃ v5 v6 : Option V, σ = [some (.ref a), some (.int (n4 d 0 : Nat)), some (.int (n4 d 4 : Nat)), some (.int (8 + (n4 d 4 : Int) * 8)), some (.ref pl), v5, v6]) ⟨fun b o _ e => e, fun k h => absurd h (Nat.not_lt_zero k), by rw [repL_zero]; exact hpl5, none, none, rfl⟩ (fun i σ H' _ h => .inl (.inl (h.1 _ _ npl hpr))) ?_ ?_
    · rintro i v σ H6 hv ⟨s6, hz, h6, v5, v6, rfl⟩
      have hi : i < n4 d 4 := by
        have := (List.getElem?_eq_some_iff.mp hv).1
        omega
      obtain ⟨r, hr0, qa, rfl, hqa⟩ := paired_get hrt hv
      have er : r = (fsR d i, szR d i) := by
        rw [List.getElem?_map, List.getElem?_range hi] at hr0
        exact (Option.some.inj hr0).symm
      subst er
      have nqa : qa ≠ pl := fun z => by rw [z, hpl5] at hqa; cases hqa
      have hfit := hin i hi
      have hrise := runs_rise hok i hi
      have eqz : ∀ j, fsR d i ≤ j → j < fsR d i + szR d i → (repL d (letL d) i).getD j 0 = (letL d).getD j 0 := fun j h1 h2 => by
        rw [repL_getD (by omega), if_neg]
        intro hi2
        obtain ⟨k, hk, h3, h4⟩ := (inR_iff d i j).mp hi2
        have := hrise k hk
        omega
      have s06 : ∀ b o, H b = some o → H6 b = some o := fun b o e => s6 _ _ (ne_of_none e hplH) (s5 _ _ (s04 _ _ e))
      refine ⟨qa, _, rfl, .inl (.inl (s6 _ _ nqa hqa)), rfl, _, _, rfl, _, _, rfl, rfl, ?_⟩
      refine ⟨_, rfl, _, rfl, _, rfl, _, rfl, _, _, rfl, rfl, pl, repL d (letL d) i, fsR d i, fsR d i + szR d i, rfl, h6, by rw [repL_len]; exact hfit, by rw [repL_len]; omega, Nat.le_of_lt (n4_lt hb _), fun hzz => ?_, fun ⟨j, h1, h2, h3⟩ => qb (fun ⟨t, g⟩ => h3 (by rw [eqz j h1 h2]; exact g.zero i hi j h1 h2)) |>.same s06⟩
      refine ⟨by show 1 ≤ sizeLine; decide, fun u hu => ?_⟩
      have nplu : pl ≠ u := ne_of_none h6 hu
      have hs1 : (szR d i : Int) < 2 ^ 63 := by omega
      refine ⟨_, rfl, u, _, _, rfl, rfl, upd_same, by omega, hs1, line_ok7 (by show 1 * (szR d i : Int).toNat ≤ _; omega), fun u2 hu2 => ?_⟩
      have nplu2 : pl ≠ u2 := fun z => by rw [← z, upd_ne nplu, h6] at hu2; cases hu2
      have hrep : (List.replicate ((szR d i : Nat) : Int).toNat [V.str (Str.ofString "N")]).flatten = (List.replicate (szR d i) 78).map fun c => V.str (T [c]) := by
        rw [Int.toNat_natCast, List.map_replicate, ← tN]
        generalize szR d i = z
        induction z with
        | zero => rfl
        | succ z ih =>
          rw [List.replicate_succ, List.flatten_cons, ih, List.replicate_succ]
          rfl
      refine ⟨_, rfl, _, rfl, _, rfl, _, rfl, _, rfl, _, _, rfl, rfl, _, rfl, pl, u2, _, _, _, _, rfl, rfl, rfl, rfl, by rw [upd_ne nplu2, upd_ne nplu]; exact h6, upd_same, nplu2, by omega, by omega, by rw [List.length_map, repL_len]; omega, line_ok7 ?_, ?_⟩
      · rw [hrep, List.length_map, List.length_map, repL_len, List.length_replicate]
        omega
      · refine ⟨fun b o hbp e => ?_, fun k hk j h1 h2 => ?_, ?_, some (.int (fsR d i : Nat)), some (.int (szR d i : Nat)), rfl⟩
        · rw [upd_ne hbp, upd_ne (ne_of_none (s6 _ _ hbp e) (new_old hu2)), upd_ne (ne_of_none (s6 _ _ hbp e) hu)]
          exact s6 _ _ hbp e
        · by_cases hki : k = i
          · subst hki
            rw [← eqz j h1 h2]
            exact hzz j h1 h2
          · exact hz k (by omega) j h1 h2
        · rw [upd_same, hrep, show ((fsR d i : Nat) : Int) + ((szR d i : Nat) : Int) = ((fsR d i + szR d i : Nat) : Int) by omega, Int.toNat_natCast, Int.toNat_natCast, ← repL_step hfit]
          show some (HO.lst _) = some (HO.lst _)
          rw [List.map_append, List.map_append, List.map_take, List.map_drop]
    · rintro σ H6 ⟨s6, hz, h6, v5, v6, rfl⟩
      rw [hxl] at hz h6
      have g : Good d ((repL d (letL d) (n4 d 4)).take (n4 d 0)) := ⟨hsize, htail, hok, hz, rfl⟩
      have s06 : Same H H6 := fun b o e => s6 _ _ (ne_of_none e hplH) (s5 _ _ (s04 _ _ e))
      refine ⟨⟨_, rfl⟩, _, rfl, _, rfl, _, rfl, pl, _, rfl, .inl (.inl h6), fun u hu => ?_⟩
      have hcu : (upd H6 u (.lst (L2.cutV ((repL d (letL d) (n4 d 4)).map fun c => V.str (T [c])) none (some (n4 d 0 : Nat))))) u = some (.lst ((((repL d (letL d) (n4 d 4)).take (n4 d 0)).map fun c => T [c]).map V.str)) := by
        rw [upd_same, cutV_to, ← List.map_take, List.map_map]
        rfl
      refine ⟨Str.ofString "", u, _, rfl, rfl, .inl (.inl (.inl hcu)), ?_, ?_⟩
      · rw [sum_ones, show (Str.ofString "").length = 0 by decide +kernel, List.length_take, repL_len]
        omega
      · rw [TL.join_eq, T_nil, join_ones]
        exact q _ g _ (s06.trans (same_upd hu))
end
/-! ### the bytes, as the law reads them -/
def NU : List Str := ["data", "size", "count", "first", "k", "unknown", "before", "start", "length", "j", "text", "code"]
theorem scUnpacked : FnScope NU ["data"] (defScope sUnpacked) := ⟨rfl, rfl, rfl, by decide +kernel, rfl, by decide +kernel, by decide +kernel⟩
theorem cell_arg5 (a : Addr) (c e n i : Nat) : [V.ref a, V.int ((c : Int) + (e : Int) * (0 + ((i : Nat) : Int))), V.int (n : Int)] = [V.ref a, V.int ((c + e * i : Nat) : Int), V.int (n : Int)] := by
  congr 2
  rw [Int.zero_add]
  simp
def cdA (d : List Int) (k : Nat) : Int := d.getD (8 + 8 * n4 d 4 + k / 4) 0 / (if k % 4 = 0 then 64 else if k % 4 = 1 then 16 else if k % 4 = 2 then 4 else 1) % 4
theorem cdA_lt (d : List Int) (k : Nat) : 0 ≤ cdA d k ∧ cdA d k < 4 := ⟨Int.emod_nonneg _ (by decide), Int.emod_lt_of_pos _ (by decide)⟩
theorem letL_at {d : List Int} (hb : Byt d) {k : Nat} (h : 8 + 8 * n4 d 4 + k / 4 < d.length) : (letL d)[k]? = some (chr4 (cdA d k)) := by
  unfold letL
  have hx : (d.drop (8 + 8 * n4 d 4))[k / 4]? = some d[8 + 8 * n4 d 4 + k / 4] := by rw [List.getElem?_drop, List.getElem?_eq_getElem h]
  rw [coded_at _ _ _ hx]
  have hg : d.getD (8 + 8 * n4 d 4 + k / 4) 0 = d[8 + 8 * n4 d 4 + k / 4] := by rw [List.getD_eq_getElem?_getD, List.getElem?_eq_getElem h]; rfl
  unfold cdA
  rw [hg]
  have hbx := hb _ (List.getElem_mem h)
  generalize d[8 + 8 * n4 d 4 + k / 4] = x at hbx
  have h4 : k % 4 = 0 ∨ k % 4 = 1 ∨ k % 4 = 2 ∨ k % 4 = 3 := by omega
  rcases h4 with e | e | e | e <;> rw [e]
  · show some (chr4 (x / 64)) = some (chr4 (x / 64 % 4))
    rw [show x / 64 % 4 = x / 64 by omega]
  · rfl
  · rfl
  · show some (chr4 (x % 4)) = some (chr4 (x / 1 % 4))
    rw [Int.ediv_one]
theorem letL_getD {d : List Int} (hb : Byt d) {k : Nat} (h : 8 + 8 * n4 d 4 + k / 4 < d.length) : (letL d).getD k 0 = chr4 (cdA d k) := by
  rw [List.getD_eq_getElem?_getD, letL_at hb h]
  rfl
theorem cut_chr {x : Int} (h0 : 0 ≤ x) (h4 : x < 4) : cutS (Str.ofString "ACGT") (some x) (some (x + 1)) = T [chr4 x] := by
  have h : x = 0 ∨ x = 1 ∨ x = 2 ∨ x = 3 := by omega
  rcases h with h | h | h | h <;> subst h <;> decide +kernel
theorem wt_at (i : Nat) : atI [V.int 64, V.int 16, V.int 4, V.int 1] ((0 + ((i : Nat) : Int)) % 4) = some (.int (if i % 4 = 0 then 64 else if i % 4 = 1 then 16 else if i % 4 = 2 then 4 else 1)) := by
  rw [show (0 + ((i : Nat) : Int)) % 4 = ((i % 4 : Nat) : Int) by omega]
  have h4 : i % 4 = 0 ∨ i % 4 = 1 ∨ i % 4 = 2 ∨ i % 4 = 3 := by omega
  rcases h4 with e | e | e | e <;> rw [e] <;> rfl
def UN (d : List Int) (n i : Nat) : HO := .lst ((List.range n).map fun j => V.bl (inR d i j))
def UNt (d : List Int) (n i t : Nat) : HO := .lst ((List.range n).map fun j => V.bl (inR d i j || (decide (fsR d i ≤ j) && decide (j < fsR d i + t))))
theorem UNt_zero (d : List Int) (n i : Nat) : UNt d n i 0 = UN d n i := by
  unfold UNt UN
  congr 2
  funext j
  have : (decide (fsR d i ≤ j) && decide (j < fsR d i + 0)) = false := by
    by_cases h : fsR d i ≤ j
    · rw [decide_eq_false (show ¬ j < fsR d i + 0 by omega), Bool.and_false]
    · rw [decide_eq_false h, Bool.false_and]
  rw [this, Bool.or_false]
theorem UNt_last (d : List Int) (n i : Nat) : UNt d n i (szR d i) = UN d n (i + 1) := by
  unfold UNt UN
  congr 2
  funext j
  have : inR d (i + 1) j = (inR d i j || (decide (fsR d i ≤ j) && decide (j < fsR d i + szR d i))) := by
    unfold inR
    rw [List.range_succ, List.any_append]
    simp
  rw [this]
theorem UN_zero (d : List Int) (n : Nat) : UN d n 0 = .lst ((List.range n).map fun _ => V.bl false) := rfl
theorem UNt_step (d : List Int) (n i t : Nat) : UNt d n i (t + 1) = .lst (((List.range n).map fun j => V.bl (inR d i j || (decide (fsR d i ≤ j) && decide (j < fsR d i + t)))).set (fsR d i + t) (V.bl true)) := by
  unfold UNt
  congr 1
  refine List.ext_getElem? fun j => ?_
  rw [List.getElem?_set]
  by_cases hj : j < n
  · rw [List.getElem?_map, List.getElem?_range hj]
    by_cases e : fsR d i + t = j
    · rw [if_pos e, if_pos (by rw [List.length_map, List.length_range]; omega)]
      show some (V.bl _) = some (V.bl true)
      rw [decide_eq_true (show fsR d i ≤ j by omega), decide_eq_true (show j < fsR d i + (t + 1) by omega), Bool.and_self, Bool.or_true]
    · rw [if_neg e, List.getElem?_map, List.getElem?_range hj]
      show some (V.bl _) = some (V.bl _)
      have : decide (j < fsR d i + (t + 1)) = decide (j < fsR d i + t) := decide_eq_decide.mpr (by omega)
      rw [this]
  · rw [List.getElem?_eq_none (by rw [List.length_map, List.length_range]; omega)]
    by_cases e : fsR d i + t = j
    · rw [if_pos e, if_neg (by rw [List.length_map, List.length_range]; omega)]
    · rw [if_neg e, List.getElem?_eq_none (by rw [List.length_map, List.length_range]; omega)]
section
variable {P : Program} {w : World} {K : PySem.W.Frag} {mg : Str → Option Value} {base : Heap}
def spUnp (K : PySem.W.Frag) : Sp := fun vs H Q _ => ∃ (a : Addr) (d : List Int), vs = [.ref a] ∧ SqL K H a (d.map V.int) ∧ Byt d ∧ d.length ≤ 10000 ∧ (∀ t, Good d t → ∀ (H' : Hp) (p : Addr), Same H H' → H' p = some (.lst [.str (T t)]) → Q (.ref p) H') ∧ ((¬ ∃ t, Good d t) → ∀ (H' : Hp) (p : Addr), Same H H' → H' p = some (.lst []) → Q (.ref p) H')
theorem ok_unp {f : Addr} {fd : FuncData} {k : Nat} (F : Fun K "_law_unpacked" "_law_unpacked" sUnpacked f fd) (B : Bl mg) (hN : Has P w K mg base (k + 1) "_law_number" ["data", "at", "count"] (spNumber K)) : FnOk P w K mg base CX0 (k + 2) f fd ["data"] (spUnp K) := by
  obtain ⟨fN, dN, GN, gN, kN, bN⟩ := hN
  refine F.ok scUnpacked (fun vs H Q E h => ?_) (fun cdv A outer s H vs Q E hr h => ?_)
  · obtain ⟨a, d, rfl, _⟩ := h
    rfl
  · obtain ⟨a, d, rfl, hS, hb, hl, q, qb⟩ := h
    have hdl : (d.map V.int).length = d.length := List.length_map _
    have bad : ∀ H', Same H H' → (¬ ∃ t, Good d t) → (0 ≤ sizeLine ∧ ∀ p, H' p = none → Q (.ref p) (upd H' p (.lst []))) := fun H' s' ng => ⟨Nat.zero_le _, fun p hp => qb ng _ p (s'.trans (same_upd hp)) upd_same⟩
    refine ⟨_, (pss_cons (ps_if (pt_cmpR op_lt (pe_callB call_len_seq (by rfl) B.len PySem.boot_len (pa_cons (pv 0) pa_nil)) pe_int (nomark _)) (pss_one (ps_ret (pe_lst pa_nil))) pss_nil)
      (pss_cons (ps_set (i := 1) scUnpacked.nd rfl (.inl rfl) (pe_call GN hr (by rfl) gN kN bN .nil pass0 (pa_cons (pv 0) (pa_cons pe_int (pa_cons pe_int pa_nil)))))
      (pss_cons (ps_set (i := 2) scUnpacked.nd rfl (.inl rfl) (pe_call GN hr (by rfl) gN kN bN .nil pass0 (pa_cons (pv 0) (pa_cons pe_int (pa_cons pe_int pa_nil)))))
      (pss_cons (ps_set (i := 3) scUnpacked.nd rfl (.inl rfl) (pe_op op_add pe_int (pe_op op_mul pe_int (pv 2))))
      (pss_cons (ps_if (pt_cmpR op_ne (pe_callB call_len_seq (by rfl) B.len PySem.boot_len (pa_cons (pv 0) pa_nil)) (pe_op op_add (pv 3) (pe_op op_fdiv (pe_op op_add (pv 1) pe_int) pe_int)) (nomark _)) (pss_one (ps_ret (pe_lst pa_nil))) pss_nil)
      (pss_cons (ps_setLc (i := 5) (own := [("k", 4)]) (g := gName 4) (tt := tYes) (te := tC (.bl false)) (by rfl) scUnpacked.nd rfl rfl (sw_true rfl rfl rfl (by decide +kernel)) (pi_range1 rfl B.range (pa_cons (pv 1) pa_nil)) (blkOk_by (own := [("k", 4)]) (N := NU) (sc := defScope sUnpacked) (by decide +kernel)) (fun _ _ _ _ _ => pg_name (i := 4) scUnpacked.nd rfl (Or.inl rfl)) (fun _ _ _ _ _ => pts_nil) (fun _ _ _ _ _ => pe_bl))
      (pss_cons (ps_set (i := 6) scUnpacked.nd rfl (.inl rfl) (pe_un un_neg pe_int))
      (pss_cons (ps_for PassesOwn.never rfl (pi_range1 rfl B.range (pa_cons (pv 2) pa_nil)) (pg_name (i := 4) scUnpacked.nd rfl (.inl rfl))
        (pss_cons (ps_set (i := 7) scUnpacked.nd rfl (.inl rfl) (pe_call GN hr (by rfl) gN kN bN .nil pass0 (pa_cons (pv 0) (pa_cons (pe_op op_add pe_int (pe_op op_mul pe_int (pv 4))) (pa_cons pe_int pa_nil)))))
      (pss_cons (ps_set (i := 8) scUnpacked.nd rfl (.inl rfl) (pe_call GN hr (by rfl) gN kN bN .nil pass0 (pa_cons (pv 0) (pa_cons (pe_op op_add pe_int (pe_op op_mul pe_int (pv 4))) (pa_cons pe_int pa_nil)))))
      (pss_cons (ps_if (PW.pt (pw_or (pt_cmpR op_le (pv 7) (pv 6) (nomark _)) (pw_or (pt_cmpR op_lt (pv 8) pe_int (nomark _)) (pw_or1 (pt_cmpR op_gt (pe_op op_add (pv 7) (pv 8)) (pv 1) (nomark _)))))) (pss_one (ps_ret (pe_lst pa_nil))) pss_nil)
      (pss_cons (ps_set (i := 6) scUnpacked.nd rfl (.inl rfl) (pe_op op_add (pv 7) (pv 8)))
      (pss_one (ps_for PassesOwn.never rfl (pi_range2 rfl B.range (pa_cons (pv 7) (pa_cons (pv 6) pa_nil))) (pg_name (i := 9) scUnpacked.nd rfl (.inl rfl))
        (pss_one (ps_asg pe_bl (pg_sub (pv 5) (pv 9) set_list))))))))))
      (pss_cons (ps_set (i := 10) scUnpacked.nd rfl (.inl rfl) pe_str)
      (pss_cons (ps_for PassesOwn.never rfl (pi_range1 rfl B.range (pa_cons (pe_op op_mul pe_int (pe_op op_fdiv (pe_op op_add (pv 1) pe_int) pe_int)) pa_nil)) (pg_name (i := 4) scUnpacked.nd rfl (.inl rfl))
        (pss_cons (ps_set (i := 11) scUnpacked.nd rfl (.inl rfl) (pe_op op_mod (pe_callTy call_int1 (by rfl) B.int (by decide +kernel) (pa_cons (pe_op op_fdiv (pe_ix ix_list (pv 0) (pe_op op_add (pv 3) (pe_op op_fdiv (pv 4) pe_int)) (fun _ _ => rfl)) (pe_ix ix_list (pe_lst (pa_cons pe_int (pa_cons pe_int (pa_cons pe_int (pa_cons pe_int pa_nil))))) (pe_op op_mod (pv 4) pe_int) (fun _ _ => rfl))) pa_nil)) pe_int))
      (C8.pss_cut (ps_if (PW.pt (pw_and (pt_cmpR op_ne (pv 11) pe_int (nomark _)) (pw_and1 (PW.pt (pw_or (pt_cmpR op_ge (pv 4) (pv 1) (nomark _)) (pw_or1 (pt_val (pe_ix ix_list (pv 5) (pv 4) (fun _ _ => rfl))))))))) (pss_one (ps_ret (pe_lst pa_nil))) pss_nil)
      (pss_one (ps_if (pt_cmpR op_lt (pv 4) (pv 1) (nomark _)) (pss_one (ps_set (i := 10) scUnpacked.nd rfl (.inl rfl) (pe_op op_add_str (pv 10) (pe_ix ix_list (pe_lst (pa_cons (pe_slice sl_str pe_str (po_some (pv 11)) (po_some (pe_op op_add (pv 11) pe_int))) (pa_cons pe_str pa_nil))) (pe_callTy call_int1 (by rfl) B.int (by decide +kernel) (pa_cons (pe_ix ix_list (pv 5) (pv 4) (fun _ _ => rfl)) pa_nil)) (fun _ _ => rfl))))) pss_nil)))))
      (pss_one (ps_ret (pe_lst (pa_cons (pv 10) pa_nil)))))))))))))), ?_⟩
    refine ⟨_, rfl, a, _, rfl, .inl hS, _, 8, rfl, rfl, _, rfl, ?_⟩
    rw [hdl]
    refine ite2 (fun e => ?_) (fun e => ?_)
    · have e := of_decide_eq_true e
      exact bad H (Same.refl _) fun ⟨t, g⟩ => by
        have := g.size
        omega
    have e := of_decide_eq_false (Bool.eq_false_iff.mpr e)
    have hn := n4_val hb 0
    have hm := n4_val hb 4
    refine ⟨_, rfl, a, d, 0, 4, rfl, hS, hb, by omega, by decide, ?_⟩
    rw [show bn ((d.drop 0).take 4) = (n4 d 0 : Int) from hn]
    refine ⟨_, rfl, a, d, 4, 4, rfl, hS, hb, by omega, by decide, ?_⟩
    rw [show bn ((d.drop 4).take 4) = (n4 d 4 : Int) from hm]
    have hm4 := n4_lt hb 4
    have hn4 := n4_lt hb 0
    refine ⟨_, rfl, 8, _, rfl, rfl, .inl ⟨by omega, by omega⟩, 8, _, rfl, rfl, ?_⟩
    refine ⟨_, rfl, a, _, rfl, .inl hS, _, rfl, _, rfl, _, 3, rfl, rfl, _, 4, rfl, rfl, ⟨by decide, by decide⟩, _, _, rfl, rfl, rfl, _, rfl, iteN (fun e => ?_) (fun e => ?_)⟩
    · exact bad H (Same.refl _) fun ⟨t, g⟩ => e (by
        have := g.size
        rw [hdl]
        show V.int (d.length : Int) = V.int (8 + 8 * (n4 d 4 : Int) + ((n4 d 0 : Int) + 3) / 4)
        congr 1
        omega)
    have hsize : d.length = 8 + 8 * n4 d 4 + (n4 d 0 + 3) / 4 := by
      have e2 : V.int ((d.map V.int).length : Nat) = V.int (8 + 8 * (n4 d 4 : Int) + ((n4 d 0 : Int) + 3) / 4) := e
      have := V.int.inj e2
      rw [hdl] at this
      omega
    have hn2 : n4 d 0 ≤ 40000 := by omega
    have hm2 : n4 d 4 ≤ 10000 := by omega
    have hLl : (letL d).length = 4 * ((n4 d 0 + 3) / 4) := by
      unfold letL
      rw [coded_len, List.length_drop]
      omega
    generalize en : n4 d 0 = n at *
    generalize em : n4 d 4 = m at *
    refine ⟨_, rfl, (n : Int), rfl, by omega, by omega, fun pU hpU => ?_⟩
    have hpU0 := hpU
    refine lc_gen (n := n) (fun j H' => Same H H' ∧ H' pU = some (.lst ((List.range j).map fun _ => V.bl false))) ⟨same_upd hpU, upd_same⟩ (fun j H' hj _ => by rw [Int.toNat_natCast]; exact hj) (fun H' _ => by rw [Int.toNat_natCast]; exact Nat.le_refl _) ?_ ?_
    · rintro j H' v H'' hj ⟨sj, hdj⟩ ⟨rfl, rfl⟩
      refine ⟨rfl, ?_⟩
      dsimp only [tYes]
      rw [if_pos rfl]
      refine ⟨_, hdj, line_lt (by rw [List.length_map, List.length_range]; omega), fun b o e => ?_, ?_⟩
      · rw [upd_ne (ne_of_none e hpU0)]
        exact sj b o e
      · rw [upd_same, List.range_succ, List.map_append]
        rfl
    rintro H1 ⟨s1, hu1⟩
    rw [← UN_zero d n] at hu1
    have hUl : ∀ i, ((List.range n).map fun j => V.bl (inR d i j)).length = n := fun i => by rw [List.length_map, List.length_range]
    refine ⟨(1 : Int), rfl, _, rfl, (m : Int), rfl, by omega, by omega, ?_⟩
    rw [Int.toNat_natCast]
    refine for_range (lo := 0) (n := m) (fun i σ H' => Same H H' ∧ H' pU = some (UN d n i) ∧ (∀ k, k < i → OkR d n k) ∧ ∃ v4 v7 v8 v9 : Option V, σ = [some (.ref a), some (.int (n : Int)), some (.int (m : Int)), some (.int (8 + 8 * (m : Int))), v4, some (.ref pU), some (.int ((leR d i : Int) - 1)), v7, v8, v9, none, none]) ⟨s1, hu1, fun k h => absurd h (Nat.not_lt_zero k), _, none, none, none, rfl⟩ ?_ ?_
    · rintro i σ H2 hi ⟨s2, hu2, hok, v4, v7, v8, v9, rfl⟩
      have hS2 := s2.seq hS
      have f1 := n4_val hb (8 + 8 * i)
      have f2 := n4_val hb (12 + 8 * i)
      refine ⟨_, rfl, _, rfl, 8, _, rfl, rfl, .inl ⟨by decide, by decide⟩, 8, _, rfl, rfl, a, d, 8 + 8 * i, 4, cell_arg5 a 8 8 4 i, hS2, hb, by omega, by decide, ?_⟩
      rw [show bn ((d.drop (8 + 8 * i)).take 4) = (fsR d i : Int) from f1]
      refine ⟨_, rfl, _, rfl, 8, _, rfl, rfl, .inl ⟨by decide, by decide⟩, 12, _, rfl, rfl, a, d, 12 + 8 * i, 4, cell_arg5 a 12 8 4 i, hS2, hb, by omega, by decide, ?_⟩
      rw [show bn ((d.drop (12 + 8 * i)).take 4) = (szR d i : Int) from f2]
      have hf4 : fsR d i < 4294967296 := n4_lt hb _
      have hs4 : szR d i < 4294967296 := n4_lt hb _
      have badi : ¬ OkR d n i → (0 ≤ sizeLine ∧ ∀ p, H2 p = none → Q (.ref p) (upd H2 p (.lst []))) := fun no => bad H2 s2 fun ⟨t, g⟩ => no (by
        have := g.runs i (by rw [em]; exact hi)
        rw [en] at this
        exact this)
      refine ⟨_, rfl, _, rfl, _, _, rfl, rfl, _, rfl, ite2 (fun e => ?_) (fun e => ?_)⟩
      · have e := of_decide_eq_true e
        exact iteT (badi fun o => by
          have := o.1
          omega)
      have e1 := of_decide_eq_false (Bool.eq_false_iff.mpr e)
      refine ⟨_, rfl, _, 1, rfl, rfl, _, rfl, ite2 (fun e => ?_) (fun e => ?_)⟩
      · have e := of_decide_eq_true e
        exact iteT (badi fun o => by
          have := o.2.1
          omega)
      have e2 := of_decide_eq_false (Bool.eq_false_iff.mpr e)
      refine ⟨_, rfl, _, rfl, _, _, rfl, rfl, _, rfl, _, _, rfl, rfl, _, rfl, ite2 (fun e => ?_) (fun e => ?_)⟩
      · have e := of_decide_eq_true e
        exact badi fun o => by
          have := o.2.2
          omega
      have e3 := of_decide_eq_false (Bool.eq_false_iff.mpr e)
      have hokI : OkR d n i := ⟨by omega, by omega, by omega⟩
      refine ⟨_, rfl, _, rfl, _, _, rfl, rfl, ?_⟩
      have lelen : fsR d i + szR d i ≤ 40000 := by omega
      refine ⟨_, rfl, _, rfl, (fsR d i : Int), _, rfl, ⟨by omega, by omega, by omega, by omega⟩, ?_⟩
      rw [show ((fsR d i : Int) + (szR d i : Int) - (fsR d i : Int)).toNat = szR d i by omega]
      refine for_range (lo := (fsR d i : Int)) (n := szR d i) (fun t σ H' => Same H H' ∧ H' pU = some (UNt d n i t) ∧ ∃ v9 : Option V, σ = [some (.ref a), some (.int (n : Int)), some (.int (m : Int)), some (.int (8 + 8 * (m : Int))), some (.int (0 + (i : Nat))), some (.ref pU), some (.int ((fsR d i : Int) + (szR d i : Int))), some (.int (fsR d i : Int)), some (.int (szR d i : Int)), v9, none, none]) ⟨s2, by rw [UNt_zero]; exact hu2, v9, rfl⟩ ?_ ?_
      · rintro t σ H3 ht ⟨s3, hu3, v9, rfl⟩
        refine ⟨_, rfl, _, rfl, pU, _, (fsR d i : Int) + (t : Nat), fsR d i + t, rfl, rfl, hu3, ix_set (by omega) (by rw [List.length_map, List.length_range]; omega), fun b o e => ?_, ?_, _, rfl⟩
        · rw [upd_ne (ne_of_none e hpU0)]
          exact s3 b o e
        · rw [upd_same, UNt_step]
      · rintro σ H3 ⟨s3, hu3, v9, rfl⟩
        rw [UNt_last] at hu3
        refine ⟨s3, hu3, fun k hk => ?_, some (.int (0 + (i : Nat))), some (.int (fsR d i : Int)), some (.int (szR d i : Int)), v9, ?_⟩
        · by_cases hk2 : k = i
          · rw [hk2]
            exact hokI
          · exact hok k (by omega)
        · have e6 : ((leR d (i + 1) : Nat) : Int) - 1 = (fsR d i : Int) + (szR d i : Int) := by
            show ((fsR d i + szR d i + 1 : Nat) : Int) - 1 = _
            omega
          rw [e6]
    · rintro σ H2 ⟨s2, hu2, hok, v4, v7, v8, v9, rfl⟩
      have hlet : ∀ k, k < (letL d).length → (letL d).getD k 0 = chr4 (cdA d k) := fun k hk => letL_getD hb (by rw [em]; omega)
      have hzero : ∀ k, chr4 (cdA d k) = 65 ↔ cdA d k = 0 := fun k => chr4_zero (cdA_lt d k).1 (cdA_lt d k).2
      refine ⟨_, rfl, _, 3, rfl, rfl, _, 4, rfl, rfl, ⟨by decide, by decide⟩, 4, _, rfl, rfl, .inl ⟨by decide, by decide⟩, _, rfl, by omega, by omega, ?_⟩
      rw [show (4 * (((n : Int) + 3) / 4)).toNat = 4 * ((n + 3) / 4) by omega]
      have hrl : (repL d (letL d) m).length = 4 * ((n + 3) / 4) := by rw [repL_len, hLl]
      refine for_range (lo := 0) (n := 4 * ((n + 3) / 4)) (fun i σ H' => Same H H' ∧ H' pU = some (UN d n m) ∧ (∀ k, k < i → (n ≤ k ∨ inR d m k = true) → cdA d k = 0) ∧ ∃ v4 v11 : Option V, σ = [some (.ref a), some (.int (n : Int)), some (.int (m : Int)), some (.int (8 + 8 * (m : Int))), v4, some (.ref pU), some (.int ((leR d m : Int) - 1)), v7, v8, v9, some (.str (T ((repL d (letL d) m).take (min i n)))), v11]) ⟨s2, hu2, fun k h => absurd h (Nat.not_lt_zero k), _, _, by rw [T_nil, Nat.zero_min]; rfl⟩ ?_ ?_
      · rintro i σ H3 hi ⟨s3, hu3, hz, v4, v11, rfl⟩
        have hid : 8 + 8 * m + i / 4 < d.length := by omega
        have wpos : (0 : Int) < (if i % 4 = 0 then 64 else if i % 4 = 1 then 16 else if i % 4 = 2 then 4 else 1) ∧ (if i % 4 = 0 then 64 else if i % 4 = 1 then 16 else if i % 4 = 2 then 4 else 1 : Int) < 1073741824 := by
          split
          · decide
          split
          · decide
          split <;> decide
        refine ⟨_, rfl, _, rfl, _, rfl, _, 4, rfl, rfl, ⟨by decide, by decide⟩, _, _, rfl, rfl, a, _, _, .int d[8 + 8 * m + i / 4], rfl, rfl, s3.seq hS, ?_, by show 4 ≤ sizeLine; decide, fun pw hpw => ⟨_, rfl, _, 4, rfl, rfl, (show (0 : Int) < 4 by decide), pw, _, _, _, rfl, rfl, .inl (.inl upd_same), wt_at i, _, _, rfl, rfl, wpos, .inl ⟨_, rfl, _, 4, rfl, rfl, (show (0 : Int) < 4 by decide), ?_⟩⟩⟩
        · rw [show (8 + 8 * (m : Int)) + (0 + ((i : Nat) : Int)) / 4 = ((8 + 8 * m + i / 4 : Nat) : Int) by omega]
          exact atI_nat (map_int_at hid)
        have ecd : d[8 + 8 * m + i / 4] / (if i % 4 = 0 then 64 else if i % 4 = 1 then 16 else if i % 4 = 2 then 4 else 1) % 4 = cdA d i := by
          unfold cdA
          rw [em, List.getD_eq_getElem?_getD, List.getElem?_eq_getElem hid]
          rfl
        dsimp only
        rw [ecd]
        have s4 := s3.trans (same_upd (o := .lst [V.int 64, V.int 16, V.int 4, V.int 1]) hpw)
        have hu4 := (same_upd (o := .lst [V.int 64, V.int 16, V.int 4, V.int 1]) hpw) _ _ hu3
        generalize upd H3 pw (.lst [V.int 64, V.int 16, V.int 4, V.int 1]) = H4 at s4 hu4 ⊢
        have hat : i < n → atI ((List.range n).map fun j => V.bl (inR d m j)) (0 + ((i : Nat) : Int)) = some (.bl (inR d m i)) := fun h => by
          rw [Int.zero_add]
          refine atI_nat ?_
          rw [List.getElem?_map, List.getElem?_range h]
          rfl
        have badi : cdA d i ≠ 0 → (n ≤ i ∨ inR d m i = true) → (0 ≤ sizeLine ∧ ∀ p, H4 p = none → Q (.ref p) (upd H4 p (.lst []))) := fun hc hor => bad H4 s4 fun ⟨t, g⟩ => by
          refine hc ((hzero i).mp ?_)
          rw [← hlet i (by rw [hLl]; exact hi)]
          rcases hor with h | h
          · exact g.tail i (by rw [en]; exact h) (by rw [hLl]; exact hi)
          · obtain ⟨k, hk, h1, h2⟩ := (inR_iff _ _ _).mp h
            exact g.zero k (by rw [em]; exact hk) i h1 h2
        refine ⟨fun σ H' => H' = H4 ∧ ((n ≤ i ∨ inR d m i = true) → cdA d i = 0) ∧ σ = [some (.ref a), some (.int (n : Int)), some (.int (m : Int)), some (.int (8 + 8 * (m : Int))), some (.int (0 + (i : Nat))), some (.ref pU), some (.int ((leR d m : Int) - 1)), v7, v8, v9, some (.str (T ((repL d (letL d) m).take (min i n)))), some (.int (cdA d i))], ?_, ?_⟩
        · refine ⟨_, rfl, rfl, _, rfl, iteN (fun e => ?_) (fun e => ?_)⟩
          · have hc : cdA d i ≠ 0 := fun z => e (by rw [z])
            refine ⟨_, rfl, _, rfl, _, _, rfl, rfl, _, rfl, ite2 (fun e => ?_) (fun e => ?_)⟩
            · have e := of_decide_eq_true e
              exact iteT (badi hc (.inl (by omega)))
            · have e := of_decide_eq_false (Bool.eq_false_iff.mpr e)
              refine ⟨_, rfl, _, rfl, pU, _, _, _, rfl, rfl, .inl (.inl hu4), hat (by omega), _, rfl, ite2 (fun e2 => ?_) (fun e2 => ?_)⟩
              · exact badi hc (.inr e2)
              · exact ⟨rfl, fun h => by
                  rcases h with h | h
                  · omega
                  · exact absurd h e2, rfl⟩
          · exact iteF ⟨rfl, fun _ => V.int.inj e, rfl⟩
        rintro σ H5 ⟨rfl, hci, rfl⟩
        refine ⟨_, rfl, _, rfl, _, _, rfl, rfl, _, rfl, ite2 (fun e => ?_) (fun e => ?_)⟩
        · have e := of_decide_eq_true e
          have hin : i < n := by omega
          refine ⟨_, rfl, _, rfl, _, rfl, _, rfl, _, 1, rfl, rfl, _, rfl, Str.ofString "ACGT", rfl, by rw [show (Str.ofString "ACGT").length = 4 by decide +kernel]; decide, by show 2 ≤ sizeLine; decide, fun pl hpl => ⟨_, rfl, _, rfl, pU, _, _, _, rfl, rfl, .inl (.inl (same_upd hpl _ _ hu4)), hat hin, .inr ⟨_, rfl, ?_⟩⟩⟩
          have cl := cdA_lt d i
          rw [cut_chr cl.1 cl.2, tN]
          have fin : ∀ c : Nat, (if inR d m i = true then 78 else (letL d).getD i 0) = c → (T ((repL d (letL d) m).take (min i n))).length + (T [c]).length ≤ sizeLine ∧ (Same H (upd H5 pl (.lst [.str (T [chr4 (cdA d i)]), .str (T [78])])) ∧ upd H5 pl (.lst [.str (T [chr4 (cdA d i)]), .str (T [78])]) pU = some (UN d n m) ∧ (∀ k, k < i + 1 → (n ≤ k ∨ inR d m k = true) → cdA d k = 0) ∧ ∃ v4 v11 : Option V, [some (.ref a), some (.int (n : Int)), some (.int (m : Int)), some (.int (8 + 8 * (m : Int))), some (.int (0 + (i : Nat))), some (.ref pU), some (.int ((leR d m : Int) - 1)), v7, v8, v9, some (.str (T ((repL d (letL d) m).take (min i n)) ++ T [c])), some (.int (cdA d i))] = [some (.ref a), some (.int (n : Int)), some (.int (m : Int)), some (.int (8 + 8 * (m : Int))), v4, some (.ref pU), some (.int ((leR d m : Int) - 1)), v7, v8, v9, some (.str (T ((repL d (letL d) m).take (min (i + 1) n)))), v11]) := fun c ec => by
            refine ⟨?_, s4.trans (same_upd hpl), same_upd hpl _ _ hu4, fun k hk => ?_, some (.int (0 + (i : Nat))), some (.int (cdA d i)), ?_⟩
            · rw [T_len, T_len, List.length_take]
              exact line_ok6 (by rw [hrl]; show _ + 1 ≤ _; omega)
            · by_cases hk2 : k = i
              · rw [hk2]
                exact hci
              · exact hz k (by omega)
            · rw [T_app, show min i n = i by omega, show min (i + 1) n = i + 1 by omega, List.take_add_one, repL_at (by rw [hLl]; exact hi), ec]
              rfl
          by_cases hr1 : inR d m i = true
          · rw [hr1]
            obtain ⟨f1, f2⟩ := fin 78 (by rw [if_pos hr1])
            exact ⟨pl, _, _, .str (T [78]), rfl, rfl, .inl (.inl upd_same), rfl, _, _, rfl, rfl, f1, f2⟩
          · rw [Bool.eq_false_iff.mpr hr1]
            obtain ⟨f1, f2⟩ := fin (chr4 (cdA d i)) (by rw [if_neg hr1, hlet i (by rw [hLl]; exact hi)])
            exact ⟨pl, _, _, .str (T [chr4 (cdA d i)]), rfl, rfl, .inl (.inl upd_same), rfl, _, _, rfl, rfl, f1, f2⟩
        · have e := of_decide_eq_false (Bool.eq_false_iff.mpr e)
          refine ⟨s4, hu4, fun k hk => ?_, some (.int (0 + (i : Nat))), some (.int (cdA d i)), ?_⟩
          · by_cases hk2 : k = i
            · rw [hk2]
              exact hci
            · exact hz k (by omega)
          · rw [show min (i + 1) n = min i n by omega]
      · rintro σ H3 ⟨s3, hu3, hz, v4, v11, rfl⟩
        rw [show min (4 * ((n + 3) / 4)) n = n by omega]
        refine ⟨_, rfl, by show 1 ≤ sizeLine; decide, fun p hp => q _ ⟨?_, fun j h1 h2 => ?_, fun i hi => ?_, fun i hi j h1 h2 => ?_, ?_⟩ _ p (s3.trans (same_upd hp)) upd_same⟩
        · rw [en, em]
          exact hsize
        · rw [en] at h1
          rw [hlet j h2, hzero]
          exact hz j (by rw [← hLl]; exact h2) (.inl h1)
        · rw [en]
          rw [em] at hi
          exact hok i hi
        · rw [em] at hi
          have ho := (hok i hi).2.2
          have hj : j < (letL d).length := by rw [hLl]; omega
          rw [hlet j hj, hzero]
          exact hz j (by rw [← hLl]; exact hj) (.inr ((inR_iff _ _ _).mpr ⟨i, hi, h1, h2⟩))
        · rw [en, em]
end
/-! ### expressions that give byte lists -/
theorem ret_of {te : TE} {D : Ends} {σ : L2.St} {H : Hp} (h : te σ H D.rt) : tRet te D σ H := h
def YB (te : TE) (σ : L2.St) (H0 : Hp) (n : Nat) : Prop := ∀ (H : Hp) (Q : VK), Same H0 H → (∀ (H' : Hp) (p : Addr) (l : List Int), Same H H' → H' p = some (LI l) → Byt l → l.length ≤ n → Q (.ref p) H') → te σ H Q
def YN (te : TE) (σ : L2.St) (H0 : Hp) (v : Int) : Prop := ∀ (H : Hp) (Q : VK), Same H0 H → Q (.int v) H → te σ H Q
def YO (tl : TO) (σ : L2.St) (H0 : Hp) : Prop := ∃ lo, ∀ (H : Hp) (R : Option Int → Hp → Prop), Same H0 H → R lo H → tl σ H R
section
variable {σ : L2.St} {H0 : Hp}
theorem yn_var {i : Nat} {v : Int} (h : σ[i]? = some (some (.int v))) : YN (tVar i) σ H0 v := fun _ _ _ q => ⟨_, h, q⟩
theorem yn_c {v : Int} : YN (tC (.int v)) σ H0 v := fun _ _ _ q => q
theorem yn_op0 {g : Int → Int → Int} {ta tb : TE} {x y : Int} (ha : YN ta σ H0 x) (hb : YN tb σ H0 y) : YN (tOp (rI0 fun i j => .int (g i j)) ta tb) σ H0 (g x y) := fun H Q s q => ha H _ s (hb H _ s ⟨x, y, rfl, rfl, q⟩)
theorem yn_op {C : Int → Int → Prop} {g : Int → Int → Int} {ta tb : TE} {x y : Int} (ha : YN ta σ H0 x) (hb : YN tb σ H0 y) (hc : C x y) : YN (tOp (rI C fun i j => .int (g i j)) ta tb) σ H0 (g x y) := fun H Q s q => ha H _ s (hb H _ s ⟨x, y, rfl, rfl, hc, q⟩)
theorem yn_max {te : TE} {x y : Int} {tx : TE} (hx : YN tx σ H0 x) (h : YN te σ H0 y) : YN (tCB rMaxP (tCons tx (tCons te tNil))) σ H0 (if y > x then y else x) := fun H Q s q => hx H _ s (h H _ s ⟨x, y, rfl, q⟩)
theorem yo_none : YO tNoPart σ H0 := ⟨none, fun _ _ _ r => r⟩
theorem yo_some {te : TE} {v : Int} (h : YN te σ H0 v) : YO (tPart te) σ H0 := ⟨some v, fun H R s r => h H _ s ⟨v, rfl, r⟩⟩
theorem yb_cat {ta tb : TE} {n m : Nat} (ha : YB ta σ H0 n) (hb : YB tb σ H0 m) (h : n + m ≤ 1000000) : YB (tOp rCat ta tb) σ H0 (n + m) := fun H Q s q => ha H _ s fun H1 p l s1 hp b1 hl => hb H1 _ (s.trans s1) fun H2 p2 l2 s2 hp2 b2 hl2 =>
  ⟨p, p2, _, _, rfl, rfl, s2 _ _ hp, hp2, line_ok6 (by rw [List.length_map, List.length_map]; omega), fun p3 hp3 => q _ p3 (l ++ l2) ((s1.trans s2).trans (same_upd hp3)) (by rw [upd_same]; show some (HO.lst (l.map V.int ++ l2.map V.int)) = some (HO.lst ((l ++ l2).map V.int)); rw [List.map_append]) (b1.app b2) (by rw [List.length_append]; omega)⟩
theorem yb_cut {K : PySem.W.Frag} {i N : Nat} {a : Addr} {d : List Int} {tl th : TO} (hσ : σ[i]? = some (some (.ref a))) (hS : SqL K H0 a (d.map V.int)) (hb : Byt d) (hl : d.length ≤ N) (h1 : YO tl σ H0) (h2 : YO th σ H0) : YB (tSl (rSlL K) (tVar i) tl th) σ H0 N := fun H Q s q => by
  obtain ⟨lo, h1⟩ := h1
  obtain ⟨hi, h2⟩ := h2
  refine ⟨_, hσ, h1 H _ s (h2 H _ s ⟨a, _, rfl, s.seq hS, fun p hp => ?_⟩)⟩
  obtain ⟨m, em, hm, hml⟩ : ∃ m : List Int, L2.cutV (d.map V.int) lo hi = m.map V.int ∧ (∀ x ∈ m, x ∈ d) ∧ m.length ≤ d.length := by
    unfold L2.cutV
    refine ⟨_, by rw [← List.map_drop, ← List.map_take], fun x hx => List.mem_of_mem_drop (List.mem_of_mem_take hx), ?_⟩
    rw [List.length_take, List.length_drop]
    omega
  exact q _ p m (same_upd hp) (by rw [upd_same, em]) (fun x hx => hb x (hm x hx)) (by omega)
theorem yb_by {te : TE} {v : Int} {E : XK} (h : YN te σ H0 v) (hv : 0 ≤ v) : YB (tCall spBytes [] E (tCons te (tCons (tC (.int 4)) tNil))) σ H0 4 := fun H Q s q => h H _ s ⟨v.toNat, 4, by
  show [V.int v, V.int 4] = [V.int (v.toNat : Int), V.int ((4 : Nat) : Int)]
  rw [Int.toNat_of_nonneg hv]
  rfl, by decide, fun H' p s' _ hp' => q H' p _ s' hp' (be_byt 4 _) (by rw [be_len]; exact Nat.le_refl _)⟩
theorem yb_one {te : TE} {v : Int} (h : YN te σ H0 v) (h0 : 0 ≤ v) (h1 : v < 256) : YB (tLst (tCons te tNil)) σ H0 1 := fun H Q s q => h H _ s ⟨by show 1 ≤ sizeLine; decide, fun p hp => q _ p [v] (same_upd hp) upd_same (fun x hx => by
  obtain rfl : x = v := by simpa using hx
  exact ⟨h0, h1⟩) (Nat.le_refl _)⟩
theorem yb_var {i N : Nat} {a : Addr} {d : List Int} (hσ : σ[i]? = some (some (.ref a))) (hS : H0 a = some (LI d)) (hb : Byt d) (hl : d.length ≤ N) : YB (tVar i) σ H0 N := fun H Q s q => ⟨_, hσ, q H a d (Same.refl _) (s _ _ hS) hb hl⟩
theorem yn_num {K : PySem.W.Frag} {E : XK} {i c : Nat} {v : Int} {a : Addr} {d : List Int} {te : TE} (hσ : σ[i]? = some (some (.ref a))) (hS : SqL K H0 a (d.map V.int)) (hb : Byt d) (h : YN te σ H0 v) (hc : v = (c : Int)) (hl : c + 4 ≤ d.length) : YN (tCall (spNumber K) [] E (tCons (tVar i) (tCons te (tCons (tC (.int 4)) tNil)))) σ H0 (n4 d c : Int) := fun H Q s q => ⟨_, hσ, h H _ s ⟨a, d, c, 4, by subst hc; rfl, s.seq hS, hb, hl, by decide, by
  rw [show bn ((d.drop c).take 4) = (n4 d c : Int) from n4_val hb c]
  exact q⟩⟩
end
theorem at3b {b0 b1 b2 i : Int} (h0 : 0 ≤ b0 ∧ b0 < 256) (h1 : 0 ≤ b1 ∧ b1 < 256) (h2 : 0 ≤ b2 ∧ b2 < 256) (i0 : 0 ≤ i) (i3 : i < 3) : ∃ b : Int, 0 ≤ b ∧ b < 256 ∧ atI [V.int b0, V.int b1, V.int b2] i = some (.int b) := by
  have h : i = 0 ∨ i = 1 ∨ i = 2 := by omega
  rcases h with h | h | h <;> subst h
  · exact ⟨b0, h0.1, h0.2, rfl⟩
  · exact ⟨b1, h1.1, h1.2, rfl⟩
  · exact ⟨b2, h2.1, h2.2, rfl⟩
theorem b256 (x : Int) : 0 ≤ x % 256 ∧ x % 256 < 256 := ⟨Int.emod_nonneg _ (by decide), Int.emod_lt_of_pos _ (by decide)⟩
def NRC : List Str := ["data", "x", "count", "at", "kind", "start", "pair"]
theorem scRunCh : FnScope NRC ["data", "x"] (defScope sRunCh) := ⟨rfl, rfl, rfl, by decide +kernel, rfl, by decide +kernel, by decide +kernel⟩
theorem scChanged : FnScope ["data", "x", "kind", "at"] ["data", "x"] (defScope sChanged) := ⟨rfl, rfl, rfl, by decide +kernel, rfl, by decide +kernel, by decide +kernel⟩
section
variable {P : Program} {w : World} {K : PySem.W.Frag} {mg : Str → Option Value} {base : Heap}
def spRunCh : Sp := fun vs H Q _ => ∃ (a : Addr) (d : List Int) (x : Int), vs = [.ref a, .int x] ∧ H a = some (LI d) ∧ Byt d ∧ d.length ≤ 400 ∧ 8 + 8 * n4 d 4 ≤ d.length ∧ 0 ≤ x ∧ ∀ (H' : Hp) (p : Addr) (l : List Int), Same H H' → H' p = some (LI l) → Byt l → l.length ≤ 3000 → Q (.ref p) H'
theorem ok_runCh {f : Addr} {fd : FuncData} {k : Nat} (F : Fun K "_law_run_changed" "_law_run_changed" sRunCh f fd) (mmax : mg "max" = none) (hN : Has P w K mg base (k + 1) "_law_number" ["data", "at", "count"] (spNumber K)) (hBy : Has P w K mg base (k + 1) "_law_bytes" ["number", "count"] spBytes) : FnOk P w K mg base CX0 (k + 2) f fd ["data", "x"] spRunCh := by
  obtain ⟨fN, dN, GN, gN, kN, bN⟩ := hN
  obtain ⟨fBy, dBy, GBy, gBy, kBy, bBy⟩ := hBy
  refine F.ok scRunCh (fun vs H Q E h => ?_) (fun cdv A outer s H vs Q E hr h => ?_)
  · obtain ⟨a, d, x, rfl, _⟩ := h
    rfl
  · obtain ⟨a, d, x, rfl, hp, hb, hl, h8, x0, q⟩ := h
    have hS : SqL K H a (d.map V.int) := .inl (.inl hp)
    have qq : ∀ n, n ≤ 3000 → ∀ (H' : Hp) (p : Addr) (l : List Int), Same H H' → H' p = some (LI l) → Byt l → l.length ≤ n → Q (.ref p) H' := fun n hn H' p l s' hp' hb' hl' => q H' p l s' hp' hb' (by omega)
    refine ⟨_, (pss_cons (ps_set (i := 2) scRunCh.nd rfl (.inl rfl) (pe_call GN hr (by rfl) gN kN bN .nil pass0 (pa_cons (pv 0) (pa_cons pe_int (pa_cons pe_int pa_nil)))))
      (pss_cons (ps_if (pt_cmpR op_eq (pv 2) pe_int (nomark _)) (pss_one (ps_ret (pe_op op_cat (pv 0) (pe_lst (pa_cons (pe_op op_mod (pv 1) pe_int) pa_nil))))) pss_nil)
      (pss_cons (ps_set (i := 3) scRunCh.nd rfl (.inl rfl) (pe_op op_add pe_int (pe_op op_mul pe_int (pe_op op_mod (pv 1) (pv 2)))))
      (pss_cons (ps_set (i := 4) scRunCh.nd rfl (.inl rfl) (pe_op op_mod (pe_op op_fdiv (pv 1) pe_int) pe_int))
      (pss_cons (ps_if (pt_cmpR op_eq (pv 4) pe_int (nomark _)) (pss_one (ps_ret (pe_op op_cat (pe_op op_cat (pe_op op_cat (pe_op op_cat (pe_slice sl_list (pv 0) po_none (po_some pe_int)) (pe_call GBy hr (by rfl) gBy kBy bBy .nil pass0 (pa_cons (pe_op op_add (pv 2) pe_int) (pa_cons pe_int pa_nil)))) (pe_slice sl_list (pv 0) (po_some pe_int) (po_some (pv 3)))) (pe_slice sl_list (pv 0) (po_some (pv 3)) (po_some (pe_op op_add (pv 3) pe_int)))) (pe_slice sl_list (pv 0) (po_some (pv 3)) po_none)))) pss_nil)
      (pss_cons (ps_if (pt_cmpR op_eq (pv 4) pe_int (nomark _)) (pss_one (ps_ret (pe_op op_cat (pe_op op_cat (pe_slice sl_list (pv 0) po_none (po_some (pv 3))) (pe_call GBy hr (by rfl) gBy kBy bBy .nil pass0 (pa_cons (pe_callB (r := rMaxP) (call_max2 rfl) (by rfl) mmax (by decide +kernel) (pa_cons pe_int (pa_cons (pe_op op_sub (pe_op op_add (pe_call GN hr (by rfl) gN kN bN .nil pass0 (pa_cons (pv 0) (pa_cons (pv 3) (pa_cons pe_int pa_nil)))) (pe_op op_mod (pe_op op_fdiv (pv 1) pe_int) pe_int)) pe_int) pa_nil))) (pa_cons pe_int pa_nil)))) (pe_slice sl_list (pv 0) (po_some (pe_op op_add (pv 3) pe_int)) po_none)))) pss_nil)
      (pss_cons (ps_if (pt_cmpR op_eq (pv 4) pe_int (nomark _)) (pss_one (ps_ret (pe_op op_cat (pe_op op_cat (pe_slice sl_list (pv 0) po_none (po_some (pe_op op_add (pv 3) pe_int))) (pe_call GBy hr (by rfl) gBy kBy bBy .nil pass0 (pa_cons (pe_op op_mod (pe_op op_fdiv (pv 1) pe_int) pe_int) (pa_cons pe_int pa_nil)))) (pe_slice sl_list (pv 0) (po_some (pe_op op_add (pv 3) pe_int)) po_none)))) pss_nil)
      (pss_cons (ps_set (i := 5) scRunCh.nd rfl (.inl rfl) (pe_call GN hr (by rfl) gN kN bN .nil pass0 (pa_cons (pv 0) (pa_cons (pv 3) (pa_cons pe_int pa_nil)))))
      (pss_cons (ps_set (i := 6) scRunCh.nd rfl (.inl rfl) (pe_op op_cat (pe_op op_cat (pe_call GBy hr (by rfl) gBy kBy bBy .nil pass0 (pa_cons (pv 5) (pa_cons pe_int pa_nil))) (pe_call GBy hr (by rfl) gBy kBy bBy .nil pass0 (pa_cons pe_int (pa_cons pe_int pa_nil)))) (pe_call GBy hr (by rfl) gBy kBy bBy .nil pass0 (pa_cons (pe_op op_add (pv 5) pe_int) (pa_cons pe_int pa_nil)))))
      (pss_one (ps_ret (pe_op op_cat (pe_op op_cat (pe_op op_cat (pe_op op_cat (pe_op op_cat (pe_slice sl_list (pv 0) po_none (po_some pe_int)) (pe_call GBy hr (by rfl) gBy kBy bBy .nil pass0 (pa_cons (pe_op op_add (pv 2) pe_int) (pa_cons pe_int pa_nil)))) (pe_slice sl_list (pv 0) (po_some pe_int) (po_some (pv 3)))) (pv 6)) (pe_call GBy hr (by rfl) gBy kBy bBy .nil pass0 (pa_cons (pe_callB (r := rMaxP) (call_max2 rfl) (by rfl) mmax (by decide +kernel) (pa_cons pe_int (pa_cons (pe_op op_sub (pe_call GN hr (by rfl) gN kN bN .nil pass0 (pa_cons (pv 0) (pa_cons (pe_op op_add (pv 3) pe_int) (pa_cons pe_int pa_nil)))) pe_int) pa_nil))) (pa_cons pe_int pa_nil)))) (pe_slice sl_list (pv 0) (po_some (pe_op op_add (pv 3) pe_int)) po_none))))))))))))), ?_⟩
    refine ⟨_, rfl, a, d, 4, 4, rfl, hS, hb, by omega, by decide, ?_⟩
    rw [show bn ((d.drop 4).take 4) = (n4 d 4 : Int) from n4_val hb 4]
    generalize em : n4 d 4 = m at *
    refine ⟨_, rfl, rfl, _, rfl, ite2 (fun e => ?_) (fun e => ?_)⟩
    · exact ret_of (yb_cat (yb_var rfl hp hb hl) (yb_one (yn_op (yn_var rfl) yn_c (by decide)) (b256 x).1 (b256 x).2) (by decide) H _ (Same.refl _) (qq _ (by decide)))
    have hm : m ≠ 0 := fun z => e (by rw [z]; rfl)
    have y0 := Int.emod_nonneg x (show (m : Int) ≠ 0 by omega)
    have y1 := Int.emod_lt_of_pos x (show (0 : Int) < (m : Int) by omega)
    obtain ⟨y, hy⟩ : ∃ y : Nat, x % (m : Int) = (y : Int) := ⟨(x % (m : Int)).toNat, by omega⟩
    refine ⟨_, rfl, _, rfl, x, _, rfl, rfl, (show (0 : Int) < (m : Int) by omega), 8, _, rfl, rfl, .inl ⟨by decide, by decide⟩, 8, _, rfl, rfl, ?_⟩
    dsimp only
    rw [hy]
    have hyl : 8 + 8 * y + 8 ≤ d.length := by omega
    have cutd : ∀ {σ : L2.St} {tl th : TO}, σ[0]? = some (some (.ref a)) → YO tl σ H → YO th σ H → YB (tSl (rSlL K) (tVar 0) tl th) σ H 400 := fun h0 h1 h2 => yb_cut h0 hS hb hl h1 h2
    refine ⟨_, rfl, x, 64, rfl, rfl, ⟨by decide, by decide⟩, _, 4, rfl, rfl, (show (0 : Int) < 4 by decide), ?_⟩
    refine ⟨_, rfl, rfl, _, rfl, ite2 (fun e => ?_) (fun e => ?_)⟩
    · exact ret_of (yb_cat (yb_cat (yb_cat (yb_cat (cutd rfl yo_none (yo_some yn_c)) (yb_by (yn_op0 (yn_var rfl) yn_c) (by omega)) (by decide)) (cutd rfl (yo_some yn_c) (yo_some (yn_var rfl))) (by decide)) (cutd rfl (yo_some (yn_var rfl)) (yo_some (yn_op0 (yn_var rfl) yn_c))) (by decide)) (cutd rfl (yo_some (yn_var rfl)) yo_none) (by decide) H _ (Same.refl _) (qq _ (by decide)))
    refine ⟨_, rfl, rfl, _, rfl, ite2 (fun e => ?_) (fun e => ?_)⟩
    · exact ret_of (yb_cat (yb_cat (cutd rfl yo_none (yo_some (yn_var rfl))) (yb_by (yn_max yn_c (yn_op0 (yn_op0 (yn_num rfl hS hb (yn_var rfl) (c := 8 + 8 * y) (by omega) (by omega)) (yn_op (yn_op (yn_var rfl) yn_c ⟨by decide, by decide⟩) yn_c (by decide))) yn_c)) (by split <;> omega)) (by decide)) (cutd rfl (yo_some (yn_op0 (yn_var rfl) yn_c)) yo_none) (by decide) H _ (Same.refl _) (qq _ (by decide)))
    refine ⟨_, rfl, rfl, _, rfl, ite2 (fun e => ?_) (fun e => ?_)⟩
    · exact ret_of (yb_cat (yb_cat (cutd rfl yo_none (yo_some (yn_op0 (yn_var rfl) yn_c))) (yb_by (yn_op (yn_op (yn_var rfl) yn_c ⟨by decide, by decide⟩) yn_c (by decide)) (Int.emod_nonneg _ (by decide))) (by decide)) (cutd rfl (yo_some (yn_op0 (yn_var rfl) yn_c)) yo_none) (by decide) H _ (Same.refl _) (qq _ (by decide)))
    refine ⟨_, rfl, _, rfl, a, d, 8 + 8 * y, 4, ?_, hS, hb, by omega, by decide, ?_⟩
    · show [V.ref a, V.int (8 + 8 * (y : Int)), V.int 4] = [V.ref a, V.int ((8 + 8 * y : Nat) : Int), V.int ((4 : Nat) : Int)]
      congr 2
    rw [show bn ((d.drop (8 + 8 * y)).take 4) = (n4 d (8 + 8 * y) : Int) from n4_val hb _]
    refine yb_cat (yb_cat (yb_by (yn_var rfl) (by omega)) (yb_by yn_c (by decide)) (by decide)) (yb_by (yn_op0 (yn_var rfl) yn_c) (by omega)) (by decide) H _ (Same.refl _) fun H1 pp lp s1 hpp hbp hlp => ?_
    have cutd1 : ∀ {σ : L2.St} {tl th : TO}, σ[0]? = some (some (.ref a)) → YO tl σ H1 → YO th σ H1 → YB (tSl (rSlL K) (tVar 0) tl th) σ H1 400 := fun h0 h1 h2 => yb_cut h0 (s1.seq hS) hb hl h1 h2
    exact ret_of (yb_cat (yb_cat (yb_cat (yb_cat (yb_cat (cutd1 rfl yo_none (yo_some yn_c)) (yb_by (yn_op0 (yn_var rfl) yn_c) (by omega)) (by decide)) (cutd1 rfl (yo_some yn_c) (yo_some (yn_var rfl))) (by decide)) (yb_var (N := 12) rfl hpp hbp hlp) (by decide)) (yb_by (yn_max yn_c (yn_op0 (yn_num rfl (s1.seq hS) hb (yn_op0 (yn_var rfl) yn_c) (c := 12 + 8 * y) (by omega) (by omega)) yn_c)) (by split <;> omega)) (by decide)) (cutd1 rfl (yo_some (yn_op0 (yn_var rfl) yn_c)) yo_none) (by decide) H1 _ (Same.refl _) fun H' p l s' h1 h2 h3 => qq _ (by decide) H' p l (s1.trans s') h1 h2 h3)
def spChanged : Sp := fun vs H Q _ => ∃ (a : Addr) (d : List Int) (x : Int), vs = [.ref a, .int x] ∧ H a = some (LI d) ∧ Byt d ∧ d.length ≤ 400 ∧ 8 + 8 * n4 d 4 ≤ d.length ∧ 0 ≤ x ∧ ∀ (H' : Hp) (p : Addr) (l : List Int), (∀ b o, b ≠ a → H b = some o → H' b = some o) → H' p = some (LI l) → Byt l → l.length ≤ 3000 → Q (.ref p) H'
theorem byt_set {l : List Int} (h : Byt l) (j : Nat) {b : Int} (h0 : 0 ≤ b) (h1 : b < 256) : Byt (l.set j b) := fun x hx => by
  rcases List.mem_or_eq_of_mem_set hx with z | z
  · exact h x z
  · rw [z]
    exact ⟨h0, h1⟩
theorem ok_changed {f : Addr} {fd : FuncData} {k : Nat} (F : Fun K "_law_changed" "_law_changed" sChanged f fd) (B : Bl mg) (mmin : mg "min" = none) (hR : Has P w K mg base (k + 2) "_law_row" ["cell", "count", "bound"] (spRow K)) (hRC : Has P w K mg base (k + 2) "_law_run_changed" ["data", "x"] spRunCh) : FnOk P w K mg base CX0 (k + 3) f fd ["data", "x"] spChanged := by
  obtain ⟨fR, dR', GR, gR, kR, bR⟩ := hR
  obtain ⟨fRC, dRC, GRC, gRC, kRC, bRC⟩ := hRC
  refine F.ok scChanged (fun vs H Q E h => ?_) (fun cdv A outer s H vs Q E hr h => ?_)
  · obtain ⟨a, d, x, rfl, _⟩ := h
    rfl
  · obtain ⟨a, d, x, rfl, hp, hb, hl, h8, x0, q0⟩ := h
    have q : ∀ (H' : Hp) (p : Addr) (l : List Int), Same H H' → H' p = some (LI l) → Byt l → l.length ≤ 3000 → Q (.ref p) H' := fun H' p l s' => q0 H' p l fun b o _ e => s' b o e
    have hS : SqL K H a (d.map V.int) := .inl (.inl hp)
    have hdl : (d.map V.int).length = d.length := List.length_map _
    refine ⟨_, (pss_cons (ps_set (i := 2) scChanged.nd rfl (.inl rfl) (pe_op op_mod (pv 1) pe_int))
      (pss_cons (ps_set (i := 3) scChanged.nd rfl (.inl rfl) (pe_op op_mod (pe_op op_fdiv (pv 1) pe_int) (pe_op op_add (pe_callB call_len_seq (by rfl) B.len PySem.boot_len (pa_cons (pv 0) pa_nil)) pe_int)))
      (pss_cons (ps_if (pt_cmpR op_eq (pv 2) pe_int (nomark _)) (pss_one (ps_ret (pe_call GR hr (by rfl) gR kR bR .nil pass0 (pa_cons (pe_op op_fdiv (pv 1) pe_int) (pa_cons (pe_op op_mod (pe_op op_fdiv (pv 1) pe_int) pe_int) (pa_cons pe_int pa_nil)))))) pss_nil)
      (pss_cons (ps_if (pt_cmpR op_lt (pv 2) pe_int (nomark _)) (pss_one (ps_ret (pe_call GRC hr (by rfl) gRC kRC bRC .nil pass0 (pa_cons (pv 0) (pa_cons (pe_op op_fdiv (pv 1) pe_int) pa_nil))))) pss_nil)
      (C8.pss_cut (ps_if (PW.pt (pw_or (pt_cmpR op_eq (pv 2) pe_int (nomark _)) (pw_or1 (pt_cmpR op_eq (pe_callB call_len_seq (by rfl) B.len PySem.boot_len (pa_cons (pv 0) pa_nil)) (pv 3) (nomark _))))) (pss_one (ps_ret (pe_slice sl_list (pv 0) po_none (po_some (pv 3))))) pss_nil)
      (pss_cons (ps_if (pt_cmpR op_eq (pv 2) pe_int (nomark _)) (pss_one (ps_ret (pe_op op_cat (pe_op op_cat (pe_slice sl_list (pv 0) po_none (po_some (pv 3))) (pe_lst (pa_cons (pe_op op_mod (pe_op op_fdiv (pv 1) pe_int) pe_int) pa_nil))) (pe_slice sl_list (pv 0) (po_some (pv 3)) po_none)))) pss_nil)
      (pss_cons (ps_asg (pe_ix ix_list (pe_lst (pa_cons (pe_op op_mod (pe_op op_fdiv (pv 1) pe_int) pe_int) (pa_cons (pe_op op_mod (pe_op op_add (pe_ix ix_list (pv 0) (pv 3) (fun _ _ => rfl)) pe_int) pe_int) (pa_cons (pe_op op_mod (pe_op op_add (pe_ix ix_list (pv 0) (pv 3) (fun _ _ => rfl)) pe_int) pe_int) pa_nil)))) (pe_op op_mod (pe_op op_fdiv (pv 1) pe_int) pe_int) (fun _ _ => rfl)) (pg_sub (pv 0) (pv 3) set_list))
      (C8.pss_cut (ps_if (pt_cmpR op_eq (pv 2) pe_int (nomark _)) (pss_one (ps_asg (pe_op op_mod (pe_op op_fdiv (pv 1) pe_int) pe_int) (pg_sub (pv 0) (pe_op op_sub (pe_op op_sub (pe_callB call_len_seq (by rfl) B.len PySem.boot_len (pa_cons (pv 0) pa_nil)) pe_int) (pe_op op_mod (pe_op op_fdiv (pv 1) pe_int) (pe_callB (call_min2 rfl) (by rfl) mmin (by decide +kernel) (pa_cons pe_int (pa_cons (pe_callB call_len_seq (by rfl) B.len PySem.boot_len (pa_cons (pv 0) pa_nil)) pa_nil))))) set_list))) pss_nil)
      (pss_one (ps_ret (pv 0))))))))))), ?_⟩
    refine ⟨_, rfl, x, 8, rfl, rfl, (show (0 : Int) < 8 by decide), ?_⟩
    refine ⟨_, rfl, x, 8, rfl, rfl, ⟨by decide, by decide⟩, _, rfl, a, _, rfl, .inl hS, _, 1, rfl, rfl, _, _, rfl, rfl, (show (0 : Int) < ((d.map V.int).length : Int) + 1 by omega), ?_⟩
    dsimp only
    rw [hdl]
    have y0 := Int.emod_nonneg (x / 8) (show (d.length : Int) + 1 ≠ 0 by omega)
    have y1 := Int.emod_lt_of_pos (x / 8) (show (0 : Int) < (d.length : Int) + 1 by omega)
    obtain ⟨y, hy⟩ : ∃ y : Nat, x / 8 % ((d.length : Int) + 1) = (y : Int) := ⟨(x / 8 % ((d.length : Int) + 1)).toNat, by omega⟩
    rw [hy]
    have cutd : ∀ {σ : L2.St} {tl th : TO}, σ[0]? = some (some (.ref a)) → YO tl σ H → YO th σ H → YB (tSl (rSlL K) (tVar 0) tl th) σ H 400 := fun h0 h1 h2 => yb_cut h0 hS hb hl h1 h2
    refine ⟨_, rfl, rfl, _, rfl, ite2 (fun e => ?_) (fun e => ?_)⟩
    · have z0 := Int.emod_nonneg (x / 8) (show (71 : Int) ≠ 0 by decide)
      have z1 := Int.emod_lt_of_pos (x / 8) (show (0 : Int) < 71 by decide)
      exact ⟨_, rfl, x, 8, rfl, rfl, ⟨by decide, by decide⟩, _, rfl, x, 8, rfl, rfl, ⟨by decide, by decide⟩, _, 71, rfl, rfl, (show (0 : Int) < 71 by decide), x / 8, x / 8 % 71, 256, rfl, z0, by omega, by decide, by decide, fun H' p xs s' _ hp' hl' hx => q H' p xs s' hp' hx (by omega)⟩
    refine ⟨_, rfl, _, 3, rfl, rfl, _, rfl, ite2 (fun e => ?_) (fun e => ?_)⟩
    · exact ⟨_, rfl, _, rfl, x, 8, rfl, rfl, ⟨by decide, by decide⟩, a, d, x / 8, rfl, hp, hb, hl, h8, by omega, fun H' p l s' h1 h2 h3 => q H' p l s' h1 h2 h3⟩
    refine ⟨fun σ H' => H' = H ∧ y < d.length ∧ σ = [some (.ref a), some (.int x), some (.int (x % 8)), some (.int (y : Int))], ?_, ?_⟩
    · have done : tRet (tSl (rSlL K) (tVar 0) tNoPart (tPart (tVar 3))) { nx := fun σ H' => H' = H ∧ y < d.length ∧ σ = [some (.ref a), some (.int x), some (.int (x % 8)), some (.int (y : Int))], rt := Q, bk := fun _ _ => False, ct := fun _ _ => False } [some (.ref a), some (.int x), some (.int (x % 8)), some (.int (y : Int))] H := ret_of (cutd rfl yo_none (yo_some (yn_var rfl)) H _ (Same.refl _) fun H' p l s' h1 h2 h3 => q H' p l s' h1 h2 (by omega))
      refine ⟨_, rfl, rfl, _, rfl, ite2 (fun e => ?_) (fun e => ?_)⟩
      · exact iteT done
      · refine ⟨_, rfl, a, _, rfl, .inl hS, _, rfl, rfl, _, rfl, ite2 (fun e => ?_) (fun e => ?_)⟩
        · exact done
        · refine ⟨rfl, ?_, rfl⟩
          have e := of_decide_eq_false (Bool.eq_false_iff.mpr e)
          rw [hdl] at e
          have : d.length ≠ y := fun z => e (by rw [z])
          omega
    rintro σ H1 ⟨rfl, hyd, rfl⟩
    refine ⟨_, rfl, rfl, _, rfl, ite2 (fun e => ?_) (fun e => ?_)⟩
    · exact ret_of (yb_cat (yb_cat (cutd rfl yo_none (yo_some (yn_var rfl))) (yb_one (yn_op (yn_op (yn_var rfl) yn_c ⟨by decide, by decide⟩) yn_c (by decide)) (b256 _).1 (b256 _).2) (by decide)) (cutd rfl (yo_some (yn_var rfl)) yo_none) (by decide) H1 _ (Same.refl _) fun H' p l s' h1 h2 h3 => q H' p l s' h1 h2 (by omega))
    obtain ⟨b, b0, b1, hat⟩ := at3b (b256 (x / 1009)) (b256 (d[y] + 1)) (b256 (d[y] + 64)) (Int.emod_nonneg (x / 7) (show (3 : Int) ≠ 0 by decide)) (Int.emod_lt_of_pos (x / 7) (show (0 : Int) < 3 by decide))
    have hdy : atI (d.map V.int) (y : Int) = some (.int d[y]) := atI_nat (map_int_at hyd)
    refine ⟨_, rfl, x, 1009, rfl, rfl, ⟨by decide, by decide⟩, _, 256, rfl, rfl, (show (0 : Int) < 256 by decide), _, rfl, _, rfl, a, _, _, _, rfl, rfl, hS, hdy, _, 1, rfl, rfl, _, 256, rfl, rfl, (show (0 : Int) < 256 by decide), _, rfl, _, rfl, a, _, _, _, rfl, rfl, hS, hdy, _, 64, rfl, rfl, _, 256, rfl, rfl, (show (0 : Int) < 256 by decide), by show 3 ≤ sizeLine; decide, fun pl hpl => ?_⟩
    have sl := same_upd (o := .lst [V.int (x / 1009 % 256), V.int ((d[y] + 1) % 256), V.int ((d[y] + 64) % 256)]) hpl
    have hpa : pl ≠ a := fun z => by rw [z, hp] at hpl; cases hpl
    refine ⟨_, rfl, x, 7, rfl, rfl, ⟨by decide, by decide⟩, _, 3, rfl, rfl, (show (0 : Int) < 3 by decide), pl, _, _, .int b, rfl, rfl, .inl (.inl upd_same), hat, ?_⟩
    refine ⟨_, rfl, _, rfl, a, _, (y : Int), y, rfl, rfl, sl _ _ hp, ix_set rfl (by rw [hdl]; exact hyd), ?_⟩
    have e2 : (d.map V.int).set y (V.int b) = (d.set y b).map V.int := (List.map_set).symm
    rw [e2]
    generalize hH2 : upd (upd H1 pl (.lst [V.int (x / 1009 % 256), V.int ((d[y] + 1) % 256), V.int ((d[y] + 64) % 256)])) a (.lst ((d.set y b).map V.int)) = H2
    have h2a : H2 a = some (LI (d.set y b)) := by rw [← hH2, upd_same]
    have h2o : ∀ b o, b ≠ a → H1 b = some o → H2 b = some o := fun c o hc e => by
      rw [← hH2, upd_ne hc]
      exact sl _ _ e
    have hbs := byt_set hb y b0 b1
    generalize hd2 : d.set y b = d2 at h2a hbs
    have hl2 : d2.length = d.length := by rw [← hd2, List.length_set]
    refine ⟨fun σ H' => (∀ b o, b ≠ a → H1 b = some o → H' b = some o) ∧ ∃ d3, H' a = some (LI d3) ∧ Byt d3 ∧ d3.length = d.length ∧ σ = [some (.ref a), some (.int x), some (.int (x % 8)), some (.int (y : Int))], ?_, ?_⟩
    · refine ⟨_, rfl, rfl, _, rfl, ite2 (fun e => ?_) (fun e => ?_)⟩
      · have hd2l : (d2.map V.int).length = d2.length := List.length_map _
        have hS2 : SqL K H2 a (d2.map V.int) := .inl (.inl h2a)
        have mpos : (0 : Int) < (if ((d2.map V.int).length : Int) < 3 then ((d2.map V.int).length : Int) else 3) := by
          rw [hd2l]
          split <;> omega
        have m0 := Int.emod_nonneg (x / 11) (show (if ((d2.map V.int).length : Int) < 3 then ((d2.map V.int).length : Int) else 3) ≠ 0 by omega)
        have m1 := Int.emod_lt_of_pos (x / 11) mpos
        have m2 : (if ((d2.map V.int).length : Int) < 3 then ((d2.map V.int).length : Int) else 3) ≤ ((d2.map V.int).length : Int) := by split <;> omega
        generalize hg : (if ((d2.map V.int).length : Int) < 3 then ((d2.map V.int).length : Int) else 3) = g at *
        obtain ⟨j, hj⟩ : ∃ j : Nat, ((d2.map V.int).length : Int) - 1 - x / 11 % g = (j : Int) := ⟨(((d2.map V.int).length : Int) - 1 - x / 11 % g).toNat, by omega⟩
        refine ⟨_, rfl, x, 4099, rfl, rfl, ⟨by decide, by decide⟩, _, 256, rfl, rfl, (show (0 : Int) < 256 by decide), _, rfl, _, rfl, a, _, rfl, .inl hS2, _, 1, rfl, rfl, _, rfl, x, 11, rfl, rfl, ⟨by decide, by decide⟩, _, rfl, a, _, rfl, .inl hS2, 3, _, rfl, _, _, rfl, rfl, ?_⟩
        dsimp only
        rw [hg]
        refine ⟨mpos, _, _, rfl, rfl, a, _, _, j, rfl, rfl, h2a, ix_set hj (by omega), fun c o hc e => ?_, d2.set j (x / 4099 % 256), ?_, byt_set hbs j (b256 _).1 (b256 _).2, by rw [List.length_set, hl2], rfl⟩
        · rw [upd_ne hc]
          exact h2o c o hc e
        · rw [upd_same]
          exact congrArg (fun z => some (HO.lst z)) List.map_set.symm
      · exact ⟨h2o, d2, h2a, hbs, hl2, rfl⟩
    rintro σ H3 ⟨h3o, d3, h3a, h3b, h3l, rfl⟩
    exact ⟨_, rfl, q0 H3 a d3 h3o h3a h3b (by omega)⟩
end
/-! ### data as a whole -/
def Asc (l : List Nat) : Prop := ∀ c ∈ l, c < 128
def dS (l : List Nat) : PyData := .str (T l)
def dL (ls : List (List Nat)) : PyData := .list (ls.map dS)
def dR (rs : List (List Nat × List Nat)) : PyData := .list (rs.map fun r => .tuple [dS r.1, dS r.2])
theorem can_dS {l : List Nat} (h : Asc l) : (dS l).canLay0 = true := by
  show PyData.strOk (T l) = true
  unfold PyData.strOk
  rw [Array.all_eq_true]
  intro i hi
  have hi2 : i < l.length := by rw [T_size] at hi; exact hi
  have e : (T l).cps[i]? = l[i]? := T_at l i
  rw [Array.getElem?_eq_getElem hi, List.getElem?_eq_getElem hi2] at e
  rw [Option.some.inj e]
  have := h _ (List.getElem_mem hi2)
  exact decide_eq_true (by omega)
theorem can_dL {ls : List (List Nat)} (h : ∀ l ∈ ls, Asc l) : (dL ls).canLay0 = true := by
  show PyData.canLayAll0 (ls.map dS) = true
  induction ls with
  | nil => rfl
  | cons l r ih =>
    show ((dS l).canLay0 && PyData.canLayAll0 (r.map dS)) = true
    rw [can_dS (h l List.mem_cons_self), ih fun x hx => h x (List.mem_cons_of_mem _ hx)]
    rfl
theorem depth_dL (ls : List (List Nat)) : PyData.depth (dL ls) ≤ 64 := by
  have : PyData.depthAll (ls.map dS) = 0 := by
    induction ls with
    | nil => rfl
    | cons l r ih =>
      show max (PyData.depth (dS l)) (PyData.depthAll (r.map dS)) = 0
      rw [ih]
      rfl
  show PyData.depthAll (ls.map dS) + 1 ≤ 64
  omega
theorem shaped_dL {ls : List (List Nat)} (h : ∀ l ∈ ls, Asc l) : SeqAt.shaped (dL ls) = true := by
  unfold SeqAt.shaped
  rw [can_dL h, decide_eq_true (depth_dL ls)]
  rfl
theorem can_dR {rs : List (List Nat × List Nat)} (h : ∀ r ∈ rs, Asc r.1 ∧ Asc r.2) : (dR rs).canLay0 = true := by
  show PyData.canLayAll0 (rs.map fun r => .tuple [dS r.1, dS r.2]) = true
  induction rs with
  | nil => rfl
  | cons l r ih =>
    show (((dS l.1).canLay0 && ((dS l.2).canLay0 && true)) && PyData.canLayAll0 (r.map fun r => .tuple [dS r.1, dS r.2])) = true
    rw [can_dS (h l List.mem_cons_self).1, can_dS (h l List.mem_cons_self).2, ih fun x hx => h x (List.mem_cons_of_mem _ hx)]
    rfl
theorem depth_dR (rs : List (List Nat × List Nat)) : PyData.depth (dR rs) ≤ 64 := by
  have : PyData.depthAll (rs.map fun r => .tuple [dS r.1, dS r.2]) ≤ 1 := by
    induction rs with
    | nil => exact Nat.zero_le _
    | cons l r ih =>
      show max (max 0 (max 0 0) + 1) (PyData.depthAll (r.map fun r => .tuple [dS r.1, dS r.2])) ≤ 1
      omega
  show PyData.depthAll (rs.map fun r => .tuple [dS r.1, dS r.2]) + 1 ≤ 64
  omega
theorem shaped_dR {rs : List (List Nat × List Nat)} (h : ∀ r ∈ rs, Asc r.1 ∧ Asc r.2) : SeqAt.shaped (dR rs) = true := by
  unfold SeqAt.shaped
  rw [can_dR h, decide_eq_true (depth_dR rs)]
  rfl
/-! ### bytes back -/
theorem bn_be : ∀ c n : Nat, bn (be c n) = ((n % 256 ^ c : Nat) : Int)
  | 0, n => by
    rw [Nat.pow_zero, Nat.mod_one]
    rfl
  | c + 1, n => by
    have key : ∀ (l : List Int) (a : Int), l.foldl (fun a x => a * 256 + x) a = a * 256 ^ l.length + l.foldl (fun a x => a * 256 + x) 0 := by
      intro l
      induction l with
      | nil =>
        intro a
        show a = a * 256 ^ 0 + 0
        omega
      | cons x r ih =>
        intro a
        rw [List.foldl_cons, List.foldl_cons, ih (a * 256 + x), ih (0 * 256 + x), List.length_cons, Int.pow_succ, Int.zero_mul, Int.zero_add, Int.add_mul, Int.mul_assoc, Int.mul_comm 256, Int.add_assoc]
    have ih := bn_be c n
    unfold bn at ih ⊢
    show (be c n).foldl (fun a x => a * 256 + x) (0 * 256 + ((n / 256 ^ c % 256 : Nat) : Int)) = _
    rw [key, ih, be_len, Int.zero_mul, Int.zero_add]
    have e2 : (n / 256 ^ c % 256) * 256 ^ c + n % 256 ^ c = n % 256 ^ (c + 1) := by
      rw [Nat.pow_succ, Nat.mod_mul, Nat.mul_comm, Nat.add_comm]
    rw [← e2, Int.natCast_add, Int.natCast_mul, Int.natCast_pow]
    rfl
theorem bn_be4 {n : Nat} (h : n < 4294967296) : bn (be 4 n) = (n : Int) := by
  rw [bn_be, Nat.mod_eq_of_lt (Nat.lt_of_lt_of_le h (by decide))]
/-! ### what the law asks of the packed form it builds -/
theorem n4_of {a b : List Int} {x p : Nat} (hp : a.length = p) (hx : x < 4294967296) : n4 (a ++ (be 4 x ++ b)) p = x := by
  have ht : (be 4 x ++ b).take 4 = be 4 x := by
    have := List.take_left (l₁ := be 4 x) (l₂ := b)
    rw [be_len] at this
    exact this
  unfold n4
  rw [← hp, List.drop_left, ht, bn_be4 hx]
  omega
theorem packed_len {l : List Nat} : (packed l).length ≤ 9 * l.length + 12 := by
  have hr : (runs l).length ≤ l.length := runsTo_len l l.length
  unfold packed
  rw [List.length_append, List.length_append, List.length_append, be_len, be_len, rb_len, List.length_map, List.length_range]
  omega
theorem packed_head {l : List Nat} (hl : l.length ≤ 100000) : 8 + 8 * n4 (packed l) 4 ≤ (packed l).length := by
  have hr : (runs l).length ≤ l.length := runsTo_len l l.length
  have h := n4_of (a := be 4 l.length) (b := (runs l).flatMap rb ++ (List.range ((l.length + 3) / 4)).map (qb l)) (x := (runs l).length) (p := 4) (be_len _ _) (by omega)
  have e : packed l = be 4 l.length ++ (be 4 (runs l).length ++ ((runs l).flatMap rb ++ (List.range ((l.length + 3) / 4)).map (qb l))) := by
    unfold packed
    simp only [List.append_assoc]
  rw [← e] at h
  rw [h]
  unfold packed
  rw [List.length_append, List.length_append, List.length_append, be_len, be_len, rb_len, List.length_map, List.length_range]
  omega
/-! ### isinstance of a caught error without fields -/
def rIsE2 (K : PySem.W.Frag) (C a : Addr) (cls : Value) (d : Option Addr) : List V → Hp → VK → Prop := fun xs H Q => cls = .ref C ∧ d = none ∧ rIsE K C a xs H Q
theorem call_isE2 {X : Cx} {a C : Addr} {oe : Obj} {cls : Value} {d : Option Addr} {pn : List (Addr × Obj)} (T : ExcC X.K C) (hz : Zc cls d oe) (hf : ∃ vs, oe.data = .fields vs) : CallR (X.suite a ((a, oe) :: pn)) (.builtin "isinstance") (rIsE2 X.K C a cls d) := by
  intro pins s σ H xs us Q I r h
  obtain ⟨rfl, rfl, h⟩ := h
  exact call_isE T hz hf pins s σ H xs us Q I r h
structure Kn (K : PySem.W.Frag) (mg : Str → Option Value) (C hE : Addr) : Prop where
  E : ExcC K C
  gH : mg "HomeError" = some (.ref hE)
  xm : PySem.W.exmOne K (.ref C) (.ref hE) = some true
  gC : mg "InvalidPack" = some (.ref C)
  kC : PySem.W.kitOne K (.ref C) (.ref C) = some true
  pL : ∃ p, mg "InvalidLine" = some (.ref p) ∧ PySem.W.kitOne K (.ref C) (.ref p) = some false
  pN : ∃ p, mg "NotAnIndex" = some (.ref p) ∧ PySem.W.kitOne K (.ref C) (.ref p) = some false
  pT : ∃ p, mg "Truncated" = some (.ref p) ∧ PySem.W.kitOne K (.ref C) (.ref p) = some false
  pD : ∃ p, mg "Damaged" = some (.ref p) ∧ PySem.W.kitOne K (.ref C) (.ref p) = some false
  mV : mg "ValueError" = none
  kV : PySem.W.kitOne K (.ref C) (.type "ValueError") = some true
section
variable {K : PySem.W.Frag}
def tIs (K : PySem.W.Frag) (C : Addr) (i : Nat) (a : Addr) (cls : Value) (d : Option Addr) (c : V) : TE := tCB (rIsE2 K C a cls d) (tCons (tVar i) (tCons (tC c) tNil))
def tOther (n : Int) : TS := tRet (tLst (tCons (tC (.str (Str.ofString "other"))) (tCons (tC (.int n)) tNil)))
def tSuite (K : PySem.W.Frag) (C p1 p2 p3 p4 : Addr) (a : Addr) (cls : Value) (d : Option Addr) : TS :=
  tSeq (tAsg (tOrV (tIs K C 3 a cls d (.ref p1)) (tOrV (tIs K C 3 a cls d (.ref p2)) (tIs K C 3 a cls d (.ref p3)))) (gName 4))
  (tSeq (tIfS (tAnd (tB (tIs K C 3 a cls d (.ref C))) (tAnd (tB (tIs K C 3 a cls d (.ty "ValueError"))) (tAnd (tNot (tB (tVar 4))) (tNot (tB (tIs K C 3 a cls d (.ref p4))))))) (tRet (tLst tNil)) tNext) (tOther 2))
def tBody (K : PySem.W.Frag) (C : Addr) (W : WX) : TS :=
  tSeq (tAsg (tCallS (spUnpack K C) (WE W) (tCons (tVar 1) tNil)) (gName 2))
  (tSeq (tIfS (tOr (tNot (tB (tCB (rIsi K) (tCons (tVar 2) (tCons (tC (.ty "str")) tNil))))) (tTest (tOp (rNeD K) (tVar 1) (tVar 0)))) (tOther 1) tNext) (tRet (tLst (tCons (tVar 2) tNil))))
theorem kit_other {K : PySem.W.Frag} {C D : Addr} {b : Bool} (hne : (C == D) = false) (hd : PySem.W.hasDictIn K D = true) (ht : PySem.W.typeIn K (.ref D) = some (.type "type")) (hs : PySem.W.subIn K (.ref C) (.ref D) = some b) : PySem.W.kitOne K (.ref C) (.ref D) = some b := by
  obtain ⟨cd, hc, _⟩ := PySem.W.any_some hd
  have n1 : ¬ (Value.ref C == Value.ref D) = true := fun z => by
    have e : C = D := Value.ref.inj (beq_iff_eq.mp z)
    rw [e] at hne
    simp at hne
  unfold PySem.W.kitOne
  rw [if_neg n1]
  have e2 : ((PySem.W.clsIn K D).isSome && PySem.W.typeIn K (.ref D) == some (.type "type")) = true := by rw [hc, ht] <;> rfl
  show (if ((PySem.W.clsIn K D).isSome && PySem.W.typeIn K (.ref D) == some (.type "type")) = true then PySem.W.subIn K (.ref C) (.ref D) else none) = some b
  rw [if_pos e2]
  exact hs
theorem kit_self {K : PySem.W.Frag} {C : Addr} : PySem.W.kitOne K (.ref C) (.ref C) = some true := by
  unfold PySem.W.kitOne
  rw [if_pos (by simp)]
theorem kit_value {K : PySem.W.Frag} {C : Addr} (hs : PySem.W.subIn K (.ref C) (.type "ValueError") = some true) : PySem.W.kitOne K (.ref C) (.type "ValueError") = some true := by
  have n1 : ¬ (Value.ref C == Value.type "ValueError") = true := fun z => by cases beq_iff_eq.mp z
  unfold PySem.W.kitOne
  rw [if_neg n1]
  have e2 : PySem.W.kitMeta "ValueError" = true := by decide +kernel
  show (if PySem.W.kitMeta "ValueError" = true then PySem.W.subIn K (.ref C) (.type "ValueError") else none) = some true
  rw [if_pos e2]
  exact hs
end
theorem scTold : FnScope ["data", "handed", "text", "error", "others"] ["data"] (defScope sTold) := ⟨rfl, rfl, rfl, by decide +kernel, rfl, by decide +kernel, by decide +kernel⟩
theorem scLaw : FnScope ["script", "k", "shape", "text", "data"] ["script"] (defScope sLaw) := ⟨rfl, rfl, rfl, by decide +kernel, rfl, by decide +kernel, by decide +kernel⟩
theorem chr4_lt (x : Int) : chr4 x < 128 := by
  unfold chr4
  split
  · decide
  split
  · decide
  split <;> decide
theorem asc_good {d : List Int} {t : List Nat} (g : Good d t) : Asc t := fun c hc => by
  rw [g.text] at hc
  have hc := List.mem_of_mem_take hc
  unfold repL at hc
  obtain ⟨j, _, rfl⟩ := List.mem_map.mp hc
  split
  · decide
  · rw [List.getD_eq_getElem?_getD]
    cases h : (letL d)[j]? with
    | none => decide
    | some c =>
      have hm := List.mem_of_getElem? h
      unfold letL coded at hm
      obtain ⟨b, _, hb⟩ := List.mem_flatMap.mp hm
      unfold quad at hb
      simp only [List.mem_cons, List.not_mem_nil, or_false] at hb
      show c < 128
      rcases hb with e | e | e | e <;> rw [e] <;> exact chr4_lt _
theorem can_one {t : List Nat} (h : Asc t) : (PyData.list [.str (T t)]).canLay0 = true := can_dL (ls := [t]) fun l hl => by
  obtain rfl : l = t := by simpa using hl
  exact h
theorem shaped_one {t : List Nat} (h : Asc t) : SeqAt.shaped (.list [.str (T t)]) = true := shaped_dL (ls := [t]) fun l hl => by
  obtain rfl : l = t := by simpa using hl
  exact h
theorem dp_one {K : PySem.W.Frag} {H : Hp} {a : Addr} {z : Str} (h : H a = some (.lst [.str z])) : Dp K H (.ref a) (.list [.str z]) := .lst (.inl (.inl h)) (.cons (.str z) .nil)
theorem dp_none {K : PySem.W.Frag} {H : Hp} {a : Addr} (h : H a = some (.lst [])) : Dp K H (.ref a) (.list []) := .lst (.inl (.inl h)) .nil
theorem cut_some (l : List Nat) (lo hi : Option Int) : ∃ m : List Nat, cutS (T l) lo hi = T m ∧ (∀ c ∈ m, c ∈ l) ∧ m.length ≤ l.length := by
  refine ⟨_, rfl, fun c hc => List.mem_of_mem_drop (List.mem_of_mem_take hc), ?_⟩
  rw [List.length_take, List.length_drop, T_list]
  omega
theorem cut_dna {l : List Nat} (h : Dna l) (lo hi : Option Int) : ∃ m : List Nat, cutS (T l) lo hi = T m ∧ Dna m ∧ m.length ≤ l.length := by
  obtain ⟨m, e, hm, hl⟩ := cut_some l lo hi
  exact ⟨m, e, fun c hc => h c (hm c hc), hl⟩
section
variable {P : Program} {w : World} {K : PySem.W.Frag} {mg : Str → Option Value} {base : Heap}
def spTold (K : PySem.W.Frag) : Sp := fun vs H Q _ => ∃ (a : Addr) (d : List Int), vs = [.ref a] ∧ SqL K H a (d.map V.int) ∧ Byt d ∧ d.length ≤ 10000 ∧ (∀ t, Good d t → ∀ (H' : Hp) (p : Addr), Same H H' → H' p = some (.lst [.str (T t)]) → Q (.ref p) H') ∧ ((¬ ∃ t, Good d t) → ∀ (H' : Hp) (p : Addr), Same H H' → H' p = some (.lst []) → Q (.ref p) H')
theorem ok_told {f C hE : Addr} {fd : FuncData} (F : Fun K "_law_told" "_law_told" sTold f fd) (B : Bl mg) (mlist : mg "list" = none) (D : Kn K mg C hE) (hU : HasX P w K mg base 5 "unpack" ["data"] (spUnpack K C)) : FnOk P w K mg base CX0 6 f fd ["data"] (spTold K) := by
  obtain ⟨fU, dU, GU, gU, kU, bU⟩ := hU
  obtain ⟨p1, g1, k1⟩ := D.pL
  obtain ⟨p2, g2, k2⟩ := D.pN
  obtain ⟨p3, g3, k3⟩ := D.pT
  obtain ⟨p4, g4, k4⟩ := D.pD
  refine F.ok scTold (fun vs H Q E h => ?_) (fun cdv A outer s H vs Q E hr h => ?_)
  · obtain ⟨a, d, rfl, _⟩ := h
    rfl
  · obtain ⟨a, d, rfl, hS, hb, hl, q, qb⟩ := h
    have hr5 : Room 5 _ := hr.mono (by decide)
    refine ⟨_, (pss_cons (ps_set (i := 1) scTold.nd rfl (.inl rfl) (pe_callTy call_list_of (by rfl) mlist (by decide +kernel) (pa_cons (pv 0) pa_nil)))
      (pss_one (ps_try_as (i := 3) (tb := tBody K C) (ts := tSuite K C p1 p2 p3 p4) (Wout := fun _ _ _ _ => False) rfl rfl scTold.nd rfl rfl ⟨rfl, by decide, Or.inl D.gH⟩ takes0
 (fun W pn xe tk _ => (pss_cons (ps_set (i := 2) scTold.nd rfl (Or.inl rfl) (pe_callS GU hr5 (by rfl) gU kU bU (fun σ => passAt tk σ) (pa_cons (pv 1) pa_nil)))
      (pss_cons (ps_if (PW.pt (pw_or (pt_not (pt_val (pe_callB call_isi (by rfl) B.isin (by decide +kernel) (pa_cons (pv 2) (pa_cons (pe_bltn (v := .ty "str") (by rfl) B.str (by decide +kernel) rfl) pa_nil))))) (pw_or1 (pt_cmpR (op_neD hr.units) (pv 1) (pv 0) (nomark _))))) (pss_one (ps_ret (pe_lst (pa_cons pe_str (pa_cons pe_int pa_nil))))) pss_nil)
      (pss_one (ps_ret (pe_lst (pa_cons (pv 2) pa_nil)))))))
 (fun ae oe cls d pn hz hf => (pss_cons (ps_set (i := 4) scTold.nd rfl (Or.inl rfl) (pe_or (pe_callB (call_isE2 D.E hz hf) (by rfl) B.isin (by decide +kernel) (pa_cons (pv 3) (pa_cons (pe_glob (v := .ref p1) (by rfl) g1 rfl) pa_nil))) (pe_or (pe_callB (call_isE2 D.E hz hf) (by rfl) B.isin (by decide +kernel) (pa_cons (pv 3) (pa_cons (pe_glob (v := .ref p2) (by rfl) g2 rfl) pa_nil))) (pe_one (pe_callB (call_isE2 D.E hz hf) (by rfl) B.isin (by decide +kernel) (pa_cons (pv 3) (pa_cons (pe_glob (v := .ref p3) (by rfl) g3 rfl) pa_nil)))))))
      (pss_cons (ps_if (PW.pt (pw_and (pt_val (pe_callB (call_isE2 D.E hz hf) (by rfl) B.isin (by decide +kernel) (pa_cons (pv 3) (pa_cons (pe_glob (v := .ref C) (by rfl) D.gC rfl) pa_nil)))) (pw_and (pt_val (pe_callB (call_isE2 D.E hz hf) (by rfl) B.isin (by decide +kernel) (pa_cons (pv 3) (pa_cons (pe_bltn (v := .ty "ValueError") (by rfl) D.mV (by decide +kernel) rfl) pa_nil)))) (pw_and (pt_not (pt_val (pv 4))) (pw_and1 (pt_not (pt_val (pe_callB (call_isE2 D.E hz hf) (by rfl) B.isin (by decide +kernel) (pa_cons (pv 3) (pa_cons (pe_glob (v := .ref p4) (by rfl) g4 rfl) pa_nil)))))))))) (pss_one (ps_ret (pe_lst pa_nil))) pss_nil)
      (pss_one (ps_ret (pe_lst (pa_cons pe_str (pa_cons pe_int pa_nil))))))))))), ?_⟩
    refine ⟨_, rfl, a, _, rfl, .inl hS, fun ph hph => ?_⟩
    have sh := same_upd (o := LI d) hph
    refine ⟨_, rfl, ph, d, rfl, .inl (.inl upd_same), hb, by omega, fun t ht H2 s2 => ?_, fun ng H2 s2 => ?_⟩
    · refine ⟨_, rfl, .str (T t), .ty "str", _, _, true, rfl, .ty _, .base (.str _), kit_ty (by decide +kernel), true, rfl, iteF ?_⟩
      refine ⟨_, rfl, _, rfl, dI d, dI d, dp_dI (.inl (.inl (s2 _ _ upd_same))), dp_dI ((sh.trans s2).seq hS), shaped_dI _, shaped_dI _, _, rfl, ?_⟩
      rw [eqv_ints]
      exact iteF ⟨_, rfl, by show 1 ≤ sizeLine; decide, fun p hp => q t ht _ p ((sh.trans s2).trans (same_upd hp)) upd_same⟩
    · refine ⟨true, D.xm, fun _ ae hae => ?_, fun z => nomatch z⟩
      refine ⟨.ref ae, rfl, rfl, rfl, .ref p1, _, false, rfl, (fun u h => h), k1, false, rfl, iteF ?_⟩
      refine ⟨.ref ae, rfl, rfl, rfl, .ref p2, _, false, rfl, (fun u h => h), k2, false, rfl, iteF ?_⟩
      refine ⟨.ref ae, rfl, rfl, rfl, .ref p3, _, false, rfl, (fun u h => h), k3, ?_⟩
      refine ⟨.ref ae, rfl, rfl, rfl, .ref C, _, true, rfl, (fun u h => h), D.kC, true, rfl, iteT ?_⟩
      refine ⟨.ref ae, rfl, rfl, rfl, .ty "ValueError", _, true, rfl, (fun u h => h), D.kV, true, rfl, iteT ?_⟩
      refine ⟨.bl false, rfl, false, rfl, iteT ?_⟩
      refine ⟨.ref ae, rfl, rfl, rfl, .ref p4, _, false, rfl, (fun u h => h), k4, false, rfl, iteT ?_⟩
      exact ⟨Nat.zero_le _, fun p hp => qb ng _ p ((sh.trans s2).trans (same_upd hp)) upd_same⟩
theorem same_test {E1 E2 : XK} {σ : L2.St} {H : Hp} {i : Nat} {pd : Addr} {d : List Int} {R : Bool → Hp → Prop} (hσ : σ[i]? = some (some (.ref pd))) (hp : H pd = some (LI d)) (hb : Byt d) (hl : d.length ≤ 10000) (r : ∀ H', Same H H' → R false H') :
    tTest (tOp (rNeD K) (tCall (spTold K) [] E1 (tCons (tVar i) tNil)) (tCall (spUnp K) [] E2 (tCons (tVar i) tNil))) σ H R := by
  refine ⟨_, hσ, pd, d, rfl, .inl (.inl hp), hb, hl, fun t ht H1 p1 s1 h1 => ?_, fun ng H1 p1 s1 h1 => ?_⟩
  · refine ⟨_, hσ, pd, d, rfl, .inl (.inl (s1 _ _ hp)), hb, hl, fun t2 ht2 H2 p2 s2 h2 => ?_, fun ng => absurd ⟨t, ht⟩ ng⟩
    obtain rfl : t2 = t := ht2.text.trans ht.text.symm
    refine ⟨.list [.str (T t2)], .list [.str (T t2)], dp_one (s2 _ _ h1), dp_one h2, shaped_one (asc_good ht), shaped_one (asc_good ht), _, rfl, ?_⟩
    rw [SeqAt.eqv_refl _ (can_one (asc_good ht))]
    exact r _ (s1.trans s2)
  · refine ⟨_, hσ, pd, d, rfl, .inl (.inl (s1 _ _ hp)), hb, hl, fun t2 ht2 => absurd ⟨t2, ht2⟩ ng, fun _ H2 p2 s2 h2 => ?_⟩
    refine ⟨.list [], .list [], dp_none (s2 _ _ h1), dp_none h2, rfl, rfl, _, rfl, ?_⟩
    rw [SeqAt.eqv_refl _ rfl]
    exact r _ (s1.trans s2)
def spLaw (K : PySem.W.Frag) : Sp := fun vs H Q _ => ∃ (a : Addr) (ns : List Int), vs = [.ref a] ∧ SqL K H a (ns.map V.int) ∧ ∀ H', Q (.bl true) H'
theorem ok_law {f : Addr} {fd : FuncData} (F : Fun K "law" "law" sLaw f fd) (B : Bl mg)
    (hC : Has P w K mg base 5 "_law_cell" ["script", "k"] (spCell K)) (hT : Has P w K mg base 4 "_law_text" ["shape", "cell", "most"] (spText K)) (hP : Has P w K mg base 5 "_law_packed" ["text"] spPacked)
    (hTO : Has P w K mg base 6 "_law_told" ["data"] (spTold K)) (hUP : Has P w K mg base 5 "_law_unpacked" ["data"] (spUnp K)) (hCH : Has P w K mg base 5 "_law_changed" ["data", "x"] spChanged) : FnOk P w K mg base CX0 7 f fd ["script"] (spLaw K) := by
  obtain ⟨fC, dC, GC, gC, kC, bC⟩ := hC
  obtain ⟨fT, dT', GT, gT, kT, bT⟩ := hT
  obtain ⟨fP, dP, GP, gP, kP, bP⟩ := hP
  obtain ⟨fTO, dTO, GTO, gTO, kTO, bTO⟩ := hTO
  obtain ⟨fUP, dUP, GUP, gUP, kUP, bUP⟩ := hUP
  obtain ⟨fCH, dCH, GCH, gCH, kCH, bCH⟩ := hCH
  refine F.ok scLaw (fun vs H Q E h => ?_) (fun cdv A outer s H vs Q E hr h => ?_)
  · obtain ⟨c, ns, rfl, _⟩ := h
    rfl
  · obtain ⟨a, ns, rfl, hsq, q⟩ := h
    refine ⟨_, (pss_cons (ps_for PassesOwn.never rfl (pi_range1 rfl B.range (pa_cons pe_int pa_nil)) (pg_name (i := 1) scLaw.nd rfl (.inl rfl))
        (pss_cons (ps_set (i := 2) scLaw.nd rfl (.inl rfl) (pe_call GC (hr.mono (by omega)) (by rfl) gC kC bC .nil pass0 (pa_cons (pv 0) (pa_cons (pe_op op_mul pe_int (pv 1)) pa_nil))))
      (pss_cons (ps_set (i := 3) scLaw.nd rfl (.inl rfl) (pe_call GT (hr.mono (by omega)) (by rfl) gT kT bT .nil pass0 (pa_cons (pe_op op_fdiv (pv 2) pe_int) (pa_cons (pe_call GC (hr.mono (by omega)) (by rfl) gC kC bC .nil pass0 (pa_cons (pv 0) (pa_cons (pe_op op_add (pe_op op_mul pe_int (pv 1)) pe_int) pa_nil))) (pa_cons pe_int pa_nil)))))
      (pss_cons (ps_set (i := 4) scLaw.nd rfl (.inl rfl) (pe_call GP (hr.mono (by omega)) (by rfl) gP kP bP .nil pass0 (pa_cons (pe_slice sl_str (pv 3) (po_some (pe_callTy call_int1 (by rfl) B.int (by decide +kernel) (pa_cons (pe_cmpR op_eq (pe_op op_mod (pv 2) pe_int) pe_int (nomark _)) pa_nil))) po_none) pa_nil)))
      (pss_cons (ps_if (pt_cmpR (op_neD hr.units) (pe_call GTO (hr.mono (by omega)) (by rfl) gTO kTO bTO .nil pass0 (pa_cons (pv 4) pa_nil)) (pe_call GUP (hr.mono (by omega)) (by rfl) gUP kUP bUP .nil pass0 (pa_cons (pv 4) pa_nil)) (nomark _)) (pss_one (ps_ret pe_bl)) pss_nil)
      (pss_cons (ps_set (i := 4) scLaw.nd rfl (.inl rfl) (pe_call GCH (hr.mono (by omega)) (by rfl) gCH kCH bCH .nil pass0 (pa_cons (pv 4) (pa_cons (pe_op op_add (pe_op op_fdiv (pe_callB call_abs (by rfl) B.abs (by decide +kernel) (pa_cons (pe_call GC (hr.mono (by omega)) (by rfl) gC kC bC .nil pass0 (pa_cons (pv 0) (pa_cons (pe_op op_add (pe_op op_mul pe_int (pv 1)) pe_int) pa_nil))) pa_nil)) pe_int) (pe_op op_mod (pv 2) pe_int)) pa_nil))))
      (pss_one (ps_if (pt_cmpR (op_neD hr.units) (pe_call GTO (hr.mono (by omega)) (by rfl) gTO kTO bTO .nil pass0 (pa_cons (pv 4) pa_nil)) (pe_call GUP (hr.mono (by omega)) (by rfl) gUP kUP bUP .nil pass0 (pa_cons (pv 4) pa_nil)) (nomark _)) (pss_one (ps_ret pe_bl)) pss_nil))))))))
      (pss_one (ps_ret pe_bl))), ?_⟩
    refine ⟨20, rfl, by decide, by decide, ?_⟩
    refine for_range (lo := 0) (n := 20) (fun i σ H' => Same H H' ∧ ∃ v1 v2 v3 v4 : Option V, σ = [some (.ref a), v1, v2, v3, v4]) ⟨Same.refl _, none, none, none, none, rfl⟩ ?_ (fun σ H' _ => q _)
    rintro i σ H1 hi ⟨s1, v1, v2, v3, v4, rfl⟩
    refine ⟨_, rfl, _, rfl, 2, _, rfl, rfl, .inl ⟨by decide, by decide⟩, a, ns, 2 * i, cell_arg3 a 2 i, s1.seq hsq, fun x => ?_⟩
    refine ⟨_, rfl, x, 3, rfl, rfl, ⟨by decide, by decide⟩, _, rfl, _, rfl, 2, _, rfl, rfl, .inl ⟨by decide, by decide⟩, _, 1, rfl, rfl, a, ns, 2 * i + 1, cell_arg4 a 1 2 i, s1.seq hsq, fun y => ⟨x / 3, y, 41, rfl, by decide, by decide, fun H2 l s2 dl l1 l2 => ?_⟩⟩
    have hcut : ∀ b : Bool, ∃ m, cutS (T l) (some (if b = true then 1 else 0)) none = T m ∧ Dna m ∧ m.length ≤ l.length := fun b => cut_dna dl _ _
    obtain ⟨m, em, dm, lm⟩ := hcut (decide (V.int (x % 3) = V.int 0))
    have s12 := s1.trans s2
    refine ⟨_, rfl, _, rfl, x, 3, rfl, rfl, (show (0 : Int) < 3 by decide), rfl, .inr ⟨_, rfl, _, rfl, T l, rfl, line_ok6 (by rw [T_len]; omega), m, congrArg (fun z => [V.str z]) em, dm, by omega, fun H3 pd s3 hpd0 hpd => ?_⟩⟩
    have hlen := packed_len (l := m)
    have s13 := s12.trans s3
    refine same_test rfl hpd (packed_byt m) (by omega) fun H4 s4 => iteF ?_
    have s14 := s13.trans s4
    refine ⟨_, rfl, _, rfl, _, rfl, 2, _, rfl, rfl, .inl ⟨by decide, by decide⟩, _, 1, rfl, rfl, a, ns, 2 * i + 1, cell_arg4 a 1 2 i, s14.seq hsq, fun z => ⟨z, rfl, _, 3, rfl, rfl, ⟨by decide, by decide⟩, _, rfl, x, 3, rfl, rfl, (show (0 : Int) < 3 by decide), _, _, rfl, rfl, pd, packed m, _, rfl, s4 _ _ hpd, packed_byt m, by omega, packed_head (by omega), ?_, fun H5 pe l5 h5o h5 hb5 hl5 => ?_⟩⟩
    · have z0 := Int.emod_nonneg x (show (3 : Int) ≠ 0 by decide)
      omega
    have hpd1 : H pd = none := s12.free hpd0
    have s15 : Same H H5 := fun b o e => h5o b o (fun z => by rw [z, hpd1] at e; cases e) (s14 _ _ e)
    refine same_test rfl h5 hb5 (by omega) fun H6 s6 => iteF ?_
    exact ⟨s15.trans s6, _, _, _, _, rfl⟩
end
theorem all_mk {l : PySem.W.OpenLaw} {w : World} {K : PySem.W.Frag} {h : Heap} {mg : Str → Option Value} {fa fNA fUP fCL fTR fCZ fC fR fLL fT fBY fNU fPK fUN fRC fCH fTO fL : Addr} (X : K.In h) (G : h.Ns mainGlobals mg) (hfa : mg "law" = some (.ref fa))
    {odNA anNA : Option Addr} {slNA : Array (Option Value)} {ocNA kVNA dcNA pmNA cdNA ctNA : Value}
    {odUP anUP : Option Addr} {slUP : Array (Option Value)} {ocUP kVUP dcUP pmUP cdUP ctUP : Value}
    {odCL anCL : Option Addr} {slCL : Array (Option Value)} {ocCL kVCL dcCL pmCL cdCL ctCL : Value}
    {odTR anTR : Option Addr} {slTR : Array (Option Value)} {ocTR kVTR dcTR pmTR cdTR ctTR : Value}
    {odCZ anCZ : Option Addr} {slCZ : Array (Option Value)} {ocCZ kVCZ dcCZ pmCZ cdCZ ctCZ : Value}
    {odC anC : Option Addr} {slC : Array (Option Value)} {ocC kVC dcC pmC cdC ctC : Value}
    {odR anR : Option Addr} {slR : Array (Option Value)} {ocR kVR dcR pmR cdR ctR : Value}
    {odLL anLL : Option Addr} {slLL : Array (Option Value)} {ocLL kVLL dcLL pmLL cdLL ctLL : Value}
    {odT anT : Option Addr} {slT : Array (Option Value)} {ocT kVT dcT pmT cdT ctT : Value}
    {odBY anBY : Option Addr} {slBY : Array (Option Value)} {ocBY kVBY dcBY pmBY cdBY ctBY : Value}
    {odNU anNU : Option Addr} {slNU : Array (Option Value)} {ocNU kVNU dcNU pmNU cdNU ctNU : Value}
    {odPK anPK : Option Addr} {slPK : Array (Option Value)} {ocPK kVPK dcPK pmPK cdPK ctPK : Value}
    {odUN anUN : Option Addr} {slUN : Array (Option Value)} {ocUN kVUN dcUN pmUN cdUN ctUN : Value}
    {odRC anRC : Option Addr} {slRC : Array (Option Value)} {ocRC kVRC dcRC pmRC cdRC ctRC : Value}
    {odCH anCH : Option Addr} {slCH : Array (Option Value)} {ocCH kVCH dcCH pmCH cdCH ctCH : Value}
    {odTO anTO : Option Addr} {slTO : Array (Option Value)} {ocTO kVTO dcTO pmTO cdTO ctTO : Value}
    {odL anL : Option Addr} {slL : Array (Option Value)} {ocL kVL dcL pmL cdL ctL : Value}
    (aNA : PySem.W.nsIn K mainGlobals "number_at" = some (some (.ref fNA))) (lNA : K.lookup fNA = some ⟨ocNA, odNA, .func (PySem.W.fnOf "number_at" "number_at" (defArgs sNumAt) (defBody sNumAt) (defScope sNumAt) .none kVNA dcNA pmNA anNA cdNA ctNA), slNA⟩) (cNA : PySem.W.codeIn K cdNA "number_at" = true) (kNA : PySem.W.keepIn K (.ref fNA) = true)
    (aUP : PySem.W.nsIn K mainGlobals "unpack" = some (some (.ref fUP))) (lUP : K.lookup fUP = some ⟨ocUP, odUP, .func (PySem.W.fnOf "unpack" "unpack" (defArgs sUnpack) (defBody sUnpack) (defScope sUnpack) .none kVUP dcUP pmUP anUP cdUP ctUP), slUP⟩) (cUP : PySem.W.codeIn K cdUP "unpack" = true) (kUP : PySem.W.keepIn K (.ref fUP) = true)
    (aCL : PySem.W.nsIn K mainGlobals "_coded_letters" = some (some (.ref fCL))) (lCL : K.lookup fCL = some ⟨ocCL, odCL, .func (PySem.W.fnOf "_coded_letters" "_coded_letters" (defArgs sCoded) (defBody sCoded) (defScope sCoded) .none kVCL dcCL pmCL anCL cdCL ctCL), slCL⟩) (cCL : PySem.W.codeIn K cdCL "_coded_letters" = true) (kCL : PySem.W.keepIn K (.ref fCL) = true)
    (aTR : PySem.W.nsIn K mainGlobals "_told_runs" = some (some (.ref fTR))) (lTR : K.lookup fTR = some ⟨ocTR, odTR, .func (PySem.W.fnOf "_told_runs" "_told_runs" (defArgs sTRuns) (defBody sTRuns) (defScope sTRuns) .none kVTR dcTR pmTR anTR cdTR ctTR), slTR⟩) (cTR : PySem.W.codeIn K cdTR "_told_runs" = true) (kTR : PySem.W.keepIn K (.ref fTR) = true)
    (aCZ : PySem.W.nsIn K mainGlobals "_check_zeros" = some (some (.ref fCZ))) (lCZ : K.lookup fCZ = some ⟨ocCZ, odCZ, .func (PySem.W.fnOf "_check_zeros" "_check_zeros" (defArgs sCheckZ) (defBody sCheckZ) (defScope sCheckZ) .none kVCZ dcCZ pmCZ anCZ cdCZ ctCZ), slCZ⟩) (cCZ : PySem.W.codeIn K cdCZ "_check_zeros" = true) (kCZ : PySem.W.keepIn K (.ref fCZ) = true)
    (aC : PySem.W.nsIn K mainGlobals "_law_cell" = some (some (.ref fC))) (lC : K.lookup fC = some ⟨ocC, odC, .func (PySem.W.fnOf "_law_cell" "_law_cell" (defArgs sCell) (defBody sCell) (defScope sCell) .none kVC dcC pmC anC cdC ctC), slC⟩) (cC : PySem.W.codeIn K cdC "_law_cell" = true) (kC : PySem.W.keepIn K (.ref fC) = true)
    (aR : PySem.W.nsIn K mainGlobals "_law_row" = some (some (.ref fR))) (lR : K.lookup fR = some ⟨ocR, odR, .func (PySem.W.fnOf "_law_row" "_law_row" (defArgs sRow) (defBody sRow) (defScope sRow) .none kVR dcR pmR anR cdR ctR), slR⟩) (cR : PySem.W.codeIn K cdR "_law_row" = true) (kR : PySem.W.keepIn K (.ref fR) = true)
    (aLL : PySem.W.nsIn K mainGlobals "_law_letters" = some (some (.ref fLL))) (lLL : K.lookup fLL = some ⟨ocLL, odLL, .func (PySem.W.fnOf "_law_letters" "_law_letters" (defArgs sLetters) (defBody sLetters) (defScope sLetters) .none kVLL dcLL pmLL anLL cdLL ctLL), slLL⟩) (cLL : PySem.W.codeIn K cdLL "_law_letters" = true) (kLL : PySem.W.keepIn K (.ref fLL) = true)
    (aT : PySem.W.nsIn K mainGlobals "_law_text" = some (some (.ref fT))) (lT : K.lookup fT = some ⟨ocT, odT, .func (PySem.W.fnOf "_law_text" "_law_text" (defArgs sText) (defBody sText) (defScope sText) .none kVT dcT pmT anT cdT ctT), slT⟩) (cT : PySem.W.codeIn K cdT "_law_text" = true) (kT : PySem.W.keepIn K (.ref fT) = true)
    (aBY : PySem.W.nsIn K mainGlobals "_law_bytes" = some (some (.ref fBY))) (lBY : K.lookup fBY = some ⟨ocBY, odBY, .func (PySem.W.fnOf "_law_bytes" "_law_bytes" (defArgs sBytes) (defBody sBytes) (defScope sBytes) .none kVBY dcBY pmBY anBY cdBY ctBY), slBY⟩) (cBY : PySem.W.codeIn K cdBY "_law_bytes" = true) (kBY : PySem.W.keepIn K (.ref fBY) = true)
    (aNU : PySem.W.nsIn K mainGlobals "_law_number" = some (some (.ref fNU))) (lNU : K.lookup fNU = some ⟨ocNU, odNU, .func (PySem.W.fnOf "_law_number" "_law_number" (defArgs sNumber) (defBody sNumber) (defScope sNumber) .none kVNU dcNU pmNU anNU cdNU ctNU), slNU⟩) (cNU : PySem.W.codeIn K cdNU "_law_number" = true) (kNU : PySem.W.keepIn K (.ref fNU) = true)
    (aPK : PySem.W.nsIn K mainGlobals "_law_packed" = some (some (.ref fPK))) (lPK : K.lookup fPK = some ⟨ocPK, odPK, .func (PySem.W.fnOf "_law_packed" "_law_packed" (defArgs sPacked) (defBody sPacked) (defScope sPacked) .none kVPK dcPK pmPK anPK cdPK ctPK), slPK⟩) (cPK : PySem.W.codeIn K cdPK "_law_packed" = true) (kPK : PySem.W.keepIn K (.ref fPK) = true)
    (aUN : PySem.W.nsIn K mainGlobals "_law_unpacked" = some (some (.ref fUN))) (lUN : K.lookup fUN = some ⟨ocUN, odUN, .func (PySem.W.fnOf "_law_unpacked" "_law_unpacked" (defArgs sUnpacked) (defBody sUnpacked) (defScope sUnpacked) .none kVUN dcUN pmUN anUN cdUN ctUN), slUN⟩) (cUN : PySem.W.codeIn K cdUN "_law_unpacked" = true) (kUN : PySem.W.keepIn K (.ref fUN) = true)
    (aRC : PySem.W.nsIn K mainGlobals "_law_run_changed" = some (some (.ref fRC))) (lRC : K.lookup fRC = some ⟨ocRC, odRC, .func (PySem.W.fnOf "_law_run_changed" "_law_run_changed" (defArgs sRunCh) (defBody sRunCh) (defScope sRunCh) .none kVRC dcRC pmRC anRC cdRC ctRC), slRC⟩) (cRC : PySem.W.codeIn K cdRC "_law_run_changed" = true) (kRC : PySem.W.keepIn K (.ref fRC) = true)
    (aCH : PySem.W.nsIn K mainGlobals "_law_changed" = some (some (.ref fCH))) (lCH : K.lookup fCH = some ⟨ocCH, odCH, .func (PySem.W.fnOf "_law_changed" "_law_changed" (defArgs sChanged) (defBody sChanged) (defScope sChanged) .none kVCH dcCH pmCH anCH cdCH ctCH), slCH⟩) (cCH : PySem.W.codeIn K cdCH "_law_changed" = true) (kCH : PySem.W.keepIn K (.ref fCH) = true)
    (aTO : PySem.W.nsIn K mainGlobals "_law_told" = some (some (.ref fTO))) (lTO : K.lookup fTO = some ⟨ocTO, odTO, .func (PySem.W.fnOf "_law_told" "_law_told" (defArgs sTold) (defBody sTold) (defScope sTold) .none kVTO dcTO pmTO anTO cdTO ctTO), slTO⟩) (cTO : PySem.W.codeIn K cdTO "_law_told" = true) (kTO : PySem.W.keepIn K (.ref fTO) = true)
    (aL : PySem.W.nsIn K mainGlobals "law" = some (some (.ref fL))) (lL : K.lookup fL = some ⟨ocL, odL, .func (PySem.W.fnOf "law" "law" (defArgs sLaw) (defBody sLaw) (defScope sLaw) .none kVL dcL pmL anL cdL ctL), slL⟩) (cL : PySem.W.codeIn K cdL "law" = true) (kL : PySem.W.keepIn K (.ref fL) = true)
    {tNS : Tok} (nNS : PySem.W.nsIn K mainGlobals "_NUMBER_SIZE" = some (some (.int 4 tNS)))
    {tHS : Tok} (nHS : PySem.W.nsIn K mainGlobals "_HEAD_SIZE" = some (some (.int 8 tHS)))
    {tRS : Tok} (nRS : PySem.W.nsIn K mainGlobals "_RUN_SIZE" = some (some (.int 8 tRS)))
    {tCO : Tok} (nCO : PySem.W.nsIn K mainGlobals "_CODED" = some (some (.str (Str.ofString "ACGT") tCO)))
    {CP hE hL hN hT hD : Addr}
    (gP : PySem.W.nsIn K mainGlobals "InvalidPack" = some (some (.ref CP)))
    (qP : PySem.W.excIn K CP [.type "ValueError", .type "Exception", .type "BaseException", .type "object"] "ValueError.__new__" = true)
    (kP : PySem.W.keepIn K (.ref CP) = true)
    (sP : PySem.W.subIn K (.ref CP) (.type "BaseException") = some true)
    (yP : PySem.W.typeIn K (.ref CP) = some (.type "type"))
    (xA1 : PySem.W.findIn K (.ref CP) "__getattribute__" = some (some (.builtin "BaseException.__getattribute__")))
    (xA2 : PySem.W.findIn K (.ref CP) "__getattr__" = some none)
    (xA3 : PySem.W.hasDictIn K CP = true)
    (xA4 : PySem.W.findIn K (.ref CP) "__class__" = some (some (.builtin "object.__class__")))
    (xA5 : PySem.W.specialIn K (.builtin "object.__class__") "__get__" = some (some (.builtin "getset_descriptor.__get__")))
    (xA6 : PySem.W.takesIn K (.builtin "object.__class__") = some true)
    (xA7 : PySem.W.mroIn K CP (.type "object") = some true)
    (xH : PySem.W.nsIn K mainGlobals "HomeError" = some (some (.ref hE)))
    (xH1 : PySem.W.subIn K (.ref hE) (.type "BaseException") = some true)
    (xH2 : PySem.W.hasDictIn K hE = true)
    (xH3 : PySem.W.typeIn K (.ref hE) = some (.type "type"))
    (xH4 : PySem.W.subIn K (.ref CP) (.ref hE) = some true)
    (xV : PySem.W.subIn K (.ref CP) (.type "ValueError") = some true)
    (xL : PySem.W.nsIn K mainGlobals "InvalidLine" = some (some (.ref hL)))
    (xL1 : PySem.W.hasDictIn K hL = true)
    (xL2 : PySem.W.typeIn K (.ref hL) = some (.type "type"))
    (xL3 : PySem.W.subIn K (.ref CP) (.ref hL) = some false)
    (qL : (CP == hL) = false)
    (xN : PySem.W.nsIn K mainGlobals "NotAnIndex" = some (some (.ref hN)))
    (xN1 : PySem.W.hasDictIn K hN = true)
    (xN2 : PySem.W.typeIn K (.ref hN) = some (.type "type"))
    (xN3 : PySem.W.subIn K (.ref CP) (.ref hN) = some false)
    (qN : (CP == hN) = false)
    (xT : PySem.W.nsIn K mainGlobals "Truncated" = some (some (.ref hT)))
    (xT1 : PySem.W.hasDictIn K hT = true)
    (xT2 : PySem.W.typeIn K (.ref hT) = some (.type "type"))
    (xT3 : PySem.W.subIn K (.ref CP) (.ref hT) = some false)
    (qT : (CP == hT) = false)
    (xD : PySem.W.nsIn K mainGlobals "Damaged" = some (some (.ref hD)))
    (xD1 : PySem.W.hasDictIn K hD = true)
    (xD2 : PySem.W.typeIn K (.ref hD) = some (.type "type"))
    (xD3 : PySem.W.subIn K (.ref CP) (.ref hD) = some false)
    (qD : (CP == hD) = false)
    (zlen : PySem.W.nsIn K mainGlobals "len" = some none) (zint : PySem.W.nsIn K mainGlobals "int" = some none) (zabs : PySem.W.nsIn K mainGlobals "abs" = some none) (zrange : PySem.W.nsIn K mainGlobals "range" = some none) (zisinstance : PySem.W.nsIn K mainGlobals "isinstance" = some none) (zbool : PySem.W.nsIn K mainGlobals "bool" = some none) (zstr : PySem.W.nsIn K mainGlobals "str" = some none) (zlist : PySem.W.nsIn K mainGlobals "list" = some none) (zmax : PySem.W.nsIn K mainGlobals "max" = some none) (zmin : PySem.W.nsIn K mainGlobals "min" = some none) (zValueError : PySem.W.nsIn K mainGlobals "ValueError" = some none) :
    ∃ fd : FuncData, (∀ (s : Shared) (v : Value), BindsTo s fd ⟨[v], []⟩ [("script", v)]) ∧ ∀ base : Heap, K.In base → base.Ns mainGlobals mg → FnOk l.prog w K mg base CX0 7 fa fd ["script"] (spLaw K) := by
  have e := hfa.symm.trans (PySem.W.mg_of X G aL)
  cases e
  have FNA := fun_mk (st := sNumAt) lNA cNA kNA
  have FUP := fun_mk (st := sUnpack) lUP cUP kUP
  have FCL := fun_mk (st := sCoded) lCL cCL kCL
  have FTR := fun_mk (st := sTRuns) lTR cTR kTR
  have FCZ := fun_mk (st := sCheckZ) lCZ cCZ kCZ
  have FC := fun_mk (st := sCell) lC cC kC
  have FR := fun_mk (st := sRow) lR cR kR
  have FLL := fun_mk (st := sLetters) lLL cLL kLL
  have FT := fun_mk (st := sText) lT cT kT
  have FBY := fun_mk (st := sBytes) lBY cBY kBY
  have FNU := fun_mk (st := sNumber) lNU cNU kNU
  have FPK := fun_mk (st := sPacked) lPK cPK kPK
  have FUN := fun_mk (st := sUnpacked) lUN cUN kUN
  have FRC := fun_mk (st := sRunCh) lRC cRC kRC
  have FCH := fun_mk (st := sChanged) lCH cCH kCH
  have FTO := fun_mk (st := sTold) lTO cTO kTO
  have FL := fun_mk (st := sLaw) lL cL kL
  have B : Bl mg := ⟨PySem.W.mg_none_of X G zlen, PySem.W.mg_none_of X G zint, PySem.W.mg_none_of X G zabs, PySem.W.mg_none_of X G zrange, PySem.W.mg_none_of X G zisinstance, PySem.W.mg_none_of X G zbool, PySem.W.mg_none_of X G zstr⟩
  have bNA := FNA.binds (ps := ["data", "at", "size"]) fun _ _ _ _ _ _ us hl => match us, hl with | [_, _, _], _ => rfl
  have bUP := FUP.binds (ps := ["data"]) fun _ _ _ _ _ _ us hl => match us, hl with | [_], _ => rfl
  have bCL := FCL.binds (ps := ["data"]) fun _ _ _ _ _ _ us hl => match us, hl with | [_], _ => rfl
  have bTR := FTR.binds (ps := ["data", "many", "length"]) fun _ _ _ _ _ _ us hl => match us, hl with | [_, _, _], _ => rfl
  have bCZ := FCZ.binds (ps := ["letters", "begin", "end"]) fun _ _ _ _ _ _ us hl => match us, hl with | [_, _, _], _ => rfl
  have bC := FC.binds (ps := ["script", "k"]) fun _ _ _ _ _ _ us hl => match us, hl with | [_, _], _ => rfl
  have bR := FR.binds (ps := ["cell", "count", "bound"]) fun _ _ _ _ _ _ us hl => match us, hl with | [_, _, _], _ => rfl
  have bLL := FLL.binds (ps := ["cell", "size", "letters"]) fun _ _ _ _ _ _ us hl => match us, hl with | [_, _, _], _ => rfl
  have bT := FT.binds (ps := ["shape", "cell", "most"]) fun _ _ _ _ _ _ us hl => match us, hl with | [_, _, _], _ => rfl
  have bBY := FBY.binds (ps := ["number", "count"]) fun _ _ _ _ _ _ us hl => match us, hl with | [_, _], _ => rfl
  have bNU := FNU.binds (ps := ["data", "at", "count"]) fun _ _ _ _ _ _ us hl => match us, hl with | [_, _, _], _ => rfl
  have bPK := FPK.binds (ps := ["text"]) fun _ _ _ _ _ _ us hl => match us, hl with | [_], _ => rfl
  have bUN := FUN.binds (ps := ["data"]) fun _ _ _ _ _ _ us hl => match us, hl with | [_], _ => rfl
  have bRC := FRC.binds (ps := ["data", "x"]) fun _ _ _ _ _ _ us hl => match us, hl with | [_, _], _ => rfl
  have bCH := FCH.binds (ps := ["data", "x"]) fun _ _ _ _ _ _ us hl => match us, hl with | [_, _], _ => rfl
  have bTO := FTO.binds (ps := ["data"]) fun _ _ _ _ _ _ us hl => match us, hl with | [_], _ => rfl
  have IP : IPk K mg CP := ⟨PySem.W.mg_of X G gP, qP, kP, sP, yP⟩
  have KN : Kn K mg CP hE := ⟨⟨xA1, xA2, sP, xA3, xA4, xA5, xA6, xA7⟩, PySem.W.mg_of X G xH, PySem.W.exm_ref xH1 xH2 xH3 xH4, PySem.W.mg_of X G gP, kit_self, ⟨hL, PySem.W.mg_of X G xL, kit_other qL xL1 xL2 xL3⟩, ⟨hN, PySem.W.mg_of X G xN, kit_other qN xN1 xN2 xN3⟩, ⟨hT, PySem.W.mg_of X G xT, kit_other qT xT1 xT2 xT3⟩, ⟨hD, PySem.W.mg_of X G xD, kit_other qD xD1 xD2 xD3⟩, PySem.W.mg_none_of X G zValueError, kit_value xV⟩
  have zx := PySem.W.mg_none_of X G zmax
  have g4 := PySem.W.mg_of X G nNS
  have g8 := PySem.W.mg_of X G nHS
  have g9 := PySem.W.mg_of X G nRS
  have fin : ∀ base : Heap, FnOk l.prog w K mg base CX0 7 fa _ ["script"] (spLaw K) := fun base =>
    have hNA3 : Has l.prog w K mg base 3 "number_at" ["data", "at", "size"] (spNumAt K) := ⟨fNA, _, ok_numat (k := 2) FNA, PySem.W.mg_of X G aNA, kNA, bNA⟩
    have hNA4 : Has l.prog w K mg base 4 "number_at" ["data", "at", "size"] (spNumAt K) := ⟨fNA, _, ok_numat (k := 3) FNA, PySem.W.mg_of X G aNA, kNA, bNA⟩
    have hCL : Has l.prog w K mg base 4 "_coded_letters" ["data"] (spCoded K) := ⟨fCL, _, ok_coded (k := 3) FCL (PySem.W.mg_of X G nCO), PySem.W.mg_of X G aCL, kCL, bCL⟩
    have hCZ : HasX l.prog w K mg base 4 "_check_zeros" ["letters", "begin", "end"] (spCheckZ K CP) := ⟨fCZ, _, ok_checkZ (k := 3) FCZ IP B.range, PySem.W.mg_of X G aCZ, kCZ, bCZ⟩
    have hTR : HasX l.prog w K mg base 4 "_told_runs" ["data", "many", "length"] (spTRuns K CP) := ⟨fTR, _, ok_truns (k := 2) FTR IP B.range g4 g8 g9 hNA3, PySem.W.mg_of X G aTR, kTR, bTR⟩
    have hUP : HasX l.prog w K mg base 5 "unpack" ["data"] (spUnpack K CP) := ⟨fUP, _, ok_unpack (k := 2) FUP IP B.len g4 g8 g9 hNA4 hCL hCZ hTR, PySem.W.mg_of X G aUP, kUP, bUP⟩
    have hR2 : Has l.prog w K mg base 2 "_law_row" ["cell", "count", "bound"] (spRow K) := ⟨fR, _, ok_row (k := 1) FR B, PySem.W.mg_of X G aR, kR, bR⟩
    have hR4 : Has l.prog w K mg base 4 "_law_row" ["cell", "count", "bound"] (spRow K) := ⟨fR, _, ok_row (k := 3) FR B, PySem.W.mg_of X G aR, kR, bR⟩
    have hLL : Has l.prog w K mg base 3 "_law_letters" ["cell", "size", "letters"] (spLetters K) := ⟨fLL, _, ok_letters FLL B hR2, PySem.W.mg_of X G aLL, kLL, bLL⟩
    have hBY3 : Has l.prog w K mg base 3 "_law_bytes" ["number", "count"] (spBytes) := ⟨fBY, _, ok_bytes (k := 2) FBY B, PySem.W.mg_of X G aBY, kBY, bBY⟩
    have hBY4 : Has l.prog w K mg base 4 "_law_bytes" ["number", "count"] (spBytes) := ⟨fBY, _, ok_bytes (k := 3) FBY B, PySem.W.mg_of X G aBY, kBY, bBY⟩
    have hNU3 : Has l.prog w K mg base 3 "_law_number" ["data", "at", "count"] (spNumber K) := ⟨fNU, _, ok_number (k := 2) FNU B, PySem.W.mg_of X G aNU, kNU, bNU⟩
    have hNU4 : Has l.prog w K mg base 4 "_law_number" ["data", "at", "count"] (spNumber K) := ⟨fNU, _, ok_number (k := 3) FNU B, PySem.W.mg_of X G aNU, kNU, bNU⟩
    have hRC : Has l.prog w K mg base 4 "_law_run_changed" ["data", "x"] (spRunCh) := ⟨fRC, _, ok_runCh (k := 2) FRC zx hNU3 hBY3, PySem.W.mg_of X G aRC, kRC, bRC⟩
    ok_law FL B ⟨fC, _, ok_cell (k := 4) FC B, PySem.W.mg_of X G aC, kC, bC⟩ ⟨fT, _, ok_text FT B hLL, PySem.W.mg_of X G aT, kT, bT⟩ ⟨fPK, _, ok_packed (k := 3) FPK B zx hBY4, PySem.W.mg_of X G aPK, kPK, bPK⟩
      ⟨fTO, _, ok_told FTO B (PySem.W.mg_none_of X G zlist) KN hUP, PySem.W.mg_of X G aTO, kTO, bTO⟩ ⟨fUN, _, ok_unp (k := 3) FUN B hNU4, PySem.W.mg_of X G aUN, kUN, bUN⟩ ⟨fCH, _, ok_changed (k := 2) FCH B (PySem.W.mg_none_of X G zmin) hR4 hRC, PySem.W.mg_of X G aCH, kCH, bCH⟩
  exact ⟨PySem.W.fnOf "law" "law" (defArgs sLaw) (defBody sLaw) (defScope sLaw) .none kVL dcL pmL anL cdL ctL, fun s v => .of_eq rfl, fun base _ _ => fin base⟩
end Hr
open PySem PySem.W PyProof.Rows
set_option maxHeartbeats 0 in
theorem PySem.Challenge.cw_homereads_k11_unpacked_bytes_holds : PySem.Challenge.rw_homereads_k11_unpacked_bytes.Holds := by
  w_on; o_law; k_head; (case hw => w_witness2)
  k_fill
  refine L2.walk_of (l := PySem.Challenge.rw_homereads_k11_unpacked_bytes) (n := 63) (k := 7) (x := "script") (CX := fun _ => L2.CX0) (sp := fun w => Hr.spLaw _) rfl (by decide) rfl ⟨rfl, by decide, by decide⟩ (fun w h Y => PySem.W.kIn_of Y) ?F (fun _ _ a ns hl _ hS => ⟨a, ns, rfl, hS, fun _ => rfl⟩) (fun _ _ _ _ _ h => h)
  case F =>
    intro w mg fa h KX G hmg
    refine' Hr.all_mk KX G hmg ?aNA ?lNA ?cNA ?kNA ?aUP ?lUP ?cUP ?kUP ?aCL ?lCL ?cCL ?kCL ?aTR ?lTR ?cTR ?kTR ?aCZ ?lCZ ?cCZ ?kCZ ?aC ?lC ?cC ?kC ?aR ?lR ?cR ?kR ?aLL ?lLL ?cLL ?kLL ?aT ?lT ?cT ?kT ?aBY ?lBY ?cBY ?kBY ?aNU ?lNU ?cNU ?kNU ?aPK ?lPK ?cPK ?kPK ?aUN ?lUN ?cUN ?kUN ?aRC ?lRC ?cRC ?kRC ?aCH ?lCH ?cCH ?kCH ?aTO ?lTO ?cTO ?kTO ?aL ?lL ?cL ?kL ?nNS ?nHS ?nRS ?nCO ?gP ?qP ?kP ?sP ?yP ?xA1 ?xA2 ?xA3 ?xA4 ?xA5 ?xA6 ?xA7 ?xH ?xH1 ?xH2 ?xH3 ?xH4 ?xV ?xL ?xL1 ?xL2 ?xL3 ?qL ?xN ?xN1 ?xN2 ?xN3 ?qN ?xT ?xT1 ?xT2 ?xT3 ?qT ?xD ?xD1 ?xD2 ?xD3 ?qD ?zlen ?zint ?zabs ?zrange ?zisinstance ?zbool ?zstr ?zlist ?zmax ?zmin ?zValueError
    (case aNA => k_is)
    (case lNA => k_is)
    (case cNA => k_is)
    (case kNA => k_is)
    (case aUP => k_is)
    (case lUP => k_is)
    (case cUP => k_is)
    (case kUP => k_is)
    (case aCL => k_is)
    (case lCL => k_is)
    (case cCL => k_is)
    (case kCL => k_is)
    (case aTR => k_is)
    (case lTR => k_is)
    (case cTR => k_is)
    (case kTR => k_is)
    (case aCZ => k_is)
    (case lCZ => k_is)
    (case cCZ => k_is)
    (case kCZ => k_is)
    (case aC => k_is)
    (case lC => k_is)
    (case cC => k_is)
    (case kC => k_is)
    (case aR => k_is)
    (case lR => k_is)
    (case cR => k_is)
    (case kR => k_is)
    (case aLL => k_is)
    (case lLL => k_is)
    (case cLL => k_is)
    (case kLL => k_is)
    (case aT => k_is)
    (case lT => k_is)
    (case cT => k_is)
    (case kT => k_is)
    (case aBY => k_is)
    (case lBY => k_is)
    (case cBY => k_is)
    (case kBY => k_is)
    (case aNU => k_is)
    (case lNU => k_is)
    (case cNU => k_is)
    (case kNU => k_is)
    (case aPK => k_is)
    (case lPK => k_is)
    (case cPK => k_is)
    (case kPK => k_is)
    (case aUN => k_is)
    (case lUN => k_is)
    (case cUN => k_is)
    (case kUN => k_is)
    (case aRC => k_is)
    (case lRC => k_is)
    (case cRC => k_is)
    (case kRC => k_is)
    (case aCH => k_is)
    (case lCH => k_is)
    (case cCH => k_is)
    (case kCH => k_is)
    (case aTO => k_is)
    (case lTO => k_is)
    (case cTO => k_is)
    (case kTO => k_is)
    (case aL => k_is)
    (case lL => k_is)
    (case cL => k_is)
    (case kL => k_is)
    (case nNS => k_is)
    (case nHS => k_is)
    (case nRS => k_is)
    (case nCO => k_is)
    (case gP => k_is)
    (case qP => k_exc)
    (case kP => k_is)
    (case sP => k_is)
    (case yP => k_is)
    (case xA1 => k_is)
    (case xA2 => k_is)
    (case xA3 => k_is)
    (case xA4 => k_is)
    (case xA5 => k_is)
    (case xA6 => k_is)
    (case xA7 => k_is)
    (case xH => k_is)
    (case xH1 => k_is)
    (case xH2 => k_is)
    (case xH3 => k_is)
    (case xH4 => k_is)
    (case xV => k_is)
    (case xL => k_is)
    (case xL1 => k_is)
    (case xL2 => k_is)
    (case xL3 => k_is)
    (case qL => first | rfl | decide)
    (case xN => k_is)
    (case xN1 => k_is)
    (case xN2 => k_is)
    (case xN3 => k_is)
    (case qN => first | rfl | decide)
    (case xT => k_is)
    (case xT1 => k_is)
    (case xT2 => k_is)
    (case xT3 => k_is)
    (case qT => first | rfl | decide)
    (case xD => k_is)
    (case xD1 => k_is)
    (case xD2 => k_is)
    (case xD3 => k_is)
    (case qD => first | rfl | decide)
    (case zlen => k_is)
    (case zint => k_is)
    (case zabs => k_is)
    (case zrange => k_is)
    (case zisinstance => k_is)
    (case zbool => k_is)
    (case zstr => k_is)
    (case zlist => k_is)
    (case zmax => k_is)
    (case zmin => k_is)
    (case zValueError => k_is)
