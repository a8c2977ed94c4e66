import PyProof.Rows.All
import Wide.All
import OpenK.AllK
import Wide.FinOn
import HandS.Base
import HandS.Call
import HandS.List
import HandS.Comp
import HandS.Ends
import HandS.Dict
import HandS.Iter
import HandS.Text
import HandS.Words
import HandS.WordsList
import HandS.More
import HandS.Codes
import HandS.Replace
import HandS.IsInst
import HandS.ExcInit
import HandS.WordsExc
import HandS.Exc
import HandS.TryOnly
import HandS.ExcOwn
import PySem.Challenge.RW_homereads_k19_sums_of_bytes
set_option Elab.async false
set_option linter.all false
set_option maxRecDepth 100000
set_option maxHeartbeats 4000000
namespace Hr
open PySem PySem.Spec PyProof.Rows L2
/-! ### the text -/
def topS (i : Nat) : Stmt := PySem.Challenge.pw_homereads_k19_sums_of_bytes.main.body.getD i (.Pass ⟨0, 0, 0, 0⟩)
abbrev sSum : Stmt := topS 2
abbrev sCell : Stmt := topS 4
abbrev sRow : Stmt := topS 5
abbrev sInteger : Stmt := topS 6
abbrev sLSum : Stmt := topS 8
abbrev sLaw : Stmt := topS 9
theorem scCell : FnScope ["script", "k"] ["script", "k"] (defScope sCell) := ⟨rfl, rfl, rfl, by decide +kernel, rfl, by decide +kernel, by decide +kernel⟩
theorem scRow : FnScope ["cell", "count", "bound", "rest", "mixed", "row", "k"] ["cell", "count", "bound"] (defScope sRow) := ⟨rfl, rfl, rfl, by decide +kernel, rfl, by decide +kernel, by decide +kernel⟩
theorem scInteger : FnScope ["value"] ["value"] (defScope sInteger) := ⟨rfl, rfl, rfl, by decide +kernel, rfl, by decide +kernel, by decide +kernel⟩
/-! ### walks of a known number of turns -/
theorem for_gen {J : It} {n : Nat} {g : TG} {tb : TS} {D : Ends} {σ : L2.St} {H : Hp} (Pv : Nat → L2.St → Hp → Prop) (h0 : Pv 0 σ H) (hgo : ∀ i σ H, i < n → Pv i σ H → J.go i H) (hstop : ∀ σ H, Pv n σ H → J.stop n H)
    (hs : ∀ i σ H x H', i < n → Pv i σ H → J.yld i H x H' → g x σ H' fun σ2 H2 => tb { D with nx := Pv (i + 1), ct := Pv (i + 1), bk := D.nx } σ2 H2) (hd : ∀ σ H, Pv n σ H → D.nx σ H) :
    ∃ W : Nat → Nat → L2.St → Hp → Prop, (∃ m, W 0 m σ H) ∧ ∀ i m σ H, W i m σ H →
      (J.stop i H ∧ D.nx σ H) ∨ (J.go i H ∧ ∃ N : L2.St → Hp → Prop, (∀ σ' H', N σ' H' → ∃ m', m' < m ∧ W (i + 1) m' σ' H') ∧ ∀ x H', J.yld i H x H' → g x σ H' fun σ2 H2 => tb { D with nx := N, ct := N, bk := D.nx } σ2 H2) := by
  refine ⟨fun i m σ H => i + m = n ∧ Pv i σ H, ⟨n, Nat.zero_add n, h0⟩, fun i m σ H hw => ?_⟩
  obtain ⟨em, p⟩ := hw
  cases m with
  | zero =>
    obtain rfl : i = n := em
    exact .inl ⟨hstop σ H p, hd σ H p⟩
  | succ m =>
    have lt : i < n := by omega
    exact .inr ⟨hgo i σ H lt p, Pv (i + 1), fun σ' H' p' => ⟨m, Nat.lt_succ_self m, by omega, p'⟩, fun x H' y => hs i σ H x H' lt p y⟩
theorem lc_gen {J : It} {n : Nat} {g : TG} {tt : TT} {te : TE} {vs : List Nat} {σ : L2.St} {H1 : Hp} {D : Addr} {Qd : Hp → Prop} (Pv : Nat → Hp → Prop) (h0 : Pv 0 (upd H1 D (.lst []))) (hgo : ∀ i H, i < n → Pv i H → J.go i H) (hstop : ∀ H, Pv n H → J.stop n H)
    (hs : ∀ i H x H', i < n → Pv i H → J.yld i H x H' → g x (wipe σ vs) H' fun σ2 H2 => wipe σ2 vs = wipe σ vs ∧ tt σ2 H2 fun b H3 =>
      if b = true then te σ2 H3 fun y H4 => ∃ acc, H4 D = some (.lst acc) ∧ acc.length < sizeLine ∧ Pv (i + 1) (upd H4 D (.lst (acc ++ [y]))) else Pv (i + 1) H3) (hd : ∀ H, Pv n H → Qd H) :
    ∃ W : Nat → Nat → Hp → Prop, (∃ m, W 0 m (upd H1 D (.lst []))) ∧ ∀ i m H, W i m H →
      (J.stop i H ∧ Qd H) ∨ (J.go i H ∧ ∃ Nx : Hp → Prop, (∀ H', Nx H' → ∃ m', m' < m ∧ W (i + 1) m' H') ∧ ∀ x H', J.yld i H x H' → g x (wipe σ vs) H' fun σ2 H2 => wipe σ2 vs = wipe σ vs ∧ tt σ2 H2 fun b H3 =>
        if b = true then te σ2 H3 fun y H4 => ∃ acc, H4 D = some (.lst acc) ∧ acc.length < sizeLine ∧ Nx (upd H4 D (.lst (acc ++ [y]))) else Nx H3) := by
  refine ⟨fun i m H => i + m = n ∧ Pv i H, ⟨n, Nat.zero_add n, h0⟩, fun i m H hw => ?_⟩
  obtain ⟨em, p⟩ := hw
  cases m with
  | zero =>
    obtain rfl : i = n := em
    exact .inl ⟨hstop H p, hd H p⟩
  | succ m =>
    have lt : i < n := by omega
    exact .inr ⟨hgo i H lt p, Pv (i + 1), fun H' p' => ⟨m, Nat.lt_succ_self m, by omega, p'⟩, fun x H' y => hs i H x H' lt p y⟩
/-- a loop over a text's signs -/
theorem for_str {z : Str} {g : TG} {tb : TS} {D : Ends} {σ : L2.St} {H : Hp} (Pv : Nat → L2.St → Hp → Prop) (h0 : Pv 0 σ H)
    (hs : ∀ i c σ H, z.cps[i]? = some c → Pv i σ H → g (.str ⟨#[c]⟩) σ H fun σ2 H2 => tb { D with nx := Pv (i + 1), ct := Pv (i + 1), bk := D.nx } σ2 H2) (hd : ∀ σ H, Pv z.cps.size σ H → D.nx σ H) :
    ∃ W : Nat → Nat → L2.St → Hp → Prop, (∃ m, W 0 m σ H) ∧ ∀ i m σ H, W i m σ H →
      ((Its z).stop i H ∧ D.nx σ H) ∨ ((Its z).go i H ∧ ∃ N : L2.St → Hp → Prop, (∀ σ' H', N σ' H' → ∃ m', m' < m ∧ W (i + 1) m' σ' H') ∧ ∀ x H', (Its z).yld i H x H' → g x σ H' fun σ2 H2 => tb { D with nx := N, ct := N, bk := D.nx } σ2 H2) :=
  for_gen (J := Its z) (n := z.cps.size) Pv h0 (fun i σ H hi _ => hi) (fun σ H _ => Nat.le_refl _) (fun i σ H x H' hi p y => by
    obtain ⟨e, c, hc, ex⟩ := y
    subst e
    subst ex
    exact hs i c σ _ hc p) hd
/-! ### texts by lists -/
def T (l : List Nat) : Str := ⟨l.toArray⟩
theorem T_len (l : List Nat) : (T l).length = l.length := by
  show l.toArray.size = l.length
  simp
theorem T_size (l : List Nat) : (T l).cps.size = l.length := by
  show l.toArray.size = l.length
  simp
theorem T_list (l : List Nat) : (T l).cps.toList = l := rfl
theorem T_at (l : List Nat) (i : Nat) : (T l).cps[i]? = l[i]? := by
  show l.toArray[i]? = l[i]?
  simp
theorem T_app (a b : List Nat) : T a ++ T b = T (a ++ b) := by
  show Str.mk (a.toArray ++ b.toArray) = Str.mk (a ++ b).toArray
  simp
theorem T_inj {a b : List Nat} (h : T a = T b) : a = b := by
  have e : (T a).cps.toList = (T b).cps.toList := by rw [h]
  exact e
theorem T_nil : (Str.ofString "" : Str) = T [] := by decide +kernel
def Sg (c : Nat) : Prop := c = 65 ∨ c = 67 ∨ c = 71 ∨ c = 84 ∨ c = 78
def Dna (l : List Nat) : Prop := ∀ c ∈ l, Sg c
theorem Dna.app {a b : List Nat} (h : Dna a) (k : Dna b) : Dna (a ++ b) := fun c hc => by
  rcases List.mem_append.mp hc with q | q
  · exact h c q
  · exact k c q
theorem Dna.one {c : Nat} (h : Sg c) : Dna [c] := fun d hd => by
  obtain rfl : d = c := by simpa using hd
  exact h
theorem line_ok {n : Nat} (h : n ≤ 100000) : n ≤ sizeLine := by
  rw [sizeLine_eq]
  omega
theorem line_lt {n : Nat} (h : n ≤ 100000) : n < sizeLine := by
  rw [sizeLine_eq]
  omega
theorem same_upd {H : Hp} {p : Addr} {o : HO} (h : H p = none) : Same H (upd H p o) := fun b x e => by
  rw [upd_ne (ne_of_none e h)]
  exact e
theorem upd_upd {H : Hp} {p : Addr} {o o' : HO} : upd (upd H p o) p o' = upd H p o' := by
  funext b
  by_cases e : b = p
  · rw [e, upd_same, upd_same]
  · rw [upd_ne e, upd_ne e, upd_ne e]
/-! ### names that are still the built-in ones -/
structure Bl (mg : Str → Option Value) : Prop where
  len : mg "len" = none
  int : mg "int" = none
  abs : mg "abs" = none
  range : mg "range" = none
  isin : mg "isinstance" = none
  bool : mg "bool" = none
  str : mg "str" = none
section
variable {P : Program} {w : World} {K : PySem.W.Frag} {mg : Str → Option Value} {base : Heap}
/-! ### _law_cell -/
def spCell (K : PySem.W.Frag) : Sp := fun vs H Q _ => ∃ (a : Addr) (ns : List Int) (k : Nat), vs = [.ref a, .int (k : Int)] ∧ SqL K H a (ns.map V.int) ∧ ∀ x : Int, Q (.int x) H
theorem ok_cell {f : Addr} {fd : FuncData} {k : Nat} (F : Fun K "_law_cell" "_law_cell" sCell f fd) (B : Bl mg) : FnOk P w K mg base CX0 (k + 1) f fd ["script", "k"] (spCell K) := by
  refine F.ok scCell (fun vs H Q E h => ?_) (fun cdv A outer s H vs Q E hr h => ?_)
  · obtain ⟨a, ns, j, rfl, _⟩ := h
    rfl
  · obtain ⟨a, ns, j, rfl, hS, q⟩ := h
    refine ⟨_, pss_cons (ps_if (pt_cmpR op_lt (pv 1) (pe_callB call_len_seq (by rfl) B.len PySem.boot_len (pa_cons (pv 0) pa_nil)) (nomark _))
        (pss_one (ps_ret (pe_callTy call_int1 (by rfl) B.int (by decide +kernel) (pa_cons (pe_ix ix_list (pv 0) (pv 1) (fun _ _ => rfl)) pa_nil)))) pss_nil)
      (pss_one (ps_ret pe_int)), ?_⟩
    refine ⟨.int j, rfl, .ref a, rfl, a, ns.map V.int, rfl, .inl hS, j, _, rfl, rfl, _, rfl, ite2 (fun e => ?_) (fun e => q 0)⟩
    have h1 : (j : Int) < ((ns.map V.int).length : Int) := of_decide_eq_true e
    have h2 : j < ns.length := by
      rw [List.length_map] at h1
      omega
    have g1 : (ns.map V.int)[j]? = some (.int ns[j]) := by
      rw [List.getElem?_map, List.getElem?_eq_getElem h2]
      rfl
    exact ⟨.ref a, rfl, .int j, rfl, a, _, j, .int ns[j], rfl, rfl, hS, atI_nat g1, .inl ⟨_, rfl, q _⟩⟩
/-! ### _law_row -/
def spRow (K : PySem.W.Frag) : Sp := fun vs H Q _ => ∃ (c n b : Int), vs = [.int c, .int n, .int b] ∧ 0 ≤ n ∧ n ≤ 100000 ∧ 1 < b ∧ b ≤ 1000000001 ∧
  ∀ (H' : Hp) (p : Addr) (xs : List Int), Same H H' → H p = none → H' p = some (.lst (xs.map V.int)) → xs.length = n.toNat → (∀ x ∈ xs, 0 ≤ x ∧ x < b) → Q (.ref p) H'
theorem ok_row {f : Addr} {fd : FuncData} {k : Nat} (F : Fun K "_law_row" "_law_row" sRow f fd) (B : Bl mg) : FnOk P w K mg base CX0 (k + 1) f fd ["cell", "count", "bound"] (spRow K) := by
  refine F.ok scRow (fun vs H Q E h => ?_) (fun cdv A outer s H vs Q E hr h => ?_)
  · obtain ⟨c, n, b, rfl, _⟩ := h
    rfl
  · obtain ⟨c, n, b, rfl, hn0, hn, hb1, hb2, q⟩ := h
    refine ⟨_, pss_cons (ps_set (i := 3) scRow.nd rfl (.inl rfl) (pe_callB call_abs (by rfl) B.abs (by decide +kernel) (pa_cons (pe_callTy call_int1 (by rfl) B.int (by decide +kernel) (pa_cons (pv 0) pa_nil)) pa_nil)))
      (pss_cons (ps_set (i := 4) scRow.nd rfl (.inl rfl) (pe_op op_add (pe_op op_mod (pe_callTy call_int1 (by rfl) B.int (by decide +kernel) (pa_cons (pv 0) pa_nil)) pe_int) pe_int))
      (pss_cons (ps_set (i := 5) scRow.nd rfl (.inl rfl) (pe_lst pa_nil))
      (pss_cons (ps_for PassesOwn.never rfl (pi_range1 rfl B.range (pa_cons (pv 1) pa_nil)) (pg_name (i := 6) scRow.nd rfl (.inl rfl))
        (pss_one (ps_if (pt_cmpR op_ge (pv 3) (pv 2) (nomark _))
          (pss_cons (ps_expr (pe_bm PySem.F.plainAttrs_list PySem.F.slot_list_append PySem.F.type_list_append mt_append (pv 5) (pa_cons (pe_op op_mod (pe_callTy call_int1 (by rfl) B.int (by decide +kernel) (pa_cons (pv 3) pa_nil)) (pv 2)) pa_nil)))
            (pss_one (ps_set (i := 3) scRow.nd rfl (.inl rfl) (pe_op op_fdiv (pv 3) (pv 2)))))
          (pss_cons (ps_set (i := 4) scRow.nd rfl (.inl rfl) (pe_op op_mod (pe_callTy call_int1 (by rfl) B.int (by decide +kernel) (pa_cons (pe_op op_add (pe_op op_add (pe_op op_mul (pv 4) pe_int) (pe_op op_mul pe_int (pv 6))) pe_int) pa_nil)) pe_int))
            (pss_one (ps_expr (pe_bm PySem.F.plainAttrs_list PySem.F.slot_list_append PySem.F.type_list_append mt_append (pv 5) (pa_cons (pe_op op_mod (pe_callTy call_int1 (by rfl) B.int (by decide +kernel) (pa_cons (pe_op op_fdiv (pe_op op_mul (pv 4) pe_int) pe_int) pa_nil)) (pv 2)) pa_nil))))))))
      (pss_one (ps_ret (pv 5)))))), ?_⟩
    refine ⟨.int c, rfl, .inl ⟨c, rfl, c, rfl, ?_⟩⟩
    refine ⟨.int c, rfl, .inl ⟨c, rfl, c, 1000003, rfl, rfl, (show (0 : Int) < 1000003 by decide), _, _, rfl, rfl, ?_⟩⟩
    refine ⟨Nat.zero_le _, fun p hp => ?_⟩
    refine ⟨.int n, rfl, n, rfl, by omega, by omega, ?_⟩
    refine for_range (lo := 0) (n := n.toNat) (fun i σ H' => ∃ (r m : Int) (kv : Option V) (xs : List Int), σ = [some (.int c), some (.int n), some (.int b), some (.int r), some (.int m), some (.ref p), kv] ∧ 0 ≤ m ∧ m < 4294967296 ∧ Same H H' ∧
      H' p = some (.lst (xs.map V.int)) ∧ xs.length = i ∧ ∀ x ∈ xs, 0 ≤ x ∧ x < b) ?_ ?_ ?_
    · refine ⟨_, _, none, [], rfl, ?_, ?_, same_upd hp, upd_same, rfl, fun x hx => by cases hx⟩
      · have := Int.emod_nonneg c (show (1000003 : Int) ≠ 0 by decide)
        omega
      · have := Int.emod_lt_of_pos c (show (0 : Int) < 1000003 by decide)
        omega
    · rintro i σ H' hi ⟨r, m, kv, xs, rfl, hm0, hm1, sm, hx, hl, hall⟩
      have grow : ∀ (y : Int) (τ : L2.St) (r' m' : Int), 0 ≤ y → y < b → 0 ≤ m' → m' < 4294967296 → τ = [some (.int c), some (.int n), some (.int b), some (.int r'), some (.int m'), some (.ref p), some (.int (0 + (i : Nat)))] →
          ∃ (r m : Int) (kv : Option V) (zs : List Int), τ = [some (.int c), some (.int n), some (.int b), some (.int r), some (.int m), some (.ref p), kv] ∧ 0 ≤ m ∧ m < 4294967296 ∧ Same H (upd H' p (.lst (xs.map V.int ++ [.int y]))) ∧
          (upd H' p (.lst (xs.map V.int ++ [.int y]))) p = some (.lst (zs.map V.int)) ∧ zs.length = i + 1 ∧ ∀ x ∈ zs, 0 ≤ x ∧ x < b := by
        intro y τ r' m' y0 y1 h0 h1 e
        refine ⟨r', m', _, xs ++ [y], e, h0, h1, fun q o k => ?_, ?_, ?_, ?_⟩
        · rw [upd_ne (ne_of_none k hp)]
          exact sm q o k
        · rw [upd_same, List.map_append]
          rfl
        · rw [List.length_append, hl]
          rfl
        · intro x hxm
          rcases List.mem_append.mp hxm with z | z
          · exact hall x z
          · obtain rfl : x = y := by simpa using z
            exact ⟨y0, y1⟩
      have hsz : (xs.map V.int).length < sizeLine := line_lt (by rw [List.length_map]; omega)
      refine ⟨.int r, rfl, .int b, rfl, r, b, rfl, rfl, _, rfl, ite2 (fun e => ?_) (fun e => ?_)⟩
      · refine ⟨.ref p, rfl, .inl ⟨rfl, _, .inl (.inl hx)⟩, .int r, rfl, .inl ⟨r, rfl, .int b, rfl, r, b, rfl, rfl, (show 0 < b by omega), p, _, _, rfl, rfl, hx, hsz, ?_⟩⟩
        refine ⟨.int r, rfl, .int b, rfl, r, b, rfl, rfl, ⟨by omega, by omega⟩, ?_⟩
        exact grow _ _ (r / b) m (Int.emod_nonneg r (by omega)) (Int.emod_lt_of_pos r (by omega)) hm0 hm1 rfl
      · refine ⟨.int m, rfl, m, 48271, rfl, rfl, .inl ⟨by omega, by omega⟩, .int (0 + (i : Nat)), rfl, 11, _, rfl, rfl, .inl ⟨by decide, by decide⟩, _, _, rfl, rfl, _, _, rfl, rfl, .inl ⟨_, rfl, _, 2147483647, rfl, rfl, (show (0 : Int) < 2147483647 by decide), ?_⟩⟩
        have b0 : 0 ≤ (m * 48271 + 11 * (0 + ((i : Nat) : Int)) + 7) % 2147483647 := Int.emod_nonneg _ (by decide)
        have b1 : (m * 48271 + 11 * (0 + ((i : Nat) : Int)) + 7) % 2147483647 < 2147483647 := Int.emod_lt_of_pos _ (by decide)
        refine ⟨.ref p, rfl, .inl ⟨rfl, _, .inl (.inl hx)⟩, _, rfl, (m * 48271 + 11 * (0 + ((i : Nat) : Int)) + 7) % 2147483647, 2862933555777941757, rfl, rfl, .inl ⟨by omega, by omega⟩, _, 1024, rfl, rfl, ⟨by decide, by decide⟩, .inl ⟨_, rfl, .int b, rfl, _, b, rfl, rfl, (show 0 < b by omega), p, _, _, rfl, rfl, hx, hsz, ?_⟩⟩
        exact grow _ _ r ((m * 48271 + 11 * (0 + ((i : Nat) : Int)) + 7) % 2147483647) (Int.emod_nonneg _ (by omega)) (Int.emod_lt_of_pos _ (by omega)) b0 (by omega) rfl
    · rintro σ H' ⟨r, m, kv, xs, rfl, hm0, hm1, sm, hx, hl, hall⟩
      exact ⟨.ref p, rfl, q H' p xs sm hp hx hl hall⟩
/-! ### _law_integer -/
def spInteger : Sp := fun vs H Q _ => ∃ i : Int, vs = [.int i] ∧ Q (.bl true) H
theorem ok_integer {f : Addr} {fd : FuncData} {k : Nat} (F : Fun K "_law_integer" "_law_integer" sInteger f fd) (B : Bl mg) : FnOk P w K mg base CX0 (k + 1) f fd ["value"] spInteger := by
  refine F.ok scInteger (fun vs H Q E h => ?_) (fun cdv A outer s H vs Q E hr h => ?_)
  · obtain ⟨i, rfl, _⟩ := h
    rfl
  · obtain ⟨i, rfl, q⟩ := h
    refine ⟨_, pss_one (ps_ret (pe_and (pe_callB call_isi (by rfl) B.isin (by decide +kernel) (pa_cons (pv 0) (pa_cons (pe_bltn (v := .ty "int") (by rfl) B.int (by decide +kernel) rfl) pa_nil)))
      (pe_one (pe_not (pe_callB call_isi (by rfl) B.isin (by decide +kernel) (pa_cons (pv 0) (pa_cons (pe_bltn (v := .ty "bool") (by rfl) B.bool (by decide +kernel) rfl) pa_nil))))))), ?_⟩
    refine ⟨.int i, rfl, .int i, .ty "int", _, _, true, rfl, .ty _, .base (.int i), kit_ty (by decide +kernel), true, rfl, iteT ?_⟩
    exact ⟨.int i, rfl, .int i, .ty "bool", _, _, false, rfl, .ty _, .base (.int i), kit_ty (by decide +kernel), false, rfl, q⟩
end
theorem line_ok6 {n : Nat} (h : n ≤ 1000000) : n ≤ sizeLine := by
  rw [sizeLine_eq]
  omega
theorem line_ok7 {n : Nat} (h : n ≤ 10000000) : n ≤ sizeLine := by
  rw [sizeLine_eq]
  omega
theorem new_ne {H : Hp} {p q : Addr} {o : HO} (h : upd H p o q = none) : q ≠ p := fun e => by
  rw [e, upd_same] at h
  cases h
theorem new_old {H : Hp} {p q : Addr} {o : HO} (h : upd H p o q = none) : H q = none := by
  rw [upd_ne (new_ne h)] at h
  exact h
theorem cell_arg2 (a : Addr) (c d i : Nat) : [V.ref a, V.int ((c : Int) + (d : Int) * (0 + ((i : Nat) : Int)))] = [V.ref a, V.int ((c + d * i : Nat) : Int)] := by
  congr 2
  rw [Int.zero_add]
  simp
theorem cell_arg3 (a : Addr) (d i : Nat) : [V.ref a, V.int ((d : Int) * (0 + ((i : Nat) : Int)))] = [V.ref a, V.int ((d * i : Nat) : Int)] := by
  congr 2
  rw [Int.zero_add]
  simp
theorem cell_arg4 (a : Addr) (c d i : Nat) : [V.ref a, V.int ((d : Int) * (0 + ((i : Nat) : Int)) + (c : Int))] = [V.ref a, V.int ((d * i + c : Nat) : Int)] := by
  congr 2
  rw [Int.zero_add]
  simp
theorem map_int_at {ns : List Int} {i : Nat} (h : i < ns.length) : (ns.map V.int)[i]? = some (.int ns[i]) := by
  rw [List.getElem?_map, List.getElem?_eq_getElem h]
  rfl
def rFind : V → List V → Hp → VK → Prop := fun x xs H Q => ∃ a b, x = .str a ∧ xs = [.str b] ∧ Q (.int (Txt.find a b)) H
def rMaxP : List V → Hp → VK → Prop := fun xs H Q => ∃ i j, xs = [.int i, .int j] ∧ Q (.int (if j > i then j else i)) H
theorem scLSum : FnScope ["data", "a", "b", "k"] ["data"] (defScope sLSum) := ⟨rfl, rfl, rfl, by decide +kernel, rfl, by decide +kernel, by decide +kernel⟩
/-! ### sums of bytes -/
def tot : List Int → Int
  | [] => 0
  | d :: r => d + tot r
/-- each number times how many there are from it on -/
def bsum : Int → List Int → Int
  | _, [] => 0
  | n, d :: r => n * d + bsum (n - 1) r
theorem tot_app (a b : List Int) : tot (a ++ b) = tot a + tot b := by
  induction a with
  | nil => exact (Int.zero_add _).symm
  | cons d r ih =>
    show d + tot (r ++ b) = d + tot r + tot b
    rw [ih, Int.add_assoc]
theorem tot_snoc (l : List Int) (x : Int) : tot (l ++ [x]) = tot l + x := by
  rw [tot_app]
  show tot l + (x + 0) = _
  rw [Int.add_zero]
theorem bsum_snoc (x : Int) : ∀ (l : List Int) (n : Int), bsum n (l ++ [x]) = bsum n l + (n - l.length) * x
  | [], n => by
    show n * x + 0 = 0 + (n - 0) * x
    rw [Int.add_zero, Int.zero_add, Int.sub_zero]
  | d :: r, n => by
    show n * d + bsum (n - 1) (r ++ [x]) = n * d + bsum (n - 1) r + (n - ((r.length + 1 : Nat) : Int)) * x
    rw [bsum_snoc x r (n - 1), Int.add_assoc, show n - 1 - (r.length : Int) = n - ((r.length + 1 : Nat) : Int) by omega]
def sumOf (ns : List Int) : Int := 65536 * (((ns.length : Int) + bsum ns.length ns) % 65521) + (1 + tot ns) % 65521
theorem tot_set : ∀ (l : List Int) (i : Nat) (y : Int), i < l.length → tot (l.set i y) = tot l + (y - l.getD i 0)
  | [], _, _, h => absurd h (Nat.not_lt_zero _)
  | d :: r, 0, y, _ => by
    show y + tot r = d + tot r + (y - d)
    omega
  | d :: r, i + 1, y, h => by
    show d + tot (r.set i y) = d + tot r + (y - r.getD i 0)
    rw [tot_set r i y (Nat.lt_of_succ_lt_succ h)]
    omega
/-- one byte changed: another sum -/
theorem sumOf_set {l : List Int} {i : Nat} {y : Int} (h : i < l.length) (ne : y ≠ l.getD i 0) (y0 : 0 ≤ y) (y1 : y < 256) (x0 : 0 ≤ l.getD i 0) (x1 : l.getD i 0 < 256) : sumOf (l.set i y) ≠ sumOf l := by
  unfold sumOf
  rw [tot_set l i y h, List.length_set]
  intro e
  have a0 := Int.emod_nonneg (1 + (tot l + (y - l.getD i 0))) (show (65521 : Int) ≠ 0 by decide)
  have a1 := Int.emod_lt_of_pos (1 + (tot l + (y - l.getD i 0))) (show (0 : Int) < 65521 by decide)
  have b0 := Int.emod_nonneg (1 + tot l) (show (65521 : Int) ≠ 0 by decide)
  have b1 := Int.emod_lt_of_pos (1 + tot l) (show (0 : Int) < 65521 by decide)
  omega
section
variable {P : Program} {w : World} {K : PySem.W.Frag} {mg : Str → Option Value} {base : Heap}
def spLSum (K : PySem.W.Frag) : Sp := fun vs H Q _ => ∃ (a : Addr) (ns : List Int), vs = [.ref a] ∧ SqL K H a (ns.map V.int) ∧ ns.length ≤ 10000000 ∧ Q (.int (sumOf ns)) H
theorem ok_lsum {f : Addr} {fd : FuncData} {k : Nat} (F : Fun K "_law_sum" "_law_sum" sLSum f fd) (B : Bl mg) : FnOk P w K mg base CX0 (k + 1) f fd ["data"] (spLSum K) := by
  refine F.ok scLSum (fun vs H Q E h => ?_) (fun cdv A outer s H vs Q E hr h => ?_)
  · obtain ⟨a, ns, rfl, _⟩ := h
    rfl
  · obtain ⟨a, ns, rfl, hS, hn, q⟩ := h
    refine ⟨_, pss_cons (ps_set (i := 1) scLSum.nd rfl (.inl rfl) pe_int)
      (pss_cons (ps_set (i := 2) scLSum.nd rfl (.inl rfl) (pe_callB call_len_seq (by rfl) B.len PySem.boot_len (pa_cons (pv 0) pa_nil)))
      (pss_cons (ps_for PassesOwn.never rfl (pi_range1 rfl B.range (pa_cons (pe_callB call_len_seq (by rfl) B.len PySem.boot_len (pa_cons (pv 0) pa_nil)) pa_nil)) (pg_name (i := 3) scLSum.nd rfl (.inl rfl))
        (pss_cons (ps_set (i := 1) scLSum.nd rfl (.inl rfl) (pe_op op_add (pv 1) (pe_ix ix_list (pv 0) (pv 3) (fun _ _ => rfl))))
        (pss_one (ps_set (i := 2) scLSum.nd rfl (.inl rfl) (pe_op op_add (pv 2) (pe_op op_mul (pe_op op_sub (pe_callB call_len_seq (by rfl) B.len PySem.boot_len (pa_cons (pv 0) pa_nil)) (pv 3)) (pe_ix ix_list (pv 0) (pv 3) (fun _ _ => rfl))))))))
      (pss_one (ps_ret (pe_op op_add (pe_op op_mul pe_int (pe_op op_mod (pe_callTy call_int1 (by rfl) B.int (by decide +kernel) (pa_cons (pv 2) pa_nil)) pe_int)) (pe_op op_mod (pe_callTy call_int1 (by rfl) B.int (by decide +kernel) (pa_cons (pv 1) pa_nil)) pe_int)))))), ?_⟩
    have hlm : (ns.map V.int).length = ns.length := List.length_map _
    refine ⟨.ref a, rfl, a, _, rfl, .inl hS, .ref a, rfl, a, _, rfl, .inl hS, _, rfl, by omega, by omega, ?_⟩
    rw [Int.toNat_natCast, hlm]
    refine for_range (lo := 0) (n := ns.length) (fun i σ H' => H' = H ∧ i ≤ ns.length ∧ ∃ kv : Option V, σ = [some (.ref a), some (.int (1 + tot (ns.take i))), some (.int ((ns.length : Int) + bsum ns.length (ns.take i))), kv]) ⟨rfl, Nat.zero_le _, none, ?_⟩ ?_ ?_
    · show [some (V.ref a), some (V.int 1), some (V.int (ns.length : Nat)), none] = _
      rw [List.take_zero]
      show _ = [some (V.ref a), some (V.int (1 + 0)), some (V.int ((ns.length : Int) + 0)), none]
      rw [Int.add_zero, Int.add_zero]
    · rintro i σ H' hi ⟨rfl, _, kv, rfl⟩
      have h1 := map_int_at hi
      have h2 : atI (ns.map V.int) (0 + ((i : Nat) : Int)) = some (.int ns[i]) := by
        rw [Int.zero_add]
        exact atI_nat h1
      refine ⟨_, rfl, .ref a, rfl, .int (0 + (i : Nat)), rfl, a, _, _, _, rfl, rfl, hS, h2, _, _, rfl, rfl, ?_⟩
      refine ⟨_, rfl, .ref a, rfl, a, _, rfl, .inl hS, .int (0 + (i : Nat)), rfl, _, _, rfl, rfl, .ref a, rfl, .int (0 + (i : Nat)), rfl, a, _, _, _, rfl, rfl, hS, h2, _, _, rfl, rfl, .inl ⟨by omega, by omega⟩, _, _, rfl, rfl, ?_⟩
      have et : ns.take (i + 1) = ns.take i ++ [ns[i]] := by
        rw [List.take_add_one, List.getElem?_eq_getElem hi]
        rfl
      refine ⟨rfl, hi, some (.int (0 + (i : Nat))), ?_⟩
      rw [et, tot_snoc, bsum_snoc, List.length_take, Nat.min_eq_left (by omega), ← Int.add_assoc, ← Int.add_assoc]
      show [some (V.ref a), some (V.int (1 + tot (ns.take i) + ns[i])), some (V.int ((ns.length : Int) + bsum ns.length (ns.take i) + ((((ns.map V.int).length : Nat) : Int) - (0 + ((i : Nat) : Int))) * ns[i])), some (V.int (0 + ((i : Nat) : Int)))] = _
      rw [hlm, Int.zero_add]
      try rfl
    · rintro σ H' ⟨rfl, _, kv, rfl⟩
      rw [List.take_length]
      have m0 := Int.emod_nonneg ((ns.length : Int) + bsum ns.length ns) (show (65521 : Int) ≠ 0 by decide)
      have m1 := Int.emod_lt_of_pos ((ns.length : Int) + bsum ns.length ns) (show (0 : Int) < 65521 by decide)
      exact ⟨_, rfl, .inl ⟨_, rfl, _, 65521, rfl, rfl, (show (0 : Int) < 65521 by decide), 65536, _, rfl, rfl, .inl ⟨by decide, by decide⟩, _, rfl, .inl ⟨_, rfl, _, 65521, rfl, rfl, (show (0 : Int) < 65521 by decide), _, _, rfl, rfl, q⟩⟩⟩
end
/-! ### lists of ints as data -/
abbrev LI (ns : List Int) : HO := .lst (ns.map V.int)
theorem LI_snoc (l : List Int) (x : Int) : LI (l ++ [x]) = .lst (l.map V.int ++ [.int x]) := by
  show HO.lst ((l ++ [x]).map V.int) = _
  rw [List.map_append]
  rfl
def dI (ns : List Int) : PyData := .list (ns.map .int)
theorem can_ints (ns : List Int) : PyData.canLayAll0 (ns.map .int) = true := by
  induction ns with
  | nil => rfl
  | cons n r ih => exact ih
theorem depth_intsD (ns : List Int) : PyData.depthAll (ns.map .int) = 0 := by
  induction ns with
  | nil => rfl
  | cons n r ih =>
    show max 0 (PyData.depthAll (r.map .int)) = 0
    rw [ih]
    rfl
theorem shaped_dI (ns : List Int) : SeqAt.shaped (dI ns) = true := by
  unfold SeqAt.shaped
  have e1 : (dI ns).canLay0 = true := can_ints ns
  have e2 : PyData.depth (dI ns) ≤ 64 := by
    show PyData.depthAll (ns.map .int) + 1 ≤ 64
    rw [depth_intsD]
    decide
  rw [e1, decide_eq_true e2]
  rfl
theorem dp_ints {K : PySem.W.Frag} {H : Hp} : ∀ ns : List Int, DpAll K H (ns.map V.int) (ns.map .int)
  | [] => .nil
  | n :: r => .cons (.int n) (dp_ints r)
theorem dp_dI {K : PySem.W.Frag} {H : Hp} {a : Addr} {ns : List Int} (h : SqL K H a (ns.map V.int)) : Dp K H (.ref a) (dI ns) := .lst h (dp_ints ns)
theorem eqv_ints (ns : List Int) : PyData.eqv (dI ns) (dI ns) = true := SeqAt.eqv_refl _ (can_ints ns)
theorem cutV_to (xs : List V) (k : Nat) : L2.cutV xs none (some (k : Int)) = xs.take k := by
  unfold L2.cutV
  rw [HT.sIx_none, HT.sIx_nat, List.drop_zero, Nat.sub_zero]
  by_cases h : k ≤ xs.length
  · rw [Nat.min_eq_left h]
  · rw [Nat.min_eq_right (by omega), List.take_of_length_le (Nat.le_refl _), List.take_of_length_le (by omega)]
theorem cutV_from (xs : List V) (k : Nat) : L2.cutV xs (some (k : Int)) none = xs.drop k := by
  unfold L2.cutV
  rw [HT.sIx_none, HT.sIx_nat]
  by_cases h : k ≤ xs.length
  · rw [Nat.min_eq_left h, List.take_of_length_le (by rw [List.length_drop]; omega)]
  · rw [Nat.min_eq_right (by omega), List.drop_of_length_le (Nat.le_refl _), List.drop_of_length_le (by omega), List.take_nil]
theorem ix_set {xs : List V} {i : Int} {j : Nat} (e : i = (j : Int)) (h : j < xs.length) : ixN xs.length i = some j := by
  rw [e]
  unfold ixN
  rw [if_pos (by omega), if_pos (by omega)]
  rfl
/-- a def of the module that keeps a promise -/
def Has (P : Program) (w : World) (K : PySem.W.Frag) (mg : Str → Option Value) (base : Heap) (k : Nat) (x : Str) (ps : List Str) (sp : Sp) : Prop :=
  ∃ f fd, FnOk P w K mg base CX0 k f fd ps sp ∧ mg x = some (.ref f) ∧ PySem.W.keepIn K (.ref f) = true ∧ Binds K fd ps []
/-- lists of bytes -/
def Byt (l : List Int) : Prop := ∀ x ∈ l, 0 ≤ x ∧ x < 256
theorem Byt.app {a b : List Int} (h : Byt a) (k : Byt b) : Byt (a ++ b) := fun x hx => by
  rcases List.mem_append.mp hx with z | z
  · exact h x z
  · exact k x z
theorem Byt.take {a : List Int} (h : Byt a) (n : Nat) : Byt (a.take n) := fun x hx => h x (List.mem_of_mem_take hx)
theorem Byt.rep {a : List Int} (h : Byt a) (n : Nat) : Byt (List.replicate n a).flatten := fun x hx => by
  obtain ⟨z, hz1, hz2⟩ := List.mem_flatten.mp hx
  rw [List.eq_of_mem_replicate hz1] at hz2
  exact h x hz2
theorem rep_map {α β : Type} (f : α → β) (n : Nat) (l : List α) : (List.replicate n (l.map f)).flatten = (List.replicate n l).flatten.map f := by
  rw [List.map_flatten, List.map_replicate]
theorem rep_len {α : Type} (n : Nat) (l : List α) : (List.replicate n l).flatten.length = n * l.length := by simp
theorem paired_len {α β : Type} {F : α → β → Prop} : ∀ {xs : List α} {ys : List β}, Paired F xs ys → xs.length = ys.length
  | _, _, .nil => rfl
  | _, _, .cons _ t => congrArg (· + 1) (paired_len t)
theorem paired_get {α β : Type} {F : α → β → Prop} : ∀ {xs : List α} {ys : List β} {i : Nat} {x : α}, Paired F xs ys → xs[i]? = some x → ∃ y, ys[i]? = some y ∧ F x y
  | _, _, 0, _, .cons r _, e => ⟨_, rfl, by cases e; exact r⟩
  | _, _, i + 1, _, .cons _ t, e => paired_get (i := i) t e
/-- lists of bytes in the list at pl -/
def Bys (pl : Addr) (H : Hp) : List V → List (List Int) → Prop := Paired fun v l => ∃ q, v = .ref q ∧ q ≠ pl ∧ H q = some (LI l)
theorem Bys.mono {pl : Addr} {H H' : Hp} {xs : List V} {rs : List (List Int)} (h : Bys pl H xs rs) (k : ∀ q l, q ≠ pl → H q = some (LI l) → H' q = some (LI l)) : Bys pl H' xs rs := Paired.mapP h fun _ _ ⟨q, e, n, t⟩ => ⟨q, e, n, k q _ n t⟩
def spSum (K : PySem.W.Frag) : Sp := fun vs H Q _ => ∃ (a : Addr) (ns : List Int), vs = [.ref a] ∧ SqL K H a (ns.map V.int) ∧ Byt ns ∧ ns.length ≤ 100000 ∧ ∀ H', Same H H' → Q (.int (sumOf ns)) H'
theorem bsum_up : ∀ (l : List Int) (n : Int), bsum (n + 1) l = bsum n l + tot l
  | [], n => rfl
  | d :: r, n => by
    show (n + 1) * d + bsum (n + 1 - 1) r = n * d + bsum (n - 1) r + (d + tot r)
    have e := bsum_up r (n - 1)
    rw [show n + 1 - 1 = n - 1 + 1 by omega, e, Int.add_mul, Int.one_mul]
    omega
theorem bsum_add (l : List Int) (x : Int) : ((l ++ [x]).length : Int) + bsum (l ++ [x]).length (l ++ [x]) = ((l.length : Int) + bsum l.length l) + (1 + tot l + x) := by
  rw [bsum_snoc, List.length_append, List.length_singleton]
  have e : (((l.length + 1 : Nat) : Int)) = (l.length : Int) + 1 := by omega
  rw [e, bsum_up, show (l.length : Int) + 1 - l.length = 1 by omega, Int.one_mul]
  omega
theorem scSum : FnScope ["data", "a", "b", "byte"] ["data"] (defScope sSum) := ⟨rfl, rfl, rfl, by decide +kernel, rfl, by decide +kernel, by decide +kernel⟩
section
variable {P : Program} {w : World} {K : PySem.W.Frag} {mg : Str → Option Value} {base : Heap}
theorem ok_sumOf {f : Addr} {fd : FuncData} {k : Nat} {t : Tok} (F : Fun K "sum_of" "sum_of" sSum f fd) (gM : mg "_SUM_MODULO" = some (.int 65521 t)) : FnOk P w K mg base CX0 (k + 1) f fd ["data"] (spSum K) := by
  refine F.ok scSum (fun vs H Q E h => ?_) (fun cdv A outer s H vs Q E hr h => ?_)
  · obtain ⟨a, ns, rfl, _⟩ := h
    rfl
  · obtain ⟨a, ns, rfl, hS, hb, hn, q⟩ := h
    refine ⟨_, pss_cons (ps_set (i := 1) scSum.nd rfl (.inl rfl) pe_int)
      (pss_cons (ps_set (i := 2) scSum.nd rfl (.inl rfl) pe_int)
      (pss_cons (ps_for PassesOwn.never rfl (pi_list (pv 0)) (pg_name (i := 3) scSum.nd rfl (.inl rfl))
        (pss_cons (ps_set (i := 1) scSum.nd rfl (.inl rfl) (pe_op op_mod (pe_op op_add (pv 1) (pv 3)) (pe_glob (v := .int 65521) rfl gM ⟨_, rfl⟩)))
        (pss_one (ps_set (i := 2) scSum.nd rfl (.inl rfl) (pe_op op_mod (pe_op op_add (pv 2) (pv 1)) (pe_glob (v := .int 65521) rfl gM ⟨_, rfl⟩))))))
      (pss_one (ps_ret (pe_op op_add (pe_op op_mul pe_int (pv 2)) (pv 1)))))), ?_⟩
    refine ⟨.ref a, rfl, a, rfl, ⟨_, hS⟩, ?_⟩
    refine for_list (K := K) (xs := ns.map V.int) (fun i σ H' => H' = H ∧ ∃ kv : Option V, σ = [some (.ref a), some (.int ((1 + tot (ns.take i)) % 65521)), some (.int ((((ns.take i).length : Int) + bsum (ns.take i).length (ns.take i)) % 65521)), kv]) ⟨rfl, none, ?_⟩ (fun i σ H' _ h => h.1 ▸ hS) ?_ ?_
    · rw [List.take_zero]
      rfl
    · rintro i v σ H' hv ⟨rfl, kv, rfl⟩
      rw [List.getElem?_map] at hv
      obtain ⟨n, hn1, rfl⟩ := Option.map_eq_some_iff.mp hv
      have et : ns.take (i + 1) = ns.take i ++ [n] := by
        rw [List.take_add_one, hn1]
        rfl
      refine ⟨_, rfl, _, rfl, _, n, rfl, rfl, _, 65521, rfl, rfl, (show (0 : Int) < 65521 by decide), ?_⟩
      refine ⟨_, rfl, _, rfl, _, _, rfl, rfl, _, 65521, rfl, rfl, (show (0 : Int) < 65521 by decide), ?_⟩
      refine ⟨rfl, some (.int n), ?_⟩
      rw [et, bsum_add, tot_snoc]
      have e1 : ((1 + tot (ns.take i)) % 65521 + n) % 65521 = (1 + (tot (ns.take i) + n)) % 65521 := by omega
      have e2 : ((((ns.take i).length : Int) + bsum (ns.take i).length (ns.take i)) % 65521 + ((1 + tot (ns.take i)) % 65521 + n) % 65521) % 65521 = (((ns.take i).length : Int) + bsum (ns.take i).length (ns.take i) + (1 + tot (ns.take i) + n)) % 65521 := by omega
      rw [← e1, ← e2]
      rfl
    · rintro σ H' ⟨rfl, kv, rfl⟩
      rw [List.length_map, List.take_length]
      have m0 := Int.emod_nonneg ((ns.length : Int) + bsum ns.length ns) (show (65521 : Int) ≠ 0 by decide)
      have m1 := Int.emod_lt_of_pos ((ns.length : Int) + bsum ns.length ns) (show (0 : Int) < 65521 by decide)
      exact ⟨_, rfl, 65536, _, rfl, rfl, .inl ⟨by decide, by decide⟩, _, rfl, _, _, rfl, rfl, q _ (Same.refl _)⟩
end
def NL : List Str := ["script", "lists", "k", "cell", "unit", "data", "handed", "actual", "at", "x"]
theorem scLaw : FnScope NL ["script"] (defScope sLaw) := ⟨rfl, rfl, rfl, by decide +kernel, rfl, by decide +kernel, by decide +kernel⟩
section
variable {P : Program} {w : World} {K : PySem.W.Frag} {mg : Str → Option Value} {base : Heap}
def LInv (H0 : Hp) (a : Addr) (i : Nat) (σ : L2.St) (H' : Hp) : Prop := ∃ (pl : Addr) (xs : List V) (rs : List (List Int)) (kv cv : Option V), σ = [some (.ref a), some (.ref pl), kv, cv, none, none, none, none, none, none] ∧ Same H0 H' ∧ H0 pl = none ∧ H' pl = some (.lst xs) ∧ Bys pl H' xs rs ∧ rs.length = i ∧ ∀ r ∈ rs, Byt r ∧ r.length ≤ 100
def spLaw (K : PySem.W.Frag) : Sp := fun vs H Q _ => ∃ (a : Addr) (ns : List Int), vs = [.ref a] ∧ SqL K H a (ns.map V.int) ∧ ∀ H', Q (.bl true) H'
theorem ok_law {f : Addr} {fd : FuncData} {m : Nat} (F : Fun K "law" "law" sLaw f fd) (B : Bl mg) (mlist : mg "list" = none) (hm : 2 ≤ m) (hC : Has P w K mg base 2 "_law_cell" ["script", "k"] (spCell K)) (hO : Has P w K mg base 2 "_law_row" ["cell", "count", "bound"] (spRow K))
    (hI : Has P w K mg base 2 "_law_integer" ["value"] spInteger) (hL : Has P w K mg base 2 "_law_sum" ["data"] (spLSum K)) (hS : Has P w K mg base m "sum_of" ["data"] (spSum K)) : FnOk P w K mg base CX0 (m + 1) f fd ["script"] (spLaw K) := by
  obtain ⟨fC, dC, GC, gC, kC, bC⟩ := hC
  obtain ⟨fO, dO, GO, gO, kO, bO⟩ := hO
  obtain ⟨fI, dI', GI, gI, kI, bI⟩ := hI
  obtain ⟨fL, dL', GL, gL, kL, bL⟩ := hL
  obtain ⟨fS, dS', GS, gS, kS, bS⟩ := hS
  refine F.ok scLaw (fun vs H Q E h => ?_) (fun cdv A outer s H vs Q E hr h => ?_)
  · obtain ⟨c, ns, rfl, _⟩ := h
    rfl
  · obtain ⟨a, ns, rfl, hsq, q⟩ := h
    have hr2 : Room 2 _ := hr.mono hm
    refine ⟨_, pss_cons (ps_set (i := 1) scLaw.nd rfl (.inl rfl) (pe_lst pa_nil))
      (pss_cons (ps_for PassesOwn.never rfl (pi_range1 rfl B.range (pa_cons pe_int pa_nil)) (pg_name (i := 2) scLaw.nd rfl (.inl rfl))
        (pss_cons (ps_set (i := 3) scLaw.nd rfl (.inl rfl) (pe_call GC hr2 (by rfl) gC kC bC .nil pass0 (pa_cons (pv 0) (pa_cons (pe_op op_mul pe_int (pv 2)) pa_nil))))
        (pss_one (ps_expr (pe_bm PySem.F.plainAttrs_list PySem.F.slot_list_append PySem.F.type_list_append mt_append (pv 1) (pa_cons (pe_call GO hr2 (by rfl) gO kO bO .nil pass0
          (pa_cons (pe_call GC hr2 (by rfl) gC kC bC .nil pass0 (pa_cons (pv 0) (pa_cons (pe_op op_add (pe_op op_mul pe_int (pv 2)) pe_int) pa_nil))) (pa_cons (pe_op op_mod (pv 3) pe_int) (pa_cons pe_int pa_nil)))) pa_nil))))))
      (C8.pss_cut (ps_set (i := 3) scLaw.nd rfl (.inl rfl) (pe_call GC hr2 (by rfl) gC kC bC .nil pass0 (pa_cons (pv 0) (pa_cons pe_int pa_nil))))
      (C8.pss_cut (ps_set (i := 4) scLaw.nd rfl (.inl rfl) (pe_call GO hr2 (by rfl) gO kO bO .nil pass0 (pa_cons (pe_call GC hr2 (by rfl) gC kC bC .nil pass0 (pa_cons (pv 0) (pa_cons pe_int pa_nil))) (pa_cons (pe_op op_add pe_int (pe_op op_mod (pv 3) pe_int)) (pa_cons pe_int pa_nil)))))
      (C8.pss_cut (ps_if (pt_cmpR op_eq (pe_op op_mod (pe_op op_fdiv (pv 3) pe_int) pe_int) pe_int (nomark _))
        (pss_one (ps_setLc (i := 4) (own := [("x", 9)]) (g := gName 9) (tt := tYes) (by rfl) scLaw.nd rfl rfl (sw_true rfl rfl rfl (by decide +kernel)) (pi_list (pv 4)) (blkOk_by (own := [("x", 9)]) (N := NL) (sc := defScope sLaw) (by decide +kernel))
          (fun _ _ _ _ _ => pg_name (i := 9) scLaw.nd rfl (Or.inl rfl)) (fun _ _ _ _ _ => pts_nil) (fun _ _ _ _ _ => pe_op op_sub pe_int (pe_op op_mod (pv 9) pe_int)))) pss_nil)
      (C8.pss_cut (ps_expr (pe_bm PySem.F.plainAttrs_list PySem.F.slot_list_append PySem.F.type_list_append mt_append (pv 1) (pa_cons (pe_slice sl_list (pe_op op_rep (pv 4) pe_int) po_none (po_some (pe_op op_mod (pe_op op_fdiv (pv 3) pe_int) pe_int))) pa_nil)))
      (pss_cons (ps_for PassesOwn.never rfl (pi_list (pv 1)) (pg_name (i := 5) scLaw.nd rfl (.inl rfl))
        (pss_cons (ps_set (i := 6) scLaw.nd rfl (.inl rfl) (pe_callTy call_list_of (by rfl) mlist (by decide +kernel) (pa_cons (pv 5) pa_nil)))
        (pss_cons (ps_set (i := 7) scLaw.nd rfl (.inl rfl) (pe_call GS (hr.mono (by omega)) (by rfl) gS kS bS .nil pass0 (pa_cons (pv 6) pa_nil)))
        (pss_cons (ps_if (PW.pt (pw_or (pt_not (pt_val (pe_call GI hr2 (by rfl) gI kI bI .nil pass0 (pa_cons (pv 7) pa_nil)))) (pw_or (pt_cmpR op_ne (pv 7) (pe_call GL hr2 (by rfl) gL kL bL .nil pass0 (pa_cons (pv 5) pa_nil)) (nomark _)) (pw_or1 (pt_cmpR (op_neD hr.units) (pv 6) (pv 5) (nomark _))))))
          (pss_one (ps_ret pe_bl)) pss_nil)
        (pss_one (ps_if (pt_cmpR op_gt (pe_callB call_len_seq (by rfl) B.len PySem.boot_len (pa_cons (pv 5) pa_nil)) pe_int (nomark _))
          (pss_cons (ps_set (i := 8) scLaw.nd rfl (.inl rfl) (pe_op op_mod (pe_callB call_abs (by rfl) B.abs (by decide +kernel) (pa_cons (pe_call GC hr2 (by rfl) gC kC bC .nil pass0 (pa_cons (pv 0) (pa_cons pe_int pa_nil))) pa_nil)) (pe_callB call_len_seq (by rfl) B.len PySem.boot_len (pa_cons (pv 5) pa_nil))))
          (pss_cons (ps_asg (pe_op op_mod (pe_op op_add (pe_op op_add (pe_ix ix_list (pv 6) (pv 8) (fun _ _ => rfl)) pe_int) (pe_op op_mod (pe_callB call_abs (by rfl) B.abs (by decide +kernel) (pa_cons (pe_call GC hr2 (by rfl) gC kC bC .nil pass0 (pa_cons (pv 0) (pa_cons pe_int pa_nil))) pa_nil)) pe_int)) pe_int) (pg_sub (pv 6) (pv 8) set_list))
          (pss_one (ps_if (PW.pt (pw_or (pt_cmpR op_eq (pe_call GS (hr.mono (by omega)) (by rfl) gS kS bS .nil pass0 (pa_cons (pv 6) pa_nil)) (pv 7) (nomark _)) (pw_or1 (pt_cmpR op_ne (pe_call GS (hr.mono (by omega)) (by rfl) gS kS bS .nil pass0 (pa_cons (pv 5) pa_nil)) (pv 7) (nomark _)))))
            (pss_one (ps_ret pe_bl)) pss_nil)))) pss_nil))))))
      (pss_one (ps_ret pe_bl)))))))), ?_⟩
    have cellq : ∀ (j : Nat) (H' : Hp) (Z : VK), Same H H' → (∀ x : Int, Z (.int x) H') → spCell K [.ref a, .int (j : Int)] H' Z E0 := fun j H' Z sm z => ⟨a, ns, j, rfl, sm.seq hsq, z⟩
    refine ⟨Nat.zero_le _, fun pl hpl => ?_⟩
    refine ⟨5, rfl, by decide, by decide, ?_⟩
    refine for_range (lo := 0) (n := 5) (LInv H a) ?_ ?_ ?_
    · exact ⟨pl, [], [], none, none, rfl, same_upd hpl, hpl, upd_same, .nil, rfl, fun r hr => by cases hr⟩
    · rintro i σ H1 hi ⟨pl, xs, rs, kv, cv, rfl, sm, hpl, hx, ht, hl, hg⟩
      refine ⟨.ref a, rfl, .int (0 + (i : Nat)), rfl, 2, _, rfl, rfl, .inl ⟨by decide, by decide⟩, a, ns, 2 * i, cell_arg3 a 2 i, sm.seq hsq, fun cell => ?_⟩
      refine ⟨.ref pl, rfl, .inl ⟨rfl, _, .inl (.inl hx)⟩, .ref a, rfl, .int (0 + (i : Nat)), rfl, 2, _, rfl, rfl, .inl ⟨by decide, by decide⟩, _, 1, rfl, rfl, a, ns, 2 * i + 1, cell_arg4 a 1 2 i, sm.seq hsq, fun c2 => ?_⟩
      have m0 : 0 ≤ cell % 81 := Int.emod_nonneg _ (by decide)
      have m1 : cell % 81 < 81 := Int.emod_lt_of_pos _ (by decide)
      refine ⟨.int cell, rfl, cell, 81, rfl, rfl, (show (0 : Int) < 81 by decide), c2, cell % 81, 256, rfl, m0, by omega, by decide, by decide, fun H2 p l s2 hp hlp hll hb => ?_⟩
      have hxl : xs.length = i := (paired_len ht).trans hl
      have hx2 := s2 _ _ hx
      refine ⟨pl, xs, _, rfl, rfl, hx2, line_ok7 (by omega), ?_⟩
      have npl : pl ≠ p := ne_of_none hx hp
      refine ⟨pl, xs ++ [.ref p], rs ++ [l], _, _, rfl, fun b o hb => ?_, hpl, upd_same, ?_, by rw [List.length_append, hl]; rfl, fun r hr => ?_⟩
      · rw [upd_ne (ne_of_none hb hpl)]
        exact s2 _ _ (sm _ _ hb)
      · refine Paired.snoc (ht.mono fun b l n1 hb => ?_) ⟨p, rfl, npl.symm, ?_⟩
        · rw [upd_ne n1]
          exact s2 _ _ hb
        · rw [upd_ne npl.symm]
          exact hlp
      · rcases List.mem_append.mp hr with z | z
        · exact hg r z
        · obtain rfl : r = l := by simpa using z
          exact ⟨hb, by omega⟩
    · rintro σ H1 ⟨pl, xs, rs, kv, cv, rfl, sm, hpl, hx, ht, hl, hg⟩
      have hxl : xs.length = 5 := (paired_len ht).trans hl
      -- cell
      refine ⟨fun σ H' => H' = H1 ∧ ∃ c : Int, σ = [some (.ref a), some (.ref pl), kv, some (.int c), none, none, none, none, none, none], ⟨.ref a, rfl, a, ns, 10, rfl, sm.seq hsq, fun c => ⟨rfl, c, rfl⟩⟩, ?_⟩
      rintro σ H2 ⟨rfl, c, rfl⟩
      -- unit
      refine ⟨fun σ H3 => ∃ (pu : Addr) (u : List Int), Same H2 H3 ∧ H2 pu = none ∧ H3 pu = some (LI u) ∧ Byt u ∧ u.length ≤ 9 ∧ σ = [some (.ref a), some (.ref pl), kv, some (.int c), some (.ref pu), none, none, none, none, none], ?_, ?_⟩
      · have m0 : 0 ≤ c % 9 := Int.emod_nonneg _ (by decide)
        have m1 : c % 9 < 9 := Int.emod_lt_of_pos _ (by decide)
        refine ⟨.ref a, rfl, a, ns, 11, rfl, sm.seq hsq, fun c2 => ⟨.int c, rfl, c, 9, rfl, rfl, (show (0 : Int) < 9 by decide), 1, _, rfl, rfl, c2, 1 + c % 9, 256, rfl, by omega, by omega, by decide, by decide, fun H3 p l s3 hp hlp hll hb => ⟨p, l, s3, hp, hlp, hb, by omega, rfl⟩⟩⟩
      rintro σ H3 ⟨pu, u, s23, hpu, hu, bu, lu, rfl⟩
      have hx3 := s23 _ _ hx
      -- turned over
      refine ⟨fun σ H4 => ∃ (pu : Addr) (u : List Int), Same H3 H4 ∧ pu ≠ pl ∧ H4 pu = some (LI u) ∧ Byt u ∧ u.length ≤ 9 ∧ σ = [some (.ref a), some (.ref pl), kv, some (.int c), some (.ref pu), none, none, none, none, none], ?_, ?_⟩
      · refine ⟨.int c, rfl, c, 9, rfl, rfl, ⟨by decide, by decide⟩, _, 2, rfl, rfl, (show (0 : Int) < 2 by decide), rfl, _, rfl, ite2 (fun _ => ?_) (fun _ => ⟨pu, u, Same.refl _, (ne_of_none hx hpu).symm, hu, bu, lu, rfl⟩)⟩
        refine ⟨.ref pu, rfl, pu, rfl, ⟨_, .inl (.inl hu)⟩, fun D hD => ?_⟩
        refine lc_list (K := K) (xs := u.map V.int) (fun j H6 => Same H3 H6 ∧ H6 D = some (LI ((u.take j).map fun x => 255 - x % 4))) ⟨same_upd hD, upd_same⟩ (fun j H6 _ h => h.1.seq (.inl (.inl hu))) ?_ ?_
        · rintro j y H6 hjy ⟨s6, h6⟩
          rw [List.getElem?_map] at hjy
          obtain ⟨n, hn, rfl⟩ := Option.map_eq_some_iff.mp hjy
          refine ⟨rfl, ?_⟩
          dsimp only [tYes]
          rw [if_pos rfl]
          refine ⟨.int n, rfl, n, 4, rfl, rfl, (show (0 : Int) < 4 by decide), 255, _, rfl, rfl, _, h6, line_ok7 ?_, fun b o e => ?_, ?_⟩
          · rw [List.length_map, List.length_map, List.length_take]
            omega
          · rw [upd_ne (ne_of_none e hD)]
            exact s6 b o e
          · rw [upd_same, List.take_add_one, hn, List.map_append]
            exact congrArg some (LI_snoc _ _).symm
        · rintro H6 ⟨s6, h6⟩
          rw [List.length_map, List.take_length] at h6
          refine ⟨D, _, s6, (ne_of_none hx3 hD).symm, h6, fun x hx => ?_, by rw [List.length_map]; exact lu, rfl⟩
          obtain ⟨n, hn, rfl⟩ := List.mem_map.mp hx
          omega
      rintro σ H4 ⟨pu, u, s34, npu, hu, bu, lu, rfl⟩
      have hx4 := s34 _ _ hx3
      have s24 := s23.trans s34
      -- the long one
      refine ⟨fun σ H5 => ∃ (xs : List V) (rs : List (List Int)) (k4 : Option V), Same H H5 ∧ H5 pl = some (.lst xs) ∧ Bys pl H5 xs rs ∧ (∀ r ∈ rs, Byt r ∧ r.length ≤ 20000) ∧ σ = [some (.ref a), some (.ref pl), kv, some (.int c), k4, none, none, none, none, none], ?_, ?_⟩
      · obtain ⟨n, hn⟩ : ∃ n : Nat, c / 18 % 1401 = (n : Int) := ⟨(c / 18 % 1401).toNat, by have := Int.emod_nonneg (c / 18) (show (1401 : Int) ≠ 0 by decide); omega⟩
        refine ⟨.ref pl, rfl, .inl ⟨rfl, _, .inl (.inl hx4)⟩, .ref pu, rfl, pu, 1400, _, rfl, rfl, hu, by decide, by decide, line_ok7 (by rw [List.length_map]; show u.length * 1400 ≤ 10000000; omega), fun p1 hp1 => ?_⟩
        refine ⟨.int c, rfl, c, 18, rfl, rfl, ⟨by decide, by decide⟩, _, 1401, rfl, rfl, (show (0 : Int) < 1401 by decide), _, rfl, p1, _, rfl, .inl (.inl upd_same), fun p2 hp2 => ?_⟩
        have n12 := new_ne hp2
        have nl1 : pl ≠ p1 := ne_of_none hx4 hp1
        have nl2 : pl ≠ p2 := ne_of_none hx4 (new_old hp2)
        refine ⟨pl, xs, _, rfl, rfl, by rw [upd_ne nl2, upd_ne nl1]; exact hx4, line_ok7 (by omega), ?_⟩
        have old : ∀ b o, b ≠ pl → H4 b = some o → (upd (upd (upd H4 p1 (.lst (List.replicate (1400 : Int).toNat (u.map V.int)).flatten)) p2 (.lst (L2.cutV (List.replicate (1400 : Int).toNat (u.map V.int)).flatten none (some (c / 18 % 1401))))) pl (.lst (xs ++ [.ref p2]))) b = some o := fun b o hb e => by
          rw [upd_ne hb, upd_ne (ne_of_none e (new_old hp2)), upd_ne (ne_of_none e hp1)]
          exact e
        refine ⟨xs ++ [.ref p2], rs ++ [((List.replicate 1400 u).flatten).take n], _, fun b o hb => old b o (ne_of_none hb hpl) (s24 _ _ (sm _ _ hb)), upd_same, ?_, fun r hr => ?_, rfl⟩
        · refine Paired.snoc (ht.mono fun b l n1 hb => old b _ n1 (s24 _ _ hb)) ⟨p2, rfl, nl2.symm, ?_⟩
          rw [upd_ne nl2.symm, upd_same, hn, cutV_to, show (1400 : Int).toNat = 1400 from rfl, rep_map, ← List.map_take]
        · rcases List.mem_append.mp hr with z | z
          · have := hg r z
            exact ⟨this.1, by omega⟩
          · obtain rfl : r = ((List.replicate 1400 u).flatten).take n := by simpa using z
            refine ⟨(bu.rep _).take _, ?_⟩
            rw [List.length_take, rep_len]
            omega
      rintro σ H5 ⟨xs, rs, k4, s05, hx, ht, hg, rfl⟩
      refine ⟨.ref pl, rfl, pl, rfl, ⟨xs, .inl (.inl hx)⟩, ?_⟩
      refine for_list (K := K) (xs := xs) (fun i σ H' => Same H5 H' ∧ ∃ v5 v6 v7 v8 : Option V, σ = [some (.ref a), some (.ref pl), kv, some (.int c), k4, v5, v6, v7, v8, none]) ⟨Same.refl _, none, none, none, none, rfl⟩ (fun i σ H' _ h => .inl (.inl (h.1 _ _ hx))) ?_ ?_
      · rintro i v σ H6 hv ⟨s56, v5, v6, v7, v8, rfl⟩
        obtain ⟨l, hl0, q0, rfl, nq0, hq0⟩ := paired_get ht hv
        obtain ⟨bl, ll⟩ := hg l (List.mem_of_getElem? hl0)
        have hq6 := s56 _ _ hq0
        have s06 := s05.trans s56
        have hlm : (l.map V.int).length = l.length := List.length_map _
        refine ⟨.ref q0, rfl, q0, _, rfl, .inl (.inl (.inl hq6)), fun p hp => ?_⟩
        have s6p := same_upd (o := LI l) hp
        refine ⟨.ref p, rfl, p, l, rfl, .inl (.inl upd_same), bl, by omega, fun H7 s7 => ?_⟩
        have hp7 := s7 _ _ upd_same
        have hq7 := s7 _ _ (s6p _ _ hq6)
        have npq : p ≠ q0 := (ne_of_none hq6 hp).symm
        refine ⟨.int (sumOf l), rfl, sumOf l, rfl, true, rfl, iteF ?_⟩
        refine ⟨.int (sumOf l), rfl, .ref q0, rfl, q0, l, rfl, .inl (.inl hq7), by omega, rfl, _, rfl, ?_⟩
        rw [decide_eq_true rfl]
        refine iteF ⟨.ref p, rfl, .ref q0, rfl, dI l, dI l, dp_dI (.inl (.inl hp7)), dp_dI (.inl (.inl hq7)), shaped_dI l, shaped_dI l, _, rfl, ?_⟩
        rw [eqv_ints]
        refine iteF ?_
        refine ⟨.ref q0, rfl, q0, _, rfl, .inl (.inl (.inl hq7)), _, 0, rfl, rfl, _, rfl, ite2 (fun e0 => ?_) (fun _ => ?_)⟩
        · have e1 : (0 : Int) < (((l.map V.int).length : Nat) : Int) := of_decide_eq_true e0
          have hl1 : 0 < l.length := by omega
          have s67 := s6p.trans s7
          have sH7 := s06.trans s67
          refine ⟨.ref a, rfl, a, ns, 12, rfl, sH7.seq hsq, fun x => ⟨x, rfl, .ref q0, rfl, q0, _, rfl, .inl (.inl (.inl hq7)), _, _, rfl, rfl, e1, ?_⟩⟩
          obtain ⟨j, hj, hjl⟩ : ∃ j : Nat, (if x < 0 then -x else x) % (((l.map V.int).length : Nat) : Int) = (j : Int) ∧ j < l.length := by
            have b0 := Int.emod_nonneg (if x < 0 then -x else x) (show (((l.map V.int).length : Nat) : Int) ≠ 0 by omega)
            have b1 := Int.emod_lt_of_pos (if x < 0 then -x else x) e1
            exact ⟨((if x < 0 then -x else x) % (((l.map V.int).length : Nat) : Int)).toNat, by omega, by omega⟩
          have hjv := map_int_at hjl
          refine ⟨.ref p, rfl, .int (j : Nat), congrArg (fun z => some (some (V.int z))) hj, p, _, j, .int l[j], rfl, rfl, .inl (.inl hp7), atI_nat hjv, _, 1, rfl, rfl, .ref a, rfl, a, ns, 13, rfl, sH7.seq hsq, fun y => ⟨y, rfl, _, 255, rfl, rfl, (show (0 : Int) < 255 by decide), _, _, rfl, rfl, _, 256, rfl, rfl, (show (0 : Int) < 256 by decide), ?_⟩⟩
          obtain ⟨z, hz, z0, z1⟩ : ∃ z : Int, (if y < 0 then -y else y) % 255 = z ∧ 0 ≤ z ∧ z < 255 := ⟨_, rfl, Int.emod_nonneg _ (by decide), Int.emod_lt_of_pos _ (by decide)⟩
          subst hz
          have hb := bl _ (List.getElem_mem hjl)
          obtain ⟨y', hy', y0, y1, yne⟩ : ∃ y' : Int, (l[j] + 1 + (if y < 0 then -y else y) % 255) % 256 = y' ∧ 0 ≤ y' ∧ y' < 256 ∧ y' ≠ l[j] := ⟨_, rfl, Int.emod_nonneg _ (by decide), Int.emod_lt_of_pos _ (by decide), by omega⟩
          subst hy'
          refine ⟨.ref p, rfl, .int (j : Nat), congrArg (fun z => some (some (V.int z))) hj, p, _, _, j, rfl, rfl, hp7, ix_set rfl (by omega), ?_⟩
          obtain ⟨y', hy'⟩ : ∃ y' : Int, y' = (l[j] + 1 + (if y < 0 then -y else y) % 255) % 256 := ⟨_, rfl⟩
          rw [← hy'] at y0 y1 yne
          have hset : (l.map V.int).set j (.int ((l[j] + 1 + (if y < 0 then -y else y) % 255) % 256)) = (l.set j y').map V.int := by rw [hy', List.map_set]
          have hp8 : upd H7 p (.lst ((l.map V.int).set j (.int ((l[j] + 1 + (if y < 0 then -y else y) % 255) % 256)))) p = some (LI (l.set j y')) := by rw [upd_same, hset]
          have hq8 : upd H7 p (.lst ((l.map V.int).set j (.int ((l[j] + 1 + (if y < 0 then -y else y) % 255) % 256)))) q0 = some (LI l) := by
            rw [upd_ne npq.symm]
            exact hq7
          have bset : Byt (l.set j y') := fun w hw => by
            rcases List.mem_or_eq_of_mem_set hw with z | z
            · exact bl w z
            · rw [z]
              exact ⟨y0, y1⟩
          have gd : l.getD j 0 = l[j] := by
            rw [List.getD_eq_getElem?_getD, List.getElem?_eq_getElem hjl]
            rfl
          have hne : ¬ V.int (sumOf (l.set j y')) = V.int (sumOf l) := fun w => sumOf_set hjl (by rw [gd]; exact yne) y0 y1 (by rw [gd]; exact hb.1) (by rw [gd]; exact hb.2) (V.int.inj w)
          refine ⟨.ref p, rfl, p, _, rfl, .inl (.inl hp8), bset, by rw [List.length_set]; omega, fun H8 s8 => ⟨.int (sumOf l), rfl, rfl, _, rfl, ?_⟩⟩
          rw [decide_eq_false hne]
          refine iteF ⟨.ref q0, rfl, q0, l, rfl, .inl (.inl (s8 _ _ hq8)), bl, by omega, fun H9 s9 => ⟨.int (sumOf l), rfl, rfl, _, rfl, ?_⟩⟩
          rw [decide_eq_true rfl]
          refine iteF ⟨fun b o e => ?_, _, _, _, _, rfl⟩
          have e6 := s56 _ _ e
          refine s9 _ _ (s8 _ _ ?_)
          rw [upd_ne (ne_of_none e6 hp)]
          exact s7 _ _ (s6p _ _ e6)
        · exact ⟨(s56.trans s6p).trans s7, _, _, _, _, rfl⟩
      · rintro σ H6 ⟨s56, v5, v6, v7, v8, rfl⟩
        exact q _
end
theorem all_mk {l : PySem.W.OpenLaw} {w : World} {K : PySem.W.Frag} {h : Heap} {mg : Str → Option Value} {fa fS fC fR fIN fLS fL : Addr} (X : K.In h) (G : h.Ns mainGlobals mg) (hfa : mg "law" = some (.ref fa))
    {odS anS : Option Addr} {slS : Array (Option Value)} {ocS kVS dcS pmS cdS ctS : Value}
    {odC anC : Option Addr} {slC : Array (Option Value)} {ocC kVC dcC pmC cdC ctC : Value}
    {odR anR : Option Addr} {slR : Array (Option Value)} {ocR kVR dcR pmR cdR ctR : Value}
    {odIN anIN : Option Addr} {slIN : Array (Option Value)} {ocIN kVIN dcIN pmIN cdIN ctIN : Value}
    {odLS anLS : Option Addr} {slLS : Array (Option Value)} {ocLS kVLS dcLS pmLS cdLS ctLS : Value}
    {odL anL : Option Addr} {slL : Array (Option Value)} {ocL kVL dcL pmL cdL ctL : Value}
    (aS : PySem.W.nsIn K mainGlobals "sum_of" = some (some (.ref fS))) (lS : K.lookup fS = some ⟨ocS, odS, .func (PySem.W.fnOf "sum_of" "sum_of" (defArgs sSum) (defBody sSum) (defScope sSum) .none kVS dcS pmS anS cdS ctS), slS⟩) (cS : PySem.W.codeIn K cdS "sum_of" = true) (kS : PySem.W.keepIn K (.ref fS) = true)
    (aC : PySem.W.nsIn K mainGlobals "_law_cell" = some (some (.ref fC))) (lC : K.lookup fC = some ⟨ocC, odC, .func (PySem.W.fnOf "_law_cell" "_law_cell" (defArgs sCell) (defBody sCell) (defScope sCell) .none kVC dcC pmC anC cdC ctC), slC⟩) (cC : PySem.W.codeIn K cdC "_law_cell" = true) (kC : PySem.W.keepIn K (.ref fC) = true)
    (aR : PySem.W.nsIn K mainGlobals "_law_row" = some (some (.ref fR))) (lR : K.lookup fR = some ⟨ocR, odR, .func (PySem.W.fnOf "_law_row" "_law_row" (defArgs sRow) (defBody sRow) (defScope sRow) .none kVR dcR pmR anR cdR ctR), slR⟩) (cR : PySem.W.codeIn K cdR "_law_row" = true) (kR : PySem.W.keepIn K (.ref fR) = true)
    (aIN : PySem.W.nsIn K mainGlobals "_law_integer" = some (some (.ref fIN))) (lIN : K.lookup fIN = some ⟨ocIN, odIN, .func (PySem.W.fnOf "_law_integer" "_law_integer" (defArgs sInteger) (defBody sInteger) (defScope sInteger) .none kVIN dcIN pmIN anIN cdIN ctIN), slIN⟩) (cIN : PySem.W.codeIn K cdIN "_law_integer" = true) (kIN : PySem.W.keepIn K (.ref fIN) = true)
    (aLS : PySem.W.nsIn K mainGlobals "_law_sum" = some (some (.ref fLS))) (lLS : K.lookup fLS = some ⟨ocLS, odLS, .func (PySem.W.fnOf "_law_sum" "_law_sum" (defArgs sLSum) (defBody sLSum) (defScope sLSum) .none kVLS dcLS pmLS anLS cdLS ctLS), slLS⟩) (cLS : PySem.W.codeIn K cdLS "_law_sum" = true) (kLS : PySem.W.keepIn K (.ref fLS) = true)
    (aL : PySem.W.nsIn K mainGlobals "law" = some (some (.ref fL))) (lL : K.lookup fL = some ⟨ocL, odL, .func (PySem.W.fnOf "law" "law" (defArgs sLaw) (defBody sLaw) (defScope sLaw) .none kVL dcL pmL anL cdL ctL), slL⟩) (cL : PySem.W.codeIn K cdL "law" = true) (kL : PySem.W.keepIn K (.ref fL) = true)
    {tSM : Tok} (nSM : PySem.W.nsIn K mainGlobals "_SUM_MODULO" = some (some (.int 65521 tSM)))
    (zlen : PySem.W.nsIn K mainGlobals "len" = some none) (zint : PySem.W.nsIn K mainGlobals "int" = some none) (zabs : PySem.W.nsIn K mainGlobals "abs" = some none) (zrange : PySem.W.nsIn K mainGlobals "range" = some none) (zisinstance : PySem.W.nsIn K mainGlobals "isinstance" = some none) (zbool : PySem.W.nsIn K mainGlobals "bool" = some none) (zstr : PySem.W.nsIn K mainGlobals "str" = some none) (zlist : PySem.W.nsIn K mainGlobals "list" = some none) :
    ∃ fd : FuncData, (∀ (s : Shared) (v : Value), BindsTo s fd ⟨[v], []⟩ [("script", v)]) ∧ ∀ base : Heap, K.In base → base.Ns mainGlobals mg → FnOk l.prog w K mg base CX0 3 fa fd ["script"] (spLaw K) := by
  have e := hfa.symm.trans (PySem.W.mg_of X G aL)
  cases e
  have FS := fun_mk (st := sSum) lS cS kS
  have FC := fun_mk (st := sCell) lC cC kC
  have FR := fun_mk (st := sRow) lR cR kR
  have FIN := fun_mk (st := sInteger) lIN cIN kIN
  have FLS := fun_mk (st := sLSum) lLS cLS kLS
  have FL := fun_mk (st := sLaw) lL cL kL
  have B : Bl mg := ⟨PySem.W.mg_none_of X G zlen, PySem.W.mg_none_of X G zint, PySem.W.mg_none_of X G zabs, PySem.W.mg_none_of X G zrange, PySem.W.mg_none_of X G zisinstance, PySem.W.mg_none_of X G zbool, PySem.W.mg_none_of X G zstr⟩
  have bS := FS.binds (ps := ["data"]) fun _ _ _ _ _ _ us hl => match us, hl with | [_], _ => rfl
  have bC := FC.binds (ps := ["script", "k"]) fun _ _ _ _ _ _ us hl => match us, hl with | [_, _], _ => rfl
  have bR := FR.binds (ps := ["cell", "count", "bound"]) fun _ _ _ _ _ _ us hl => match us, hl with | [_, _, _], _ => rfl
  have bIN := FIN.binds (ps := ["value"]) fun _ _ _ _ _ _ us hl => match us, hl with | [_], _ => rfl
  have bLS := FLS.binds (ps := ["data"]) fun _ _ _ _ _ _ us hl => match us, hl with | [_], _ => rfl
  have fin : ∀ base : Heap, FnOk l.prog w K mg base CX0 3 fa _ ["script"] (spLaw K) := fun base =>
    ok_law FL B (PySem.W.mg_none_of X G zlist) (Nat.le_refl 2) ⟨fC, _, ok_cell FC B, PySem.W.mg_of X G aC, kC, bC⟩ ⟨fR, _, ok_row FR B, PySem.W.mg_of X G aR, kR, bR⟩ ⟨fIN, _, ok_integer FIN B, PySem.W.mg_of X G aIN, kIN, bIN⟩
      ⟨fLS, _, ok_lsum FLS B, PySem.W.mg_of X G aLS, kLS, bLS⟩ ⟨fS, _, ok_sumOf FS (PySem.W.mg_of X G nSM), PySem.W.mg_of X G aS, kS, bS⟩
  exact ⟨PySem.W.fnOf "law" "law" (defArgs sLaw) (defBody sLaw) (defScope sLaw) .none kVL dcL pmL anL cdL ctL, fun s v => .of_eq rfl, fun base _ _ => fin base⟩
end Hr
open PySem PySem.W PyProof.Rows
set_option maxHeartbeats 0 in
theorem PySem.Challenge.cw_homereads_k19_sums_of_bytes_holds : PySem.Challenge.rw_homereads_k19_sums_of_bytes.Holds := by
  w_on; o_law; k_head; (case hw => w_witness2)
  k_fill
  refine L2.walk_of (l := PySem.Challenge.rw_homereads_k19_sums_of_bytes) (n := 63) (k := 3) (x := "script") (CX := fun _ => L2.CX0) (sp := fun w => Hr.spLaw _) rfl (by decide) rfl ⟨rfl, by decide, by decide⟩ (fun w h Y => PySem.W.kIn_of Y) ?F (fun _ _ a ns hl _ hS => ⟨a, ns, rfl, hS, fun _ => rfl⟩) (fun _ _ _ _ _ h => h)
  case F =>
    intro w mg fa h KX G hmg
    refine' Hr.all_mk KX G hmg ?aS ?lS ?cS ?kS ?aC ?lC ?cC ?kC ?aR ?lR ?cR ?kR ?aIN ?lIN ?cIN ?kIN ?aLS ?lLS ?cLS ?kLS ?aL ?lL ?cL ?kL ?nSM ?zlen ?zint ?zabs ?zrange ?zisinstance ?zbool ?zstr ?zlist
    (case aS => k_is)
    (case lS => k_is)
    (case cS => k_is)
    (case kS => k_is)
    (case aC => k_is)
    (case lC => k_is)
    (case cC => k_is)
    (case kC => k_is)
    (case aR => k_is)
    (case lR => k_is)
    (case cR => k_is)
    (case kR => k_is)
    (case aIN => k_is)
    (case lIN => k_is)
    (case cIN => k_is)
    (case kIN => k_is)
    (case aLS => k_is)
    (case lLS => k_is)
    (case cLS => k_is)
    (case kLS => k_is)
    (case aL => k_is)
    (case lL => k_is)
    (case cL => k_is)
    (case kL => k_is)
    (case nSM => k_is)
    (case zlen => k_is)
    (case zint => k_is)
    (case zabs => k_is)
    (case zrange => k_is)
    (case zisinstance => k_is)
    (case zbool => k_is)
    (case zstr => k_is)
    (case zlist => k_is)
