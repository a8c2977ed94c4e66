import PyProof.Rows.All
import Wide.All
import OpenK.AllK
import Wide.FinOn
import HandS.Base
import HandS.Call
import HandS.List
import HandS.Comp
import HandS.Ends
import HandS.Dict
import HandS.Iter
import HandS.Text
import HandS.Words
import HandS.WordsList
import HandS.More
import HandS.Codes
import HandS.Replace
import HandS.IsInst
import HandS.ExcInit
import HandS.WordsExc
import HandS.Exc
import HandS.TryOnly
import HandS.ExcOwn
import KE.SortKeyHeap
import HandS.Lambda
import HandS.Nested
import HandS.SortKw
import HandS.EndTab
import HandS.SetFor
import HandS.Strs
import HandS.SortInts
import HandS.Zip
import HandS.DictComp
import KE.GoesEnumKw
import KE.OsSetLaws
import HandS.MakeKwOnly
import HandS.Defaults
import HandS.RevRange
import HandS.WideBits
import HandS.Conv
import KE.KDictList
import HandS.Rev
import HandS.ReplaceLit
import HandS.RaiseMore
import KE.GoesMore
import HandS.FStr
import HandS.Flt
import PySem.Challenge.RW_homereads_k23_distances_and_ends
set_option Elab.async false
set_option linter.all false
set_option maxRecDepth 100000
set_option maxHeartbeats 4000000
namespace Hr
open PySem PySem.Spec PyProof.Rows L2
/-! ### the text -/
def topS (i : Nat) : Stmt := PySem.Challenge.pw_homereads_k23_distances_and_ends.main.body.getD i (.Pass ⟨0, 0, 0, 0⟩)
abbrev sDist : Stmt := topS 2
abbrev sEnds : Stmt := topS 3
abbrev sGrow : Stmt := topS 4
abbrev sARows : Stmt := topS 5
abbrev sCell : Stmt := topS 7
abbrev sRow : Stmt := topS 8
abbrev sInteger : Stmt := topS 9
abbrev sText : Stmt := topS 10
abbrev sLTurned : Stmt := topS 11
abbrev sLRead : Stmt := topS 12
abbrev sLRefs : Stmt := topS 13
abbrev sLAgree : Stmt := topS 14
abbrev sLEnds : Stmt := topS 15
abbrev sLHits : Stmt := topS 16
abbrev sLDist : Stmt := topS 17
abbrev sLaw : Stmt := topS 18
theorem scCell : FnScope ["script", "k"] ["script", "k"] (defScope sCell) := ⟨rfl, rfl, rfl, by decide +kernel, rfl, by decide +kernel, by decide +kernel⟩
theorem scRow : FnScope ["cell", "count", "bound", "rest", "mixed", "row", "k"] ["cell", "count", "bound"] (defScope sRow) := ⟨rfl, rfl, rfl, by decide +kernel, rfl, by decide +kernel, by decide +kernel⟩
theorem scInteger : FnScope ["value"] ["value"] (defScope sInteger) := ⟨rfl, rfl, rfl, by decide +kernel, rfl, by decide +kernel, by decide +kernel⟩
theorem scText : FnScope ["cell", "size", "drawn", "kind", "text", "k", "letter"] ["cell", "size"] (defScope sText) := ⟨rfl, rfl, rfl, by decide +kernel, rfl, by decide +kernel, by decide +kernel⟩
theorem scLTurned : FnScope ["text", "news", "letter"] ["text"] (defScope sLTurned) := ⟨rfl, rfl, rfl, by decide +kernel, rfl, by decide +kernel, by decide +kernel⟩
/-! ### walks of a known number of turns -/
theorem for_gen {J : It} {n : Nat} {g : TG} {tb : TS} {D : Ends} {σ : L2.St} {H : Hp} (Pv : Nat → L2.St → Hp → Prop) (h0 : Pv 0 σ H) (hgo : ∀ i σ H, i < n → Pv i σ H → J.go i H) (hstop : ∀ σ H, Pv n σ H → J.stop n H)
    (hs : ∀ i σ H x H', i < n → Pv i σ H → J.yld i H x H' → g x σ H' fun σ2 H2 => tb { D with nx := Pv (i + 1), ct := Pv (i + 1), bk := D.nx } σ2 H2) (hd : ∀ σ H, Pv n σ H → D.nx σ H) :
    ∃ W : Nat → Nat → L2.St → Hp → Prop, (∃ m, W 0 m σ H) ∧ ∀ i m σ H, W i m σ H →
      (J.stop i H ∧ D.nx σ H) ∨ (J.go i H ∧ ∃ N : L2.St → Hp → Prop, (∀ σ' H', N σ' H' → ∃ m', m' < m ∧ W (i + 1) m' σ' H') ∧ ∀ x H', J.yld i H x H' → g x σ H' fun σ2 H2 => tb { D with nx := N, ct := N, bk := D.nx } σ2 H2) := by
  refine ⟨fun i m σ H => i + m = n ∧ Pv i σ H, ⟨n, Nat.zero_add n, h0⟩, fun i m σ H hw => ?_⟩
  obtain ⟨em, p⟩ := hw
  cases m with
  | zero =>
    obtain rfl : i = n := em
    exact .inl ⟨hstop σ H p, hd σ H p⟩
  | succ m =>
    have lt : i < n := by omega
    exact .inr ⟨hgo i σ H lt p, Pv (i + 1), fun σ' H' p' => ⟨m, Nat.lt_succ_self m, by omega, p'⟩, fun x H' y => hs i σ H x H' lt p y⟩
theorem lc_gen {J : It} {n : Nat} {g : TG} {tt : TT} {te : TE} {vs : List Nat} {σ : L2.St} {H1 : Hp} {D : Addr} {Qd : Hp → Prop} (Pv : Nat → Hp → Prop) (h0 : Pv 0 (upd H1 D (.lst []))) (hgo : ∀ i H, i < n → Pv i H → J.go i H) (hstop : ∀ H, Pv n H → J.stop n H)
    (hs : ∀ i H x H', i < n → Pv i H → J.yld i H x H' → g x (wipe σ vs) H' fun σ2 H2 => wipe σ2 vs = wipe σ vs ∧ tt σ2 H2 fun b H3 =>
      if b = true then te σ2 H3 fun y H4 => ∃ acc, H4 D = some (.lst acc) ∧ acc.length < sizeLine ∧ Pv (i + 1) (upd H4 D (.lst (acc ++ [y]))) else Pv (i + 1) H3) (hd : ∀ H, Pv n H → Qd H) :
    ∃ W : Nat → Nat → Hp → Prop, (∃ m, W 0 m (upd H1 D (.lst []))) ∧ ∀ i m H, W i m H →
      (J.stop i H ∧ Qd H) ∨ (J.go i H ∧ ∃ Nx : Hp → Prop, (∀ H', Nx H' → ∃ m', m' < m ∧ W (i + 1) m' H') ∧ ∀ x H', J.yld i H x H' → g x (wipe σ vs) H' fun σ2 H2 => wipe σ2 vs = wipe σ vs ∧ tt σ2 H2 fun b H3 =>
        if b = true then te σ2 H3 fun y H4 => ∃ acc, H4 D = some (.lst acc) ∧ acc.length < sizeLine ∧ Nx (upd H4 D (.lst (acc ++ [y]))) else Nx H3) := by
  refine ⟨fun i m H => i + m = n ∧ Pv i H, ⟨n, Nat.zero_add n, h0⟩, fun i m H hw => ?_⟩
  obtain ⟨em, p⟩ := hw
  cases m with
  | zero =>
    obtain rfl : i = n := em
    exact .inl ⟨hstop H p, hd H p⟩
  | succ m =>
    have lt : i < n := by omega
    exact .inr ⟨hgo i H lt p, Pv (i + 1), fun H' p' => ⟨m, Nat.lt_succ_self m, by omega, p'⟩, fun x H' y => hs i H x H' lt p y⟩
/-- a loop over a text's signs -/
theorem for_str {z : Str} {g : TG} {tb : TS} {D : Ends} {σ : L2.St} {H : Hp} (Pv : Nat → L2.St → Hp → Prop) (h0 : Pv 0 σ H)
    (hs : ∀ i c σ H, z.cps[i]? = some c → Pv i σ H → g (.str ⟨#[c]⟩) σ H fun σ2 H2 => tb { D with nx := Pv (i + 1), ct := Pv (i + 1), bk := D.nx } σ2 H2) (hd : ∀ σ H, Pv z.cps.size σ H → D.nx σ H) :
    ∃ W : Nat → Nat → L2.St → Hp → Prop, (∃ m, W 0 m σ H) ∧ ∀ i m σ H, W i m σ H →
      ((Its z).stop i H ∧ D.nx σ H) ∨ ((Its z).go i H ∧ ∃ N : L2.St → Hp → Prop, (∀ σ' H', N σ' H' → ∃ m', m' < m ∧ W (i + 1) m' σ' H') ∧ ∀ x H', (Its z).yld i H x H' → g x σ H' fun σ2 H2 => tb { D with nx := N, ct := N, bk := D.nx } σ2 H2) :=
  for_gen (J := Its z) (n := z.cps.size) Pv h0 (fun i σ H hi _ => hi) (fun σ H _ => Nat.le_refl _) (fun i σ H x H' hi p y => by
    obtain ⟨e, c, hc, ex⟩ := y
    subst e
    subst ex
    exact hs i c σ _ hc p) hd
/-! ### texts by lists -/
def T (l : List Nat) : Str := ⟨l.toArray⟩
theorem T_len (l : List Nat) : (T l).length = l.length := by
  show l.toArray.size = l.length
  simp
theorem T_size (l : List Nat) : (T l).cps.size = l.length := by
  show l.toArray.size = l.length
  simp
theorem T_list (l : List Nat) : (T l).cps.toList = l := rfl
theorem T_at (l : List Nat) (i : Nat) : (T l).cps[i]? = l[i]? := by
  show l.toArray[i]? = l[i]?
  simp
theorem T_app (a b : List Nat) : T a ++ T b = T (a ++ b) := by
  show Str.mk (a.toArray ++ b.toArray) = Str.mk (a ++ b).toArray
  simp
theorem T_inj {a b : List Nat} (h : T a = T b) : a = b := by
  have e : (T a).cps.toList = (T b).cps.toList := by rw [h]
  exact e
theorem T_nil : (Str.ofString "" : Str) = T [] := by decide +kernel
def Sg (c : Nat) : Prop := c = 65 ∨ c = 67 ∨ c = 71 ∨ c = 84 ∨ c = 78
def Dna (l : List Nat) : Prop := ∀ c ∈ l, Sg c
theorem Dna.app {a b : List Nat} (h : Dna a) (k : Dna b) : Dna (a ++ b) := fun c hc => by
  rcases List.mem_append.mp hc with q | q
  · exact h c q
  · exact k c q
theorem Dna.one {c : Nat} (h : Sg c) : Dna [c] := fun d hd => by
  obtain rfl : d = c := by simpa using hd
  exact h
theorem line_ok {n : Nat} (h : n ≤ 100000) : n ≤ sizeLine := by
  rw [sizeLine_eq]
  omega
theorem line_lt {n : Nat} (h : n ≤ 100000) : n < sizeLine := by
  rw [sizeLine_eq]
  omega
theorem same_upd {H : Hp} {p : Addr} {o : HO} (h : H p = none) : Same H (upd H p o) := fun b x e => by
  rw [upd_ne (ne_of_none e h)]
  exact e
theorem upd_upd {H : Hp} {p : Addr} {o o' : HO} : upd (upd H p o) p o' = upd H p o' := by
  funext b
  by_cases e : b = p
  · rw [e, upd_same, upd_same]
  · rw [upd_ne e, upd_ne e, upd_ne e]
/-! ### names that are still the built-in ones -/
structure Bl (mg : Str → Option Value) : Prop where
  len : mg "len" = none
  int : mg "int" = none
  abs : mg "abs" = none
  range : mg "range" = none
  isin : mg "isinstance" = none
  bool : mg "bool" = none
  str : mg "str" = none
section
variable {P : Program} {w : World} {K : PySem.W.Frag} {mg : Str → Option Value} {base : Heap}
/-! ### _law_cell -/
def spCell (K : PySem.W.Frag) : Sp := fun vs H Q _ => ∃ (a : Addr) (ns : List Int) (k : Nat), vs = [.ref a, .int (k : Int)] ∧ SqL K H a (ns.map V.int) ∧ ∀ x : Int, Q (.int x) H
theorem ok_cell {f : Addr} {fd : FuncData} {k : Nat} (F : Fun K "_law_cell" "_law_cell" sCell f fd) (B : Bl mg) : FnOk P w K mg base CX0 (k + 1) f fd ["script", "k"] (spCell K) := by
  refine F.ok scCell (fun vs H Q E h => ?_) (fun cdv A outer s H vs Q E hr h => ?_)
  · obtain ⟨a, ns, j, rfl, _⟩ := h
    rfl
  · obtain ⟨a, ns, j, rfl, hS, q⟩ := h
    refine ⟨_, pss_cons (ps_if (pt_cmpR op_lt (pv 1) (pe_callB call_len_seq (by rfl) B.len PySem.boot_len (pa_cons (pv 0) pa_nil)) (nomark _))
        (pss_one (ps_ret (pe_callTy call_int1 (by rfl) B.int (by decide +kernel) (pa_cons (pe_ix ix_list (pv 0) (pv 1) (fun _ _ => rfl)) pa_nil)))) pss_nil)
      (pss_one (ps_ret pe_int)), ?_⟩
    refine ⟨.int j, rfl, .ref a, rfl, a, ns.map V.int, rfl, .inl hS, j, _, rfl, rfl, _, rfl, ite2 (fun e => ?_) (fun e => q 0)⟩
    have h1 : (j : Int) < ((ns.map V.int).length : Int) := of_decide_eq_true e
    have h2 : j < ns.length := by
      rw [List.length_map] at h1
      omega
    have g1 : (ns.map V.int)[j]? = some (.int ns[j]) := by
      rw [List.getElem?_map, List.getElem?_eq_getElem h2]
      rfl
    exact ⟨.ref a, rfl, .int j, rfl, a, _, j, .int ns[j], rfl, rfl, hS, atI_nat g1, .inl ⟨_, rfl, q _⟩⟩
/-! ### _law_row -/
def spRow (K : PySem.W.Frag) : Sp := fun vs H Q _ => ∃ (c n b : Int), vs = [.int c, .int n, .int b] ∧ 0 ≤ n ∧ n ≤ 100000 ∧ 1 < b ∧ b < 1000 ∧
  ∀ (H' : Hp) (p : Addr) (xs : List Int), Same H H' → H p = none → H' p = some (.lst (xs.map V.int)) → xs.length = n.toNat → (∀ x ∈ xs, 0 ≤ x ∧ x < b) → Q (.ref p) H'
theorem ok_row {f : Addr} {fd : FuncData} {k : Nat} (F : Fun K "_law_row" "_law_row" sRow f fd) (B : Bl mg) : FnOk P w K mg base CX0 (k + 1) f fd ["cell", "count", "bound"] (spRow K) := by
  refine F.ok scRow (fun vs H Q E h => ?_) (fun cdv A outer s H vs Q E hr h => ?_)
  · obtain ⟨c, n, b, rfl, _⟩ := h
    rfl
  · obtain ⟨c, n, b, rfl, hn0, hn, hb1, hb2, q⟩ := h
    refine ⟨_, pss_cons (ps_set (i := 3) scRow.nd rfl (.inl rfl) (pe_callB call_abs (by rfl) B.abs (by decide +kernel) (pa_cons (pe_callTy call_int1 (by rfl) B.int (by decide +kernel) (pa_cons (pv 0) pa_nil)) pa_nil)))
      (pss_cons (ps_set (i := 4) scRow.nd rfl (.inl rfl) (pe_op op_add (pe_op op_mod (pe_callTy call_int1 (by rfl) B.int (by decide +kernel) (pa_cons (pv 0) pa_nil)) pe_int) pe_int))
      (pss_cons (ps_set (i := 5) scRow.nd rfl (.inl rfl) (pe_lst pa_nil))
      (pss_cons (ps_for PassesOwn.never rfl (pi_range1 rfl B.range (pa_cons (pv 1) pa_nil)) (pg_name (i := 6) scRow.nd rfl (.inl rfl))
        (pss_one (ps_if (pt_cmpR op_ge (pv 3) (pv 2) (nomark _))
          (pss_cons (ps_expr (pe_bm PySem.F.plainAttrs_list PySem.F.slot_list_append PySem.F.type_list_append mt_append (pv 5) (pa_cons (pe_op op_mod (pe_callTy call_int1 (by rfl) B.int (by decide +kernel) (pa_cons (pv 3) pa_nil)) (pv 2)) pa_nil)))
            (pss_one (ps_set (i := 3) scRow.nd rfl (.inl rfl) (pe_op op_fdiv (pv 3) (pv 2)))))
          (pss_cons (ps_set (i := 4) scRow.nd rfl (.inl rfl) (pe_op op_mod (pe_callTy call_int1 (by rfl) B.int (by decide +kernel) (pa_cons (pe_op op_add (pe_op op_add (pe_op op_mul (pv 4) pe_int) (pe_op op_mul pe_int (pv 6))) pe_int) pa_nil)) pe_int))
            (pss_one (ps_expr (pe_bm PySem.F.plainAttrs_list PySem.F.slot_list_append PySem.F.type_list_append mt_append (pv 5) (pa_cons (pe_op op_mod (pe_callTy call_int1 (by rfl) B.int (by decide +kernel) (pa_cons (pe_op op_fdiv (pe_op op_mul (pv 4) pe_int) pe_int) pa_nil)) (pv 2)) pa_nil))))))))
      (pss_one (ps_ret (pv 5)))))), ?_⟩
    refine ⟨.int c, rfl, .inl ⟨c, rfl, c, rfl, ?_⟩⟩
    refine ⟨.int c, rfl, .inl ⟨c, rfl, c, 1000003, rfl, rfl, (show (0 : Int) < 1000003 by decide), _, _, rfl, rfl, ?_⟩⟩
    refine ⟨Nat.zero_le _, fun p hp => ?_⟩
    refine ⟨.int n, rfl, n, rfl, by omega, by omega, ?_⟩
    refine for_range (lo := 0) (n := n.toNat) (fun i σ H' => ∃ (r m : Int) (kv : Option V) (xs : List Int), σ = [some (.int c), some (.int n), some (.int b), some (.int r), some (.int m), some (.ref p), kv] ∧ 0 ≤ m ∧ m < 4294967296 ∧ Same H H' ∧
      H' p = some (.lst (xs.map V.int)) ∧ xs.length = i ∧ ∀ x ∈ xs, 0 ≤ x ∧ x < b) ?_ ?_ ?_
    · refine ⟨_, _, none, [], rfl, ?_, ?_, same_upd hp, upd_same, rfl, fun x hx => by cases hx⟩
      · have := Int.emod_nonneg c (show (1000003 : Int) ≠ 0 by decide)
        omega
      · have := Int.emod_lt_of_pos c (show (0 : Int) < 1000003 by decide)
        omega
    · rintro i σ H' hi ⟨r, m, kv, xs, rfl, hm0, hm1, sm, hx, hl, hall⟩
      have grow : ∀ (y : Int) (τ : L2.St) (r' m' : Int), 0 ≤ y → y < b → 0 ≤ m' → m' < 4294967296 → τ = [some (.int c), some (.int n), some (.int b), some (.int r'), some (.int m'), some (.ref p), some (.int (0 + (i : Nat)))] →
          ∃ (r m : Int) (kv : Option V) (zs : List Int), τ = [some (.int c), some (.int n), some (.int b), some (.int r), some (.int m), some (.ref p), kv] ∧ 0 ≤ m ∧ m < 4294967296 ∧ Same H (upd H' p (.lst (xs.map V.int ++ [.int y]))) ∧
          (upd H' p (.lst (xs.map V.int ++ [.int y]))) p = some (.lst (zs.map V.int)) ∧ zs.length = i + 1 ∧ ∀ x ∈ zs, 0 ≤ x ∧ x < b := by
        intro y τ r' m' y0 y1 h0 h1 e
        refine ⟨r', m', _, xs ++ [y], e, h0, h1, fun q o k => ?_, ?_, ?_, ?_⟩
        · rw [upd_ne (ne_of_none k hp)]
          exact sm q o k
        · rw [upd_same, List.map_append]
          rfl
        · rw [List.length_append, hl]
          rfl
        · intro x hxm
          rcases List.mem_append.mp hxm with z | z
          · exact hall x z
          · obtain rfl : x = y := by simpa using z
            exact ⟨y0, y1⟩
      have hsz : (xs.map V.int).length < sizeLine := line_lt (by rw [List.length_map]; omega)
      refine ⟨.int r, rfl, .int b, rfl, r, b, rfl, rfl, _, rfl, ite2 (fun e => ?_) (fun e => ?_)⟩
      · refine ⟨.ref p, rfl, .inl ⟨rfl, _, .inl (.inl hx)⟩, .int r, rfl, .inl ⟨r, rfl, .int b, rfl, r, b, rfl, rfl, (show 0 < b by omega), p, _, _, rfl, rfl, hx, hsz, ?_⟩⟩
        refine ⟨.int r, rfl, .int b, rfl, r, b, rfl, rfl, ⟨by omega, by omega⟩, ?_⟩
        exact grow _ _ (r / b) m (Int.emod_nonneg r (by omega)) (Int.emod_lt_of_pos r (by omega)) hm0 hm1 rfl
      · refine ⟨.int m, rfl, m, 48271, rfl, rfl, .inl ⟨by omega, by omega⟩, .int (0 + (i : Nat)), rfl, 11, _, rfl, rfl, .inl ⟨by decide, by decide⟩, _, _, rfl, rfl, _, _, rfl, rfl, .inl ⟨_, rfl, _, 2147483647, rfl, rfl, (show (0 : Int) < 2147483647 by decide), ?_⟩⟩
        have b0 : 0 ≤ (m * 48271 + 11 * (0 + ((i : Nat) : Int)) + 7) % 2147483647 := Int.emod_nonneg _ (by decide)
        have b1 : (m * 48271 + 11 * (0 + ((i : Nat) : Int)) + 7) % 2147483647 < 2147483647 := Int.emod_lt_of_pos _ (by decide)
        refine ⟨.ref p, rfl, .inl ⟨rfl, _, .inl (.inl hx)⟩, _, rfl, (m * 48271 + 11 * (0 + ((i : Nat) : Int)) + 7) % 2147483647, 2862933555777941757, rfl, rfl, .inl ⟨by omega, by omega⟩, _, 1024, rfl, rfl, ⟨by decide, by decide⟩, .inl ⟨_, rfl, .int b, rfl, _, b, rfl, rfl, (show 0 < b by omega), p, _, _, rfl, rfl, hx, hsz, ?_⟩⟩
        exact grow _ _ r ((m * 48271 + 11 * (0 + ((i : Nat) : Int)) + 7) % 2147483647) (Int.emod_nonneg _ (by omega)) (Int.emod_lt_of_pos _ (by omega)) b0 (by omega) rfl
    · rintro σ H' ⟨r, m, kv, xs, rfl, hm0, hm1, sm, hx, hl, hall⟩
      exact ⟨.ref p, rfl, q H' p xs sm hp hx hl hall⟩
/-! ### _law_integer -/
def spInteger : Sp := fun vs H Q _ => ∃ i : Int, vs = [.int i] ∧ Q (.bl true) H
theorem ok_integer {f : Addr} {fd : FuncData} {k : Nat} (F : Fun K "_law_integer" "_law_integer" sInteger f fd) (B : Bl mg) : FnOk P w K mg base CX0 (k + 1) f fd ["value"] spInteger := by
  refine F.ok scInteger (fun vs H Q E h => ?_) (fun cdv A outer s H vs Q E hr h => ?_)
  · obtain ⟨i, rfl, _⟩ := h
    rfl
  · obtain ⟨i, rfl, q⟩ := h
    refine ⟨_, pss_one (ps_ret (pe_and (pe_callB call_isi (by rfl) B.isin (by decide +kernel) (pa_cons (pv 0) (pa_cons (pe_bltn (v := .ty "int") (by rfl) B.int (by decide +kernel) rfl) pa_nil)))
      (pe_one (pe_not (pe_callB call_isi (by rfl) B.isin (by decide +kernel) (pa_cons (pv 0) (pa_cons (pe_bltn (v := .ty "bool") (by rfl) B.bool (by decide +kernel) rfl) pa_nil))))))), ?_⟩
    refine ⟨.int i, rfl, .int i, .ty "int", _, _, true, rfl, .ty _, .base (.int i), kit_ty (by decide +kernel), true, rfl, iteT ?_⟩
    exact ⟨.int i, rfl, .int i, .ty "bool", _, _, false, rfl, .ty _, .base (.int i), kit_ty (by decide +kernel), false, rfl, q⟩
/-! ### _law_text -/
theorem sg_four (x : Int) : ∃ c, Sg c ∧ atI (Str.ofString "ACGT").cps.toList (x % 4) = some c := by
  have h : x % 4 = 0 ∨ x % 4 = 1 ∨ x % 4 = 2 ∨ x % 4 = 3 := by omega
  rcases h with h | h | h | h <;> rw [h]
  · exact ⟨65, .inl rfl, by decide +kernel⟩
  · exact ⟨67, .inr (.inl rfl), by decide +kernel⟩
  · exact ⟨71, .inr (.inr (.inl rfl)), by decide +kernel⟩
  · exact ⟨84, .inr (.inr (.inr (.inl rfl))), by decide +kernel⟩
theorem sg_two (x : Int) : ∃ c, Sg c ∧ atI (Str.ofString "AC").cps.toList (x % 2) = some c := by
  have h : x % 2 = 0 ∨ x % 2 = 1 := by omega
  rcases h with h | h <;> rw [h]
  · exact ⟨65, .inl rfl, by decide +kernel⟩
  · exact ⟨67, .inr (.inl rfl), by decide +kernel⟩
def spText (K : PySem.W.Frag) : Sp := fun vs H Q _ => ∃ (c n : Int), vs = [.int c, .int n] ∧ 0 ≤ n ∧ n ≤ 100000 ∧ ∀ (H' : Hp) (l : List Nat), Same H H' → Dna l → l.length = n.toNat → Q (.str (T l)) H'
theorem ok_text {f fR : Addr} {fd fdR : FuncData} {k : Nat} (F : Fun K "_law_text" "_law_text" sText f fd) (B : Bl mg) (GR : FnOk P w K mg base CX0 (k + 1) fR fdR ["cell", "count", "bound"] (spRow K)) (gR : mg "_law_row" = some (.ref fR)) (kR : PySem.W.keepIn K (.ref fR) = true) (bR : Binds K fdR ["cell", "count", "bound"] []) :
    FnOk P w K mg base CX0 (k + 1 + 1) f fd ["cell", "size"] (spText K) := by
  refine F.ok scText (fun vs H Q E h => ?_) (fun cdv A outer s H vs Q E hr h => ?_)
  · obtain ⟨c, n, rfl, _⟩ := h
    rfl
  · obtain ⟨c, n, rfl, hn0, hn, q⟩ := h
    refine ⟨_, pss_cons (ps_set (i := 2) scText.nd rfl (.inl rfl) (pe_call GR hr (by rfl) gR kR bR .nil pass0 (pa_cons (pv 0) (pa_cons (pv 1) (pa_cons pe_int pa_nil)))))
      (pss_cons (ps_set (i := 3) scText.nd rfl (.inl rfl) (pe_op op_mod (pe_op op_fdiv (pe_callB call_abs (by rfl) B.abs (by decide +kernel) (pa_cons (pe_callTy call_int1 (by rfl) B.int (by decide +kernel) (pa_cons (pv 0) pa_nil)) pa_nil)) pe_int) pe_int))
      (pss_cons (ps_set (i := 4) scText.nd rfl (.inl rfl) pe_str)
      (pss_cons (ps_for PassesOwn.never rfl (pi_range1 rfl B.range (pa_cons (pv 1) pa_nil)) (pg_name (i := 5) scText.nd rfl (.inl rfl))
        (C8.pss_cut (ps_set (i := 6) scText.nd rfl (.inl rfl) (pe_ix ix_str pe_str (pe_op op_mod (pe_ix ix_list (pv 2) (pv 5) (fun _ _ => rfl)) pe_int) (fun _ _ => rfl)))
        (C8.pss_cut (ps_if (PW.pt (pw_and (pt_cmpR op_eq (pv 3) pe_int (nomark _)) (pw_and (pt_cmpR op_gt (pv 5) pe_int (nomark _)) (pw_and1 (pt_cmpR op_gt (pe_op op_mod (pe_ix ix_list (pv 2) (pv 5) (fun _ _ => rfl)) pe_int) pe_int (nomark _))))))
            (pss_one (ps_set (i := 6) scText.nd rfl (.inl rfl) (pe_ix ix_str (pv 4) (pe_op op_sub (pv 5) pe_int) (fun _ _ => rfl)))) pss_nil)
        (C8.pss_cut (ps_if (pt_cmpR op_eq (pv 3) pe_int (nomark _)) (pss_one (ps_set (i := 6) scText.nd rfl (.inl rfl) (pe_ix ix_str pe_str (pe_op op_mod (pe_ix ix_list (pv 2) (pv 5) (fun _ _ => rfl)) pe_int) (fun _ _ => rfl)))) pss_nil)
        (C8.pss_cut (ps_if (PW.pt (pw_and (pt_cmpR op_eq (pv 3) pe_int (nomark _)) (pw_and1 (pt_cmpR op_gt (pe_ix ix_list (pv 2) (pv 5) (fun _ _ => rfl)) pe_int (nomark _)))))
            (pss_one (ps_set (i := 6) scText.nd rfl (.inl rfl) pe_str)) pss_nil)
        (pss_one (ps_set (i := 4) scText.nd rfl (.inl rfl) (pe_op op_add_str (pv 4) (pv 6)))))))))
      (pss_one (ps_ret (pv 4)))))), ?_⟩
    refine ⟨.int c, rfl, .int n, rfl, c, n, 97, rfl, hn0, hn, by decide, by decide, fun H1 p xs sm hp hx hl hall => ?_⟩
    refine ⟨.int c, rfl, .inl ⟨c, rfl, c, rfl, _, 7, rfl, rfl, ⟨by decide, by decide⟩, _, 4, rfl, rfl, (show (0 : Int) < 4 by decide), ?_⟩⟩
    refine ⟨.int n, rfl, n, rfl, by omega, by omega, ?_⟩
    obtain ⟨kd, hkd⟩ : ∃ kd : Int, kd = (if c < 0 then -c else c) / 7 % 4 := ⟨_, rfl⟩
    have hS : SqL K H1 p (xs.map V.int) := .inl (.inl hx)
    refine for_range (lo := 0) (n := n.toNat) (fun i σ H' => H' = H1 ∧ ∃ (l : List Nat) (kv lv : Option V), σ = [some (.int c), some (.int n), some (.ref p), some (.int kd), some (.str (T l)), kv, lv] ∧ l.length = i ∧ Dna l) ?_ ?_ ?_
    · exact ⟨rfl, [], none, none, by rw [← T_nil, hkd]; rfl, rfl, fun c hc => by cases hc⟩
    · rintro i σ H' hi ⟨rfl, l, kv, lv, rfl, hli, hd⟩
      have hix : i < xs.length := by omega
      have at1 : atI (xs.map V.int) (0 + (i : Nat)) = some (.int xs[i]) := by
        rw [Int.zero_add]
        refine atI_nat ?_
        rw [List.getElem?_map, List.getElem?_eq_getElem hix]
        rfl
      have done : ∀ d : Nat, Sg d → ∃ e, Sg e ∧ [some (.int c), some (.int n), some (.ref p), some (.int kd), some (.str (T l)), some (V.int (0 + (i : Nat))), some (.str (T [d]))] = [some (.int c), some (.int n), some (.ref p), some (.int kd), some (.str (T l)), some (V.int (0 + (i : Nat))), some (.str (T [e]))] := fun d hd => ⟨d, hd, rfl⟩
      refine ⟨fun σ H2 => H2 = H' ∧ ∃ d, Sg d ∧ σ = [some (.int c), some (.int n), some (.ref p), some (.int kd), some (.str (T l)), some (V.int (0 + (i : Nat))), some (.str (T [d]))], ?_, ?_⟩
      · obtain ⟨d, hsd, hat⟩ := sg_four xs[i]
        exact ⟨.ref p, rfl, .int (0 + (i : Nat)), rfl, p, _, _, _, rfl, rfl, hS, at1, _, 4, rfl, rfl, (show (0 : Int) < 4 by decide), _, _, d, rfl, rfl, by decide, hat, rfl, d, hsd, rfl⟩
      rintro σ H2 ⟨rfl, d, hsd, rfl⟩
      refine ⟨fun σ H3 => H3 = H2 ∧ ∃ d, Sg d ∧ σ = [some (.int c), some (.int n), some (.ref p), some (.int kd), some (.str (T l)), some (V.int (0 + (i : Nat))), some (.str (T [d]))], ?_, ?_⟩
      · refine ⟨.int kd, rfl, rfl, _, rfl, ite2 (fun _ => ?_) (fun _ => iteF ⟨rfl, d, hsd, rfl⟩)⟩
        refine ⟨.int (0 + (i : Nat)), rfl, _, 4, rfl, rfl, _, rfl, ite2 (fun e4 => ?_) (fun _ => iteF ⟨rfl, d, hsd, rfl⟩)⟩
        refine ⟨.ref p, rfl, .int (0 + (i : Nat)), rfl, p, _, _, _, rfl, rfl, hS, at1, _, 11, rfl, rfl, (show (0 : Int) < 11 by decide), _, 0, rfl, rfl, _, rfl, ite2 (fun _ => ?_) (fun _ => ⟨rfl, d, hsd, rfl⟩)⟩
        have h4 : (4 : Int) < 0 + (i : Nat) := of_decide_eq_true e4
        have hlt : i - 5 < l.length := by omega
        refine ⟨.str (T l), rfl, .int (0 + (i : Nat)), rfl, _, 5, rfl, rfl, T l, _, l[i - 5], rfl, rfl, line_ok (by rw [T_len]; omega), ?_, rfl, _, hd _ (List.getElem_mem hlt), rfl⟩
        rw [show (0 + ((i : Nat) : Int)) - 5 = ((i - 5 : Nat) : Int) by omega]
        refine atI_nat ?_
        exact List.getElem?_eq_getElem hlt
      rintro σ H3 ⟨rfl, d, hsd, rfl⟩
      refine ⟨fun σ H4 => H4 = H3 ∧ ∃ d, Sg d ∧ σ = [some (.int c), some (.int n), some (.ref p), some (.int kd), some (.str (T l)), some (V.int (0 + (i : Nat))), some (.str (T [d]))], ?_, ?_⟩
      · refine ⟨.int kd, rfl, rfl, _, rfl, ite2 (fun _ => ?_) (fun _ => ⟨rfl, d, hsd, rfl⟩)⟩
        obtain ⟨d, hsd, hat⟩ := sg_two xs[i]
        exact ⟨.ref p, rfl, .int (0 + (i : Nat)), rfl, p, _, _, _, rfl, rfl, hS, at1, _, 2, rfl, rfl, (show (0 : Int) < 2 by decide), _, _, d, rfl, rfl, by decide, hat, rfl, d, hsd, rfl⟩
      rintro σ H4 ⟨rfl, d, hsd, rfl⟩
      refine ⟨fun σ H5 => H5 = H4 ∧ ∃ d, Sg d ∧ σ = [some (.int c), some (.int n), some (.ref p), some (.int kd), some (.str (T l)), some (V.int (0 + (i : Nat))), some (.str (T [d]))], ?_, ?_⟩
      · refine ⟨.int kd, rfl, rfl, _, rfl, ite2 (fun _ => ?_) (fun _ => iteF ⟨rfl, d, hsd, rfl⟩)⟩
        refine ⟨.ref p, rfl, .int (0 + (i : Nat)), rfl, p, _, _, _, rfl, rfl, hS, at1, _, 88, rfl, rfl, _, rfl, ite2 (fun _ => ?_) (fun _ => ⟨rfl, d, hsd, rfl⟩)⟩
        exact ⟨rfl, 78, .inr (.inr (.inr (.inr rfl))), rfl⟩
      rintro σ H5 ⟨rfl, d, hsd, rfl⟩
      refine ⟨.str (T l), rfl, .str (T [d]), rfl, T l, T [d], rfl, rfl, line_ok (by rw [T_len, T_len, List.length_singleton]; omega), rfl, l ++ [d], some (.int (0 + (i : Nat))), some (.str (T [d])), ?_, ?_, hd.app (.one hsd)⟩
      · rw [T_app]
        rfl
      · rw [List.length_append, hli]
        rfl
    · rintro σ H' ⟨rfl, l, kv, lv, rfl, hli, hd⟩
      exact ⟨.str (T l), rfl, q H' l sm hd hli⟩
/-! ### _law_turned -/
def opp (c : Nat) : Nat := if c = 65 then 84 else if c = 67 then 71 else if c = 71 then 67 else if c = 84 then 65 else c
def turn (l : List Nat) : List Nat := (l.map opp).reverse
theorem opp_sg {c : Nat} (h : Sg c) : Sg (opp c) := by
  rcases h with h | h | h | h | h <;> subst h
  · exact .inr (.inr (.inr (.inl rfl)))
  · exact .inr (.inr (.inl rfl))
  · exact .inr (.inl rfl)
  · exact .inl rfl
  · exact .inr (.inr (.inr (.inr rfl)))
theorem opp_opp {c : Nat} (h : Sg c) : opp (opp c) = c := by
  rcases h with h | h | h | h | h <;> subst h <;> rfl
theorem turn_dna {l : List Nat} (h : Dna l) : Dna (turn l) := fun c hc => by
  obtain ⟨d, hd, e⟩ := List.mem_map.mp (List.mem_reverse.mp hc)
  rw [← e]
  exact opp_sg (h d hd)
theorem turn_len (l : List Nat) : (turn l).length = l.length := by
  unfold turn
  rw [List.length_reverse, List.length_map]
theorem turn_turn {l : List Nat} (h : Dna l) : turn (turn l) = l := by
  unfold turn
  rw [List.map_reverse, List.reverse_reverse, List.map_map]
  conv => rhs; rw [← List.map_id l]
  exact List.map_congr_left fun c hc => opp_opp (h c hc)
theorem turn_app (a b : List Nat) : turn (a ++ b) = turn b ++ turn a := by
  unfold turn
  rw [List.map_append, List.reverse_append]
theorem turn_snoc (a : List Nat) (c : Nat) : turn (a ++ [c]) = opp c :: turn a := by
  rw [turn_app]
  rfl
theorem sign_ix {c : Nat} (h : Sg c) : ∃ (i : Nat) (r : List Nat), Builtin.Str.occurrences (Str.ofString "ACGTN") ⟨#[c]⟩ 0 (Str.ofString "ACGTN").length 1 = i :: r ∧ atI (Str.ofString "TGCAN").cps.toList (i : Int) = some (opp c) ∧ (i : Int) + 2 = (if c = 65 then 2 else if c = 67 then 3 else if c = 71 then 4 else if c = 84 then 5 else 6) := by
  rcases h with h | h | h | h | h <;> subst h
  · exact ⟨0, [], by decide +kernel, by decide +kernel, by decide⟩
  · exact ⟨1, [], by decide +kernel, by decide +kernel, by decide⟩
  · exact ⟨2, [], by decide +kernel, by decide +kernel, by decide⟩
  · exact ⟨3, [], by decide +kernel, by decide +kernel, by decide⟩
  · exact ⟨4, [], by decide +kernel, by decide +kernel, by decide⟩
def spLTurned : Sp := fun vs H Q _ => ∃ l : List Nat, vs = [.str (T l)] ∧ Dna l ∧ l.length ≤ 100000 ∧ Q (.str (T (turn l))) H
theorem ok_lturned {f : Addr} {fd : FuncData} {k : Nat} (F : Fun K "_law_turned" "_law_turned" sLTurned f fd) : FnOk P w K mg base CX0 (k + 1) f fd ["text"] spLTurned := by
  refine F.ok scLTurned (fun vs H Q E h => ?_) (fun cdv A outer s H vs Q E hr h => ?_)
  · obtain ⟨l, rfl, _⟩ := h
    rfl
  · obtain ⟨l, rfl, hd, hl, q⟩ := h
    refine ⟨_, pss_cons (ps_set (i := 1) scLTurned.nd rfl (.inl rfl) pe_str)
      (pss_cons (ps_for PassesOwn.never rfl (pi_str (pv 0)) (pg_name (i := 2) scLTurned.nd rfl (.inl rfl))
        (pss_one (ps_set (i := 1) scLTurned.nd rfl (.inl rfl) (pe_op op_add_str (pe_ix ix_str pe_str (pe_bm PySem.F.plainAttrs_str PySem.F.slot_str_index PySem.F.type_str_index mt_sindex pe_str (pa_cons (pv 2) pa_nil)) (fun _ _ => rfl)) (pv 1)))))
      (pss_one (ps_ret (pv 1)))), ?_⟩
    refine ⟨.str (T l), rfl, T l, rfl, ?_⟩
    refine for_str (z := T l) (fun i σ H' => H' = H ∧ i ≤ l.length ∧ ∃ lv, σ = [some (.str (T l)), some (.str (T (turn (l.take i)))), lv]) ?_ ?_ ?_
    · exact ⟨rfl, Nat.zero_le _, none, by
        show [some (V.str (T l)), some (V.str (Str.ofString "")), none] = _
        rw [T_nil]
        rfl⟩
    · rintro i c σ H' hc ⟨rfl, _, lv, rfl⟩
      rw [T_at] at hc
      obtain ⟨hlt, hce⟩ := List.getElem?_eq_some_iff.mp hc
      have hsc : Sg c := by
        rw [← hce]
        exact hd _ (List.getElem_mem hlt)
      obtain ⟨j, r, ho, ha, _⟩ := sign_ix hsc
      have et : turn (l.take (i + 1)) = opp c :: turn (l.take i) := by
        rw [List.take_add_one, hc]
        exact turn_snoc _ c
      refine ⟨rfl, .str ⟨#[c]⟩, rfl, _, _, j, r, rfl, rfl, ho, _, _, _, rfl, rfl, by decide, ha, .str (T (turn (l.take i))), rfl, T [opp c], _, rfl, rfl, line_ok ?_, rfl, hlt, some (.str ⟨#[c]⟩), ?_⟩
      · rw [T_len, T_len, turn_len, List.length_take, List.length_singleton]
        omega
      · rw [T_app, et]
        rfl
    · rintro σ H' ⟨rfl, _, lv, rfl⟩
      rw [T_size, List.take_length]
      exact ⟨_, rfl, q⟩
end
theorem line_ok6 {n : Nat} (h : n ≤ 1000000) : n ≤ sizeLine := by
  rw [sizeLine_eq]
  omega
theorem line_ok7 {n : Nat} (h : n ≤ 10000000) : n ≤ sizeLine := by
  rw [sizeLine_eq]
  omega
theorem new_ne {H : Hp} {p q : Addr} {o : HO} (h : upd H p o q = none) : q ≠ p := fun e => by
  rw [e, upd_same] at h
  cases h
theorem new_old {H : Hp} {p q : Addr} {o : HO} (h : upd H p o q = none) : H q = none := by
  rw [upd_ne (new_ne h)] at h
  exact h
theorem cell_arg2 (a : Addr) (c d i : Nat) : [V.ref a, V.int ((c : Int) + (d : Int) * (0 + ((i : Nat) : Int)))] = [V.ref a, V.int ((c + d * i : Nat) : Int)] := by
  congr 2
  rw [Int.zero_add]
  simp
theorem cell_arg3 (a : Addr) (d i : Nat) : [V.ref a, V.int ((d : Int) * (0 + ((i : Nat) : Int)))] = [V.ref a, V.int ((d * i : Nat) : Int)] := by
  congr 2
  rw [Int.zero_add]
  simp
theorem cell_arg4 (a : Addr) (c d i : Nat) : [V.ref a, V.int ((d : Int) * (0 + ((i : Nat) : Int)) + (c : Int))] = [V.ref a, V.int ((d * i + c : Nat) : Int)] := by
  congr 2
  rw [Int.zero_add]
  simp
theorem map_int_at {ns : List Int} {i : Nat} (h : i < ns.length) : (ns.map V.int)[i]? = some (.int ns[i]) := by
  rw [List.getElem?_map, List.getElem?_eq_getElem h]
  rfl
def rFind : V → List V → Hp → VK → Prop := fun x xs H Q => ∃ a b, x = .str a ∧ xs = [.str b] ∧ Q (.int (Txt.find a b)) H
def rMaxP : List V → Hp → VK → Prop := fun xs H Q => ∃ i j, xs = [.int i, .int j] ∧ Q (.int (if j > i then j else i)) H
/-! ### lists of ints as data -/
abbrev LI (ns : List Int) : HO := .lst (ns.map V.int)
theorem LI_snoc (l : List Int) (x : Int) : LI (l ++ [x]) = .lst (l.map V.int ++ [.int x]) := by
  show HO.lst ((l ++ [x]).map V.int) = _
  rw [List.map_append]
  rfl
def dI (ns : List Int) : PyData := .list (ns.map .int)
theorem can_ints (ns : List Int) : PyData.canLayAll0 (ns.map .int) = true := by
  induction ns with
  | nil => rfl
  | cons n r ih => exact ih
theorem depth_intsD (ns : List Int) : PyData.depthAll (ns.map .int) = 0 := by
  induction ns with
  | nil => rfl
  | cons n r ih =>
    show max 0 (PyData.depthAll (r.map .int)) = 0
    rw [ih]
    rfl
theorem shaped_dI (ns : List Int) : SeqAt.shaped (dI ns) = true := by
  unfold SeqAt.shaped
  have e1 : (dI ns).canLay0 = true := can_ints ns
  have e2 : PyData.depth (dI ns) ≤ 64 := by
    show PyData.depthAll (ns.map .int) + 1 ≤ 64
    rw [depth_intsD]
    decide
  rw [e1, decide_eq_true e2]
  rfl
theorem dp_ints {K : PySem.W.Frag} {H : Hp} : ∀ ns : List Int, DpAll K H (ns.map V.int) (ns.map .int)
  | [] => .nil
  | n :: r => .cons (.int n) (dp_ints r)
theorem dp_dI {K : PySem.W.Frag} {H : Hp} {a : Addr} {ns : List Int} (h : SqL K H a (ns.map V.int)) : Dp K H (.ref a) (dI ns) := .lst h (dp_ints ns)
theorem eqv_ints (ns : List Int) : PyData.eqv (dI ns) (dI ns) = true := SeqAt.eqv_refl _ (can_ints ns)
theorem cutV_to (xs : List V) (k : Nat) : L2.cutV xs none (some (k : Int)) = xs.take k := by
  unfold L2.cutV
  rw [HT.sIx_none, HT.sIx_nat, List.drop_zero, Nat.sub_zero]
  by_cases h : k ≤ xs.length
  · rw [Nat.min_eq_left h]
  · rw [Nat.min_eq_right (by omega), List.take_of_length_le (Nat.le_refl _), List.take_of_length_le (by omega)]
theorem cutV_from (xs : List V) (k : Nat) : L2.cutV xs (some (k : Int)) none = xs.drop k := by
  unfold L2.cutV
  rw [HT.sIx_none, HT.sIx_nat]
  by_cases h : k ≤ xs.length
  · rw [Nat.min_eq_left h, List.take_of_length_le (by rw [List.length_drop]; omega)]
  · rw [Nat.min_eq_right (by omega), List.drop_of_length_le (Nat.le_refl _), List.drop_of_length_le (by omega), List.take_nil]
theorem ix_set {xs : List V} {i : Int} {j : Nat} (e : i = (j : Int)) (h : j < xs.length) : ixN xs.length i = some j := by
  rw [e]
  unfold ixN
  rw [if_pos (by omega), if_pos (by omega)]
  rfl
/-- a def of the module that keeps a promise -/
def Has (P : Program) (w : World) (K : PySem.W.Frag) (mg : Str → Option Value) (base : Heap) (k : Nat) (x : Str) (ps : List Str) (sp : Sp) : Prop :=
  ∃ f fd, FnOk P w K mg base CX0 k f fd ps sp ∧ mg x = some (.ref f) ∧ PySem.W.keepIn K (.ref f) = true ∧ Binds K fd ps []
/-- lists of bytes -/
def Byt (l : List Int) : Prop := ∀ x ∈ l, 0 ≤ x ∧ x < 256
theorem Byt.app {a b : List Int} (h : Byt a) (k : Byt b) : Byt (a ++ b) := fun x hx => by
  rcases List.mem_append.mp hx with z | z
  · exact h x z
  · exact k x z
theorem Byt.take {a : List Int} (h : Byt a) (n : Nat) : Byt (a.take n) := fun x hx => h x (List.mem_of_mem_take hx)
theorem Byt.rep {a : List Int} (h : Byt a) (n : Nat) : Byt (List.replicate n a).flatten := fun x hx => by
  obtain ⟨z, hz1, hz2⟩ := List.mem_flatten.mp hx
  rw [List.eq_of_mem_replicate hz1] at hz2
  exact h x hz2
theorem rep_map {α β : Type} (f : α → β) (n : Nat) (l : List α) : (List.replicate n (l.map f)).flatten = (List.replicate n l).flatten.map f := by
  rw [List.map_flatten, List.map_replicate]
theorem rep_len {α : Type} (n : Nat) (l : List α) : (List.replicate n l).flatten.length = n * l.length := by simp
section
variable {X : Cx}
theorem fold_app : ∀ (n : Nat) (z acc : Array Nat), (List.replicate n z).foldl (· ++ ·) acc = acc ++ ((List.replicate n z.toList).flatten).toArray
  | 0, z, acc => by simp
  | n + 1, z, acc => by
    rw [List.replicate_succ, List.foldl_cons, fold_app n z (acc ++ z), List.replicate_succ, List.flatten_cons]
    apply Array.toList_inj.mp
    simp
theorem mul_T (l : List Nat) (n : Int) (h0 : 0 ≤ n) : Txt.mul (T l) n = T (List.replicate n.toNat l).flatten := by
  unfold Txt.mul
  by_cases h1 : n < 1
  · rw [if_pos h1, show n.toNat = 0 by omega]
    exact T_nil
  · rw [if_neg h1]
    by_cases h2 : (n == 1 || (T l).length == 0) = true
    · rw [if_pos h2]
      rw [T_len] at h2
      rcases (Bool.or_eq_true _ _).mp h2 with z | z
      · have e : n = 1 := by simpa using z
        subst e
        show T l = T (List.replicate 1 l).flatten
        simp
      · have e : l = [] := by simpa using z
        subst e
        have : ∀ m : Nat, (List.replicate m ([] : List Nat)).flatten = [] := fun m => by simp
        rw [this]
    · rw [if_neg h2]
      show Str.mk _ = Str.mk _
      congr 1
      rw [fold_app, T_list]
      simp
/-- a text n times -/
theorem op_mulT : OpR X (binaryOp .Mult) (fun x y H Q => ∃ (l : List Nat) (n : Int), x = .str (T l) ∧ y = .int n ∧ l.length ≤ 100 ∧ 0 ≤ n ∧ n ≤ 1000 ∧ Q (.str (T (List.replicate n.toNat l).flatten)) H) := by
  intro pins s σ H x y v u Q I rx ry h
  obtain ⟨l, n, rfl, rfl, hl, h0, hn, q⟩ := h
  obtain ⟨t, rfl⟩ := rx
  obtain ⟨t', rfl⟩ := ry
  refine SB.mul (mulOk_of 100 1000 (by rw [T_len]; exact hl) hn (by omega) (by decide) (by decide)) fun t1 tk => ?_
  rw [mul_T l n h0]
  exact ⟨.str (T (List.replicate n.toNat l).flatten), H, I.tok _, ⟨_, rfl⟩, q⟩
end
theorem rep_mem {n : Nat} {l : List Nat} {c : Nat} (h : c ∈ (List.replicate n l).flatten) : c ∈ l := by
  obtain ⟨z, hz1, hz2⟩ := List.mem_flatten.mp h
  rw [List.eq_of_mem_replicate hz1] at hz2
  exact hz2
/-- a text n times: only how long it is and what stands in it -/
theorem op_mulM {X : Cx} : OpR X (binaryOp .Mult) (fun x y H Q => ∃ (l : List Nat) (n : Int), x = .str (T l) ∧ y = .int n ∧ l.length ≤ 100 ∧ 0 ≤ n ∧ n ≤ 1000 ∧ ∀ m : List Nat, m.length = n.toNat * l.length → (∀ c ∈ m, c ∈ l) → Q (.str (T m)) H) := by
  intro pins s σ H x y v u Q I rx ry h
  obtain ⟨l, n, e1, e2, hl, h0, hn, q⟩ := h
  exact op_mulT pins s σ H x y v u Q I rx ry ⟨l, n, e1, e2, hl, h0, hn, q _ (rep_len _ _) fun c hc => rep_mem hc⟩
theorem cut_head (l : List Nat) (k : Nat) : cutS (T l) none (some (k : Int)) = T (l.take k) := by
  unfold cutS
  rw [HT.sIx_nat, HT.sIx_none, T_len, T_list, List.drop_zero, Nat.sub_zero]
  show Str.mk _ = Str.mk _
  congr 2
  by_cases h : k ≤ l.length
  · rw [Nat.min_eq_left h]
  · rw [Nat.min_eq_right (by omega), List.take_of_length_le (Nat.le_refl _), List.take_of_length_le (by omega)]
theorem paired_len {α β : Type} {F : α → β → Prop} : ∀ {xs : List α} {ys : List β}, Paired F xs ys → xs.length = ys.length
  | _, _, .nil => rfl
  | _, _, .cons _ t => congrArg (· + 1) (paired_len t)
theorem paired_get {α β : Type} {F : α → β → Prop} : ∀ {xs : List α} {ys : List β} {i : Nat} {x : α}, Paired F xs ys → xs[i]? = some x → ∃ y, ys[i]? = some y ∧ F x y
  | _, _, 0, _, .cons r _, e => ⟨_, rfl, by cases e; exact r⟩
  | _, _, i + 1, _, .cons _ t, e => paired_get (i := i) t e
/-! ### enumerate(text), enumerate(text, start=k) -/
section
open PySem PySem.Spec PyProof.Rows L2 PySem.W
theorem callWith_kwT2 {M : Model} {A : Around} {E : Value → Shared → Prop} {s : Shared} {env : Env} {pos : Pos} {U : String} {e : Expr} {rest : List Expr} {kws : List Keyword} {Q : Value → Shared → Prop}
    (h : wpAny M A (spliced (backTo pos (starEach (e :: rest) env))) (fun vs s₁ => wpAny M A (evalAll ((backToKw pos (keywordEach kws env)).map (·.2))) (fun kvs s₂ => wpAny M A (call (.type U) vs (((backToKw pos (keywordEach kws env)).filterMap (·.1)).zip kvs)) Q E s₂) E s₁) E s)
    (he : backTo pos (starEach (e :: rest) env) = (false, eval e env) :: backTo pos (starEach rest env)) (hplain : (backTo pos (starEach (e :: rest) env)).any (·.1) = false)
    (hall : (backToKw pos (keywordEach kws env)).all (·.1.isSome) = true) (hkw : (backToKw pos (keywordEach kws env)).any (·.1.isNone) = false) :
    wpAny M A (callWith pos (.type U) [] (backTo pos (starEach (e :: rest) env)) (backToKw pos (keywordEach kws env))) Q E s := by
  have h2 : wpAny M A (evalArgs (.type U) true (backTo pos (starEach (e :: rest) env)) (backToKw pos (keywordEach kws env))) (fun a s₁ => wpAny M A (call (.type U) ([] ++ a.pos) a.kw) Q E s₁) E s := by
    rw [he] at h ⊢
    exact evalArgs_kwB hall h
  unfold callWith
  refine wpAny_bind (wpAny_holding (wpAny_mono h2 (fun a s₁ h₁ => wpAny_bind (wpAny_standAt ?_)) fun _ _ x => x))
  simp only [hplain, hkw, Bool.or_false]
  refine wpAny_bind (wpAny_pure ?_)
  exact wpAny_bind (wpAny_mono h₁ (fun r s₂ hr => wpAny_bind (wpAny_holding (wpAny_point (wpAny_pure hr)))) fun _ _ x => x)
/-- the signs of x, each in a new pair with its number from k on -/
def ItT (k : Int) (x : Str) : It :=
  ⟨fun i _ => i < x.cps.size, fun i H v H' => ∃ T c, v = .ref T ∧ H T = none ∧ H' = upd H T (.tup [.int (k + (i : Nat)), .str ⟨#[c]⟩]) ∧ x.cps[i]? = some c, fun i _ => x.cps.size ≤ i⟩
theorem turn_enumT {P : Program} {w : World} {K : PySem.W.Frag} {elts : List Expr} {kk : Nat} {tpos : Pos} (k : Int) (x : Str) (t : Tok) (e it : Addr) (hne : e ≠ it) :
    Turn P w K (.Tuple elts kk tpos) (ItT k x) [e, it] e (fun i h => (∃ old, IsEnum h e it (k + ((i : Nat) : Int)) old) ∧ h.IsStrIter it (strIterType x) x t i ∧ i ≤ x.cps.size) where
  mem := by simp
  obj := fun i h st b hb => by
    obtain ⟨⟨old, he⟩, ⟨o, ho, hc, hd⟩, _⟩ := st
    rcases (show b = e ∨ b = it by simpa using hb) with z | z
    · rw [z]
      exact ⟨_, he, fun v q => nomatch q⟩
    · rw [z]
      exact ⟨o, ho, fun v q => by rw [hd] at q; cases q⟩
  keep := fun i h h' st k => let ⟨⟨old, he⟩, ⟨o, ho, r⟩, l⟩ := st; ⟨⟨old, k e (by simp) _ he⟩, ⟨o, k it (by simp) _ ho, r⟩, l⟩
  item := by
    intro X hP hw hK hc i pins s σ H E I hf st hg
    subst hP hw hK
    obtain ⟨⟨old, he⟩, hit, hle⟩ := st
    have hel : e < s.heap.objs.size := Heap.lt_size he
    have hil : it < s.heap.objs.size := by obtain ⟨_, q, _⟩ := hit; exact Heap.lt_size q
    have hef : e ∉ [it] := by
      simp only [List.mem_cons, List.not_mem_nil, or_false]
      exact hne
    refine wpAny_pyNext_enum_itemC (Draws.text (by simpa using I.ok.hd hc) it x t) he hit hg hne hef fun x1 h' tk hx1 ho hst' hT hsz hk => ?_
    obtain ⟨c, u, hcx, rfl⟩ := hx1
    refine ⟨_, rfl, wpAny_letOwnedTupleGo_enum (s := { s with heap := h', toks := tk + 1 }) ho fun h'' he' sb => ?_⟩
    have hT2 : h''.get? s.heap.objs.size = some { cls := .type "tuple", data := .seq #[.int (k + (i : Int)) tk, .str ⟨#[c]⟩ u] } := (sb.2 _ (Nat.ne_of_gt hel)).trans hT
    have new : ObjOk X.prog X.w (upd H s.heap.objs.size (.tup [.int (k + (i : Nat)), .str ⟨#[c]⟩])) h'' s.heap.objs.size (.tup [.int (k + (i : Nat)), .str ⟨#[c]⟩]) :=
      ⟨by show 2 ≤ sizeLine; decide, [.int (k + (i : Int)) tk, .str ⟨#[c]⟩ u], .cons ⟨_, rfl⟩ (.cons ⟨_, rfl⟩ .nil), ⟨_, hT2, rfl, _, rfl⟩⟩
    have I1 : Inv X pins σ (upd H s.heap.objs.size (.tup [.int (k + (i : Nat)), .str ⟨#[c]⟩])) { s with heap := h'', toks := tk + 1 } :=
      I.turnedNew (ch := [e, it]) (fun b ob hb q => (sb.2 b (fun z => hb (by simp [z]))).trans (hk b ob (fun z => hb (by simp [z])) (fun z => hb (by simp [z])) q)) hf (Nat.le_refl _) new
    refine ⟨.ref s.heap.objs.size, _, I1, rfl, ⟨_, c, rfl, I.hok.fresh (Nat.le_refl _), rfl, hcx⟩, ⟨⟨.str ⟨#[c]⟩ u, ?_⟩, ?_, hg⟩, fun b hb => ?_⟩
    · rw [show k + ((i + 1 : Nat) : Int) = k + (i : Int) + 1 by omega]
      exact he'
    · obtain ⟨o, q, r⟩ := hst'
      exact ⟨o, (sb.2 it (Ne.symm hne)).trans q, r⟩
    · have hb' : b < s.heap.objs.size := by
        rcases (show b = e ∨ b = it by simpa using hb) with z | z
        · rw [z]; exact hel
        · rw [z]; exact hil
      rw [upd_ne (Nat.ne_of_lt hb')]
      exact (hf b hb).1
  done := by
    intro X hP hw hK hc i pins s σ H E I hf st hg
    subst hP hw hK
    obtain ⟨⟨old, he⟩, hit, hle⟩ := st
    obtain ⟨f0, f1, f2, f3, f4, f5⟩ := hf it (by simp)
    have hin : i = x.cps.size := Nat.le_antisymm hle hg
    refine wpAny_pyNext_enum_endD (Draws.text (by simpa using I.ok.hd hc) it x t) he (by rw [← hin]; exact hit) fun h' eb => ⟨rfl, I.turned (t' := s.toks) (fun b o hb q => eb b o hb q) f0 f1 f3 f4 f5⟩
  self := fun A i s Q E st h => let ⟨⟨_, he⟩, _⟩ := st; wpAny_pyIter_enum he h
def iEnumT (ta : TA) : TI := fun σ H R => ta σ H fun vs H1 => ∃ x, vs = [.str x] ∧ R (ItT 0 x) H1
theorem pi_enumT {X : Cx} {e : Expr} {ta : TA} {p pos tpos : Pos} {elts : List Expr} {kk : Nat} (hg : Gl X "enumerate") (hm : X.mg "enumerate" = none) (ha : PA X [e] ta) (hs : starEach [e] X.env = [(false, eval e X.env)] := by rfl) :
    PI X (.Tuple elts kk tpos) (.Call (.Name "enumerate" p) [e] [] pos) (iEnumT ta) := by
  refine ⟨fun pins s σ H R I h => ?_⟩
  refine Call_ (ld_blt I hg hm boot_enumerate (PyProof.Rows.callWith_type1 (thn (ha.run pos pins s σ H _ I h) fun us s1 ⟨vs, H1, I1, r1, q1⟩ => ?_) hs rfl))
  obtain ⟨x, ex, q⟩ := q1
  subst ex
  obtain ⟨u, rfl, ru⟩ := vals1 r1
  obtain ⟨t, rfl⟩ : ∃ t, u = Value.str x t := ru
  refine call_enumerate_str fun h' he hit hsz hk => wpAny_pyIter_enum he ?_
  have I3 : Inv X pins σ H1 { s1 with heap := h' } := I1.kept (t' := s1.toks) hk
  refine ⟨s1.heap.objs.size + 1, [s1.heap.objs.size + 1, s1.heap.objs.size], _, _, H1, rfl, I3, turn_enumT 0 x t (s1.heap.objs.size + 1) s1.heap.objs.size (Nat.succ_ne_self _), ⟨⟨.none, he⟩, hit, Nat.zero_le _⟩, fun b hb => ?_, q⟩
  have hle : s1.heap.objs.size ≤ b := by
    rcases (show b = s1.heap.objs.size + 1 ∨ b = s1.heap.objs.size by simpa using hb) with z | z
    · rw [z]; exact Nat.le_add_right _ _
    · rw [z]; exact Nat.le_refl _
  exact I1.fpOk hle (I1.hok.fresh hle)
def iEnumTS (ta tk : TA) : TI := fun σ H R => ta σ H fun vs H1 => tk σ H1 fun zs H2 => ∃ x k, vs = [.str x] ∧ zs = [.int k] ∧ -(2 ^ 63) ≤ k ∧ k < 2 ^ 63 ∧ R (ItT k x) H2
theorem pi_enumTS {X : Cx} {e ek : Expr} {ta tk : TA} {p pos tpos kp : Pos} {elts : List Expr} {kk : Nat} (hg : Gl X "enumerate") (hm : X.mg "enumerate" = none) (ha : PA X [e] ta) (hk : PK X [⟨some "start", ek, kp⟩] tk)
    (he1 : backTo pos (starEach [e] X.env) = (false, eval e X.env) :: backTo pos (starEach [] X.env) := by rfl) (hpl : (backTo pos (starEach [e] X.env)).any (·.1) = false := by rfl) :
    PI X (.Tuple elts kk tpos) (.Call (.Name "enumerate" p) [e] [⟨some "start", ek, kp⟩] pos) (iEnumTS ta tk) := by
  constructor
  intro pins s σ H R I h
  refine wpAny_Call_Name_kw (ld_blt I hg hm boot_enumerate ?_)
  refine callWith_kwT2 (thn (ha.run pos pins s σ H _ I h) fun us s1 ⟨vs, H1, I1, r1, q1⟩ => ?_) he1 hpl (by rfl) (by rfl)
  refine thn (hk.run pos pins s1 σ H1 _ I1 q1) fun ws s2 ⟨zs, H2, I2, r2, x, k, ev, ez, hk0, hk1, q⟩ => ?_
  subst ev ez
  obtain ⟨u, rfl, ru⟩ := vals1 r1
  obtain ⟨t, rfl⟩ : ∃ t, u = Value.str x t := ru
  obtain ⟨z, rfl, rz⟩ := vals1 r2
  obtain ⟨t2, rfl⟩ : ∃ t, z = Value.int k t := rz
  show wpAny _ _ (call (.type "enumerate") [.str x t] [(Str.ofString "start", .int k t2)]) _ _ s2
  refine enum_begins_start (begins_text x t) trivial hk0 hk1 fun h' he hit hsz hk => wpAny_pyIter_enum he ?_
  have I3 : Inv X pins σ H2 { s2 with heap := h' } := I2.kept (t' := s2.toks) hk
  refine ⟨s2.heap.objs.size + 1, [s2.heap.objs.size + 1, s2.heap.objs.size], _, _, H2, rfl, I3, turn_enumT k x t (s2.heap.objs.size + 1) s2.heap.objs.size (Nat.succ_ne_self _), ⟨⟨.none, ?_⟩, ⟨_, hit, rfl, rfl⟩, Nat.zero_le _⟩, fun b hb => ?_, q⟩
  · rw [show k + ((0 : Nat) : Int) = k by omega]
    exact he
  · have hle : s2.heap.objs.size ≤ b := by
      rcases (show b = s2.heap.objs.size + 1 ∨ b = s2.heap.objs.size by simpa using hb) with z | z
      · rw [z]; exact Nat.le_add_right _ _
      · rw [z]; exact Nat.le_refl _
    exact I2.fpOk hle (I2.hok.fresh hle)
end
/-! ### bits -/
def maj (a b c : Bool) : Bool := (a && b) || (c && (a ^^ b))
def cry (X Y : Nat) : Nat → Bool
  | 0 => false
  | i + 1 => maj (X.testBit i) (Y.testBit i) (cry X Y i)
def cry2 : Nat → Nat → Nat → Bool → Bool
  | 0, _, _, c => c
  | i + 1, X, Y, c => cry2 i (X / 2) (Y / 2) (maj (X.testBit 0) (Y.testBit 0) c)
theorem tb_succ (n i : Nat) : n.testBit (i + 1) = (n / 2).testBit i := Nat.testBit_succ n i
theorem tb_add : ∀ (i X Y : Nat) (c : Bool), (X + Y + c.toNat).testBit i = (X.testBit i ^^ Y.testBit i ^^ cry2 i X Y c)
  | 0, X, Y, c => by
    rw [Nat.testBit_zero, Nat.testBit_zero, Nat.testBit_zero]
    have hX : X % 2 = 0 ∨ X % 2 = 1 := by omega
    have hY : Y % 2 = 0 ∨ Y % 2 = 1 := by omega
    unfold cry2
    rcases hX with x | x <;> rcases hY with y | y <;> cases c <;> simp [Nat.add_mod, x, y]
  | i + 1, X, Y, c => by
    rw [tb_succ, tb_succ, tb_succ]
    have hX : X % 2 = 0 ∨ X % 2 = 1 := by omega
    have hY : Y % 2 = 0 ∨ Y % 2 = 1 := by omega
    have e : (X + Y + c.toNat) / 2 = X / 2 + Y / 2 + (maj (X.testBit 0) (Y.testBit 0) c).toNat := by
      rw [Nat.testBit_zero, Nat.testBit_zero]
      rcases hX with x | x <;> rcases hY with y | y <;> cases c <;> simp [maj, x, y] <;> omega
    rw [e, tb_add i]
    rfl
theorem cry2_succ : ∀ (i X Y : Nat) (c : Bool), cry2 (i + 1) X Y c = maj (X.testBit i) (Y.testBit i) (cry2 i X Y c)
  | 0, _, _, _ => rfl
  | i + 1, X, Y, c => by
    show cry2 (i + 1) (X / 2) (Y / 2) _ = _
    rw [cry2_succ i, tb_succ X i, tb_succ Y i]
    rfl
theorem cry2_eq (X Y : Nat) : ∀ i, cry2 i X Y false = cry X Y i
  | 0 => rfl
  | i + 1 => by
    rw [cry2_succ, cry2_eq X Y i]
    rfl
theorem add_bit (X Y i : Nat) : (X + Y).testBit i = (X.testBit i ^^ Y.testBit i ^^ cry X Y i) := by
  have h := tb_add i X Y false
  rw [cry2_eq] at h
  exact h
/-! ### columns -/
def stepf (top : Int) (ag : Nat → Bool) (f : Nat → Int) : Nat → Int
  | 0 => f 0 + top
  | i + 1 => min (f i + 1 - if ag i then 1 else 0) (min (f (i + 1) + 1) (stepf top ag f i + 1))
/-- neighbours differ by at most one, up to n -/
def Smooth (n : Nat) (f : Nat → Int) : Prop := ∀ i, i < n → -1 ≤ f (i + 1) - f i ∧ f (i + 1) - f i ≤ 1
theorem step_facts {n : Nat} {top : Int} {ag : Nat → Bool} {f : Nat → Int} (ht0 : 0 ≤ top) (ht1 : top ≤ 1) (S : Smooth n f) : ∀ i, i ≤ n → -1 ≤ stepf top ag f i - f i ∧ stepf top ag f i - f i ≤ 1
  | 0, _ => by
    show -1 ≤ f 0 + top - f 0 ∧ f 0 + top - f 0 ≤ 1
    omega
  | i + 1, h => by
    have ih := step_facts (ag := ag) ht0 ht1 S i (by omega)
    have hs := S i (by omega)
    show -1 ≤ min (f i + 1 - if ag i then 1 else 0) (min (f (i + 1) + 1) (stepf top ag f i + 1)) - f (i + 1) ∧ min (f i + 1 - if ag i then 1 else 0) (min (f (i + 1) + 1) (stepf top ag f i + 1)) - f (i + 1) ≤ 1
    split <;> omega
/-- level: the row i + 1 is what the row i was -/
def lev (top : Int) (ag : Nat → Bool) (f : Nat → Int) (i : Nat) : Bool := decide (stepf top ag f (i + 1) = f i)
theorem lev_iff {n : Nat} {top : Int} {ag : Nat → Bool} {f : Nat → Int} (ht0 : 0 ≤ top) (ht1 : top ≤ 1) (S : Smooth n f) {i : Nat} (hi : i < n) :
    (lev top ag f i = true ↔ ag i = true ∨ f (i + 1) - f i = -1 ∨ stepf top ag f i - f i = -1) ∧ 0 ≤ stepf top ag f (i + 1) - f i ∧ stepf top ag f (i + 1) - f i ≤ 1 := by
  have h1 := step_facts (ag := ag) ht0 ht1 S i (by omega)
  have hs := S i hi
  have e : stepf top ag f (i + 1) = min (f i + 1 - if ag i then 1 else 0) (min (f (i + 1) + 1) (stepf top ag f i + 1)) := rfl
  unfold lev
  rw [decide_eq_true_iff, e]
  cases ag i with
  | true =>
    rw [if_pos rfl]
    refine ⟨⟨fun _ => .inl rfl, fun _ => by omega⟩, by omega, by omega⟩
  | false =>
    rw [if_neg Bool.false_ne_true]
    refine ⟨⟨fun z => .inr (by omega), fun z => ?_⟩, by omega, by omega⟩
    rcases z with z | z | z
    · cases z
    · omega
    · omega
/-- what the masks tell of a column -/
structure Msk (n : Nat) (f : Nat → Int) (R F : Nat) : Prop where
  smooth : Smooth n f
  up : ∀ i, R.testBit i = (decide (i < n) && decide (f (i + 1) - f i = 1))
  dn : ∀ i, F.testBit i = (decide (i < n) && decide (f (i + 1) - f i = -1))
def fullN (n : Nat) : Nat := 2 ^ n - 1
def levN (n same R F : Nat) : Nat := ((((same &&& R) + R) ^^^ R) ||| same ||| F) &&& fullN n
def larN (n lv R F top : Nat) : Nat := ((F ||| (fullN n ^^^ (lv ||| R))) <<< 1) ||| top
def smaN (lv R : Nat) : Nat := (lv &&& R) <<< 1
def upN (n lv la sm : Nat) : Nat := (sm &&& fullN n) ||| (fullN n ^^^ ((lv ||| la) &&& fullN n))
def dnN (lv la : Nat) : Nat := lv &&& la
theorem full_bit (n i : Nat) : (fullN n).testBit i = decide (i < n) := Nat.testBit_two_pow_sub_one n i
theorem mask_step {n top same R F : Nat} {ag : Nat → Bool} {f : Nat → Int} (ht : top ≤ 1) (M : Msk n f R F) (hs : ∀ i, same.testBit i = (decide (i < n) && ag i)) :
    Msk n (stepf top ag f) (upN n (levN n same R F) (larN n (levN n same R F) R F top) (smaN (levN n same R F) R)) (dnN (levN n same R F) (larN n (levN n same R F) R F top)) ∧
    (larN n (levN n same R F) R F top) >>> n = (if stepf top ag f n - f n = 1 then 1 else 0) ∧ (smaN (levN n same R F) R) >>> n = (if stepf top ag f n - f n = -1 then 1 else 0) := by
  have ht0 : (0 : Int) ≤ (top : Int) := by omega
  have ht1 : (top : Int) ≤ 1 := by omega
  -- the carries
  have hc : ∀ i, i ≤ n → (cry (same &&& R) R i = decide (stepf top ag f i - f i = -1)) := by
    intro i
    induction i with
    | zero =>
      intro _
      show false = decide (f 0 + top - f 0 = -1)
      rw [decide_eq_false (by omega)]
    | succ i ih =>
      intro h
      have h2 := ih (by omega)
      obtain ⟨l1, l2, l3⟩ := lev_iff (ag := ag) ht0 ht1 M.smooth (show i < n by omega)
      have hsm := M.smooth i (by omega)
      have hle : (stepf top ag f (i + 1) = f i) ↔ (ag i = true ∨ f (i + 1) - f i = -1 ∨ stepf top ag f i - f i = -1) := by
        rw [← l1]
        unfold lev
        rw [decide_eq_true_iff]
      show maj ((same &&& R).testBit i) (R.testBit i) (cry (same &&& R) R i) = _
      rw [Nat.testBit_and, hs, M.up, h2, decide_eq_true (show i < n by omega)]
      unfold maj
      by_cases hv : f (i + 1) - f i = 1
      · rw [decide_eq_true hv]
        cases ha : ag i with
        | true =>
          have : stepf top ag f (i + 1) = f i := hle.mpr (.inl ha)
          rw [decide_eq_true (show stepf top ag f (i + 1) - f (i + 1) = -1 by omega)]
          rfl
        | false =>
          by_cases hh : stepf top ag f i - f i = -1
          · have : stepf top ag f (i + 1) = f i := hle.mpr (.inr (.inr hh))
            rw [decide_eq_true hh, decide_eq_true (show stepf top ag f (i + 1) - f (i + 1) = -1 by omega)]
            rfl
          · have : ¬ stepf top ag f (i + 1) = f i := fun z => by
              rcases hle.mp z with z | z | z
              · rw [ha] at z
                cases z
              · omega
              · exact hh z
            rw [decide_eq_false hh, decide_eq_false (show ¬ stepf top ag f (i + 1) - f (i + 1) = -1 by omega)]
            rfl
      · rw [decide_eq_false hv]
        have : ¬ stepf top ag f (i + 1) - f (i + 1) = -1 := by omega
        rw [decide_eq_false this]
        simp
  have hl : ∀ i, (levN n same R F).testBit i = (decide (i < n) && lev top ag f i) := by
    intro i
    unfold levN
    rw [Nat.testBit_and, Nat.testBit_or, Nat.testBit_or, Nat.testBit_xor, add_bit, full_bit, Nat.testBit_and]
    by_cases hi : i < n
    · rw [hc i (by omega), hs, M.up, M.dn, decide_eq_true hi]
      obtain ⟨l1, _, _⟩ := lev_iff (ag := ag) ht0 ht1 M.smooth hi
      have hsm := M.smooth i hi
      cases hlv : lev top ag f i with
      | true =>
        rcases l1.mp hlv with z | z | z
        · rw [z]
          simp
        · rw [decide_eq_true z]
          simp
        · rw [decide_eq_true z]
          cases ag i <;> cases decide (f (i + 1) - f i = 1) <;> simp
      | false =>
        have n1 : ag i = false := by
          cases h : ag i with
          | false => rfl
          | true => exact absurd (l1.mpr (.inl h)) (by rw [hlv]; exact Bool.false_ne_true)
        have n2 : ¬ f (i + 1) - f i = -1 := fun z => absurd (l1.mpr (.inr (.inl z))) (by rw [hlv]; exact Bool.false_ne_true)
        have n3 : ¬ stepf top ag f i - f i = -1 := fun z => absurd (l1.mpr (.inr (.inr z))) (by rw [hlv]; exact Bool.false_ne_true)
        rw [n1, decide_eq_false n2, decide_eq_false n3]
        simp
    · rw [decide_eq_false hi, Bool.and_false, Bool.false_and]
  -- how the column differs from the one before
  have hla : ∀ i, i ≤ n → (larN n (levN n same R F) R F top).testBit i = decide (stepf top ag f i - f i = 1) := by
    intro i h
    unfold larN
    rw [Nat.testBit_or, Nat.testBit_shiftLeft]
    cases i with
    | zero =>
      have e : stepf top ag f 0 - f 0 = top := by
        show f 0 + top - f 0 = top
        omega
      rw [e]
      have : top = 0 ∨ top = 1 := by omega
      rcases this with z | z <;> subst z <;> rfl
    | succ i =>
      have htb : top.testBit (i + 1) = false := by
        rw [tb_succ, show top / 2 = 0 by omega, Nat.zero_testBit]
      rw [htb, Bool.or_false, Nat.add_sub_cancel, decide_eq_true (show 1 ≤ i + 1 by omega), Bool.true_and, Nat.testBit_or, Nat.testBit_xor, Nat.testBit_or, full_bit, hl, M.up, M.dn, decide_eq_true (show i < n by omega)]
      obtain ⟨l1, l2, l3⟩ := lev_iff (ag := ag) ht0 ht1 M.smooth (show i < n by omega)
      have hsm := M.smooth i (by omega)
      cases hlv : lev top ag f i with
      | true =>
        have e1 : stepf top ag f (i + 1) = f i := of_decide_eq_true hlv
        by_cases hv : f (i + 1) - f i = -1
        · rw [decide_eq_true hv, decide_eq_true (show stepf top ag f (i + 1) - f (i + 1) = 1 by omega)]
          simp
        · rw [decide_eq_false hv, decide_eq_false (show ¬ stepf top ag f (i + 1) - f (i + 1) = 1 by omega)]
          simp
      | false =>
        have e1 : ¬ stepf top ag f (i + 1) = f i := of_decide_eq_false hlv
        have n2 : ¬ f (i + 1) - f i = -1 := fun z => absurd (l1.mpr (.inr (.inl z))) (by rw [hlv]; exact Bool.false_ne_true)
        rw [decide_eq_false n2]
        by_cases hv : f (i + 1) - f i = 1
        · rw [decide_eq_true hv, decide_eq_false (show ¬ stepf top ag f (i + 1) - f (i + 1) = 1 by omega)]
          simp
        · rw [decide_eq_false hv, decide_eq_true (show stepf top ag f (i + 1) - f (i + 1) = 1 by omega)]
          simp
  have hsa : ∀ i, i ≤ n → (smaN (levN n same R F) R).testBit i = decide (stepf top ag f i - f i = -1) := by
    intro i h
    unfold smaN
    rw [Nat.testBit_shiftLeft]
    cases i with
    | zero =>
      have e : stepf top ag f 0 - f 0 = top := by
        show f 0 + top - f 0 = top
        omega
      rw [e, decide_eq_false (show ¬ (top : Int) = -1 by omega)]
      rfl
    | succ i =>
      rw [Nat.add_sub_cancel, decide_eq_true (show 1 ≤ i + 1 by omega), Bool.true_and, Nat.testBit_and, hl, M.up, decide_eq_true (show i < n by omega)]
      obtain ⟨l1, l2, l3⟩ := lev_iff (ag := ag) ht0 ht1 M.smooth (show i < n by omega)
      have hsm := M.smooth i (by omega)
      cases hlv : lev top ag f i with
      | true =>
        have e1 : stepf top ag f (i + 1) = f i := of_decide_eq_true hlv
        by_cases hv : f (i + 1) - f i = 1
        · rw [decide_eq_true hv, decide_eq_true (show stepf top ag f (i + 1) - f (i + 1) = -1 by omega)]
          rfl
        · rw [decide_eq_false hv, decide_eq_false (show ¬ stepf top ag f (i + 1) - f (i + 1) = -1 by omega)]
          rfl
      | false =>
        have e1 : ¬ stepf top ag f (i + 1) = f i := of_decide_eq_false hlv
        rw [decide_eq_false (show ¬ stepf top ag f (i + 1) - f (i + 1) = -1 by omega)]
        rfl
  have hfac := step_facts (ag := ag) ht0 ht1 M.smooth
  have hsm2 : Smooth n (stepf top ag f) := fun i hi => by
    obtain ⟨_, l2, l3⟩ := lev_iff (ag := ag) ht0 ht1 M.smooth hi
    have h1 := hfac i (by omega)
    have hlv := (lev_iff (ag := ag) ht0 ht1 M.smooth hi).1
    by_cases hh : stepf top ag f i - f i = -1
    · have : lev top ag f i = true := hlv.mpr (.inr (.inr hh))
      have e1 : stepf top ag f (i + 1) = f i := of_decide_eq_true this
      omega
    · omega
  refine ⟨⟨hsm2, fun i => ?_, fun i => ?_⟩, ?_, ?_⟩
  · unfold upN
    rw [Nat.testBit_or, Nat.testBit_and, Nat.testBit_xor, Nat.testBit_and, Nat.testBit_or, full_bit, hl]
    by_cases hi : i < n
    · rw [hla i (by omega), hsa i (by omega), decide_eq_true hi]
      have h1 := hfac i (by omega)
      obtain ⟨l1, l2, l3⟩ := lev_iff (ag := ag) ht0 ht1 M.smooth hi
      cases hlv : lev top ag f i with
      | true =>
        have e1 : stepf top ag f (i + 1) = f i := of_decide_eq_true hlv
        by_cases hh : stepf top ag f i - f i = -1
        · rw [decide_eq_true hh, decide_eq_true (show stepf top ag f (i + 1) - stepf top ag f i = 1 by omega)]
          simp
        · rw [decide_eq_false hh, decide_eq_false (show ¬ stepf top ag f (i + 1) - stepf top ag f i = 1 by omega)]
          simp
      | false =>
        have e1 : ¬ stepf top ag f (i + 1) = f i := of_decide_eq_false hlv
        have n3 : ¬ stepf top ag f i - f i = -1 := fun z => absurd (l1.mpr (.inr (.inr z))) (by rw [hlv]; exact Bool.false_ne_true)
        rw [decide_eq_false n3]
        by_cases hh : stepf top ag f i - f i = 1
        · rw [decide_eq_true hh, decide_eq_false (show ¬ stepf top ag f (i + 1) - stepf top ag f i = 1 by omega)]
          simp
        · rw [decide_eq_false hh, decide_eq_true (show stepf top ag f (i + 1) - stepf top ag f i = 1 by omega)]
          simp
    · rw [decide_eq_false hi]
      simp
  · unfold dnN
    rw [Nat.testBit_and, hl]
    by_cases hi : i < n
    · rw [hla i (by omega), decide_eq_true hi]
      have h1 := hfac i (by omega)
      obtain ⟨l1, l2, l3⟩ := lev_iff (ag := ag) ht0 ht1 M.smooth hi
      cases hlv : lev top ag f i with
      | true =>
        have e1 : stepf top ag f (i + 1) = f i := of_decide_eq_true hlv
        by_cases hh : stepf top ag f i - f i = 1
        · rw [decide_eq_true hh, decide_eq_true (show stepf top ag f (i + 1) - stepf top ag f i = -1 by omega)]
          rfl
        · rw [decide_eq_false hh, decide_eq_false (show ¬ stepf top ag f (i + 1) - stepf top ag f i = -1 by omega)]
          rfl
      | false =>
        have e1 : ¬ stepf top ag f (i + 1) = f i := of_decide_eq_false hlv
        rw [decide_eq_false (show ¬ stepf top ag f (i + 1) - stepf top ag f i = -1 by omega)]
        rfl
    · rw [decide_eq_false hi]
      rfl
  · have hbits : ∀ i, n < i → (larN n (levN n same R F) R F top).testBit i = false := fun i h => by
      unfold larN
      obtain ⟨k, rfl⟩ : ∃ k, i = k + 1 := ⟨i - 1, by omega⟩
      have htb : top.testBit (k + 1) = false := by
        rw [tb_succ, show top / 2 = 0 by omega, Nat.zero_testBit]
      rw [Nat.testBit_or, htb, Nat.testBit_shiftLeft, Nat.add_sub_cancel, Nat.testBit_or, Nat.testBit_xor, Nat.testBit_or, full_bit, hl, M.up, M.dn, decide_eq_false (show ¬ k < n by omega)]
      simp
    refine Nat.eq_of_testBit_eq fun i => ?_
    rw [Nat.testBit_shiftRight]
    cases i with
    | zero =>
      rw [Nat.add_zero, hla n (Nat.le_refl _)]
      split
      · rename_i h
        rw [decide_eq_true h]
        rfl
      · rename_i h
        rw [decide_eq_false h]
        rfl
    | succ i =>
      rw [hbits _ (by omega)]
      split
      · rw [tb_succ]
        show false = Nat.testBit 0 i
        rw [Nat.zero_testBit]
      · rw [Nat.zero_testBit]
  · have hbits : ∀ i, n < i → (smaN (levN n same R F) R).testBit i = false := fun i h => by
      unfold smaN
      obtain ⟨k, rfl⟩ : ∃ k, i = k + 1 := ⟨i - 1, by omega⟩
      rw [Nat.testBit_shiftLeft, Nat.add_sub_cancel, Nat.testBit_and, hl, decide_eq_false (show ¬ k < n by omega)]
      simp
    refine Nat.eq_of_testBit_eq fun i => ?_
    rw [Nat.testBit_shiftRight]
    cases i with
    | zero =>
      rw [Nat.add_zero, hsa n (Nat.le_refl _)]
      split
      · rename_i h
        rw [decide_eq_true h]
        rfl
      · rename_i h
        rw [decide_eq_false h]
        rfl
    | succ i =>
      rw [hbits _ (by omega)]
      split
      · rw [tb_succ]
        show false = Nat.testBit 0 i
        rw [Nat.zero_testBit]
      · rw [Nat.zero_testBit]
/-- the first column -/
theorem mask_first (n : Nat) : Msk n (fun i => (i : Int)) (fullN n) 0 := ⟨fun i _ => by show -1 ≤ ((i + 1 : Nat) : Int) - (i : Nat) ∧ _; omega, fun i => by
  rw [full_bit, decide_eq_true (show ((i + 1 : Nat) : Int) - (i : Nat) = 1 by omega), Bool.and_true], fun i => by
  rw [Nat.zero_testBit, decide_eq_false (show ¬ ((i + 1 : Nat) : Int) - (i : Nat) = -1 by omega), Bool.and_false]⟩
/-! ### bits of naturals -/
theorem and_nn (n m : Nat) : Builtin.bitAnd (n : Int) (m : Int) = ((n &&& m : Nat) : Int) := by
  unfold Builtin.bitAnd
  rw [decide_eq_true (show (0 : Int) ≤ (n : Int) by omega), decide_eq_true (show (0 : Int) ≤ (m : Int) by omega)]
  rfl
theorem or_nn (n m : Nat) : Builtin.bitOr (n : Int) (m : Int) = ((n ||| m : Nat) : Int) := by
  unfold Builtin.bitOr Builtin.bitAnd Builtin.bitNot
  rw [decide_eq_false (show ¬ (0 : Int) ≤ -(n : Int) - 1 by omega), decide_eq_false (show ¬ (0 : Int) ≤ -(m : Int) - 1 by omega)]
  have e1 : (-(-(n : Int) - 1) - 1).toNat = n := by omega
  have e2 : (-(-(m : Int) - 1) - 1).toNat = m := by omega
  dsimp only
  rw [e1, e2]
  omega
theorem xor_sum : ∀ n m : Nat, (n ^^^ m) + (n &&& m) = (n ||| m) := by
  intro n
  induction n using Nat.strongRecOn with
  | _ n ih =>
    intro m
    by_cases h : n = 0
    · subst h
      simp
    · have ihm := ih (n / 2) (by omega) (m / 2)
      have e1 : n ^^^ m = 2 * (n / 2 ^^^ m / 2) + (n + m) % 2 := by
        have a := Nat.div_add_mod (n ^^^ m) 2
        rw [Nat.xor_div_two] at a
        have b : (n ^^^ m) % 2 = (n + m) % 2 := by
          have c := Nat.xor_mod_two_pow (a := n) (b := m) (n := 1)
          rw [Nat.pow_one] at c
          rw [c]
          have hn : n % 2 = 0 ∨ n % 2 = 1 := by omega
          have hm : m % 2 = 0 ∨ m % 2 = 1 := by omega
          rcases hn with x | x <;> rcases hm with y | y <;> rw [x, y, Nat.add_mod, x, y] <;> rfl
        omega
      have e2 : n &&& m = 2 * (n / 2 &&& m / 2) + (n % 2) * (m % 2) := by
        have a := Nat.div_add_mod (n &&& m) 2
        rw [Nat.and_div_two] at a
        have b : (n &&& m) % 2 = (n % 2) * (m % 2) := by
          have c := Nat.and_mod_two_pow (a := n) (b := m) (n := 1)
          rw [Nat.pow_one] at c
          rw [c]
          have hn : n % 2 = 0 ∨ n % 2 = 1 := by omega
          have hm : m % 2 = 0 ∨ m % 2 = 1 := by omega
          rcases hn with x | x <;> rcases hm with y | y <;> rw [x, y] <;> rfl
        omega
      have e3 : n ||| m = 2 * (n / 2 ||| m / 2) + (n % 2 + m % 2 - (n % 2) * (m % 2)) := by
        have a := Nat.div_add_mod (n ||| m) 2
        rw [Nat.or_div_two] at a
        have b : (n ||| m) % 2 = n % 2 + m % 2 - (n % 2) * (m % 2) := by
          have c := Nat.or_mod_two_pow (a := n) (b := m) (n := 1)
          rw [Nat.pow_one] at c
          rw [c]
          have hn : n % 2 = 0 ∨ n % 2 = 1 := by omega
          have hm : m % 2 = 0 ∨ m % 2 = 1 := by omega
          rcases hn with x | x <;> rcases hm with y | y <;> rw [x, y] <;> rfl
        omega
      rw [e1, e2, e3]
      have hn : n % 2 = 0 ∨ n % 2 = 1 := by omega
      have hm : m % 2 = 0 ∨ m % 2 = 1 := by omega
      rcases hn with x | x <;> rcases hm with y | y <;> rw [x, y] <;> omega
theorem xor_nn (n m : Nat) : Builtin.bitXor (n : Int) (m : Int) = ((n ^^^ m : Nat) : Int) := by
  unfold Builtin.bitXor
  rw [or_nn, and_nn]
  have := xor_sum n m
  omega
section
variable {X : Cx}
theorem op_andN : OpR X (binaryOp .BitAnd) (fun x y H Q => ∃ n m : Nat, x = .int (n : Int) ∧ y = .int (m : Int) ∧ Q (.int ((n &&& m : Nat) : Int)) H) := by
  intro pins s σ H x y v u Q I rx ry h
  obtain ⟨n, m, e1, e2, q⟩ := h
  exact op_and pins s σ H x y v u Q I rx ry ⟨n, m, e1, e2, by rw [← and_nn] at q; exact q⟩
theorem op_orN : OpR X (binaryOp .BitOr) (fun x y H Q => ∃ n m : Nat, x = .int (n : Int) ∧ y = .int (m : Int) ∧ Q (.int ((n ||| m : Nat) : Int)) H) := by
  intro pins s σ H x y v u Q I rx ry h
  obtain ⟨n, m, e1, e2, q⟩ := h
  exact op_or pins s σ H x y v u Q I rx ry ⟨n, m, e1, e2, by rw [← or_nn] at q; exact q⟩
theorem op_xorN : OpR X (binaryOp .BitXor) (fun x y H Q => ∃ n m : Nat, x = .int (n : Int) ∧ y = .int (m : Int) ∧ Q (.int ((n ^^^ m : Nat) : Int)) H) := by
  intro pins s σ H x y v u Q I rx ry h
  obtain ⟨n, m, e1, e2, q⟩ := h
  exact op_xor pins s σ H x y v u Q I rx ry ⟨n, m, e1, e2, by rw [← xor_nn] at q; exact q⟩
theorem op_shlNN : OpR X (binaryOp .LShift) (fun x y H Q => ∃ n m : Nat, x = .int (n : Int) ∧ y = .int (m : Int) ∧ (∃ k : Nat, n < 2 ^ k ∧ k + m ≤ 100000000) ∧ Q (.int ((n <<< m : Nat) : Int)) H) := by
  intro pins s σ H x y v u Q I rx ry h
  obtain ⟨n, m, e1, e2, ⟨k, hk, hm⟩, q⟩ := h
  refine op_shlN pins s σ H x y v u Q I rx ry ⟨n, m, e1, e2, shl_ok hk (by omega), ?_⟩
  rw [Nat.shiftLeft_eq] at q
  have e : ((n * 2 ^ m : Nat) : Int) = (n : Int) * 2 ^ m := by
    rw [Int.natCast_mul, Int.natCast_pow]
    rfl
  rw [← e]
  exact q
theorem op_shrNN : OpR X (binaryOp .RShift) (fun x y H Q => ∃ n m : Nat, x = .int (n : Int) ∧ y = .int (m : Int) ∧ Q (.int ((n >>> m : Nat) : Int)) H) := by
  intro pins s σ H x y v u Q I rx ry h
  obtain ⟨n, m, e1, e2, q⟩ := h
  refine op_shrN pins s σ H x y v u Q I rx ry ⟨n, m, e1, e2, ?_⟩
  rw [Nat.shiftRight_eq_div_pow] at q
  have e : ((n / 2 ^ m : Nat) : Int) = (n : Int) / 2 ^ m := by
    rw [Int.natCast_ediv, Int.natCast_pow]
    rfl
  rw [← e]
  exact q
theorem op_oneN : OpR X (binaryOp .LShift) (fun x y H Q => ∃ k : Nat, x = .int 1 ∧ y = .int (k : Int) ∧ k ≤ 100000000 ∧ Q (.int ((2 ^ k : Nat) : Int)) H) := by
  intro pins s σ H x y v u Q I rx ry h
  obtain ⟨k, e1, e2, hk, q⟩ := h
  refine op_oneShl pins s σ H x y v u Q I rx ry ⟨k, e1, e2, by omega, ?_⟩
  have e : ((2 ^ k : Nat) : Int) = 2 ^ k := by
    rw [Int.natCast_pow]
    rfl
  rw [← e]
  exact q
def rOrN : V → V → Hp → VK → Prop := fun x y H Q => ∃ n m : Nat, x = .int (n : Int) ∧ y = .int (m : Int) ∧ Q (.int ((n ||| m : Nat) : Int)) H
theorem in_orN : InOp X .BitOr rOrN := by
  rintro pins s σ H x y u v Q I rx ry ⟨n, m, e1, e2, q⟩
  exact iop_or pins s σ H x y u v Q I rx ry ⟨n, m, e1, e2, by rw [← or_nn] at q; exact q⟩
end
theorem dc_gen {J : It} {n : Nat} {g : TG} {tt : TT} {tk tv : TE} {vs : List Nat} {σ : L2.St} {H1 : Hp} {D : Addr} {Qd : Hp → Prop} (Pv : Nat → Hp → Prop) (h0 : Pv 0 (upd H1 D (.dK []))) (hgo : ∀ i H, i < n → Pv i H → J.go i H) (hstop : ∀ H, Pv n H → J.stop n H)
    (hs : ∀ i H x H', i < n → Pv i H → J.yld i H x H' → g x (wipe σ vs) H' fun σ2 H2 => wipe σ2 vs = wipe σ vs ∧ tt σ2 H2 fun b H3 =>
      if b = true then tk σ2 H3 fun y H4 => tv σ2 H4 fun z H5 => ∃ kvs k, y = kV k ∧ H5 D = some (.dK kvs) ∧ kvs.length < sizeLine ∧ Pv (i + 1) (upd H5 D (.dK (putK kvs k z))) else Pv (i + 1) H3) (hd : ∀ H, Pv n H → Qd H) :
    ∃ W : Nat → Nat → Hp → Prop, (∃ m, W 0 m (upd H1 D (.dK []))) ∧ ∀ i m H, W i m H →
      (J.stop i H ∧ Qd H) ∨ (J.go i H ∧ ∃ Nx : Hp → Prop, (∀ H', Nx H' → ∃ m', m' < m ∧ W (i + 1) m' H') ∧ ∀ x H', J.yld i H x H' → g x (wipe σ vs) H' fun σ2 H2 => wipe σ2 vs = wipe σ vs ∧ tt σ2 H2 fun b H3 =>
        if b = true then tk σ2 H3 fun y H4 => tv σ2 H4 fun z H5 => ∃ kvs k, y = kV k ∧ H5 D = some (.dK kvs) ∧ kvs.length < sizeLine ∧ Nx (upd H5 D (.dK (putK kvs k z))) else Nx H3) := by
  refine ⟨fun i m H => i + m = n ∧ Pv i H, ⟨n, Nat.zero_add n, h0⟩, fun i m H hw => ?_⟩
  obtain ⟨em, p⟩ := hw
  cases m with
  | zero =>
    obtain rfl : i = n := em
    exact .inl ⟨hstop H p, hd H p⟩
  | succ m =>
    have lt : i < n := by omega
    exact .inr ⟨hgo i H lt p, Pv (i + 1), fun H' p' => ⟨m, Nat.lt_succ_self m, by omega, p'⟩, fun x H' y => hs i H x H' lt p y⟩
/-! ### y = {..: .. for ..} -/
section
open PySem PySem.Spec PyProof.Rows L2
variable {X : Cx}
theorem sw_trueD {kx vx : Expr} {gs : List Comprehension} {scope : Scope} {pos py : Pos} {y : Str} {l : Nat} {env : Env} (hk : env.scope.kind = .function) (hy : env.scope.names.lookup y = some .local) (hl : (py.line == pos.line) = true)
    (ha : (scope.names.any fun (n, k) => n == y && (k == .local || k == .cell)) = false) : swapsWith (.DictComp kx vx gs scope pos) (some (.Name y py)) l env = pure true := by
  have ky : env.kindOf y = some .local := hy
  have hb : env.blockKind = .function := by unfold Env.blockKind; rw [hk]; rfl
  unfold swapsWith
  simp only [hb, ky, ha, Expr.pos, hl]
  rfl
theorem ps_setDc {i : Nat} {y : Str} {py : Pos} {kx vx tg iter : Expr} {ifs : List Expr} {scope : Scope} {own : List (Str × Nat)} {pos spos : Pos} {wi : TI} {g : TG} {tt : TT} {tk tv : TE} (hc : X.calm = true) (hN : X.N.Nodup) (hy : X.N[i]? = some y) (hyl : X.env.scope.names.lookup y = some .local)
    (hsw : swapsWith (.DictComp kx vx [⟨tg, iter, ifs, 0⟩] scope pos) (some (.Name y py)) spos.line X.env = pure true) (hi : PI X tg iter wi) (ok : BlkOk X.N X.env.scope scope own)
    (hg : ∀ (s : Shared) (H : Hp) (C : Addr) (cl : List (Str × Addr)) (fp : List Addr), PG (X.blk s H scope (compEnvC scope cl C X.env) fp) tg g) (ht : ∀ (s : Shared) (H : Hp) (C : Addr) (cl : List (Str × Addr)) (fp : List Addr), PTs (X.blk s H scope (compEnvC scope cl C X.env) fp) ifs tt)
    (hk : ∀ (s : Shared) (H : Hp) (C : Addr) (cl : List (Str × Addr)) (fp : List Addr), PE (X.blk s H scope (compEnvC scope cl C X.env) fp) kx tk)
    (he : ∀ (s : Shared) (H : Hp) (C : Addr) (cl : List (Str × Addr)) (fp : List Addr), PE (X.blk s H scope (compEnvC scope cl C X.env) fp) vx tv) (hs : ∀ x, foldedSetIterable iter X.env x = pure x := by intro _; rfl) :
    PS X (.Assign [.Name y py] (.DictComp kx vx [⟨tg, iter, ifs, 0⟩] scope pos) spos) (tAsg (tDc wi g tt tk tv (own.map (·.2))) (gName i)) := by
  refine ⟨fun pins s σ H D I h => ?_⟩
  rw [exec_Assign_Name_used _ _ _ _ hsw]
  refine wpAny_bind (wpAny_standAt (wpAny_bind ?_))
  show wpAny _ X.A (do let _ ← comprehension (.DictComp kx vx [⟨tg, iter, ifs, 0⟩] scope pos) scope X.env (firstIterPos [⟨tg, iter, ifs, 0⟩] pos) newDict false (eval iter X.env) (some (assign (.Name y py) X.env))) _ _ s
  have h : tDc wi g tt tk tv (own.map (·.2)) σ H (fun x H1 => gName i x σ H1 D.nx) := h
  refine wpAny_bind (thn (dc_core (Qf := fun _ s' => SP X pins D .next s') hc hN I hi ok hg ht hk he hs h fun L C s' m H' I' q hn f => ?_) fun _ s' hq => wpAny_pure (wpAny_pure hq))
  show wpAny _ _ (assign (.Name y py) X.env (.ref L)) _ _ _
  refine wpAny_assign_Name (store_ok2 (v := V.ref L) I' hN hy (.inl hyl) rfl (fun s2 I2 ⟨a, sb, ha⟩ => ?_) (.inr hyl))
  obtain ⟨f0, f1, f2, f3, f4, f5⟩ := f
  have haC : C ≠ a := by
    rcases ha with z | z
    · rw [z]; exact f1
    · exact fun e => f4 y a z e.symm
  refine ⟨m, hn.sameBut sb haC, fun h3 sb3 => ?_⟩
  exact ⟨_, H', I2.turned (t' := s2.toks) (fun b o hb e => (sb3.2 b hb).trans e) f0 f1 f3 f4 f5, q⟩
end
/-! ### the program: _agreeing_rows, _growths, distance, ends -/
theorem tN : Str.ofString "N" = T [78] := by decide +kernel
theorem one_eq {c d : Nat} {s : Str} (h : s = T [d]) : (V.str (T [c]) = V.str s) ↔ c = d := by
  rw [h]
  constructor
  · intro e
    have := T_inj (V.str.inj e)
    simpa using this
  · intro e
    rw [e]
theorem iteN {c A B : Prop} [Decidable c] (h1 : ¬ c → A) (h2 : c → B) : if (!decide c) = true then A else B := by
  by_cases h : c
  · rw [decide_eq_true h]
    exact iteF (h2 h)
  · rw [decide_eq_false h]
    exact iteT (h1 h)
def agB (a b : Nat) : Bool := decide (a = b) && decide (a ≠ 78)
/-- the mask of the places that agree with c, in the first n -/
def eqm (r : List Nat) (c : Nat) : Nat → Nat
  | 0 => 0
  | n + 1 => if r[n]? = some c ∧ c ≠ 78 then eqm r c n ||| 2 ^ n else eqm r c n
theorem eqm_succ (r : List Nat) (c n : Nat) : eqm r c (n + 1) = if r[n]? = some c ∧ c ≠ 78 then eqm r c n ||| 2 ^ n else eqm r c n := rfl
theorem eqm_bit (r : List Nat) (c : Nat) : ∀ n i, (eqm r c n).testBit i = (decide (i < n) && decide (r[i]? = some c ∧ c ≠ 78))
  | 0, i => by
    show Nat.testBit 0 i = _
    rw [Nat.zero_testBit, decide_eq_false (Nat.not_lt_zero i)]
    rfl
  | n + 1, i => by
    have ih := eqm_bit r c n i
    unfold eqm
    by_cases h : r[n]? = some c ∧ c ≠ 78
    · rw [if_pos h, Nat.testBit_or, ih, Nat.testBit_two_pow]
      by_cases hi : i = n
      · subst hi
        rw [decide_eq_true (show i < i + 1 by omega), decide_eq_true h, decide_eq_true rfl, Bool.or_true]
        rfl
      · have hni : decide (n = i) = false := decide_eq_false (fun z => hi z.symm)
        rw [hni, Bool.or_false, show decide (i < n) = decide (i < n + 1) from decide_eq_decide.mpr (by omega)]
    · rw [if_neg h, ih]
      by_cases hi : i = n
      · subst hi
        rw [decide_eq_false h, Bool.and_false, Bool.and_false]
      · rw [show decide (i < n) = decide (i < n + 1) from decide_eq_decide.mpr (by omega)]
theorem eqm_ag (r : List Nat) (c i : Nat) : (eqm r c r.length).testBit i = (decide (i < r.length) && agB (r.getD i 0) c) := by
  rw [eqm_bit]
  by_cases hi : i < r.length
  · rw [List.getD_eq_getElem?_getD, List.getElem?_eq_getElem hi, decide_eq_true hi]
    unfold agB
    show decide (some r[i] = some c ∧ c ≠ 78) = (decide (r[i] = c) && decide (r[i] ≠ 78))
    by_cases h : r[i] = c
    · rw [h]
      simp
    · rw [decide_eq_false h, decide_eq_false (fun z => h (Option.some.inj z.1))]
      rfl
  · rw [decide_eq_false hi]
    rfl
theorem scARows : FnScope ["read", "letter", "rows", "at"] ["read"] (defScope sARows) := ⟨rfl, rfl, rfl, by decide +kernel, rfl, by decide +kernel, by decide +kernel⟩
def NGr : List Str := ["read", "text", "top", "many", "full", "agreeing", "rising", "falling", "growths", "letter", "same", "carried", "level", "larger", "smaller"]
theorem scGrow : FnScope NGr ["read", "text", "top"] (defScope sGrow) := ⟨rfl, rfl, rfl, by decide +kernel, rfl, by decide +kernel, by decide +kernel⟩
theorem scDist : FnScope ["read", "text"] ["read", "text"] (defScope sDist) := ⟨rfl, rfl, rfl, by decide +kernel, rfl, by decide +kernel, by decide +kernel⟩
theorem scEnds : FnScope ["read", "text", "k", "changes", "found", "end", "growth"] ["read", "text", "k"] (defScope sEnds) := ⟨rfl, rfl, rfl, by decide +kernel, rfl, by decide +kernel, by decide +kernel⟩
def lets5 : List Nat := [65, 67, 71, 84, 78]
theorem lets5_text : Str.ofString "ACGTN" = T lets5 := by decide +kernel
theorem sg5 {c : Nat} (h : Sg c) : c ∈ lets5 := by
  rcases h with h | h | h | h | h <;> subst h <;> decide
section
variable {P : Program} {w : World} {K : PySem.W.Frag} {mg : Str → Option Value} {base : Heap}
def spARows : Sp := fun vs H Q _ => ∃ r : List Nat, vs = [.str (T r)] ∧ Dna r ∧ r.length ≤ 10000 ∧ ∀ (H' : Hp) (p : Addr) (kvs : List (Key × V)), Same H H' → H p = none → H' p = some (.dK kvs) → (∀ c, Sg c → valV kvs (.inr (T [c])) = some (.int (eqm r c r.length : Nat))) → Q (.ref p) H'
theorem ok_arows {f : Addr} {fd : FuncData} {k : Nat} {t1 : Tok} (F : Fun K "_agreeing_rows" "_agreeing_rows" sARows f fd) (menum : mg "enumerate" = none) (gL : mg "LETTERS" = some (.str (Str.ofString "ACGTN") t1)) : FnOk P w K mg base CX0 (k + 1) f fd ["read"] spARows := by
  refine F.ok scARows (fun vs H Q E h => ?_) (fun cdv A outer s H vs Q E hr h => ?_)
  · obtain ⟨r, rfl, _⟩ := h
    rfl
  · obtain ⟨r, rfl, hd, hl, q⟩ := h
    refine ⟨_, pss_cons (ps_setDc (i := 2) (own := [("letter", 1)]) (g := gName 1) (tt := tYes) (tk := tVar 1) (tv := tC (.int 0)) (by rfl) scARows.nd rfl rfl (sw_trueD rfl rfl rfl (by decide +kernel))
        (pi_str (pe_glob (v := .str (Str.ofString "ACGTN")) (by rfl) gL ⟨_, rfl⟩)) (blkOk_by (own := [("letter", 1)]) (N := ["read", "letter", "rows", "at"]) (sc := defScope sARows) (by decide +kernel))
        (fun _ _ _ _ _ => pg_name (i := 1) scARows.nd rfl (Or.inl rfl)) (fun _ _ _ _ _ => pts_nil) (fun _ _ _ _ _ => pv 1) (fun _ _ _ _ _ => pe_int))
      (pss_cons (ps_for PassesOwn.never rfl (pi_enumT (by rfl) menum (pa_cons (pv 0) pa_nil)) (pg_tup rfl (pgs_cons (pg_name (i := 3) scARows.nd rfl (.inl rfl)) (pgs_cons (pg_name (i := 1) scARows.nd rfl (.inl rfl)) pgs_nil)))
        (pss_one (ps_if (pt_cmpR op_ne (pv 1) pe_str (nomark _)) (pss_one (ps_daug (hu_of hr) (pv 2) (pv 1) (pe_op op_oneN pe_int (pv 3)) in_orN (fun _ _ _ => rfl))) pss_nil)))
      (pss_one (ps_ret (pv 2)))), ?_⟩
    refine ⟨_, rfl, fun D hD => ?_⟩
    refine dc_gen (n := 5) (fun i H' => Same H H' ∧ ∃ kvs : List (Key × V), H' D = some (.dK kvs) ∧ kvs.length ≤ i ∧ ∀ c, c ∈ lets5.take i → valV kvs (.inr (T [c])) = some (.int 0)) ⟨same_upd hD, [], upd_same, Nat.le_refl _, fun c hc => by cases hc⟩ (fun i H' hi _ => ?_) (fun H' _ => ?_) ?_ ?_
    · show i < (Str.ofString "ACGTN").cps.size
      rw [lets5_text, T_size]
      exact hi
    · show (Str.ofString "ACGTN").cps.size ≤ 5
      rw [lets5_text, T_size]
      exact Nat.le_refl 5
    · rintro i H' x H2 hi ⟨sm, kvs, hk, hkl, hv⟩ ⟨rfl, c, hc, rfl⟩
      rw [lets5_text, T_at] at hc
      refine ⟨rfl, ?_⟩
      dsimp only [tYes]
      rw [if_pos rfl]
      refine ⟨_, rfl, kvs, .inr (T [c]), rfl, hk, line_ok (by omega), fun b o e => ?_, _, upd_same, ?_, fun d hdm => ?_⟩
      · rw [upd_ne (ne_of_none e hD)]
        exact sm b o e
      · have := length_putK kvs (.inr (T [c])) (V.int 0)
        omega
      · rw [valV_put]
        split
        · rfl
        · rename_i hne
          rw [List.take_add_one, hc] at hdm
          rcases List.mem_append.mp hdm with z | z
          · exact hv d z
          · obtain rfl : d = c := by simpa using z
            exact absurd rfl hne
    · rintro H' ⟨sm, kvs, hk, hkl, hv⟩
      refine ⟨.str (T r), rfl, T r, rfl, ?_⟩
      refine for_gen (J := ItT 0 (T r)) (n := r.length) (fun i σ H2 => Same H H2 ∧ i ≤ r.length ∧ ∃ (kvs : List (Key × V)) (v1 v3 : Option V), H2 D = some (.dK kvs) ∧ kvs.length ≤ 5 + i ∧ (∀ c, Sg c → valV kvs (.inr (T [c])) = some (.int (eqm r c i : Nat))) ∧ σ = [some (.str (T r)), v1, some (.ref D), v3]) ?_ (fun i σ H' hi _ => by show i < (T r).cps.size; rw [T_size]; exact hi) (fun σ H' _ => by show (T r).cps.size ≤ r.length; rw [T_size]; exact Nat.le_refl _) ?_ ?_
      · exact ⟨sm, Nat.zero_le _, kvs, _, _, hk, hkl, fun c hc => hv c (sg5 hc), rfl⟩
      · rintro i σ H2 x H3 hi ⟨s2, _, kvs, v1, v3, hk, hkl, hv, rfl⟩ ⟨t, c, rfl, ht, rfl, hc⟩
        rw [T_at] at hc
        have hsg : Sg c := hd c (List.mem_of_getElem? hc)
        have nDt : D ≠ t := ne_of_none hk ht
        have hk2 : (upd H2 t (.tup [.int (0 + (i : Nat)), .str ⟨#[c]⟩])) D = some (.dK kvs) := (upd_ne nDt).trans hk
        have s3 := s2.trans (same_upd (o := .tup [.int (0 + (i : Nat)), .str ⟨#[c]⟩]) ht)
        refine ⟨t, _, rfl, .inl (.inl upd_same), rfl, _, _, rfl, _, _, rfl, rfl, ?_⟩
        generalize upd H2 t (.tup [.int (0 + (i : Nat)), .str ⟨#[c]⟩]) = H4 at hk2 s3 ⊢
        refine ⟨_, rfl, rfl, _, rfl, iteN (fun e => ?_) (fun e => ?_)⟩
        · have hcN : c ≠ 78 := fun z => e ((one_eq tN).mpr z)
          refine ⟨_, rfl, _, rfl, D, .int (eqm r c i : Nat), rfl, ?_, ?_⟩
          · have g := DGet.k (k := .inr (T [c])) hk2
            rw [hv c hsg] at g
            exact g
          · refine ⟨.int (0 + (i : Nat)), rfl, i, rfl, by rw [Int.zero_add], by omega, _, _, rfl, rfl, _, DPut.k (k := .inr (T [c])) hk2 (line_ok (by omega)), fun b o e => ?_, hi, _, some (.str ⟨#[c]⟩), some (.int (0 + (i : Nat))), upd_same, ?_, fun d hds => ?_, rfl⟩
            · rw [upd_ne (ne_of_none e hD)]
              exact s3 b o e
            · have := length_putK kvs (.inr (T [c])) (V.int ((eqm r c i ||| 2 ^ i : Nat) : Int))
              omega
            · rw [valV_put]
              rw [eqm_succ]
              split
              · rename_i heq
                have hdc : d = c := by
                  have := T_inj (Sum.inr.inj heq)
                  simpa using this
                subst hdc
                rw [if_pos ⟨hc, hcN⟩]
              · rename_i hne
                have hdc : ¬ d = c := fun z => hne (by rw [z])
                rw [if_neg (fun z => hdc (by rw [hc] at z; exact (Option.some.inj z.1).symm))]
                exact hv d hds
        · have hcN : c = 78 := (one_eq tN).mp e
          refine ⟨s3, hi, kvs, some (.str ⟨#[c]⟩), some (.int (0 + (i : Nat))), hk2, by omega, fun d hds => ?_, rfl⟩
          rw [eqm_succ]
          rw [if_neg (fun z => by rw [hc] at z; exact z.2 ((Option.some.inj z.1).symm.trans hcN))]
          exact hv d hds
      · rintro σ H2 ⟨s2, _, kvs, v1, v3, hk, hkl, hv, rfl⟩
        exact ⟨_, rfl, q H2 D kvs s2 hD hk hv⟩
/-- the column behind a text -/
def colT (r : List Nat) (top : Int) (t : List Nat) : Nat → Int := t.foldl (fun f c => stepf top (fun i => agB (r.getD i 0) c) f) fun i => (i : Int)
theorem colT_snoc (r : List Nat) (top : Int) (t : List Nat) (c : Nat) : colT r top (t ++ [c]) = stepf top (fun i => agB (r.getD i 0) c) (colT r top t) := by
  unfold colT
  rw [List.foldl_append]
  rfl
def grw (r : List Nat) (top : Int) (t : List Nat) (j : Nat) : Int := colT r top (t.take (j + 1)) r.length - colT r top (t.take j) r.length
def grws (r : List Nat) (top : Int) (t : List Nat) (m : Nat) : List Int := (List.range m).map (grw r top t)
theorem msk_lt {n : Nat} {f : Nat → Int} {R F : Nat} (M : Msk n f R F) : R < 2 ^ n ∧ F < 2 ^ n := by
  refine ⟨Nat.lt_pow_two_of_testBit R fun i hi => ?_, Nat.lt_pow_two_of_testBit F fun i hi => ?_⟩
  · rw [M.up, decide_eq_false (show ¬ i < n by omega)]
    rfl
  · rw [M.dn, decide_eq_false (show ¬ i < n by omega)]
    rfl
theorem full_lt (n : Nat) : fullN n < 2 ^ n := by
  unfold fullN
  have := Nat.two_pow_pos n
  omega
def spGrow : Sp := fun vs H Q _ => ∃ (r t : List Nat) (top : Nat), vs = [.str (T r), .str (T t), .int (top : Int)] ∧ top ≤ 1 ∧ Dna r ∧ Dna t ∧ r.length ≤ 10000 ∧ t.length ≤ 100000 ∧ ∀ (H' : Hp) (p : Addr), Same H H' → H p = none → H' p = some (LI (grws r top t t.length)) → Q (.ref p) H'
theorem ok_grow {f : Addr} {fd : FuncData} {k : Nat} (F : Fun K "_growths" "_growths" sGrow f fd) (mlen : mg "len" = none) (hA : Has P w K mg base (k + 1) "_agreeing_rows" ["read"] spARows) : FnOk P w K mg base CX0 (k + 2) f fd ["read", "text", "top"] spGrow := by
  obtain ⟨fA, dA, GA, gA, kA, bA⟩ := hA
  refine F.ok scGrow (fun vs H Q E h => ?_) (fun cdv A outer s H vs Q E hr h => ?_)
  · obtain ⟨r, t, top, rfl, _⟩ := h
    rfl
  · obtain ⟨r, t, top, rfl, ht1, dr, dt, hrl, htl, q⟩ := h
    refine ⟨_, pss_cons (ps_set (i := 3) scGrow.nd rfl (.inl rfl) (pe_callB call_len_str (by rfl) mlen PySem.boot_len (pa_cons (pv 0) pa_nil)))
      (pss_cons (ps_set (i := 4) scGrow.nd rfl (.inl rfl) (pe_op op_subN (pe_op op_oneN pe_int (pv 3)) pe_int))
      (pss_cons (ps_set (i := 5) scGrow.nd rfl (.inl rfl) (pe_call GA hr (by rfl) gA kA bA .nil pass0 (pa_cons (pv 0) pa_nil)))
      (pss_cons (ps_set (i := 6) scGrow.nd rfl (.inl rfl) (pv 4))
      (pss_cons (ps_set (i := 7) scGrow.nd rfl (.inl rfl) pe_int)
      (pss_cons (ps_set (i := 8) scGrow.nd rfl (.inl rfl) (pe_lst pa_nil))
      (pss_cons (ps_for PassesOwn.never rfl (pi_str (pv 1)) (pg_name (i := 9) scGrow.nd rfl (.inl rfl))
        (pss_cons (ps_set (i := 10) scGrow.nd rfl (.inl rfl) (pe_dget (hu_of hr) (pv 5) (pv 9) (fun _ _ => rfl)))
        (pss_cons (ps_set (i := 11) scGrow.nd rfl (.inl rfl) (pe_op op_xorN (pe_op op_addN (pe_op op_andN (pv 10) (pv 6)) (pv 6)) (pv 6)))
        (pss_cons (ps_set (i := 12) scGrow.nd rfl (.inl rfl) (pe_op op_andN (pe_op op_orN (pe_op op_orN (pv 11) (pv 10)) (pv 7)) (pv 4)))
        (pss_cons (ps_set (i := 13) scGrow.nd rfl (.inl rfl) (pe_op op_orN (pe_op op_shlNN (pe_op op_orN (pv 7) (pe_op op_xorN (pv 4) (pe_op op_orN (pv 12) (pv 6)))) pe_int) (pv 2)))
        (pss_cons (ps_set (i := 14) scGrow.nd rfl (.inl rfl) (pe_op op_shlNN (pe_op op_andN (pv 12) (pv 6)) pe_int))
        (pss_cons (ps_expr (pe_bm PySem.F.plainAttrs_list PySem.F.slot_list_append PySem.F.type_list_append mt_append (pv 8) (pa_cons (pe_op op_sub (pe_op op_shrNN (pv 13) (pv 3)) (pe_op op_shrNN (pv 14) (pv 3))) pa_nil)))
        (pss_cons (ps_set (i := 6) scGrow.nd rfl (.inl rfl) (pe_op op_orN (pe_op op_andN (pv 14) (pv 4)) (pe_op op_xorN (pv 4) (pe_op op_andN (pe_op op_orN (pv 12) (pv 13)) (pv 4)))))
        (pss_one (ps_set (i := 7) scGrow.nd rfl (.inl rfl) (pe_op op_andN (pv 12) (pv 13))))))))))))
      (pss_one (ps_ret (pv 8))))))))), ?_⟩
    have hzr : (T r).length ≤ sizeLine := line_ok (by rw [T_len]; omega)
    refine ⟨.str (T r), rfl, T r, rfl, hzr, ?_⟩
    rw [T_len]
    refine ⟨_, rfl, r.length, rfl, rfl, by omega, 2 ^ r.length, 1, rfl, rfl, Nat.two_pow_pos _, ?_⟩
    refine ⟨.str (T r), rfl, r, rfl, dr, hrl, fun H1 pd kvs s1 hpd hkv hval => ?_⟩
    refine ⟨_, rfl, Nat.zero_le _, fun p hp => ?_⟩
    have hkv2 := same_upd (o := .lst []) hp _ _ hkv
    have npd : pd ≠ p := ne_of_none hkv hp
    refine ⟨.str (T t), rfl, T t, rfl, ?_⟩
    refine for_str (z := T t) (fun j σ H' => j ≤ t.length ∧ Same H H' ∧ H' pd = some (.dK kvs) ∧ H' p = some (LI (grws r top t j)) ∧ ∃ (R F : Nat) (v9 v10 v11 v12 v13 v14 : Option V), Msk r.length (colT r top (t.take j)) R F ∧
      σ = [some (.str (T r)), some (.str (T t)), some (.int (top : Int)), some (.int (r.length : Nat)), some (.int (fullN r.length : Nat)), some (.ref pd), some (.int (R : Nat)), some (.int (F : Nat)), some (.ref p), v9, v10, v11, v12, v13, v14]) ?_ ?_ ?_
    · exact ⟨Nat.zero_le _, s1.trans (same_upd hp), hkv2, upd_same, fullN r.length, 0, _, _, _, _, _, _, mask_first r.length, rfl⟩
    · rintro j c σ H2 hc ⟨_, s2, hk2, hp2, R, Fm, v9, v10, v11, v12, v13, v14, M, rfl⟩
      rw [T_at] at hc
      have hjt : j < t.length := (List.getElem?_eq_some_iff.mp hc).1
      have hsg : Sg c := dt c (List.mem_of_getElem? hc)
      obtain ⟨bR, bF⟩ := msk_lt M
      have bFull := full_lt r.length
      obtain ⟨M2, g1, g2⟩ := mask_step (top := top) (same := eqm r c r.length) (ag := fun i => agB (r.getD i 0) c) ht1 M (eqm_ag r c)
      have hL : levN r.length (eqm r c r.length) R Fm < 2 ^ r.length := Nat.lt_of_le_of_lt (Nat.and_le_right) bFull
      have ht2 : t.take (j + 1) = t.take j ++ [c] := by rw [List.take_add_one, hc]; rfl
      refine ⟨_, rfl, _, rfl, pd, .int (eqm r c r.length : Nat), rfl, ?_, ?_⟩
      · have g := DGet.k (k := .inr (T [c])) hk2
        rw [hval c hsg] at g
        exact g
      refine ⟨_, rfl, _, rfl, _, _, rfl, rfl, _, rfl, _, _, rfl, rfl, _, rfl, _, _, rfl, rfl, ?_⟩
      refine ⟨_, rfl, _, rfl, _, _, rfl, rfl, _, rfl, _, _, rfl, rfl, _, rfl, _, _, rfl, rfl, ?_⟩
      refine ⟨_, rfl, _, rfl, _, rfl, _, rfl, _, _, rfl, rfl, _, _, rfl, rfl, _, _, rfl, rfl, _, 1, rfl, rfl, ⟨r.length, Nat.or_lt_two_pow bF (Nat.xor_lt_two_pow bFull (Nat.or_lt_two_pow hL bR)), by omega⟩, _, rfl, _, _, rfl, rfl, ?_⟩
      refine ⟨_, rfl, _, rfl, _, _, rfl, rfl, _, 1, rfl, rfl, ⟨r.length, Nat.lt_of_le_of_lt Nat.and_le_left hL, by omega⟩, ?_⟩
      refine ⟨.ref p, rfl, .inl ⟨rfl, _, .inl (.inl hp2)⟩, _, rfl, _, rfl, _, _, rfl, rfl, _, rfl, _, rfl, _, _, rfl, rfl, _, _, rfl, rfl, ?_⟩
      refine ⟨p, _, _, rfl, rfl, hp2, line_lt (by rw [List.length_map, grws, List.length_map, List.length_range]; omega), ?_⟩
      refine ⟨_, rfl, _, rfl, _, _, rfl, rfl, _, rfl, _, rfl, _, rfl, _, _, rfl, rfl, _, rfl, _, _, rfl, rfl, _, _, rfl, rfl, _, _, rfl, rfl, ?_⟩
      refine ⟨_, rfl, _, rfl, _, _, rfl, rfl, hjt, fun b o e => ?_, ?_, ?_, _, _, some (.str ⟨#[c]⟩), _, _, _, _, _, by rw [ht2, colT_snoc]; exact M2, rfl⟩
      · have hpH : H p = none := s1.free hp
        rw [upd_ne (ne_of_none e hpH)]
        exact s2 b o e
      · rw [upd_ne npd]
        exact hk2
      · rw [upd_same]
        unfold grws
        rw [List.range_succ, List.map_append]
        refine congrArg some (Eq.trans ?_ (LI_snoc _ _).symm)
        have e1 : grw r top t j = (if stepf (top : Int) (fun i => agB (r.getD i 0) c) (colT r top (t.take j)) r.length - colT r top (t.take j) r.length = 1 then (1 : Int) else 0) - (if stepf (top : Int) (fun i => agB (r.getD i 0) c) (colT r top (t.take j)) r.length - colT r top (t.take j) r.length = -1 then (1 : Int) else 0) := by
          unfold grw
          rw [ht2, colT_snoc]
          have hf := step_facts (ag := fun i => agB (r.getD i 0) c) (show (0 : Int) ≤ (top : Int) by omega) (show (top : Int) ≤ 1 by omega) M.smooth r.length (Nat.le_refl _)
          split <;> split <;> omega
        have e2 : ((larN r.length (levN r.length (eqm r c r.length) R Fm) R Fm top >>> r.length : Nat) : Int) - ((smaN (levN r.length (eqm r c r.length) R Fm) R >>> r.length : Nat) : Int) = grw r top t j := by
          rw [g1, g2, e1]
          split <;> split <;> rfl
        rw [← e2]
        rfl
    · rintro σ H2 ⟨_, s2, hk2, hp2, R, Fm, v9, v10, v11, v12, v13, v14, M, rfl⟩
      rw [T_size] at hp2
      exact ⟨_, rfl, q H2 p s2 (s1.free hp) hp2⟩
end
/-! ### enumerate(xs, start=k) -/
section
open PySem PySem.Spec PyProof.Rows L2 PySem.W
theorem callWith_kwT {M : Model} {A : Around} {E : Value → Shared → Prop} {s : Shared} {env : Env} {pos : Pos} {U : String} {e : Expr} {rest : List Expr} {kws : List Keyword} {Q : Value → Shared → Prop}
    (h : wpAny M A (spliced (backTo pos (starEach (e :: rest) env))) (fun vs s₁ => wpAny M A (evalAll ((backToKw pos (keywordEach kws env)).map (·.2))) (fun kvs s₂ => wpAny M A (call (.type U) vs (((backToKw pos (keywordEach kws env)).filterMap (·.1)).zip kvs)) Q E s₂) E s₁) E s)
    (he : backTo pos (starEach (e :: rest) env) = (false, eval e env) :: backTo pos (starEach rest env)) (hplain : (backTo pos (starEach (e :: rest) env)).any (·.1) = false)
    (hall : (backToKw pos (keywordEach kws env)).all (·.1.isSome) = true) (hkw : (backToKw pos (keywordEach kws env)).any (·.1.isNone) = false) :
    wpAny M A (callWith pos (.type U) [] (backTo pos (starEach (e :: rest) env)) (backToKw pos (keywordEach kws env))) Q E s := by
  have h2 : wpAny M A (evalArgs (.type U) true (backTo pos (starEach (e :: rest) env)) (backToKw pos (keywordEach kws env))) (fun a s₁ => wpAny M A (call (.type U) ([] ++ a.pos) a.kw) Q E s₁) E s := by
    rw [he] at h ⊢
    exact evalArgs_kwB hall h
  unfold callWith
  refine wpAny_bind (wpAny_holding (wpAny_mono h2 (fun a s₁ h₁ => wpAny_bind (wpAny_standAt ?_)) fun _ _ x => x))
  simp only [hplain, hkw, Bool.or_false]
  refine wpAny_bind (wpAny_pure ?_)
  exact wpAny_bind (wpAny_mono h₁ (fun r s₂ hr => wpAny_bind (wpAny_holding (wpAny_point (wpAny_pure hr)))) fun _ _ x => x)
/-- the list at a as it stands at each turn, each item in a new pair with its number from k on -/
def ItS (K : PySem.W.Frag) (k : Int) (a : Addr) : It :=
  ⟨fun i H => ∃ (xs : List V) (x : V), SqL K H a xs ∧ xs[i]? = some x, fun i H v H' => ∃ T x, v = .ref T ∧ H T = none ∧ H' = upd H T (.tup [.int (k + (i : Nat)), x]) ∧ ∀ xs, SqL K H a xs → xs[i]? = some x, fun i H => ∃ xs : List V, SqL K H a xs ∧ xs.length = i⟩
theorem turn_enumS {P : Program} {w : World} {K : PySem.W.Frag} {elts : List Expr} {kk : Nat} {tpos : Pos} (k : Int) (a e it : Addr) (hea : e ≠ a) (hai : a ≠ it) (hne : e ≠ it) :
    Turn P w K (.Tuple elts kk tpos) (ItS K k a) [e, it] e (fun i h => (∃ old, IsEnum h e it (k + ((i : Nat) : Int)) old) ∧ h.IsListIter it a i) where
  mem := by simp
  obj := fun i h st b hb => by
    obtain ⟨⟨old, he⟩, ⟨o, ho, hc, hd⟩⟩ := st
    rcases (show b = e ∨ b = it by simpa using hb) with z | z
    · rw [z]
      exact ⟨_, he, fun v q => nomatch q⟩
    · rw [z]
      exact ⟨o, ho, fun v q => by rw [hd] at q; cases q⟩
  keep := fun i h h' st k => let ⟨⟨old, he⟩, hi⟩ := st; ⟨⟨old, k e (by simp) _ he⟩, hi.at fun o q => k it (by simp) o q⟩
  item := by
    intro X hP hw hK hc i pins s σ H E I hf st hg
    subst hP hw hK
    obtain ⟨⟨old, he⟩, hit⟩ := st
    obtain ⟨xs, x, hq, hx⟩ := hg
    obtain ⟨its, rv, p, hz⟩ := I.list hq
    obtain ⟨u, hu, ru⟩ := rv.get hx
    have hel : e < s.heap.objs.size := Heap.lt_size he
    have hil : it < s.heap.objs.size := by obtain ⟨_, q, _⟩ := hit; exact Heap.lt_size q
    have hin : i < its.toArray.size := by
      rw [List.size_toArray]
      exact (List.getElem?_eq_some_iff.mp hu).1
    have hef : e ∉ [it, a] := by
      simp only [List.mem_cons, List.not_mem_nil, or_false, not_or]
      exact ⟨hne, hea⟩
    refine wpAny_pyNext_enum_itemC (Draws.list (by simpa using I.ok.hd hc) it a hai its.toArray) he ⟨hit, p.isList⟩ hin hne hef fun x1 h' tk hx1 ho hst' hT hsz hk => ?_
    obtain rfl : x1 = u := by
      rw [List.getElem?_toArray, hu] at hx1
      exact (Option.some.inj hx1).symm
    refine ⟨_, rfl, wpAny_letOwnedTupleGo_enum (s := { s with heap := h', toks := tk + 1 }) ho fun h'' he' sb => ?_⟩
    have hT2 : h''.get? s.heap.objs.size = some { cls := .type "tuple", data := .seq #[.int (k + (i : Int)) tk, x1] } := (sb.2 _ (Nat.ne_of_gt hel)).trans hT
    have new : ObjOk X.prog X.w (upd H s.heap.objs.size (.tup [.int (k + (i : Nat)), x])) h'' s.heap.objs.size (.tup [.int (k + (i : Nat)), x]) :=
      ⟨by show 2 ≤ sizeLine; decide, [.int (k + (i : Int)) tk, x1], .cons ⟨_, rfl⟩ (.cons ru .nil), ⟨_, hT2, rfl, _, rfl⟩⟩
    have I1 : Inv X pins σ (upd H s.heap.objs.size (.tup [.int (k + (i : Nat)), x])) { s with heap := h'', toks := tk + 1 } :=
      I.turnedNew (ch := [e, it]) (fun b ob hb q => (sb.2 b (fun z => hb (by simp [z]))).trans (hk b ob (fun z => hb (by simp [z])) (fun z => hb (by simp [z])) q)) hf (Nat.le_refl _) new
    refine ⟨.ref s.heap.objs.size, _, I1, rfl, ⟨_, x, rfl, I.hok.fresh (Nat.le_refl _), rfl, fun ys hy => by rw [I.list_inj hy hq]; exact hx⟩, ⟨⟨x1, ?_⟩, hst'.1.at fun o q => (sb.2 it (Ne.symm hne)).trans q⟩, fun b hb => ?_⟩
    · rw [show k + ((i + 1 : Nat) : Int) = k + (i : Int) + 1 by omega]
      exact he'
    · have hb' : b < s.heap.objs.size := by
        rcases (show b = e ∨ b = it by simpa using hb) with z | z
        · rw [z]; exact hel
        · rw [z]; exact hil
      rw [upd_ne (Nat.ne_of_lt hb')]
      exact (hf b hb).1
  done := by
    intro X hP hw hK hc i pins s σ H E I hf st hg
    subst hP hw hK
    obtain ⟨⟨old, he⟩, hit⟩ := st
    obtain ⟨xs, hq, hx⟩ := hg
    obtain ⟨its, rv, p, hz⟩ := I.list hq
    obtain ⟨f0, f1, f2, f3, f4, f5⟩ := hf it (by simp)
    have hl := rv.length
    have hin : i = its.toArray.size := by
      rw [List.size_toArray]
      omega
    refine wpAny_pyNext_enum_endD (Draws.list (by simpa using I.ok.hd hc) it a hai its.toArray) he ⟨?_, p.isList⟩ fun h' eb => ⟨rfl, I.turned (t' := s.toks) (fun b o hb q => eb b o hb q) f0 f1 f3 f4 f5⟩
    rw [← hin]
    exact hit
  self := fun A i s Q E st h => let ⟨⟨_, he⟩, _⟩ := st; wpAny_pyIter_enum he h
def iEnumS (K : PySem.W.Frag) (k : Int) (ta : TA) : TI := fun σ H R => ta σ H fun vs H1 => ∃ a xs, vs = [.ref a] ∧ SqL K H1 a xs ∧ R (ItS K k a) H1
theorem pi_enumS {X : Cx} {e : Expr} {ta : TA} {k : Int} {j : Nat} {p pos tpos cp kp : Pos} {elts : List Expr} {kk : Nat} (hg : Gl X "enumerate") (hm : X.mg "enumerate" = none) (ha : PA X [e] ta) (hk0 : -(2 ^ 63) ≤ k) (hk1 : k < 2 ^ 63)
    (he1 : backTo pos (starEach [e] X.env) = (false, eval e X.env) :: backTo pos (starEach [] X.env) := by rfl) (hpl : (backTo pos (starEach [e] X.env)).any (·.1) = false := by rfl) :
    PI X (.Tuple elts kk tpos) (.Call (.Name "enumerate" p) [e] [⟨some "start", .Constant (.int k) j cp, kp⟩] pos) (iEnumS X.K k ta) := by
  constructor
  intro pins s σ H R I h
  refine wpAny_Call_Name_kw (ld_blt I hg hm boot_enumerate ?_)
  refine callWith_kwT (thn (ha.run pos pins s σ H _ I h) fun us s1 ⟨vs, H1, I1, r1, q1⟩ => ?_) he1 hpl (by rfl) (by rfl)
  obtain ⟨a, xs, ex, hq, q⟩ := q1
  subst ex
  refine kws_cons (thn ((pe_int (X := X) (i := k) (j := j) (pos := cp)).run pins s1 σ H1 (fun x H2 => x = .int k ∧ H2 = H1) I1 ⟨rfl, rfl⟩) fun v s2 ⟨x, H2, I2, r2, ex, eh⟩ => kws_nil ?_)
  subst ex eh
  obtain ⟨t, rfl⟩ := r2
  obtain ⟨u, rfl, ru⟩ := vals1 r1
  obtain rfl : u = Value.ref a := ru
  obtain ⟨its, rv, p', hz⟩ := I2.list hq
  show wpAny _ _ (call (.type "enumerate") [.ref a] [(Str.ofString "start", .int k t)]) _ _ s2
  refine enum_begins_start (begins_list a its.toArray) p'.isList hk0 hk1 fun h' he hit hsz hk => wpAny_pyIter_enum he ?_
  have I3 : Inv X pins σ H2 { s2 with heap := h' } := I2.kept (t' := s2.toks) hk
  have hal : a < s2.heap.objs.size := by
    obtain ⟨o, ho, _⟩ := p'.isList
    exact Heap.lt_size ho
  refine ⟨s2.heap.objs.size + 1, [s2.heap.objs.size + 1, s2.heap.objs.size], _, _, H2, rfl, I3, turn_enumS k a (s2.heap.objs.size + 1) s2.heap.objs.size (Nat.ne_of_gt (Nat.lt_succ_of_lt hal)) (Nat.ne_of_lt hal) (Nat.succ_ne_self _), ⟨⟨.none, ?_⟩, ⟨_, hit, rfl, rfl⟩⟩, fun b hb => ?_, q⟩
  · rw [show k + ((0 : Nat) : Int) = k by omega]
    exact he
  · have hle : s2.heap.objs.size ≤ b := by
      rcases (show b = s2.heap.objs.size + 1 ∨ b = s2.heap.objs.size by simpa using hb) with z | z
      · rw [z]; exact Nat.le_add_right _ _
      · rw [z]; exact Nat.le_refl _
    exact I2.fpOk hle (I2.hok.fresh hle)
end
theorem grws_sum (r : List Nat) (top : Int) (t : List Nat) : ∀ m, (grws r top t m).sum = colT r top (t.take m) r.length - colT r top [] r.length
  | 0 => by
    rw [List.take_zero, Int.sub_self]
    rfl
  | m + 1 => by
    have ih := grws_sum r top t m
    unfold grws at ih ⊢
    rw [List.range_succ, List.map_append, List.sum_append, ih]
    show _ + (grw r top t m + 0) = _
    unfold grw
    omega
theorem colT_nil (r : List Nat) (top : Int) : colT r top [] r.length = (r.length : Int) := rfl
def endsTo (r t : List Nat) (k : Int) (j : Nat) : List (Nat × Int) := ((List.range (j + 1)).map fun e => (e, colT r 0 (t.take e) r.length)).filter fun p => decide (p.2 ≤ k)
def Evs (H : Hp) : List V → List (Nat × Int) → Prop := Paired fun v e => ∃ q, v = .ref q ∧ H q = some (.tup [.int (e.1 : Int), .int e.2])
theorem Evs.mono {H H' : Hp} {xs : List V} {rs : List (Nat × Int)} (h : Evs H xs rs) (k : ∀ q ys, H q = some (.tup ys) → H' q = some (.tup ys)) : Evs H' xs rs :=
  Paired.mapP h fun _ _ ⟨q, e, t⟩ => ⟨q, e, k q _ t⟩
theorem endsTo_succ (r t : List Nat) (k : Int) (j : Nat) : endsTo r t k (j + 1) = endsTo r t k j ++ (if colT r 0 (t.take (j + 1)) r.length ≤ k then [(j + 1, colT r 0 (t.take (j + 1)) r.length)] else []) := by
  unfold endsTo
  rw [List.range_succ, List.map_append, List.filter_append]
  congr 1
  show List.filter _ [(j + 1, colT r 0 (t.take (j + 1)) r.length)] = _
  by_cases h : colT r 0 (t.take (j + 1)) r.length ≤ k
  · rw [if_pos h]
    simp [List.filter, h]
  · rw [if_neg h]
    simp [List.filter, h]
theorem endsTo_zero (r t : List Nat) (k : Int) : endsTo r t k 0 = if (r.length : Int) ≤ k then [(0, (r.length : Int))] else [] := by
  unfold endsTo
  show List.filter _ [(0, colT r 0 (t.take 0) r.length)] = _
  rw [List.take_zero, colT_nil]
  by_cases h : (r.length : Int) ≤ k
  · rw [if_pos h]
    simp [List.filter, h]
  · rw [if_neg h]
    simp [List.filter, h]
theorem endsTo_len (r t : List Nat) (k : Int) (j : Nat) : (endsTo r t k j).length ≤ j + 1 := by
  unfold endsTo
  have h := List.length_filter_le (fun p : Nat × Int => decide (p.2 ≤ k)) ((List.range (j + 1)).map fun e => (e, colT r 0 (t.take e) r.length))
  rw [List.length_map, List.length_range] at h
  exact h
section
variable {P : Program} {w : World} {K : PySem.W.Frag} {mg : Str → Option Value} {base : Heap}
def spDist : Sp := fun vs H Q _ => ∃ r t : List Nat, vs = [.str (T r), .str (T t)] ∧ Dna r ∧ Dna t ∧ r.length ≤ 10000 ∧ t.length ≤ 100000 ∧ ∀ H', Same H H' → Q (.int (colT r 1 t r.length)) H'
theorem ok_dist {f : Addr} {fd : FuncData} {k : Nat} (F : Fun K "distance" "distance" sDist f fd) (mlen : mg "len" = none) (msum : mg "sum" = none) (hG : Has P w K mg base (k + 1) "_growths" ["read", "text", "top"] spGrow) : FnOk P w K mg base CX0 (k + 2) f fd ["read", "text"] spDist := by
  obtain ⟨fG, dG, GG, gG, kG, bG⟩ := hG
  refine F.ok scDist (fun vs H Q E h => ?_) (fun cdv A outer s H vs Q E hr h => ?_)
  · obtain ⟨r, t, rfl, _⟩ := h
    rfl
  · obtain ⟨r, t, rfl, dr, dt, hrl, htl, q⟩ := h
    refine ⟨_, pss_one (ps_ret (pe_op op_add (pe_callB call_len_str (by rfl) mlen PySem.boot_len (pa_cons (pv 0) pa_nil)) (pe_callB (cr_sum rfl) (by rfl) msum (by decide +kernel) (pa_cons (pe_call GG hr (by rfl) gG kG bG .nil pass0 (pa_cons (pv 0) (pa_cons (pv 1) (pa_cons pe_int pa_nil)))) pa_nil)))), ?_⟩
    refine ⟨_, rfl, T r, rfl, line_ok (by rw [T_len]; omega), _, rfl, _, rfl, r, t, 1, rfl, Nat.le_refl _, dr, dt, hrl, htl, fun H1 p s1 hp hx => ⟨p, _, rfl, .inl (.inl hx), _, _, rfl, rfl, ?_⟩⟩
    have e : ((T r).length : Int) + (grws r 1 t t.length).sum = colT r 1 t r.length := by
      rw [T_len, grws_sum, List.take_length, colT_nil]
      omega
    have q2 := q H1 s1
    rw [← e] at q2
    exact q2
def spEnds : Sp := fun vs H Q _ => ∃ (r t : List Nat) (k : Int), vs = [.str (T r), .str (T t), .int k] ∧ Dna r ∧ Dna t ∧ r.length ≤ 10000 ∧ t.length ≤ 90000 ∧ ∀ (H' : Hp) (p : Addr) (xs : List V), Same H H' → H p = none → H' p = some (.lst xs) → Evs H' xs (endsTo r t k t.length) → Q (.ref p) H'
theorem ok_ends {f : Addr} {fd : FuncData} {k : Nat} (F : Fun K "ends" "ends" sEnds f fd) (mlen : mg "len" = none) (menum : mg "enumerate" = none) (hG : Has P w K mg base (k + 1) "_growths" ["read", "text", "top"] spGrow) : FnOk P w K mg base CX0 (k + 2) f fd ["read", "text", "k"] spEnds := by
  obtain ⟨fG, dG, GG, gG, kG, bG⟩ := hG
  refine F.ok scEnds (fun vs H Q E h => ?_) (fun cdv A outer s H vs Q E hr h => ?_)
  · obtain ⟨r, t, k, rfl, _⟩ := h
    rfl
  · obtain ⟨r, t, k, rfl, dr, dt, hrl, htl, q⟩ := h
    refine ⟨_, pss_cons (ps_set (i := 3) scEnds.nd rfl (.inl rfl) (pe_callB call_len_str (by rfl) mlen PySem.boot_len (pa_cons (pv 0) pa_nil)))
      (pss_cons (ps_set (i := 4) scEnds.nd rfl (.inl rfl) (pe_lst pa_nil))
      (C8.pss_cut (ps_if (pt_cmpR op_le (pv 3) (pv 2) (nomark _)) (pss_one (ps_expr (pe_bm PySem.F.plainAttrs_list PySem.F.slot_list_append PySem.F.type_list_append mt_append (pv 4) (pa_cons (pe_tup (pa_cons pe_int (pa_cons (pv 3) pa_nil))) pa_nil)))) pss_nil)
      (pss_cons (ps_for PassesOwn.never rfl (pi_enumS (k := 1) (by rfl) menum (pa_cons (pe_call GG hr (by rfl) gG kG bG .nil pass0 (pa_cons (pv 0) (pa_cons (pv 1) (pa_cons pe_int pa_nil)))) pa_nil) (by decide) (by decide)) (pg_tup rfl (pgs_cons (pg_name (i := 5) scEnds.nd rfl (.inl rfl)) (pgs_cons (pg_name (i := 6) scEnds.nd rfl (.inl rfl)) pgs_nil)))
        (pss_cons (ps_aug (i := 3) scEnds.nd rfl (.inl rfl) (pv 6) ip_add)
        (pss_one (ps_if (pt_cmpR op_le (pv 3) (pv 2) (nomark _)) (pss_one (ps_expr (pe_bm PySem.F.plainAttrs_list PySem.F.slot_list_append PySem.F.type_list_append mt_append (pv 4) (pa_cons (pe_tup (pa_cons (pv 5) (pa_cons (pv 3) pa_nil))) pa_nil)))) pss_nil))))
      (pss_one (ps_ret (pv 4)))))), ?_⟩
    refine ⟨_, rfl, T r, rfl, line_ok (by rw [T_len]; omega), ?_⟩
    rw [T_len]
    refine ⟨Nat.zero_le _, fun p hp => ?_⟩
    -- the first end
    refine ⟨fun σ H2 => Same H H2 ∧ ∃ xs, H2 p = some (.lst xs) ∧ Evs H2 xs (endsTo r t k 0) ∧ σ = [some (.str (T r)), some (.str (T t)), some (.int k), some (.int (r.length : Nat)), some (.ref p), none, none], ?_, ?_⟩
    · refine ⟨_, rfl, _, rfl, _, _, rfl, rfl, _, rfl, ite2 (fun e => ?_) (fun e => ?_)⟩
      · have hle : (r.length : Int) ≤ k := of_decide_eq_true e
        refine ⟨.ref p, rfl, .inl ⟨rfl, _, .inl (.inl upd_same)⟩, _, rfl, by show 2 ≤ sizeLine; decide, fun q2 hq2 => ?_⟩
        have npq := (new_ne hq2).symm
        refine ⟨p, [], _, rfl, rfl, by rw [upd_ne npq, upd_same], line_lt (by show 0 ≤ 100000; omega), fun b o e => ?_, _, upd_same, ?_, rfl⟩
        · rw [upd_ne (ne_of_none e hp), upd_ne (ne_of_none e (new_old hq2)), upd_ne (ne_of_none e hp)]
          exact e
        · rw [endsTo_zero, if_pos hle]
          refine .cons ⟨q2, rfl, ?_⟩ .nil
          rw [upd_ne npq.symm, upd_same]
          rfl
      · have hle : ¬ (r.length : Int) ≤ k := fun z => e (decide_eq_true z)
        refine ⟨same_upd hp, [], upd_same, ?_, rfl⟩
        rw [endsTo_zero, if_neg hle]
        exact .nil
    rintro σ H2 ⟨s2, xs, hx, he, rfl⟩
    refine ⟨_, rfl, _, rfl, r, t, 0, rfl, by decide, dr, dt, hrl, by omega, fun H3 g s3 hg hgx => ⟨g, _, rfl, .inl (.inl hgx), ?_⟩⟩
    have hgl : ((grws r (0 : Nat) t t.length).map V.int).length = t.length := by rw [List.length_map, grws, List.length_map, List.length_range]
    refine for_gen (J := ItS K 1 g) (n := t.length) (fun i σ H' => i ≤ t.length ∧ Same H H' ∧ H' g = some (LI (grws r (0 : Nat) t t.length)) ∧ ∃ (xs : List V) (v5 v6 : Option V), H' p = some (.lst xs) ∧ Evs H' xs (endsTo r t k i) ∧ σ = [some (.str (T r)), some (.str (T t)), some (.int k), some (.int (colT r 0 (t.take i) r.length)), some (.ref p), v5, v6]) ?_ (fun i σ H' hi h => ?_) (fun σ H' h => ⟨_, .inl (.inl h.2.2.1), hgl⟩) ?_ ?_
    · exact ⟨Nat.zero_le _, s2.trans s3, hgx, xs, none, none, s3 _ _ hx, he.mono fun a ys ha => s3 _ _ ha, by rw [List.take_zero]; rfl⟩
    · have hil : i < ((grws r (0 : Nat) t t.length).map V.int).length := by rw [hgl]; exact hi
      exact ⟨_, _, .inl (.inl h.2.2.1), List.getElem?_eq_getElem hil⟩
    · rintro i σ H4 x H5 hi ⟨_, s4, hg4, xs, v5, v6, hx4, he4, rfl⟩ ⟨u, y, rfl, hu, rfl, hy⟩
      have ey := hy _ (.inl (.inl hg4))
      rw [List.getElem?_map, grws, List.getElem?_map, List.getElem?_range hi] at ey
      obtain rfl : V.int (grw r (0 : Nat) t i) = y := Option.some.inj ey
      have npu : p ≠ u := ne_of_none hx4 hu
      have ngu : g ≠ u := ne_of_none hg4 hu
      have hxl : xs.length ≤ i + 1 := by
        rw [paired_len he4]
        exact endsTo_len r t k i
      refine ⟨u, _, rfl, .inl (.inl upd_same), rfl, _, _, rfl, _, _, rfl, rfl, ?_⟩
      have sup : Same H4 (upd H4 u (.tup [.int (1 + (i : Nat)), .int (grw r (0 : Nat) t i)])) := same_upd hu
      have hx5 := sup _ _ hx4
      have hg5 := sup _ _ hg4
      have s5 := s4.trans sup
      have he5 : Evs _ xs (endsTo r t k i) := he4.mono fun a ys ha => sup _ _ ha
      generalize upd H4 u (.tup [.int (1 + (i : Nat)), .int (grw r (0 : Nat) t i)]) = H6 at hx5 hg5 s5 he5 ⊢
      have ecol : colT r 0 (t.take i) r.length + grw r (0 : Nat) t i = colT r 0 (t.take (i + 1)) r.length := by
        unfold grw
        show colT r 0 (t.take i) r.length + (colT r 0 (t.take (i + 1)) r.length - colT r 0 (t.take i) r.length) = _
        omega
      refine ⟨_, rfl, _, rfl, _, _, rfl, rfl, ?_⟩
      refine ⟨_, rfl, _, rfl, _, _, rfl, rfl, _, rfl, ite2 (fun e => ?_) (fun e => ?_)⟩
      · have hle : colT r 0 (t.take i) r.length + grw r (0 : Nat) t i ≤ k := of_decide_eq_true e
        rw [ecol] at hle
        refine ⟨.ref p, rfl, .inl ⟨rfl, _, .inl (.inl hx5)⟩, _, rfl, _, rfl, by show 2 ≤ sizeLine; decide, fun q2 hq2 => ?_⟩
        have npq : p ≠ q2 := ne_of_none hx5 hq2
        refine ⟨p, xs, _, rfl, rfl, by rw [upd_ne npq]; exact hx5, line_lt (by omega), hi, fun b o e => ?_, ?_, _, some (.int (1 + (i : Nat))), some (.int (grw r (0 : Nat) t i)), upd_same, ?_, ?_⟩
        · rw [upd_ne (ne_of_none e hp)]
          exact same_upd hq2 _ _ (s5 _ _ e)
        · rw [upd_ne (fun z => by have := s3 _ _ hx; rw [z] at hgx; rw [hgx] at this; exact absurd (ne_of_none hx hg) (fun n => n z.symm)), upd_ne (ne_of_none hg5 hq2)]
          exact hg5
        · rw [endsTo_succ, if_pos hle]
          refine Paired.snoc (Evs.mono he5 fun a ys ha => ?_) ⟨q2, rfl, ?_⟩
          · rw [upd_ne (fun z => by rw [z, hx5] at ha; cases ha), upd_ne (ne_of_none ha hq2)]
            exact ha
          · rw [upd_ne npq.symm, upd_same, ← ecol, show (1 : Int) + (i : Nat) = ((i + 1 : Nat) : Int) by omega]
            try rfl
        · rw [← ecol]
          rfl
      · have hle : ¬ colT r 0 (t.take i) r.length + grw r (0 : Nat) t i ≤ k := fun z => e (decide_eq_true z)
        rw [ecol] at hle
        refine ⟨hi, s5, hg5, xs, some (.int (1 + (i : Nat))), some (.int (grw r (0 : Nat) t i)), hx5, ?_, ?_⟩
        · rw [endsTo_succ, if_neg hle, List.append_nil]
          exact he5
        · rw [← ecol]
          rfl
    · rintro σ H4 ⟨_, s4, hg4, xs, v5, v6, hx4, he4, rfl⟩
      exact ⟨_, rfl, q H4 p xs s4 hp hx4 he4⟩
end
theorem scLAgree : FnScope ["a", "b"] ["a", "b"] (defScope sLAgree) := ⟨rfl, rfl, rfl, by decide +kernel, rfl, by decide +kernel, by decide +kernel⟩
section
variable {P : Program} {w : World} {K : PySem.W.Frag} {mg : Str → Option Value} {base : Heap}
def spAg : Sp := fun vs H Q _ => ∃ a b : Nat, vs = [.str (T [a]), .str (T [b])] ∧ Q (.bl (agB a b)) H
theorem ok_lagree {f : Addr} {fd : FuncData} {k : Nat} (F : Fun K "_law_agree" "_law_agree" sLAgree f fd) : FnOk P w K mg base CX0 (k + 1) f fd ["a", "b"] spAg := by
  refine F.ok scLAgree (fun vs H Q E h => ?_) (fun cdv A outer s H vs Q E hr h => ?_)
  · obtain ⟨a, b, rfl, _⟩ := h
    rfl
  · obtain ⟨a, b, rfl, q⟩ := h
    refine ⟨_, pss_one (ps_ret (pe_and (pe_cmpR op_eq (pv 0) (pv 1) (nomark _)) (pe_one (pe_cmpR op_ne (pv 0) pe_str (nomark _))))), ?_⟩
    refine ⟨_, rfl, _, rfl, rfl, _, rfl, ite2 (fun e => ?_) (fun e => ?_)⟩
    · have e2 := (one_eq rfl).mp (of_decide_eq_true e)
      refine ⟨_, rfl, rfl, ?_⟩
      unfold agB at q
      rw [decide_eq_true e2, Bool.true_and] at q
      have e3 : (!decide (V.str (T [a]) = V.str (Str.ofString "N"))) = decide (a ≠ 78) := by
        by_cases h : a = 78
        · rw [decide_eq_true ((one_eq tN).mpr h), decide_eq_false (fun z => z h)]
          rfl
        · rw [decide_eq_false (fun z => h ((one_eq tN).mp z)), decide_eq_true h]
          rfl
      show Q (.bl (!decide (V.str (T [a]) = V.str (Str.ofString "N")))) H
      rw [e3]
      exact q
    · have e2 : ¬ a = b := fun z => e (decide_eq_true ((one_eq rfl).mpr z))
      unfold agB at q
      rw [decide_eq_false e2, Bool.false_and] at q
      exact q
end
theorem nm3 (a b c : Int) : nuMin3 (.int a) (.int b) (.int c) = some (.int (min a (min b c))) := by
  have h2 : ∀ x y : Int, nuMin2 (.int x) (.int y) = some (.int (min x y)) := fun x y => by
    show some (if (decide (y < x)) = true then V.int y else V.int x) = _
    by_cases h : y < x
    · rw [decide_eq_true h, if_pos rfl, Int.min_eq_right (by omega)]
    · rw [decide_eq_false h, if_neg Bool.false_ne_true, Int.min_eq_left (by omega)]
  show (nuMin2 (.int a) (.int b)).bind (fun m => nuMin2 m (.int c)) = _
  rw [h2]
  show nuMin2 (.int (min a b)) (.int c) = _
  rw [h2, Int.min_assoc]
def cl (f : Nat → Int) (n : Nat) : List Int := (List.range n).map f
theorem cl_at {f : Nat → Int} {n i : Nat} (h : i < n) : ((cl f n).map V.int)[i]? = some (.int (f i)) := by
  unfold cl
  rw [List.getElem?_map, List.getElem?_map, List.getElem?_range h]
  rfl
theorem cl_len (f : Nat → Int) (n : Nat) : (cl f n).length = n := by
  unfold cl
  rw [List.length_map, List.length_range]
theorem cl_snoc (f : Nat → Int) (n : Nat) : LI (cl f (n + 1)) = .lst ((cl f n).map V.int ++ [.int (f n)]) := by
  unfold cl
  rw [List.range_succ, List.map_append]
  exact LI_snoc _ _
theorem fold_zero (r : List Nat) (top : Int) : ∀ (l : List Nat) (f : Nat → Int), (l.foldl (fun f c => stepf top (fun i => agB (r.getD i 0) c) f) f) 0 = f 0 + top * (l.length : Nat)
  | [], f => by
    show f 0 = f 0 + top * 0
    rw [Int.mul_zero, Int.add_zero]
  | c :: l, f => by
    rw [List.foldl_cons, fold_zero r top l]
    show f 0 + top + top * (l.length : Nat) = f 0 + top * ((l.length + 1 : Nat) : Int)
    rw [Int.natCast_add, Int.mul_add]
    show _ = f 0 + (top * (l.length : Nat) + top * 1)
    rw [Int.mul_one]
    omega
theorem colT_zero (r : List Nat) (top : Int) (l : List Nat) : colT r top l 0 = top * (l.length : Nat) := by
  unfold colT
  rw [fold_zero]
  show ((0 : Nat) : Int) + _ = _
  rw [Int.natCast_zero, Int.zero_add]
theorem scLEnds : FnScope ["read", "text", "column", "found", "letter", "news", "i", "pair", "k"] ["read", "text"] (defScope sLEnds) := ⟨rfl, rfl, rfl, by decide +kernel, rfl, by decide +kernel, by decide +kernel⟩
theorem scLDist : FnScope ["first", "second", "column", "letter", "news", "i", "pair", "k"] ["first", "second"] (defScope sLDist) := ⟨rfl, rfl, rfl, by decide +kernel, rfl, by decide +kernel, by decide +kernel⟩
theorem at_T {l : List Nat} {i : Nat} (h : i < l.length) : atI (T l).cps.toList (i : Int) = some l[i] := atI_nat (List.getElem?_eq_getElem h)
theorem getD_at {l : List Nat} {i : Nat} (h : i < l.length) : l.getD i 0 = l[i] := by
  rw [List.getD_eq_getElem?_getD, List.getElem?_eq_getElem h]
  rfl
/-- all the last rows -/
def rowE (r t : List Nat) (m : Nat) : List Int := (List.range m).map fun e => colT r 0 (t.take e) r.length
section
variable {P : Program} {w : World} {K : PySem.W.Frag} {mg : Str → Option Value} {base : Heap}
def spLEnds : Sp := fun vs H Q _ => ∃ r t : List Nat, vs = [.str (T r), .str (T t)] ∧ r.length ≤ 10000 ∧ t.length ≤ 90000 ∧ ∀ (H' : Hp) (p : Addr), Same H H' → H p = none → H' p = some (LI (rowE r t (t.length + 1))) → Q (.ref p) H'
theorem ok_lends {f : Addr} {fd : FuncData} {k : Nat} (F : Fun K "_law_ends" "_law_ends" sLEnds f fd) (B : Bl mg) (mmin : mg "min" = none) (hA : Has P w K mg base (k + 1) "_law_agree" ["a", "b"] spAg) : FnOk P w K mg base CX0 (k + 2) f fd ["read", "text"] spLEnds := by
  obtain ⟨fA, dA, GA, gA, kA, bA⟩ := hA
  refine F.ok scLEnds (fun vs H Q E h => ?_) (fun cdv A outer s H vs Q E hr h => ?_)
  · obtain ⟨r, t, rfl, _⟩ := h
    rfl
  · obtain ⟨r, t, rfl, hrl, htl, q⟩ := h
    refine ⟨_, (pss_cons (ps_setLc (i := 2) (own := [("k", 8)]) (g := gName 8) (tt := tYes) (te := tVar 8) (by rfl) scLEnds.nd rfl rfl (sw_true rfl rfl rfl (by decide +kernel)) (pi_range1 rfl B.range (pa_cons (pe_op op_add (pe_callB call_len_str (by rfl) B.len PySem.boot_len (pa_cons (pv 0) pa_nil)) pe_int) pa_nil)) (blkOk_by (own := [("k", 8)]) (N := ["read", "text", "column", "found", "letter", "news", "i", "pair", "k"]) (sc := defScope sLEnds) (by decide +kernel)) (fun _ _ _ _ _ => pg_name (i := 8) scLEnds.nd rfl (Or.inl rfl)) (fun _ _ _ _ _ => pts_nil) (fun _ _ _ _ _ => pv 8))
      (pss_cons (ps_set (i := 3) scLEnds.nd rfl (.inl rfl) (pe_lst (pa_cons (pe_callB call_len_str (by rfl) B.len PySem.boot_len (pa_cons (pv 0) pa_nil)) pa_nil)))
      (pss_cons (ps_for PassesOwn.never rfl (pi_str (pv 1)) (pg_name (i := 4) scLEnds.nd rfl (.inl rfl))
        (pss_cons (ps_set (i := 5) scLEnds.nd rfl (.inl rfl) (pe_lst (pa_cons pe_int pa_nil)))
      (pss_cons (ps_for PassesOwn.never rfl (pi_range1 rfl B.range (pa_cons (pe_callB call_len_str (by rfl) B.len PySem.boot_len (pa_cons (pv 0) pa_nil)) pa_nil)) (pg_name (i := 6) scLEnds.nd rfl (.inl rfl))
        (pss_cons (ps_set (i := 7) scLEnds.nd rfl (.inl rfl) (pe_op op_sub (pe_op op_add (pe_ix ix_list (pv 2) (pv 6) (fun _ _ => rfl)) pe_int) (pe_callTy call_int1 (by rfl) B.int (by decide +kernel) (pa_cons (pe_call GA hr (by rfl) gA kA bA .nil pass0 (pa_cons (pe_ix ix_str (pv 0) (pv 6) (fun _ _ => rfl)) (pa_cons (pv 4) pa_nil))) pa_nil))))
      (pss_one (ps_expr (pe_bm PySem.F.plainAttrs_list PySem.F.slot_list_append PySem.F.type_list_append mt_append (pv 5) (pa_cons (pe_callB (call_min3Nu rfl) (by rfl) mmin (by decide +kernel) (pa_cons (pv 7) (pa_cons (pe_op op_add (pe_ix ix_list (pv 2) (pe_op op_add (pv 6) pe_int) (fun _ _ => rfl)) pe_int) (pa_cons (pe_op op_add (pe_ix ix_list (pv 5) (pv 6) (fun _ _ => rfl)) pe_int) pa_nil)))) pa_nil))))))
      (pss_cons (ps_set (i := 2) scLEnds.nd rfl (.inl rfl) (pv 5))
      (pss_one (ps_expr (pe_bm PySem.F.plainAttrs_list PySem.F.slot_list_append PySem.F.type_list_append mt_append (pv 3) (pa_cons (pe_ix ix_list (pv 2) (pe_callB call_len_str (by rfl) B.len PySem.boot_len (pa_cons (pv 0) pa_nil)) (fun _ _ => rfl)) pa_nil))))))))
      (pss_one (ps_ret (pv 3)))))), ?_⟩
    have hz : (T r).length ≤ sizeLine := line_ok (by rw [T_len]; omega)
    refine ⟨_, rfl, T r, rfl, hz, _, 1, rfl, rfl, _, rfl, by rw [T_len]; omega, by rw [T_len]; omega, fun D hD => ?_⟩
    have en : (((T r).length : Int) + 1).toNat = r.length + 1 := by rw [T_len]; omega
    refine lc_range (lo := 0) (n := (((T r).length : Int) + 1).toNat) (fun j H1 => Same H H1 ∧ H1 D = some (LI (cl (fun i => (i : Int)) j))) ⟨same_upd hD, upd_same⟩ ?_ ?_
    · rintro j H1 hj ⟨s1, hd⟩
      rw [en] at hj
      refine ⟨rfl, ?_⟩
      dsimp only [tYes]
      rw [if_pos rfl]
      refine ⟨_, rfl, _, hd, line_ok6 (by rw [List.length_map, cl_len]; omega), fun b o e => ?_, ?_⟩
      · rw [upd_ne (ne_of_none e hD)]
        exact s1 b o e
      · rw [upd_same, cl_snoc, Int.zero_add]
    rintro H1 ⟨s1, hd⟩
    rw [en] at hd
    refine ⟨_, rfl, T r, rfl, hz, by show 1 ≤ sizeLine; decide, fun p hp => ?_⟩
    rw [T_len]
    have sp := same_upd (o := .lst [.int (r.length : Nat)]) hp
    have hpx : (upd H1 p (.lst [.int (r.length : Nat)])) p = some (LI (rowE r t 1)) := upd_same
    have hd2 := sp _ _ hd
    have hpH : H p = none := s1.free hp
    have sH := s1.trans sp
    generalize upd H1 p (.lst [.int (r.length : Nat)]) = H2 at hpx hd2 sH ⊢
    refine ⟨_, rfl, T t, rfl, ?_⟩
    refine for_str (z := T t) (fun j σ H' => j ≤ t.length ∧ Same H H' ∧ ∃ (c : Addr) (v4 v5 v6 v7 : Option V), c ≠ p ∧ H' c = some (LI (cl (colT r 0 (t.take j)) (r.length + 1))) ∧ H' p = some (LI (rowE r t (j + 1))) ∧ σ = [some (.str (T r)), some (.str (T t)), some (.ref c), some (.ref p), v4, v5, v6, v7, none]) ⟨Nat.zero_le _, sH, D, none, none, none, none, ne_of_none hd hp, by rw [List.take_zero]; exact hd2, hpx, rfl⟩ ?_ ?_
    · rintro j e σ H3 he ⟨_, s3, c, v4, v5, v6, v7, ncp, hc, hpr, rfl⟩
      rw [T_at] at he
      have hjt : j < t.length := (List.getElem?_eq_some_iff.mp he).1
      have ht2 : t.take (j + 1) = t.take j ++ [e] := by rw [List.take_add_one, he]; rfl
      refine ⟨by show 1 ≤ sizeLine; decide, fun n hn => ?_⟩
      have ncn : c ≠ n := ne_of_none hc hn
      have npn : p ≠ n := ne_of_none hpr hn
      have hnH : H n = none := s3.free hn
      have sn := same_upd (o := .lst [.int 0]) hn
      have hc2 := sn _ _ hc
      have hp2 := sn _ _ hpr
      have s4 := s3.trans sn
      have hn2 : (upd H3 n (.lst [.int 0])) n = some (LI (cl (colT r 0 (t.take (j + 1))) 1)) := by
        rw [upd_same]
        have e0 : colT r 0 (t.take (j + 1)) 0 = 0 := by
          rw [colT_zero, Int.zero_mul]
        show some (HO.lst [V.int 0]) = some (HO.lst [V.int (colT r 0 (t.take (j + 1)) 0)])
        rw [e0]
      generalize upd H3 n (.lst [.int 0]) = H4 at hc2 hp2 s4 hn2 ⊢
      refine ⟨_, rfl, T r, rfl, hz, _, rfl, by rw [T_len]; omega, by rw [T_len]; omega, ?_⟩
      rw [T_len, Int.toNat_natCast]
      refine for_range (lo := 0) (n := r.length) (fun i σ H' => Same H H' ∧ H' c = some (LI (cl (colT r 0 (t.take j)) (r.length + 1))) ∧ H' p = some (LI (rowE r t (j + 1))) ∧ H' n = some (LI (cl (colT r 0 (t.take (j + 1))) (i + 1))) ∧ ∃ v6 v7 : Option V, σ = [some (.str (T r)), some (.str (T t)), some (.ref c), some (.ref p), some (.str ⟨#[e]⟩), some (.ref n), v6, v7, none]) ⟨s4, hc2, hp2, hn2, v6, v7, rfl⟩ ?_ ?_
      · rintro i σ H5 hi ⟨s5, hc5, hp5, hn5, v6, v7, rfl⟩
        have a0 : (0 : Int) + (i : Nat) = (i : Nat) := by omega
        have a1 : (0 : Int) + (i : Nat) + 1 = ((i + 1 : Nat) : Int) := by omega
        have ix0 : atI ((cl (colT r 0 (t.take j)) (r.length + 1)).map V.int) (0 + (i : Nat)) = some (.int (colT r 0 (t.take j) i)) := by rw [a0]; exact atI_nat (cl_at (by omega))
        have ix1 : atI ((cl (colT r 0 (t.take j)) (r.length + 1)).map V.int) (0 + (i : Nat) + 1) = some (.int (colT r 0 (t.take j) (i + 1))) := by rw [a1]; exact atI_nat (cl_at (by omega))
        have ixn : atI ((cl (colT r 0 (t.take (j + 1))) (i + 1)).map V.int) (0 + (i : Nat)) = some (.int (colT r 0 (t.take (j + 1)) i)) := by rw [a0]; exact atI_nat (cl_at (by omega))
        have ai := at_T hi
        rw [← a0] at ai
        refine ⟨_, rfl, _, rfl, c, _, _, _, rfl, rfl, .inl (.inl hc5), ix0, _, 1, rfl, rfl, _, rfl, _, rfl, T r, _, _, rfl, rfl, hz, ai, _, rfl, r[i], e, rfl, .inr ⟨_, rfl, _, _, rfl, rfl, ?_⟩⟩
        refine ⟨.ref n, rfl, .inl ⟨rfl, _, .inl (.inl hn5)⟩, _, rfl, _, rfl, _, rfl, _, 1, rfl, rfl, c, _, _, _, rfl, rfl, .inl (.inl hc5), ix1, _, 1, rfl, rfl, _, rfl, _, rfl, n, _, _, _, rfl, rfl, .inl (.inl hn5), ixn, _, 1, rfl, rfl, _, _, _, _, rfl, nm3 _ _ _, ?_⟩
        refine ⟨n, _, _, rfl, rfl, hn5, line_ok6 (by rw [List.length_map, cl_len]; omega), fun b o e => ?_, ?_, ?_, ?_, some (.int (0 + (i : Nat))), some _, rfl⟩
        · rw [upd_ne (ne_of_none e hnH)]
          exact s5 _ _ e
        · rw [upd_ne ncn]
          exact hc5
        · rw [upd_ne npn]
          exact hp5
        · rw [upd_same, cl_snoc]
          have e5 : colT r 0 (t.take (j + 1)) (i + 1) = min (colT r 0 (t.take j) i + 1 - if agB r[i] e then 1 else 0) (min (colT r 0 (t.take j) (i + 1) + 1) (colT r 0 (t.take (j + 1)) i + 1)) := by
            rw [ht2, colT_snoc, ← getD_at hi]
            rfl
          rw [e5]
      · rintro σ H5 ⟨s5, hc5, hp5, hn5, v6, v7, rfl⟩
        have ixm : atI ((cl (colT r 0 (t.take (j + 1))) (r.length + 1)).map V.int) ((T r).length : Nat) = some (.int (colT r 0 (t.take (j + 1)) r.length)) := by rw [T_len]; exact atI_nat (cl_at (by omega))
        refine ⟨_, rfl, .ref p, rfl, .inl ⟨rfl, _, .inl (.inl hp5)⟩, _, rfl, _, rfl, T r, rfl, hz, n, _, _, _, rfl, rfl, .inl (.inl hn5), ixm, p, _, _, rfl, rfl, hp5, line_ok6 (by rw [List.length_map, rowE, List.length_map, List.length_range]; omega), hjt, fun b o e => ?_, n, some (.str ⟨#[e]⟩), some (.ref n), v6, v7, npn.symm, ?_, ?_, rfl⟩
        · rw [upd_ne (ne_of_none e hpH)]
          exact s5 _ _ e
        · rw [upd_ne npn.symm]
          exact hn5
        · rw [upd_same]
          unfold rowE
          rw [List.range_succ (n := j + 1), List.map_append]
          exact congrArg some (LI_snoc _ _).symm
    · rintro σ H3 ⟨_, s3, c, v4, v5, v6, v7, ncp, hc, hpr, rfl⟩
      rw [T_size] at hpr
      exact ⟨_, rfl, q H3 p s3 hpH hpr⟩
end
theorem cut_some (l : List Nat) (lo hi : Option Int) : ∃ m : List Nat, cutS (T l) lo hi = T m ∧ (∀ c ∈ m, c ∈ l) ∧ m.length ≤ l.length := by
  refine ⟨_, rfl, fun c hc => List.mem_of_mem_drop (List.mem_of_mem_take hc), ?_⟩
  rw [List.length_take, List.length_drop, T_list]
  omega
theorem agB_comm (a b : Nat) : agB a b = agB b a := by
  unfold agB
  by_cases h : a = b
  · rw [h]
  · rw [decide_eq_false h, decide_eq_false (p := b = a) (fun z => h z.symm)]
    rfl
theorem dist_sym (r t : List Nat) : ∀ i j, i ≤ r.length → j ≤ t.length → colT r 1 (t.take j) i = colT t 1 (r.take i) j
  | i, 0, hi, _ => by
    rw [List.take_zero, colT_zero, List.length_take, Nat.min_eq_left hi, Int.one_mul]
    rfl
  | 0, j + 1, _, hj => by
    rw [List.take_zero, colT_zero, List.length_take, Nat.min_eq_left hj, Int.one_mul]
    rfl
  | i + 1, j + 1, hi, hj => by
    have h1 := dist_sym r t i j (by omega) (by omega)
    have h2 := dist_sym r t (i + 1) j hi (by omega)
    have h3 := dist_sym r t i (j + 1) (by omega) hj
    have htj : t.take (j + 1) = t.take j ++ [t[j]] := by rw [List.take_add_one, List.getElem?_eq_getElem (show j < t.length by omega)]; rfl
    have hri : r.take (i + 1) = r.take i ++ [r[i]] := by rw [List.take_add_one, List.getElem?_eq_getElem (show i < r.length by omega)]; rfl
    have e1 : colT r 1 (t.take (j + 1)) (i + 1) = min (colT r 1 (t.take j) i + 1 - if agB (r.getD i 0) t[j] then 1 else 0) (min (colT r 1 (t.take j) (i + 1) + 1) (colT r 1 (t.take (j + 1)) i + 1)) := by
      conv => lhs; rw [htj, colT_snoc]
      show min _ (min _ (stepf 1 _ (colT r 1 (t.take j)) i + 1)) = _
      rw [htj, colT_snoc]
    have e2 : colT t 1 (r.take (i + 1)) (j + 1) = min (colT t 1 (r.take i) j + 1 - if agB (t.getD j 0) r[i] then 1 else 0) (min (colT t 1 (r.take i) (j + 1) + 1) (colT t 1 (r.take (i + 1)) j + 1)) := by
      conv => lhs; rw [hri, colT_snoc]
      show min _ (min _ (stepf 1 _ (colT t 1 (r.take i)) j + 1)) = _
      rw [hri, colT_snoc]
    rw [e1, e2, h1, h2, h3, getD_at (show i < r.length by omega), getD_at (show j < t.length by omega), agB_comm]
    rw [Int.min_comm (colT t 1 (r.take (i + 1)) j + 1)]
theorem dist_comm (r t : List Nat) : colT r 1 t r.length = colT t 1 r t.length := by
  have h := dist_sym r t r.length t.length (Nat.le_refl _) (Nat.le_refl _)
  rw [List.take_length, List.take_length] at h
  exact h
/-! ### ends as data -/
def endsN (r t : List Nat) (k : Int) (j : Nat) : List (Nat × Int) := ((List.range j).map fun e => (e, colT r 0 (t.take e) r.length)).filter fun p => decide (p.2 ≤ k)
theorem endsN_succ (r t : List Nat) (k : Int) (j : Nat) : endsN r t k (j + 1) = endsN r t k j ++ (if colT r 0 (t.take j) r.length ≤ k then [(j, colT r 0 (t.take j) r.length)] else []) := by
  unfold endsN
  rw [List.range_succ, List.map_append, List.filter_append]
  congr 1
  show List.filter _ [(j, colT r 0 (t.take j) r.length)] = _
  by_cases h : colT r 0 (t.take j) r.length ≤ k
  · rw [if_pos h]
    simp [List.filter, h]
  · rw [if_neg h]
    simp [List.filter, h]
theorem endsN_len (r t : List Nat) (k : Int) (j : Nat) : (endsN r t k j).length ≤ j := by
  unfold endsN
  have h := List.length_filter_le (fun p : Nat × Int => decide (p.2 ≤ k)) ((List.range j).map fun e => (e, colT r 0 (t.take e) r.length))
  rw [List.length_map, List.length_range] at h
  exact h
def dEv (rs : List (Nat × Int)) : PyData := .list (rs.map fun r => .tuple [.int (r.1 : Int), .int r.2])
theorem can_dEv (rs : List (Nat × Int)) : (dEv rs).canLay0 = true := by
  show PyData.canLayAll0 (rs.map fun r => .tuple [.int (r.1 : Int), .int r.2]) = true
  induction rs with
  | nil => rfl
  | cons r t ih => exact ih
theorem shaped_dEv (rs : List (Nat × Int)) : SeqAt.shaped (dEv rs) = true := by
  have h : PyData.depthAll (rs.map fun r => .tuple [.int (r.1 : Int), .int r.2]) ≤ 1 := by
    induction rs with
    | nil => exact Nat.zero_le _
    | cons l r ih =>
      show max (max 0 (max 0 0) + 1) (PyData.depthAll (r.map fun r => .tuple [.int (r.1 : Int), .int r.2])) ≤ 1
      omega
  have h2 : PyData.depth (dEv rs) ≤ 64 := by
    show PyData.depthAll (rs.map fun r => .tuple [.int (r.1 : Int), .int r.2]) + 1 ≤ 64
    omega
  unfold SeqAt.shaped
  rw [can_dEv, decide_eq_true h2]
  rfl
theorem eqv_dEv (rs : List (Nat × Int)) : PyData.eqv (dEv rs) (dEv rs) = true := SeqAt.eqv_refl _ (can_dEv rs)
theorem dp_evs {K : PySem.W.Frag} {H : Hp} : ∀ {xs : List V} {rs : List (Nat × Int)}, Evs H xs rs → DpAll K H xs (rs.map fun r => .tuple [.int (r.1 : Int), .int r.2])
  | _, _, .nil => .nil
  | _, _, .cons ⟨q, e, h⟩ t => by
    subst e
    exact .cons (.tup (.inl (.inl h)) (.cons (.int _) (.cons (.int _) .nil))) (dp_evs t)
theorem scLRead : FnScope ["cell", "text", "size", "x", "start", "read", "k", "y", "at", "letter"] ["cell", "text", "size"] (defScope sLRead) := ⟨rfl, rfl, rfl, by decide +kernel, rfl, by decide +kernel, by decide +kernel⟩
def NL : List Str := ["script", "first", "text", "size", "read", "k", "told", "row", "found", "one", "e"]
theorem scLaw : FnScope NL ["script"] (defScope sLaw) := ⟨rfl, rfl, rfl, by decide +kernel, rfl, by decide +kernel, by decide +kernel⟩
theorem sg_at (x : Int) : ∃ c, Sg c ∧ atI (Str.ofString "ACGTN").cps.toList (x % 5) = some c := by
  have h : x % 5 = 0 ∨ x % 5 = 1 ∨ x % 5 = 2 ∨ x % 5 = 3 ∨ x % 5 = 4 := by omega
  rcases h with h | h | h | h | h <;> rw [h]
  · exact ⟨65, .inl rfl, by decide +kernel⟩
  · exact ⟨67, .inr (.inl rfl), by decide +kernel⟩
  · exact ⟨71, .inr (.inr (.inl rfl)), by decide +kernel⟩
  · exact ⟨84, .inr (.inr (.inr (.inl rfl))), by decide +kernel⟩
  · exact ⟨78, .inr (.inr (.inr (.inr rfl))), by decide +kernel⟩
section
variable {P : Program} {w : World} {K : PySem.W.Frag} {mg : Str → Option Value} {base : Heap}
def spLDist : Sp := fun vs H Q _ => ∃ r t : List Nat, vs = [.str (T r), .str (T t)] ∧ r.length ≤ 10000 ∧ t.length ≤ 90000 ∧ ∀ H', Same H H' → Q (.int (colT r 1 t r.length)) H'
theorem ok_ldist {f : Addr} {fd : FuncData} {k : Nat} (F : Fun K "_law_distance" "_law_distance" sLDist f fd) (B : Bl mg) (mmin : mg "min" = none) (hA : Has P w K mg base (k + 1) "_law_agree" ["a", "b"] spAg) : FnOk P w K mg base CX0 (k + 2) f fd ["first", "second"] spLDist := by
  obtain ⟨fA, dA, GA, gA, kA, bA⟩ := hA
  refine F.ok scLDist (fun vs H Q E h => ?_) (fun cdv A outer s H vs Q E hr h => ?_)
  · obtain ⟨r, t, rfl, _⟩ := h
    rfl
  · obtain ⟨r, t, rfl, hrl, htl, q⟩ := h
    refine ⟨_, (pss_cons (ps_setLc (i := 2) (own := [("k", 7)]) (g := gName 7) (tt := tYes) (te := tVar 7) (by rfl) scLDist.nd rfl rfl (sw_true rfl rfl rfl (by decide +kernel)) (pi_range1 rfl B.range (pa_cons (pe_op op_add (pe_callB call_len_str (by rfl) B.len PySem.boot_len (pa_cons (pv 0) pa_nil)) pe_int) pa_nil)) (blkOk_by (own := [("k", 7)]) (N := ["first", "second", "column", "letter", "news", "i", "pair", "k"]) (sc := defScope sLDist) (by decide +kernel)) (fun _ _ _ _ _ => pg_name (i := 7) scLDist.nd rfl (Or.inl rfl)) (fun _ _ _ _ _ => pts_nil) (fun _ _ _ _ _ => pv 7))
      (pss_cons (ps_for PassesOwn.never rfl (pi_str (pv 1)) (pg_name (i := 3) scLDist.nd rfl (.inl rfl))
        (pss_cons (ps_set (i := 4) scLDist.nd rfl (.inl rfl) (pe_lst (pa_cons (pe_op op_add (pe_ix ix_list (pv 2) pe_int (fun _ _ => rfl)) pe_int) pa_nil)))
      (pss_cons (ps_for PassesOwn.never rfl (pi_range1 rfl B.range (pa_cons (pe_callB call_len_str (by rfl) B.len PySem.boot_len (pa_cons (pv 0) pa_nil)) pa_nil)) (pg_name (i := 5) scLDist.nd rfl (.inl rfl))
        (pss_cons (ps_set (i := 6) scLDist.nd rfl (.inl rfl) (pe_op op_sub (pe_op op_add (pe_ix ix_list (pv 2) (pv 5) (fun _ _ => rfl)) pe_int) (pe_callTy call_int1 (by rfl) B.int (by decide +kernel) (pa_cons (pe_call GA hr (by rfl) gA kA bA .nil pass0 (pa_cons (pe_ix ix_str (pv 0) (pv 5) (fun _ _ => rfl)) (pa_cons (pv 3) pa_nil))) pa_nil))))
      (pss_one (ps_expr (pe_bm PySem.F.plainAttrs_list PySem.F.slot_list_append PySem.F.type_list_append mt_append (pv 4) (pa_cons (pe_callB (call_min3Nu rfl) (by rfl) mmin (by decide +kernel) (pa_cons (pv 6) (pa_cons (pe_op op_add (pe_ix ix_list (pv 2) (pe_op op_add (pv 5) pe_int) (fun _ _ => rfl)) pe_int) (pa_cons (pe_op op_add (pe_ix ix_list (pv 4) (pv 5) (fun _ _ => rfl)) pe_int) pa_nil)))) pa_nil))))))
      (pss_one (ps_set (i := 2) scLDist.nd rfl (.inl rfl) (pv 4))))))
      (pss_one (ps_ret (pe_ix ix_list (pv 2) (pe_callB call_len_str (by rfl) B.len PySem.boot_len (pa_cons (pv 0) pa_nil)) (fun _ _ => rfl)))))), ?_⟩
    have hz : (T r).length ≤ sizeLine := line_ok (by rw [T_len]; omega)
    refine ⟨_, rfl, T r, rfl, hz, _, 1, rfl, rfl, _, rfl, by rw [T_len]; omega, by rw [T_len]; omega, fun D hD => ?_⟩
    have en : (((T r).length : Int) + 1).toNat = r.length + 1 := by rw [T_len]; omega
    refine lc_range (lo := 0) (n := (((T r).length : Int) + 1).toNat) (fun j H1 => Same H H1 ∧ H1 D = some (LI (cl (fun i => (i : Int)) j))) ⟨same_upd hD, upd_same⟩ ?_ ?_
    · rintro j H1 hj ⟨s1, hd⟩
      rw [en] at hj
      refine ⟨rfl, ?_⟩
      dsimp only [tYes]
      rw [if_pos rfl]
      refine ⟨_, rfl, _, hd, line_ok6 (by rw [List.length_map, cl_len]; omega), fun b o e => ?_, ?_⟩
      · rw [upd_ne (ne_of_none e hD)]
        exact s1 b o e
      · rw [upd_same, cl_snoc, Int.zero_add]
    rintro H1 ⟨s1, hd⟩
    rw [en] at hd
    refine ⟨_, rfl, T t, rfl, ?_⟩
    refine for_str (z := T t) (fun j σ H' => j ≤ t.length ∧ Same H H' ∧ ∃ (c : Addr) (v3 v4 v5 v6 : Option V), H' c = some (LI (cl (colT r 1 (t.take j)) (r.length + 1))) ∧ σ = [some (.str (T r)), some (.str (T t)), some (.ref c), v3, v4, v5, v6, none]) ⟨Nat.zero_le _, s1, D, none, none, none, none, by rw [List.take_zero]; exact hd, rfl⟩ ?_ ?_
    · rintro j e σ H3 he ⟨_, s3, c, v3, v4, v5, v6, hc, rfl⟩
      rw [T_at] at he
      have hjt : j < t.length := (List.getElem?_eq_some_iff.mp he).1
      have ht2 : t.take (j + 1) = t.take j ++ [e] := by rw [List.take_add_one, he]; rfl
      have ix00 : atI ((cl (colT r 1 (t.take j)) (r.length + 1)).map V.int) ((0 : Nat) : Int) = some (.int (colT r 1 (t.take j) 0)) := atI_nat (cl_at (by omega))
      refine ⟨_, rfl, c, _, _, _, rfl, rfl, .inl (.inl hc), ix00, _, 1, rfl, rfl, by show 1 ≤ sizeLine; decide, fun n hn => ?_⟩
      have ncn : c ≠ n := ne_of_none hc hn
      have hnH : H n = none := s3.free hn
      have sn := same_upd (o := .lst [.int (colT r 1 (t.take j) 0 + 1)]) hn
      have hc2 := sn _ _ hc
      have s4 := s3.trans sn
      have hn2 : (upd H3 n (.lst [.int (colT r 1 (t.take j) 0 + 1)])) n = some (LI (cl (colT r 1 (t.take (j + 1))) 1)) := by
        rw [upd_same]
        have e0 : colT r 1 (t.take (j + 1)) 0 = colT r 1 (t.take j) 0 + 1 := by
          rw [ht2, colT_snoc]
          rfl
        show some (HO.lst [V.int (colT r 1 (t.take j) 0 + 1)]) = some (HO.lst [V.int (colT r 1 (t.take (j + 1)) 0)])
        rw [e0]
      generalize upd H3 n (.lst [.int (colT r 1 (t.take j) 0 + 1)]) = H4 at hc2 s4 hn2 ⊢
      refine ⟨_, rfl, T r, rfl, hz, _, rfl, by rw [T_len]; omega, by rw [T_len]; omega, ?_⟩
      rw [T_len, Int.toNat_natCast]
      refine for_range (lo := 0) (n := r.length) (fun i σ H' => Same H H' ∧ H' c = some (LI (cl (colT r 1 (t.take j)) (r.length + 1))) ∧ H' n = some (LI (cl (colT r 1 (t.take (j + 1))) (i + 1))) ∧ ∃ v5 v6 : Option V, σ = [some (.str (T r)), some (.str (T t)), some (.ref c), some (.str ⟨#[e]⟩), some (.ref n), v5, v6, none]) ⟨s4, hc2, hn2, v5, v6, rfl⟩ ?_ ?_
      · rintro i σ H5 hi ⟨s5, hc5, hn5, v5, v6, rfl⟩
        have a0 : (0 : Int) + (i : Nat) = (i : Nat) := by omega
        have a1 : (0 : Int) + (i : Nat) + 1 = ((i + 1 : Nat) : Int) := by omega
        have ix0 : atI ((cl (colT r 1 (t.take j)) (r.length + 1)).map V.int) (0 + (i : Nat)) = some (.int (colT r 1 (t.take j) i)) := by rw [a0]; exact atI_nat (cl_at (by omega))
        have ix1 : atI ((cl (colT r 1 (t.take j)) (r.length + 1)).map V.int) (0 + (i : Nat) + 1) = some (.int (colT r 1 (t.take j) (i + 1))) := by rw [a1]; exact atI_nat (cl_at (by omega))
        have ixn : atI ((cl (colT r 1 (t.take (j + 1))) (i + 1)).map V.int) (0 + (i : Nat)) = some (.int (colT r 1 (t.take (j + 1)) i)) := by rw [a0]; exact atI_nat (cl_at (by omega))
        have ai := at_T hi
        rw [← a0] at ai
        refine ⟨_, rfl, _, rfl, c, _, _, _, rfl, rfl, .inl (.inl hc5), ix0, _, 1, rfl, rfl, _, rfl, _, rfl, T r, _, _, rfl, rfl, hz, ai, _, rfl, r[i], e, rfl, .inr ⟨_, rfl, _, _, rfl, rfl, ?_⟩⟩
        refine ⟨.ref n, rfl, .inl ⟨rfl, _, .inl (.inl hn5)⟩, _, rfl, _, rfl, _, rfl, _, 1, rfl, rfl, c, _, _, _, rfl, rfl, .inl (.inl hc5), ix1, _, 1, rfl, rfl, _, rfl, _, rfl, n, _, _, _, rfl, rfl, .inl (.inl hn5), ixn, _, 1, rfl, rfl, _, _, _, _, rfl, nm3 _ _ _, ?_⟩
        refine ⟨n, _, _, rfl, rfl, hn5, line_ok6 (by rw [List.length_map, cl_len]; omega), fun b o e => ?_, ?_, ?_, some (.int (0 + (i : Nat))), some _, rfl⟩
        · rw [upd_ne (ne_of_none e hnH)]
          exact s5 _ _ e
        · rw [upd_ne ncn]
          exact hc5
        · rw [upd_same, cl_snoc]
          have e5 : colT r 1 (t.take (j + 1)) (i + 1) = min (colT r 1 (t.take j) i + 1 - if agB r[i] e then 1 else 0) (min (colT r 1 (t.take j) (i + 1) + 1) (colT r 1 (t.take (j + 1)) i + 1)) := by
            rw [ht2, colT_snoc, ← getD_at hi]
            rfl
          rw [e5]
      · rintro σ H5 ⟨s5, hc5, hn5, v5, v6, rfl⟩
        exact ⟨_, rfl, hjt, s5, n, some (.str ⟨#[e]⟩), some (.ref n), v5, v6, hn5, rfl⟩
    · rintro σ H3 ⟨_, s3, c, v3, v4, v5, v6, hc, rfl⟩
      rw [T_size, List.take_length] at hc
      have ixm : atI ((cl (colT r 1 t) (r.length + 1)).map V.int) ((T r).length : Nat) = some (.int (colT r 1 t r.length)) := by rw [T_len]; exact atI_nat (cl_at (by omega))
      exact ⟨_, rfl, _, rfl, T r, rfl, hz, c, _, _, _, rfl, rfl, .inl (.inl hc), ixm, q H3 s3⟩
def spLRead : Sp := fun vs H Q _ => ∃ (c : Int) (t : List Nat) (z : Int), vs = [.int c, .str (T t), .int z] ∧ Dna t ∧ 1 ≤ t.length ∧ t.length ≤ 1000 ∧ ∀ l : List Nat, Dna l → l.length ≤ 8 * (t.length + 1) → Q (.str (T l)) H
theorem cut_dna {l : List Nat} (h : Dna l) (lo hi : Option Int) : ∃ m : List Nat, cutS (T l) lo hi = T m ∧ Dna m ∧ m.length ≤ l.length := by
  obtain ⟨m, e, hm, hl⟩ := cut_some l lo hi
  exact ⟨m, e, fun c hc => h c (hm c hc), hl⟩
theorem ok_lread {f : Addr} {fd : FuncData} {k : Nat} (F : Fun K "_law_read" "_law_read" sLRead f fd) (B : Bl mg) (hU : Has P w K mg base (k + 1) "_law_turned" ["text"] spLTurned) : FnOk P w K mg base CX0 (k + 2) f fd ["cell", "text", "size"] spLRead := by
  obtain ⟨fU, dU, GU, gU, kU, bU⟩ := hU
  refine F.ok scLRead (fun vs H Q E h => ?_) (fun cdv A outer s H vs Q E hr h => ?_)
  · obtain ⟨c, t, z, rfl, _⟩ := h
    rfl
  · obtain ⟨c, t, z, rfl, dt, ht1, htl, q⟩ := h
    refine ⟨_, (C8.pss_cut (ps_set (i := 3) scLRead.nd rfl (.inl rfl) (pe_callB call_abs (by rfl) B.abs (by decide +kernel) (pa_cons (pe_callTy call_int1 (by rfl) B.int (by decide +kernel) (pa_cons (pv 0) pa_nil)) pa_nil)))
      (pss_cons (ps_set (i := 4) scLRead.nd rfl (.inl rfl) (pe_op op_mod (pv 3) (pe_callB call_len_str (by rfl) B.len PySem.boot_len (pa_cons (pv 1) pa_nil))))
      (C8.pss_cut (ps_set (i := 5) scLRead.nd rfl (.inl rfl) (pe_slice sl_str (pv 1) (po_some (pv 4)) (po_some (pe_op op_add (pv 4) (pv 2)))))
      (pss_cons (ps_for PassesOwn.never rfl (pi_range1 rfl B.range (pa_cons (pe_op op_mod (pe_op op_fdiv (pv 3) pe_int) pe_int) pa_nil)) (pg_name (i := 6) scLRead.nd rfl (.inl rfl))
        (C8.pss_cut (ps_set (i := 7) scLRead.nd rfl (.inl rfl) (pe_op op_fdiv (pv 3) (pe_op op_add pe_int (pe_op op_mul pe_int (pv 6)))))
      (C8.pss_cut (ps_set (i := 8) scLRead.nd rfl (.inl rfl) (pe_op op_mod (pv 7) (pe_op op_add (pe_callB call_len_str (by rfl) B.len PySem.boot_len (pa_cons (pv 5) pa_nil)) pe_int)))
      (C8.pss_cut (ps_set (i := 9) scLRead.nd rfl (.inl rfl) (pe_ix ix_str pe_str (pe_op op_mod (pe_op op_fdiv (pv 7) pe_int) pe_int) (fun _ _ => rfl)))
      (pss_one (ps_if (pt_cmpR op_eq (pe_op op_mod (pe_op op_fdiv (pv 7) pe_int) pe_int) pe_int (nomark _)) (pss_one (ps_set (i := 5) scLRead.nd rfl (.inl rfl) (pe_op op_add_str (pe_op op_add_str (pe_slice sl_str (pv 5) po_none (po_some (pv 8))) (pv 9)) (pe_slice sl_str (pv 5) (po_some (pv 8)) po_none)))) (pss_one (ps_if (PW.pt (pw_and (pt_cmpR op_eq (pe_op op_mod (pe_op op_fdiv (pv 7) pe_int) pe_int) pe_int (nomark _)) (pw_and1 (pt_cmpR op_gt (pe_callB call_len_str (by rfl) B.len PySem.boot_len (pa_cons (pv 5) pa_nil)) pe_int (nomark _))))) (pss_one (ps_set (i := 5) scLRead.nd rfl (.inl rfl) (pe_op op_add_str (pe_slice sl_str (pv 5) po_none (po_some (pv 8))) (pe_slice sl_str (pv 5) (po_some (pe_op op_add (pv 8) pe_int)) po_none)))) (pss_one (ps_set (i := 5) scLRead.nd rfl (.inl rfl) (pe_op op_add_str (pe_op op_add_str (pe_slice sl_str (pv 5) po_none (po_some (pv 8))) (pv 9)) (pe_slice sl_str (pv 5) (po_some (pe_op op_add (pv 8) pe_int)) po_none))))))))))))
      (pss_cons (ps_if (pt_cmpR op_eq (pe_op op_mod (pe_op op_fdiv (pv 3) pe_int) pe_int) pe_int (nomark _)) (pss_one (ps_ret (pe_call GU hr (by rfl) gU kU bU .nil pass0 (pa_cons (pv 5) pa_nil)))) pss_nil)
      (pss_one (ps_ret (pv 5)))))))), ?_⟩
    have hz : (T t).length ≤ sizeLine := line_ok (by rw [T_len]; omega)
    refine ⟨fun σ H1 => H1 = H ∧ ∃ x : Int, 0 ≤ x ∧ σ = [some (.int c), some (.str (T t)), some (.int z), some (.int x), none, none, none, none, none, none], ⟨.int c, rfl, .inl ⟨c, rfl, c, rfl, rfl, if c < 0 then -c else c, by split <;> omega, rfl⟩⟩, ?_⟩
    rintro σ H1 ⟨rfl, x, x0, rfl⟩
    refine ⟨_, rfl, _, rfl, T t, rfl, hz, _, _, rfl, rfl, by show (0 : Int) < ((T t).length : Nat); rw [T_len]; omega, ?_⟩
    refine ⟨fun σ H2 => H2 = H1 ∧ ∃ (l : List Nat) (v4 : Option V), Dna l ∧ l.length ≤ t.length ∧ σ = [some (.int c), some (.str (T t)), some (.int z), some (.int x), v4, some (.str (T l)), none, none, none, none], ?_, ?_⟩
    · obtain ⟨m, em, dm, lm⟩ := cut_dna dt (some (x % ((T t).length : Nat))) (some (x % ((T t).length : Nat) + z))
      refine ⟨_, rfl, _, rfl, _, rfl, _, rfl, _, rfl, _, _, rfl, rfl, _, rfl, T t, rfl, hz, rfl, m, some (.int (x % ((T t).length : Nat))), dm, lm, ?_⟩
      rw [em]
      rfl
    rintro σ H2 ⟨rfl, l0, v4, dl0, ll0, rfl⟩
    have b0 := Int.emod_nonneg (x / 101) (show (4 : Int) ≠ 0 by decide)
    have b1 := Int.emod_lt_of_pos (x / 101) (show (0 : Int) < 4 by decide)
    refine ⟨_, rfl, _, 101, rfl, rfl, ⟨by decide, by decide⟩, _, 4, rfl, rfl, (show (0 : Int) < 4 by decide), _, rfl, by omega, by omega, ?_⟩
    refine for_range (lo := 0) (n := (x / 101 % 4).toNat) (fun i σ H' => H' = H2 ∧ ∃ (l : List Nat) (v6 v7 v8 v9 : Option V), Dna l ∧ l.length + 1 ≤ (t.length + 1) * 2 ^ i ∧ σ = [some (.int c), some (.str (T t)), some (.int z), some (.int x), v4, some (.str (T l)), v6, v7, v8, v9]) ⟨rfl, l0, none, none, none, none, dl0, by rw [Nat.pow_zero]; omega, rfl⟩ ?_ ?_
    · rintro i σ H' hi ⟨rfl, l, v6, v7, v8, v9, dl, ll, rfl⟩
      have hi4 : i < 4 := by omega
      have hll : l.length + 1 ≤ 8 * (t.length + 1) := by
        have : (2 : Nat) ^ i ≤ 2 ^ 3 := Nat.pow_le_pow_right (by decide) (by omega)
        have h2 := Nat.mul_le_mul_left (t.length + 1) this
        omega
      have hpow : (t.length + 1) * 2 ^ (i + 1) = 2 * ((t.length + 1) * 2 ^ i) := by
        rw [Nat.pow_succ, ← Nat.mul_assoc, Nat.mul_comm]
      have hzl : (T l).length ≤ sizeLine := line_ok (by rw [T_len]; omega)
      refine ⟨fun σ H3 => H3 = H' ∧ ∃ y : Int, σ = [some (.int c), some (.str (T t)), some (.int z), some (.int x), v4, some (.str (T l)), some (.int (0 + (i : Nat))), some (.int y), v8, v9], ⟨_, rfl, _, rfl, 17, _, rfl, rfl, .inl ⟨by decide, by decide⟩, 303, _, rfl, rfl, x, _, rfl, rfl, ⟨by omega, by omega⟩, rfl, _, rfl⟩, ?_⟩
      rintro σ H3 ⟨rfl, y, rfl⟩
      refine ⟨fun σ H4 => H4 = H3 ∧ ∃ a : Int, σ = [some (.int c), some (.str (T t)), some (.int z), some (.int x), v4, some (.str (T l)), some (.int (0 + (i : Nat))), some (.int y), some (.int a), v9], ⟨_, rfl, _, rfl, T l, rfl, hzl, _, 1, rfl, rfl, _, _, rfl, rfl, by show (0 : Int) < ((T l).length : Nat) + 1; omega, rfl, _, rfl⟩, ?_⟩
      rintro σ H4 ⟨rfl, a, rfl⟩
      refine ⟨fun σ H5 => H5 = H4 ∧ ∃ d : Nat, Sg d ∧ σ = [some (.int c), some (.str (T t)), some (.int z), some (.int x), v4, some (.str (T l)), some (.int (0 + (i : Nat))), some (.int y), some (.int a), some (.str (T [d]))], ?_, ?_⟩
      · obtain ⟨d, hd, hat⟩ := sg_at (y / 7)
        exact ⟨_, rfl, y, 7, rfl, rfl, ⟨by decide, by decide⟩, _, 5, rfl, rfl, (show (0 : Int) < 5 by decide), _, _, d, rfl, rfl, by decide, hat, rfl, d, hd, rfl⟩
      rintro σ H5 ⟨rfl, d, hd, rfl⟩
      obtain ⟨m1, em1, dm1, lm1⟩ := cut_dna dl none (some a)
      obtain ⟨m2, em2, dm2, lm2⟩ := cut_dna dl (some a) none
      obtain ⟨m3, em3, dm3, lm3⟩ := cut_dna dl (some (a + 1)) none
      have three : ∀ m : List Nat, m.length ≤ l.length → (T m1).length + (T [d]).length ≤ sizeLine ∧ (T m1 ++ T [d]).length + (T m).length ≤ sizeLine ∧ (m1 ++ [d] ++ m).length + 1 ≤ (t.length + 1) * 2 ^ (i + 1) := fun m hm => by
        refine ⟨line_ok (by rw [T_len, T_len, List.length_singleton]; omega), line_ok (by rw [T_app, T_len, T_len, List.length_append, List.length_singleton]; omega), ?_⟩
        rw [hpow, List.length_append, List.length_append, List.length_singleton]
        omega
      refine ⟨_, rfl, y, 35, rfl, rfl, ⟨by decide, by decide⟩, _, 3, rfl, rfl, (show (0 : Int) < 3 by decide), rfl, _, rfl, ite2 (fun _ => ?_) (fun _ => ?_)⟩
      · obtain ⟨h1, h2, h3⟩ := three m2 lm2
        refine ⟨_, rfl, _, rfl, a, rfl, T l, rfl, hzl, _, rfl, _, _, rfl, rfl, by rw [em1]; exact h1, _, rfl, _, rfl, a, rfl, T l, rfl, hzl, _, _, rfl, rfl, by rw [em1, em2]; exact h2, rfl, m1 ++ [d] ++ m2, some (.int (0 + (i : Nat))), some (.int y), some (.int a), some (.str (T [d])), (dm1.app (.one hd)).app dm2, h3, ?_⟩
        rw [em1, em2, ← T_app, ← T_app]
        rfl
      have other : ∃ _ : True, True := ⟨trivial, trivial⟩
      refine ⟨_, rfl, y, 35, rfl, rfl, ⟨by decide, by decide⟩, _, 3, rfl, rfl, (show (0 : Int) < 3 by decide), rfl, _, rfl, ite2 (fun _ => ?_) (fun _ => ?_)⟩
      · refine ⟨_, rfl, T l, rfl, hzl, _, 1, rfl, rfl, _, rfl, ite2 (fun _ => ?_) (fun _ => ?_)⟩
        · refine ⟨_, rfl, _, rfl, a, rfl, T l, rfl, hzl, _, rfl, _, rfl, _, 1, rfl, rfl, a + 1, rfl, T l, rfl, hzl, _, _, rfl, rfl, ?_, rfl, m1 ++ m3, some (.int (0 + (i : Nat))), some (.int y), some (.int a), some (.str (T [d])), dm1.app dm3, ?_, ?_⟩
          · rw [em1, em3]
            exact line_ok (by rw [T_len, T_len]; omega)
          · rw [hpow, List.length_append]
            omega
          · rw [em1, em3, ← T_app]
            rfl
        · obtain ⟨h1, h2, h3⟩ := three m3 lm3
          refine ⟨_, rfl, _, rfl, a, rfl, T l, rfl, hzl, _, rfl, _, _, rfl, rfl, by rw [em1]; exact h1, _, rfl, _, rfl, _, 1, rfl, rfl, a + 1, rfl, T l, rfl, hzl, _, _, rfl, rfl, by rw [em1, em3]; exact h2, rfl, m1 ++ [d] ++ m3, some (.int (0 + (i : Nat))), some (.int y), some (.int a), some (.str (T [d])), (dm1.app (.one hd)).app dm3, h3, ?_⟩
          rw [em1, em3, ← T_app, ← T_app]
          rfl
      · obtain ⟨h1, h2, h3⟩ := three m3 lm3
        refine ⟨_, rfl, _, rfl, a, rfl, T l, rfl, hzl, _, rfl, _, _, rfl, rfl, by rw [em1]; exact h1, _, rfl, _, rfl, _, 1, rfl, rfl, a + 1, rfl, T l, rfl, hzl, _, _, rfl, rfl, by rw [em1, em3]; exact h2, rfl, m1 ++ [d] ++ m3, some (.int (0 + (i : Nat))), some (.int y), some (.int a), some (.str (T [d])), (dm1.app (.one hd)).app dm3, h3, ?_⟩
        rw [em1, em3, ← T_app, ← T_app]
        rfl
    · rintro σ H' ⟨rfl, l, v6, v7, v8, v9, dl, ll, rfl⟩
      have hll : l.length ≤ 8 * (t.length + 1) := by
        have : (2 : Nat) ^ (x / 101 % 4).toNat ≤ 2 ^ 3 := Nat.pow_le_pow_right (by decide) (by omega)
        have h2 := Nat.mul_le_mul_left (t.length + 1) this
        omega
      refine ⟨_, rfl, x, 7777, rfl, rfl, ⟨by decide, by decide⟩, _, 2, rfl, rfl, (show (0 : Int) < 2 by decide), rfl, _, rfl, ite2 (fun _ => ?_) (fun _ => ?_)⟩
      · exact ⟨_, rfl, l, rfl, dl, by omega, q _ (turn_dna dl) (by rw [turn_len]; exact hll)⟩
      · exact ⟨_, rfl, q l dl hll⟩
def spLaw (K : PySem.W.Frag) : Sp := fun vs H Q _ => ∃ (a : Addr) (ns : List Int), vs = [.ref a] ∧ SqL K H a (ns.map V.int) ∧ ∀ H', Q (.bl true) H'
theorem ok_law {f : Addr} {fd : FuncData} (F : Fun K "law" "law" sLaw f fd) (B : Bl mg) (mlist : mg "list" = none) (mtup : mg "tuple" = none) (mall : mg "all" = none)
    (hC : Has P w K mg base 3 "_law_cell" ["script", "k"] (spCell K)) (hT : Has P w K mg base 3 "_law_text" ["cell", "size"] (spText K)) (hI : Has P w K mg base 3 "_law_integer" ["value"] spInteger) (hR : Has P w K mg base 3 "_law_read" ["cell", "text", "size"] spLRead)
    (hD : Has P w K mg base 3 "distance" ["read", "text"] spDist) (hLD : Has P w K mg base 3 "_law_distance" ["first", "second"] spLDist) (hLE : Has P w K mg base 3 "_law_ends" ["read", "text"] spLEnds) (hE : Has P w K mg base 3 "ends" ["read", "text", "k"] spEnds) : FnOk P w K mg base CX0 4 f fd ["script"] (spLaw K) := by
  obtain ⟨fC, dC, GC, gC, kC, bC⟩ := hC
  obtain ⟨fT, dT, GT, gT, kT, bT⟩ := hT
  obtain ⟨fI, dI', GI, gI, kI, bI⟩ := hI
  obtain ⟨fR, dR', GR, gR, kR, bR⟩ := hR
  obtain ⟨fD, dD, GD, gD, kD, bD⟩ := hD
  obtain ⟨fLD, dLD, GLD, gLD, kLD, bLD⟩ := hLD
  obtain ⟨fLE, dLE, GLE, gLE, kLE, bLE⟩ := hLE
  obtain ⟨fE, dE, GE, gE, kE, bE⟩ := hE
  refine F.ok scLaw (fun vs H Q E h => ?_) (fun cdv A outer s H vs Q E hr h => ?_)
  · obtain ⟨c, ns, rfl, _⟩ := h
    rfl
  · obtain ⟨a, ns, rfl, hsq, q⟩ := h
    refine ⟨_, (C8.pss_cut (ps_set (i := 1) scLaw.nd rfl (.inl rfl) (pe_call GC hr (by rfl) gC kC bC .nil pass0 (pa_cons (pv 0) (pa_cons pe_int pa_nil))))
      (C8.pss_cut (ps_set (i := 2) scLaw.nd rfl (.inl rfl) (pe_call GT hr (by rfl) gT kT bT .nil pass0 (pa_cons (pe_call GC hr (by rfl) gC kC bC .nil pass0 (pa_cons (pv 0) (pa_cons pe_int pa_nil))) (pa_cons (pe_op op_mod (pv 1) pe_int) pa_nil))))
      (C8.pss_cut (ps_set (i := 3) scLaw.nd rfl (.inl rfl) (pe_op op_add pe_int (pe_op op_mod (pe_call GC hr (by rfl) gC kC bC .nil pass0 (pa_cons (pv 0) (pa_cons pe_int pa_nil))) pe_int)))
      (C8.pss_cut (ps_if (pt_cmpR op_eq (pe_op op_mod (pe_op op_fdiv (pe_call GC hr (by rfl) gC kC bC .nil pass0 (pa_cons (pv 0) (pa_cons pe_int pa_nil))) pe_int) pe_int) pe_int (nomark _)) (pss_one (ps_set (i := 3) scLaw.nd rfl (.inl rfl) (pe_op op_add pe_int (pv 3)))) pss_nil)
      (C8.pss_cut (ps_set (i := 4) scLaw.nd rfl (.inl rfl) (pe_call GT hr (by rfl) gT kT bT .nil pass0 (pa_cons (pe_call GC hr (by rfl) gC kC bC .nil pass0 (pa_cons (pv 0) (pa_cons pe_int pa_nil))) (pa_cons (pv 3) pa_nil))))
      (C8.pss_cut (ps_if (PW.pt (pw_and (pt_cmpR op_gt (pe_op op_mod (pe_call GC hr (by rfl) gC kC bC .nil pass0 (pa_cons (pv 0) (pa_cons pe_int pa_nil))) pe_int) pe_int (nomark _)) (pw_and1 (pt_cmpR op_gt (pe_callB call_len_str (by rfl) B.len PySem.boot_len (pa_cons (pv 2) pa_nil)) pe_int (nomark _))))) (pss_one (ps_set (i := 4) scLaw.nd rfl (.inl rfl) (pe_call GR hr (by rfl) gR kR bR .nil pass0 (pa_cons (pe_call GC hr (by rfl) gC kC bC .nil pass0 (pa_cons (pv 0) (pa_cons pe_int pa_nil))) (pa_cons (pv 2) (pa_cons (pv 3) pa_nil)))))) pss_nil)
      (C8.pss_cut (ps_set (i := 5) scLaw.nd rfl (.inr rfl) (pe_op op_mod (pe_call GC hr (by rfl) gC kC bC .nil pass0 (pa_cons (pv 0) (pa_cons pe_int pa_nil))) pe_int))
      (C8.pss_cut (ps_if (pt_cmpR op_eq (pe_op op_mod (pe_op op_fdiv (pe_call GC hr (by rfl) gC kC bC .nil pass0 (pa_cons (pv 0) (pa_cons pe_int pa_nil))) pe_int) pe_int) pe_int (nomark _)) (pss_one (ps_set (i := 5) scLaw.nd rfl (.inr rfl) (pe_op op_mod (pe_op op_fdiv (pe_call GC hr (by rfl) gC kC bC .nil pass0 (pa_cons (pv 0) (pa_cons pe_int pa_nil))) pe_int) pe_int))) pss_nil)
      (pss_cons (ps_set (i := 6) scLaw.nd rfl (.inl rfl) (pe_call GD hr (by rfl) gD kD bD .nil pass0 (pa_cons (pv 4) (pa_cons (pv 2) pa_nil))))
      (C8.pss_cut (ps_if (PW.pt (pw_or (pt_not (pt_val (pe_call GI hr (by rfl) gI kI bI .nil pass0 (pa_cons (pv 6) pa_nil)))) (pw_or (pt_cmpR op_ne (pv 6) (pe_call GLD hr (by rfl) gLD kLD bLD .nil pass0 (pa_cons (pv 4) (pa_cons (pv 2) pa_nil))) (nomark _)) (pw_or1 (pt_cmpR op_ne (pe_call GD hr (by rfl) gD kD bD .nil pass0 (pa_cons (pv 2) (pa_cons (pv 4) pa_nil))) (pv 6) (nomark _)))))) (pss_one (ps_ret pe_bl)) pss_nil)
      (C8.pss_cut (ps_if (PW.pt (pw_or (pt_cmpR op_ne (pe_call GD hr (by rfl) gD kD bD .nil pass0 (pa_cons pe_str (pa_cons (pv 2) pa_nil))) (pe_callB call_len_str (by rfl) B.len PySem.boot_len (pa_cons (pv 2) pa_nil)) (nomark _)) (pw_or1 (pt_cmpR op_ne (pe_call GD hr (by rfl) gD kD bD .nil pass0 (pa_cons (pv 4) (pa_cons pe_str pa_nil))) (pe_callB call_len_str (by rfl) B.len PySem.boot_len (pa_cons (pv 4) pa_nil)) (nomark _))))) (pss_one (ps_ret pe_bl)) pss_nil)
      (pss_cons (ps_set (i := 7) scLaw.nd rfl (.inr rfl) (pe_call GLE hr (by rfl) gLE kLE bLE .nil pass0 (pa_cons (pv 4) (pa_cons (pv 2) pa_nil))))
      (pss_cons (ps_set (i := 8) scLaw.nd rfl (.inl rfl) (pe_call GE hr (by rfl) gE kE bE .nil pass0 (pa_cons (pv 4) (pa_cons (pv 2) (pa_cons (pv 5) pa_nil)))))
      (C8.pss_cut (ps_if (PW.pt (pw_or (pt_not (pt_val (pe_callB call_isi (by rfl) B.isin (by decide +kernel) (pa_cons (pv 8) (pa_cons (pe_bltn (v := .ty "list") (by rfl) mlist (by decide +kernel) rfl) pa_nil))))) (pw_or1 (pt_not (pt_val (pe_callB (cr_all rfl) (by rfl) mall (by decide +kernel) (pa_cons (pe_lc (own := [("one", 9)]) (g := gName 9) (tt := tYes) (te := tCB (rIsi K) (tCons (tVar 9) (tCons (tC (.ty "tuple")) tNil))) (by rfl) scLaw.nd (pi_list (pv 8)) (blkOk_by (own := [("one", 9)]) (N := NL) (sc := defScope sLaw) (by decide +kernel)) (fun _ _ _ _ _ => pg_name (i := 9) scLaw.nd rfl (Or.inl rfl)) (fun _ _ _ _ _ => pts_nil) (fun _ _ _ _ _ => pe_callB (r := rIsi K) call_isi (by rfl) B.isin (by decide +kernel) (pa_cons (pv 9) (pa_cons (pe_bltn (v := .ty "tuple") (by rfl) mtup (by decide +kernel) rfl) pa_nil)))) pa_nil))))))) (pss_one (ps_ret pe_bl)) pss_nil)
      (pss_one (ps_ret (pe_cmpR (op_eqD hr.units) (pv 8) (pe_lc (own := [("e", 10)]) (g := gName 10) (tt := tTest (tOp (rI0 fun i j => V.bl (decide (i ≤ j))) (tOp (rIxL K) (tVar 7) (tVar 10)) (tVar 5))) (te := tTup (tCons (tVar 10) (tCons (tOp (rIxL K) (tVar 7) (tVar 10)) tNil))) (by rfl) scLaw.nd (pi_range1 rfl B.range (pa_cons (pe_callB call_len_seq (by rfl) B.len PySem.boot_len (pa_cons (pv 7) pa_nil)) pa_nil)) (blkOk_by (own := [("e", 10)]) (N := NL) (sc := defScope sLaw) (by decide +kernel)) (fun _ _ _ _ _ => pg_name (i := 10) scLaw.nd rfl (Or.inl rfl)) (fun _ _ _ _ _ => pts_one (pt_cmpR op_le (pe_ix (r := rIxL K) ix_list (pv 7) (pv 10) (fun _ _ => rfl)) (pv 5) (nomark _))) (fun _ _ _ _ _ => pe_tup (pa_cons (pv 10) (pa_cons (pe_ix (r := rIxL K) ix_list (pv 7) (pv 10) (fun _ _ => rfl)) pa_nil)))) (nomark _)))))))))))))))))), ?_⟩
    have dnil : Dna [] := fun c hc => by cases hc
    refine ⟨fun σ H1 => H1 = H ∧ ∃ x : Int, σ = [some (.ref a), some (.int x), none, none, none, none, none, none, none, none, none], ⟨.ref a, rfl, a, ns, 0, rfl, hsq, fun x => ⟨rfl, x, rfl⟩⟩, ?_⟩
    rintro σ H1 ⟨rfl, x, rfl⟩
    refine ⟨fun σ H2 => Same H1 H2 ∧ ∃ t : List Nat, Dna t ∧ t.length ≤ 60 ∧ σ = [some (.ref a), some (.int x), some (.str (T t)), none, none, none, none, none, none, none, none], ?_, ?_⟩
    · have m0 : 0 ≤ x % 61 := Int.emod_nonneg _ (by decide)
      have m1 : x % 61 < 61 := Int.emod_lt_of_pos _ (by decide)
      exact ⟨.ref a, rfl, a, ns, 1, rfl, hsq, fun y => ⟨.int x, rfl, x, 61, rfl, rfl, (show (0 : Int) < 61 by decide), y, x % 61, rfl, m0, by omega, fun H2 t s2 dt lt => ⟨s2, t, dt, by omega, rfl⟩⟩⟩
    rintro σ H2 ⟨s2, t, dt, lt, rfl⟩
    refine ⟨fun σ H3 => H3 = H2 ∧ ∃ z : Int, 1 ≤ z ∧ z ≤ 40 ∧ σ = [some (.ref a), some (.int x), some (.str (T t)), some (.int z), none, none, none, none, none, none, none], ?_, ?_⟩
    · refine ⟨.ref a, rfl, a, ns, 4, rfl, s2.seq hsq, fun y => ⟨y, 40, rfl, rfl, (show (0 : Int) < 40 by decide), 1, _, rfl, rfl, rfl, 1 + y % 40, ?_, ?_, rfl⟩⟩
      · have := Int.emod_nonneg y (show (40 : Int) ≠ 0 by decide)
        omega
      · have := Int.emod_lt_of_pos y (show (0 : Int) < 40 by decide)
        omega
    rintro σ H3 ⟨rfl, z, z1, z2, rfl⟩
    refine ⟨fun σ H4 => H4 = H3 ∧ ∃ z : Int, 1 ≤ z ∧ z ≤ 100 ∧ σ = [some (.ref a), some (.int x), some (.str (T t)), some (.int z), none, none, none, none, none, none, none], ?_, ?_⟩
    · refine ⟨.ref a, rfl, a, ns, 4, rfl, s2.seq hsq, fun y => ⟨y, 40, rfl, rfl, ⟨by decide, by decide⟩, _, 6, rfl, rfl, (show (0 : Int) < 6 by decide), rfl, _, rfl, ite2 (fun _ => ?_) (fun _ => ⟨rfl, z, z1, by omega, rfl⟩)⟩⟩
      exact ⟨_, rfl, 60, z, rfl, rfl, rfl, 60 + z, by omega, by omega, rfl⟩
    rintro σ H4 ⟨rfl, z, z1, z2, rfl⟩
    refine ⟨fun σ H5 => Same H1 H5 ∧ ∃ r : List Nat, Dna r ∧ r.length ≤ 1000 ∧ σ = [some (.ref a), some (.int x), some (.str (T t)), some (.int z), some (.str (T r)), none, none, none, none, none, none], ⟨.ref a, rfl, a, ns, 2, rfl, s2.seq hsq, fun y => ⟨_, rfl, y, z, rfl, by omega, by omega, fun H5 r s5 dr lr => ⟨s2.trans s5, r, dr, by omega, rfl⟩⟩⟩, ?_⟩
    rintro σ H5 ⟨s5, r, dr, lr, rfl⟩
    have hzt : (T t).length ≤ sizeLine := line_ok (by rw [T_len]; omega)
    refine ⟨fun σ H6 => H6 = H5 ∧ ∃ r : List Nat, Dna r ∧ r.length ≤ 1000 ∧ σ = [some (.ref a), some (.int x), some (.str (T t)), some (.int z), some (.str (T r)), none, none, none, none, none, none], ?_, ?_⟩
    · refine ⟨.ref a, rfl, a, ns, 5, rfl, s5.seq hsq, fun y => ⟨y, 3, rfl, rfl, (show (0 : Int) < 3 by decide), _, 0, rfl, rfl, _, rfl, ite2 (fun _ => ?_) (fun _ => ⟨rfl, r, dr, lr, rfl⟩)⟩⟩
      refine ⟨_, rfl, T t, rfl, hzt, _, 0, rfl, rfl, _, rfl, ite2 (fun e => ?_) (fun _ => ⟨rfl, r, dr, lr, rfl⟩)⟩
      have ht1 : 1 ≤ t.length := by
        have := of_decide_eq_true e
        rw [T_len] at this
        omega
      exact ⟨.ref a, rfl, a, ns, 2, rfl, s5.seq hsq, fun y => ⟨_, rfl, _, rfl, y, t, z, rfl, dt, ht1, by omega, fun l dl ll => ⟨rfl, l, dl, by omega, rfl⟩⟩⟩
    rintro σ H6 ⟨rfl, r, dr, lr, rfl⟩
    refine ⟨fun σ H7 => H7 = H6 ∧ ∃ k : Int, σ = [some (.ref a), some (.int x), some (.str (T t)), some (.int z), some (.str (T r)), some (.int k), none, none, none, none, none], ⟨.ref a, rfl, a, ns, 3, rfl, s5.seq hsq, fun y => ⟨y, 6, rfl, rfl, (show (0 : Int) < 6 by decide), rfl, _, rfl⟩⟩, ?_⟩
    rintro σ H7 ⟨rfl, k, rfl⟩
    refine ⟨fun σ H8 => H8 = H7 ∧ ∃ k : Int, σ = [some (.ref a), some (.int x), some (.str (T t)), some (.int z), some (.str (T r)), some (.int k), none, none, none, none, none], ?_, ?_⟩
    · refine ⟨.ref a, rfl, a, ns, 3, rfl, s5.seq hsq, fun y => ⟨y, 6, rfl, rfl, ⟨by decide, by decide⟩, _, 5, rfl, rfl, (show (0 : Int) < 5 by decide), rfl, _, rfl, ite2 (fun _ => ?_) (fun _ => ⟨rfl, k, rfl⟩)⟩⟩
      exact ⟨.ref a, rfl, a, ns, 3, rfl, s5.seq hsq, fun y => ⟨y, 30, rfl, rfl, ⟨by decide, by decide⟩, _, 51, rfl, rfl, (show (0 : Int) < 51 by decide), rfl, _, rfl⟩⟩
    rintro σ H8 ⟨rfl, k, rfl⟩
    -- distances
    refine ⟨_, rfl, _, rfl, r, t, rfl, dr, dt, by omega, by omega, fun H9 s9 => ?_⟩
    refine ⟨fun σ H' => Same H1 H' ∧ ∃ v6 : Option V, σ = [some (.ref a), some (.int x), some (.str (T t)), some (.int z), some (.str (T r)), some (.int k), v6, none, none, none, none], ?_, ?_⟩
    · refine ⟨_, rfl, _, rfl, true, rfl, iteF ⟨_, rfl, _, rfl, _, rfl, r, t, rfl, by omega, by omega, fun Ha sa => ⟨rfl, _, rfl, iteNS rfl ⟨_, rfl, _, rfl, t, r, rfl, dt, dr, by omega, by omega, fun Hb sb => ⟨_, rfl, rfl, _, rfl, iteNS (by rw [dist_comm]) ⟨((s5.trans s9).trans sa).trans sb, _, rfl⟩⟩⟩⟩⟩⟩
    rintro σ Ha ⟨sa, v6, rfl⟩
    have hzr : (T r).length ≤ sizeLine := line_ok (by rw [T_len]; omega)
    refine ⟨fun σ H' => Same H1 H' ∧ σ = [some (.ref a), some (.int x), some (.str (T t)), some (.int z), some (.str (T r)), some (.int k), v6, none, none, none, none], ?_, ?_⟩
    · have e1 : colT [] 1 t ([] : List Nat).length = (t.length : Int) := by
        show colT [] 1 t 0 = _
        rw [colT_zero, Int.one_mul]
      refine ⟨_, rfl, [], t, by rw [← T_nil]; rfl, dnil, dt, by decide, by omega, fun Hb sb => ⟨_, rfl, T t, rfl, hzt, rfl, _, rfl, iteNS (by rw [e1, T_len]) ?_⟩⟩
      exact ⟨_, rfl, r, [], by rw [← T_nil]; rfl, dr, dnil, by omega, by decide, fun Hc sc => ⟨_, rfl, T r, rfl, hzr, rfl, _, rfl, iteNS (by rw [colT_nil, T_len]) ⟨(sa.trans sb).trans sc, rfl⟩⟩⟩
    rintro σ Hb ⟨sb, rfl⟩
    -- ends
    refine ⟨_, rfl, _, rfl, r, t, rfl, by omega, by omega, fun Hc pr sc hpr0 hpr => ?_⟩
    refine ⟨_, rfl, _, rfl, _, rfl, r, t, k, rfl, dr, dt, by omega, by omega, fun Hd p xs sd hp0 hp hev => ?_⟩
    have hprd := sd _ _ hpr
    have hxl : xs.length ≤ t.length + 1 := by
      rw [paired_len hev]
      exact endsTo_len r t k t.length
    refine ⟨fun σ H' => Same Hd H' ∧ σ = [some (.ref a), some (.int x), some (.str (T t)), some (.int z), some (.str (T r)), some (.int k), v6, some (.ref pr), some (.ref p), none, none], ?_, ?_⟩
    · refine ⟨.ref p, rfl, .ref p, .ty "list", _, _, true, rfl, .ty _, .base (.lst hp), kit_ty (by decide +kernel), true, rfl, iteF ?_⟩
      refine ⟨.ref p, rfl, p, rfl, ⟨xs, .inl (.inl hp)⟩, fun D hD => ?_⟩
      refine lc_list (K := K) (xs := xs) (fun j H6 => Same Hd H6 ∧ j ≤ xs.length ∧ H6 D = some (.lst ((List.replicate j true).map V.bl))) ⟨same_upd hD, Nat.zero_le _, upd_same⟩ (fun j H6 _ h => h.1.seq (.inl (.inl hp))) ?_ ?_
      · rintro j y H6 hjy ⟨s6, _, h6⟩
        have hj : j < xs.length := (List.getElem?_eq_some_iff.mp hjy).1
        obtain ⟨e, he, qa, rfl, hqa⟩ := paired_get hev hjy
        refine ⟨rfl, ?_⟩
        dsimp only [tYes]
        rw [if_pos rfl]
        refine ⟨.ref qa, rfl, .ref qa, .ty "tuple", _, _, true, rfl, .ty _, .base (.tup (s6 _ _ hqa)), kit_ty (by decide +kernel), _, h6, line_ok6 (by rw [List.length_map, List.length_replicate]; omega), fun b o e => ?_, hj, ?_⟩
        · rw [upd_ne (ne_of_none e hD)]
          exact s6 b o e
        · rw [upd_same, List.replicate_succ', List.map_append]
          rfl
      · rintro H6 ⟨s6, _, h6⟩
        refine ⟨D, _, rfl, .inl (.inl h6), true, ?_, iteF ⟨s6, rfl⟩⟩
        rw [List.all_replicate]
        have e : (if xs.length = 0 then true else id true) = true := by split <;> rfl
        rw [e]
    rintro σ He ⟨se, rfl⟩
    have hpe := se _ _ hp
    have hpre := se _ _ hprd
    have heve : Evs He xs (endsTo r t k t.length) := hev.mono fun b ys hb => se _ _ hb
    have hrl : ((rowE r t (t.length + 1)).map V.int).length = t.length + 1 := by rw [List.length_map, rowE, List.length_map, List.length_range]
    refine ⟨.ref p, rfl, .ref pr, rfl, pr, _, rfl, .inl (.inl (.inl hpre)), _, rfl, by rw [hrl]; omega, by rw [hrl]; omega, fun D hD => ?_⟩
    rw [hrl, Int.toNat_natCast]
    refine lc_range (lo := 0) (n := t.length + 1) (fun j H6 => Same He H6 ∧ ∃ ys : List V, H6 D = some (.lst ys) ∧ Evs H6 ys (endsN r t k j)) ⟨same_upd hD, [], upd_same, .nil⟩ ?_ ?_
    · rintro j H6 hj ⟨s6, ys, h6, hy6⟩
      have hyl : ys.length ≤ j := by
        rw [paired_len hy6]
        exact endsN_len r t k j
      have hat : atI ((rowE r t (t.length + 1)).map V.int) (0 + (j : Nat)) = some (.int (colT r 0 (t.take j) r.length)) := by
        rw [Int.zero_add]
        refine atI_nat ?_
        rw [List.getElem?_map, rowE, List.getElem?_map, List.getElem?_range hj]
        rfl
      have hpr6 := s6 _ _ hpre
      refine ⟨rfl, _, rfl, _, rfl, pr, _, _, _, rfl, rfl, .inl (.inl hpr6), hat, _, rfl, _, _, rfl, rfl, _, rfl, ite2 (fun e => ?_) (fun e => ?_)⟩
      · have hle : colT r 0 (t.take j) r.length ≤ k := of_decide_eq_true e
        refine ⟨_, rfl, _, rfl, _, rfl, pr, _, _, _, rfl, rfl, .inl (.inl hpr6), hat, by show 2 ≤ sizeLine; decide, fun u hu => ?_⟩
        have nDu : D ≠ u := ne_of_none h6 hu
        refine ⟨ys, by rw [upd_ne nDu]; exact h6, line_ok6 (by omega), fun b o e => ?_, _, upd_same, ?_⟩
        · rw [upd_ne (ne_of_none e hD)]
          exact same_upd hu _ _ (s6 _ _ e)
        · rw [endsN_succ, if_pos hle]
          refine Paired.snoc (Evs.mono hy6 fun b zs hb => ?_) ⟨u, rfl, ?_⟩
          · rw [upd_ne (fun z => by rw [z, h6] at hb; cases hb), upd_ne (ne_of_none hb hu)]
            exact hb
          · rw [upd_ne nDu.symm, upd_same, Int.zero_add]
      · have hle : ¬ colT r 0 (t.take j) r.length ≤ k := fun z => e (decide_eq_true z)
        refine ⟨s6, ys, h6, ?_⟩
        rw [endsN_succ, if_neg hle, List.append_nil]
        exact hy6
    · rintro H6 ⟨s6, ys, h6, hy6⟩
      have hp6 := s6 _ _ hpe
      have hev6 : Evs H6 xs (endsTo r t k t.length) := heve.mono fun b zs hb => s6 _ _ hb
      refine ⟨dEv (endsTo r t k t.length), dEv (endsTo r t k t.length), .lst (.inl (.inl hp6)) (dp_evs hev6), .lst (.inl (.inl h6)) (dp_evs hy6), shaped_dEv _, shaped_dEv _, ?_⟩
      rw [eqv_dEv]
      exact q _
end
theorem all_mk {l : PySem.W.OpenLaw} {w : World} {K : PySem.W.Frag} {h : Heap} {mg : Str → Option Value} {fa fD fE fG fAR fC fR fI fT fU fLR fLA fLE fLD fL : Addr} (X : K.In h) (G : h.Ns mainGlobals mg) (hfa : mg "law" = some (.ref fa))
    {odD anD : Option Addr} {slD : Array (Option Value)} {ocD kVD dcD pmD cdD ctD : Value}
    {odE anE : Option Addr} {slE : Array (Option Value)} {ocE kVE dcE pmE cdE ctE : Value}
    {odG anG : Option Addr} {slG : Array (Option Value)} {ocG kVG dcG pmG cdG ctG : Value}
    {odAR anAR : Option Addr} {slAR : Array (Option Value)} {ocAR kVAR dcAR pmAR cdAR ctAR : Value}
    {odC anC : Option Addr} {slC : Array (Option Value)} {ocC kVC dcC pmC cdC ctC : Value}
    {odR anR : Option Addr} {slR : Array (Option Value)} {ocR kVR dcR pmR cdR ctR : Value}
    {odI anI : Option Addr} {slI : Array (Option Value)} {ocI kVI dcI pmI cdI ctI : Value}
    {odT anT : Option Addr} {slT : Array (Option Value)} {ocT kVT dcT pmT cdT ctT : Value}
    {odU anU : Option Addr} {slU : Array (Option Value)} {ocU kVU dcU pmU cdU ctU : Value}
    {odLR anLR : Option Addr} {slLR : Array (Option Value)} {ocLR kVLR dcLR pmLR cdLR ctLR : Value}
    {odLA anLA : Option Addr} {slLA : Array (Option Value)} {ocLA kVLA dcLA pmLA cdLA ctLA : Value}
    {odLE anLE : Option Addr} {slLE : Array (Option Value)} {ocLE kVLE dcLE pmLE cdLE ctLE : Value}
    {odLD anLD : Option Addr} {slLD : Array (Option Value)} {ocLD kVLD dcLD pmLD cdLD ctLD : Value}
    {odL anL : Option Addr} {slL : Array (Option Value)} {ocL kVL dcL pmL cdL ctL : Value}
    (aD : PySem.W.nsIn K mainGlobals "distance" = some (some (.ref fD))) (lD : K.lookup fD = some ⟨ocD, odD, .func (PySem.W.fnOf "distance" "distance" (defArgs sDist) (defBody sDist) (defScope sDist) .none kVD dcD pmD anD cdD ctD), slD⟩) (cD : PySem.W.codeIn K cdD "distance" = true) (kD : PySem.W.keepIn K (.ref fD) = true)
    (aE : PySem.W.nsIn K mainGlobals "ends" = some (some (.ref fE))) (lE : K.lookup fE = some ⟨ocE, odE, .func (PySem.W.fnOf "ends" "ends" (defArgs sEnds) (defBody sEnds) (defScope sEnds) .none kVE dcE pmE anE cdE ctE), slE⟩) (cE : PySem.W.codeIn K cdE "ends" = true) (kE : PySem.W.keepIn K (.ref fE) = true)
    (aG : PySem.W.nsIn K mainGlobals "_growths" = some (some (.ref fG))) (lG : K.lookup fG = some ⟨ocG, odG, .func (PySem.W.fnOf "_growths" "_growths" (defArgs sGrow) (defBody sGrow) (defScope sGrow) .none kVG dcG pmG anG cdG ctG), slG⟩) (cG : PySem.W.codeIn K cdG "_growths" = true) (kG : PySem.W.keepIn K (.ref fG) = true)
    (aAR : PySem.W.nsIn K mainGlobals "_agreeing_rows" = some (some (.ref fAR))) (lAR : K.lookup fAR = some ⟨ocAR, odAR, .func (PySem.W.fnOf "_agreeing_rows" "_agreeing_rows" (defArgs sARows) (defBody sARows) (defScope sARows) .none kVAR dcAR pmAR anAR cdAR ctAR), slAR⟩) (cAR : PySem.W.codeIn K cdAR "_agreeing_rows" = true) (kAR : PySem.W.keepIn K (.ref fAR) = true)
    (aC : PySem.W.nsIn K mainGlobals "_law_cell" = some (some (.ref fC))) (lC : K.lookup fC = some ⟨ocC, odC, .func (PySem.W.fnOf "_law_cell" "_law_cell" (defArgs sCell) (defBody sCell) (defScope sCell) .none kVC dcC pmC anC cdC ctC), slC⟩) (cC : PySem.W.codeIn K cdC "_law_cell" = true) (kC : PySem.W.keepIn K (.ref fC) = true)
    (aR : PySem.W.nsIn K mainGlobals "_law_row" = some (some (.ref fR))) (lR : K.lookup fR = some ⟨ocR, odR, .func (PySem.W.fnOf "_law_row" "_law_row" (defArgs sRow) (defBody sRow) (defScope sRow) .none kVR dcR pmR anR cdR ctR), slR⟩) (cR : PySem.W.codeIn K cdR "_law_row" = true) (kR : PySem.W.keepIn K (.ref fR) = true)
    (aI : PySem.W.nsIn K mainGlobals "_law_integer" = some (some (.ref fI))) (lI : K.lookup fI = some ⟨ocI, odI, .func (PySem.W.fnOf "_law_integer" "_law_integer" (defArgs sInteger) (defBody sInteger) (defScope sInteger) .none kVI dcI pmI anI cdI ctI), slI⟩) (cI : PySem.W.codeIn K cdI "_law_integer" = true) (kI : PySem.W.keepIn K (.ref fI) = true)
    (aT : PySem.W.nsIn K mainGlobals "_law_text" = some (some (.ref fT))) (lT : K.lookup fT = some ⟨ocT, odT, .func (PySem.W.fnOf "_law_text" "_law_text" (defArgs sText) (defBody sText) (defScope sText) .none kVT dcT pmT anT cdT ctT), slT⟩) (cT : PySem.W.codeIn K cdT "_law_text" = true) (kT : PySem.W.keepIn K (.ref fT) = true)
    (aU : PySem.W.nsIn K mainGlobals "_law_turned" = some (some (.ref fU))) (lU : K.lookup fU = some ⟨ocU, odU, .func (PySem.W.fnOf "_law_turned" "_law_turned" (defArgs sLTurned) (defBody sLTurned) (defScope sLTurned) .none kVU dcU pmU anU cdU ctU), slU⟩) (cU : PySem.W.codeIn K cdU "_law_turned" = true) (kU : PySem.W.keepIn K (.ref fU) = true)
    (aLR : PySem.W.nsIn K mainGlobals "_law_read" = some (some (.ref fLR))) (lLR : K.lookup fLR = some ⟨ocLR, odLR, .func (PySem.W.fnOf "_law_read" "_law_read" (defArgs sLRead) (defBody sLRead) (defScope sLRead) .none kVLR dcLR pmLR anLR cdLR ctLR), slLR⟩) (cLR : PySem.W.codeIn K cdLR "_law_read" = true) (kLR : PySem.W.keepIn K (.ref fLR) = true)
    (aLA : PySem.W.nsIn K mainGlobals "_law_agree" = some (some (.ref fLA))) (lLA : K.lookup fLA = some ⟨ocLA, odLA, .func (PySem.W.fnOf "_law_agree" "_law_agree" (defArgs sLAgree) (defBody sLAgree) (defScope sLAgree) .none kVLA dcLA pmLA anLA cdLA ctLA), slLA⟩) (cLA : PySem.W.codeIn K cdLA "_law_agree" = true) (kLA : PySem.W.keepIn K (.ref fLA) = true)
    (aLE : PySem.W.nsIn K mainGlobals "_law_ends" = some (some (.ref fLE))) (lLE : K.lookup fLE = some ⟨ocLE, odLE, .func (PySem.W.fnOf "_law_ends" "_law_ends" (defArgs sLEnds) (defBody sLEnds) (defScope sLEnds) .none kVLE dcLE pmLE anLE cdLE ctLE), slLE⟩) (cLE : PySem.W.codeIn K cdLE "_law_ends" = true) (kLE : PySem.W.keepIn K (.ref fLE) = true)
    (aLD : PySem.W.nsIn K mainGlobals "_law_distance" = some (some (.ref fLD))) (lLD : K.lookup fLD = some ⟨ocLD, odLD, .func (PySem.W.fnOf "_law_distance" "_law_distance" (defArgs sLDist) (defBody sLDist) (defScope sLDist) .none kVLD dcLD pmLD anLD cdLD ctLD), slLD⟩) (cLD : PySem.W.codeIn K cdLD "_law_distance" = true) (kLD : PySem.W.keepIn K (.ref fLD) = true)
    (aL : PySem.W.nsIn K mainGlobals "law" = some (some (.ref fL))) (lL : K.lookup fL = some ⟨ocL, odL, .func (PySem.W.fnOf "law" "law" (defArgs sLaw) (defBody sLaw) (defScope sLaw) .none kVL dcL pmL anL cdL ctL), slL⟩) (cL : PySem.W.codeIn K cdL "law" = true) (kL : PySem.W.keepIn K (.ref fL) = true)
    {tLE2 : Tok} (nLE2 : PySem.W.nsIn K mainGlobals "LETTERS" = some (some (.str "ACGTN" tLE2)))
    (zlen : PySem.W.nsIn K mainGlobals "len" = some none) (zint : PySem.W.nsIn K mainGlobals "int" = some none) (zabs : PySem.W.nsIn K mainGlobals "abs" = some none) (zrange : PySem.W.nsIn K mainGlobals "range" = some none) (zisinstance : PySem.W.nsIn K mainGlobals "isinstance" = some none) (zbool : PySem.W.nsIn K mainGlobals "bool" = some none) (zstr : PySem.W.nsIn K mainGlobals "str" = some none) (zlist : PySem.W.nsIn K mainGlobals "list" = some none) (ztuple : PySem.W.nsIn K mainGlobals "tuple" = some none) (zall : PySem.W.nsIn K mainGlobals "all" = some none) (zenumerate : PySem.W.nsIn K mainGlobals "enumerate" = some none) (zsum : PySem.W.nsIn K mainGlobals "sum" = some none) (zmin : PySem.W.nsIn K mainGlobals "min" = some none) :
    ∃ fd : FuncData, (∀ (s : Shared) (v : Value), BindsTo s fd ⟨[v], []⟩ [("script", v)]) ∧ ∀ base : Heap, K.In base → base.Ns mainGlobals mg → FnOk l.prog w K mg base CX0 4 fa fd ["script"] (spLaw K) := by
  have e := hfa.symm.trans (PySem.W.mg_of X G aL)
  cases e
  have FD := fun_mk (st := sDist) lD cD kD
  have FE := fun_mk (st := sEnds) lE cE kE
  have FG := fun_mk (st := sGrow) lG cG kG
  have FAR := fun_mk (st := sARows) lAR cAR kAR
  have FC := fun_mk (st := sCell) lC cC kC
  have FR := fun_mk (st := sRow) lR cR kR
  have FI := fun_mk (st := sInteger) lI cI kI
  have FT := fun_mk (st := sText) lT cT kT
  have FU := fun_mk (st := sLTurned) lU cU kU
  have FLR := fun_mk (st := sLRead) lLR cLR kLR
  have FLA := fun_mk (st := sLAgree) lLA cLA kLA
  have FLE := fun_mk (st := sLEnds) lLE cLE kLE
  have FLD := fun_mk (st := sLDist) lLD cLD kLD
  have FL := fun_mk (st := sLaw) lL cL kL
  have B : Bl mg := ⟨PySem.W.mg_none_of X G zlen, PySem.W.mg_none_of X G zint, PySem.W.mg_none_of X G zabs, PySem.W.mg_none_of X G zrange, PySem.W.mg_none_of X G zisinstance, PySem.W.mg_none_of X G zbool, PySem.W.mg_none_of X G zstr⟩
  have bD := FD.binds (ps := ["read", "text"]) fun _ _ _ _ _ _ us hl => match us, hl with | [_, _], _ => rfl
  have bE := FE.binds (ps := ["read", "text", "k"]) fun _ _ _ _ _ _ us hl => match us, hl with | [_, _, _], _ => rfl
  have bG := FG.binds (ps := ["read", "text", "top"]) fun _ _ _ _ _ _ us hl => match us, hl with | [_, _, _], _ => rfl
  have bAR := FAR.binds (ps := ["read"]) fun _ _ _ _ _ _ us hl => match us, hl with | [_], _ => rfl
  have bC := FC.binds (ps := ["script", "k"]) fun _ _ _ _ _ _ us hl => match us, hl with | [_, _], _ => rfl
  have bR := FR.binds (ps := ["cell", "count", "bound"]) fun _ _ _ _ _ _ us hl => match us, hl with | [_, _, _], _ => rfl
  have bI := FI.binds (ps := ["value"]) fun _ _ _ _ _ _ us hl => match us, hl with | [_], _ => rfl
  have bT := FT.binds (ps := ["cell", "size"]) fun _ _ _ _ _ _ us hl => match us, hl with | [_, _], _ => rfl
  have bU := FU.binds (ps := ["text"]) fun _ _ _ _ _ _ us hl => match us, hl with | [_], _ => rfl
  have bLR := FLR.binds (ps := ["cell", "text", "size"]) fun _ _ _ _ _ _ us hl => match us, hl with | [_, _, _], _ => rfl
  have bLA := FLA.binds (ps := ["a", "b"]) fun _ _ _ _ _ _ us hl => match us, hl with | [_, _], _ => rfl
  have bLE := FLE.binds (ps := ["read", "text"]) fun _ _ _ _ _ _ us hl => match us, hl with | [_, _], _ => rfl
  have bLD := FLD.binds (ps := ["first", "second"]) fun _ _ _ _ _ _ us hl => match us, hl with | [_, _], _ => rfl
  have fin : ∀ base : Heap, FnOk l.prog w K mg base CX0 4 fa _ ["script"] (spLaw K) := fun base =>
    have hAR : Has l.prog w K mg base 1 "_agreeing_rows" ["read"] spARows := ⟨fAR, _, ok_arows FAR (PySem.W.mg_none_of X G zenumerate) (PySem.W.mg_of X G nLE2), PySem.W.mg_of X G aAR, kAR, bAR⟩
    have hG : Has l.prog w K mg base 2 "_growths" ["read", "text", "top"] spGrow := ⟨fG, _, ok_grow FG B.len hAR, PySem.W.mg_of X G aG, kG, bG⟩
    have hLA : Has l.prog w K mg base 2 "_law_agree" ["a", "b"] spAg := ⟨fLA, _, ok_lagree FLA, PySem.W.mg_of X G aLA, kLA, bLA⟩
    have hU : Has l.prog w K mg base 2 "_law_turned" ["text"] spLTurned := ⟨fU, _, ok_lturned FU, PySem.W.mg_of X G aU, kU, bU⟩
    ok_law FL B (PySem.W.mg_none_of X G zlist) (PySem.W.mg_none_of X G ztuple) (PySem.W.mg_none_of X G zall) ⟨fC, _, ok_cell FC B, PySem.W.mg_of X G aC, kC, bC⟩ ⟨fT, _, ok_text (k := 1) FT B (ok_row FR B) (PySem.W.mg_of X G aR) kR bR, PySem.W.mg_of X G aT, kT, bT⟩ ⟨fI, _, ok_integer FI B, PySem.W.mg_of X G aI, kI, bI⟩
      ⟨fLR, _, ok_lread FLR B hU, PySem.W.mg_of X G aLR, kLR, bLR⟩ ⟨fD, _, ok_dist FD B.len (PySem.W.mg_none_of X G zsum) hG, PySem.W.mg_of X G aD, kD, bD⟩ ⟨fLD, _, ok_ldist FLD B (PySem.W.mg_none_of X G zmin) hLA, PySem.W.mg_of X G aLD, kLD, bLD⟩
      ⟨fLE, _, ok_lends FLE B (PySem.W.mg_none_of X G zmin) hLA, PySem.W.mg_of X G aLE, kLE, bLE⟩ ⟨fE, _, ok_ends FE B.len (PySem.W.mg_none_of X G zenumerate) hG, PySem.W.mg_of X G aE, kE, bE⟩
  exact ⟨PySem.W.fnOf "law" "law" (defArgs sLaw) (defBody sLaw) (defScope sLaw) .none kVL dcL pmL anL cdL ctL, fun s v => .of_eq rfl, fun base _ _ => fin base⟩
end Hr
open PySem PySem.W PyProof.Rows
set_option maxHeartbeats 0 in
theorem PySem.Challenge.cw_homereads_k23_distances_and_ends_holds : PySem.Challenge.rw_homereads_k23_distances_and_ends.Holds := by
  w_on; o_law; k_head; (case hw => w_witness2)
  k_fill
  refine L2.walk_of (l := PySem.Challenge.rw_homereads_k23_distances_and_ends) (n := 63) (k := 4) (x := "script") (CX := fun _ => L2.CX0) (sp := fun w => Hr.spLaw _) rfl (by decide) rfl ⟨rfl, by decide, by decide⟩ (fun w h Y => PySem.W.kIn_of Y) ?F (fun _ _ a ns hl _ hS => ⟨a, ns, rfl, hS, fun _ => rfl⟩) (fun _ _ _ _ _ h => h)
  case F =>
    intro w mg fa h KX G hmg
    refine' Hr.all_mk KX G hmg ?aD ?lD ?cD ?kD ?aE ?lE ?cE ?kE ?aG ?lG ?cG ?kG ?aAR ?lAR ?cAR ?kAR ?aC ?lC ?cC ?kC ?aR ?lR ?cR ?kR ?aI ?lI ?cI ?kI ?aT ?lT ?cT ?kT ?aU ?lU ?cU ?kU ?aLR ?lLR ?cLR ?kLR ?aLA ?lLA ?cLA ?kLA ?aLE ?lLE ?cLE ?kLE ?aLD ?lLD ?cLD ?kLD ?aL ?lL ?cL ?kL ?nLE2 ?zlen ?zint ?zabs ?zrange ?zisinstance ?zbool ?zstr ?zlist ?ztuple ?zall ?zenumerate ?zsum ?zmin
    (case aD => k_is)
    (case lD => k_is)
    (case cD => k_is)
    (case kD => k_is)
    (case aE => k_is)
    (case lE => k_is)
    (case cE => k_is)
    (case kE => k_is)
    (case aG => k_is)
    (case lG => k_is)
    (case cG => k_is)
    (case kG => k_is)
    (case aAR => k_is)
    (case lAR => k_is)
    (case cAR => k_is)
    (case kAR => k_is)
    (case aC => k_is)
    (case lC => k_is)
    (case cC => k_is)
    (case kC => k_is)
    (case aR => k_is)
    (case lR => k_is)
    (case cR => k_is)
    (case kR => k_is)
    (case aI => k_is)
    (case lI => k_is)
    (case cI => k_is)
    (case kI => k_is)
    (case aT => k_is)
    (case lT => k_is)
    (case cT => k_is)
    (case kT => k_is)
    (case aU => k_is)
    (case lU => k_is)
    (case cU => k_is)
    (case kU => k_is)
    (case aLR => k_is)
    (case lLR => k_is)
    (case cLR => k_is)
    (case kLR => k_is)
    (case aLA => k_is)
    (case lLA => k_is)
    (case cLA => k_is)
    (case kLA => k_is)
    (case aLE => k_is)
    (case lLE => k_is)
    (case cLE => k_is)
    (case kLE => k_is)
    (case aLD => k_is)
    (case lLD => k_is)
    (case cLD => k_is)
    (case kLD => k_is)
    (case aL => k_is)
    (case lL => k_is)
    (case cL => k_is)
    (case kL => k_is)
    (case nLE2 => k_is)
    (case zlen => k_is)
    (case zint => k_is)
    (case zabs => k_is)
    (case zrange => k_is)
    (case zisinstance => k_is)
    (case zbool => k_is)
    (case zstr => k_is)
    (case zlist => k_is)
    (case ztuple => k_is)
    (case zall => k_is)
    (case zenumerate => k_is)
    (case zsum => k_is)
    (case zmin => k_is)
