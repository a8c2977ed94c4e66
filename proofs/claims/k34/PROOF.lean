import PyProof.Rows.All
import Wide.All
import OpenK.AllK
import Wide.FinOn
import HandS.Base
import HandS.Call
import HandS.List
import HandS.Comp
import HandS.Ends
import HandS.Dict
import HandS.Iter
import HandS.Text
import HandS.Words
import HandS.WordsList
import HandS.More
import HandS.Codes
import HandS.Replace
import HandS.IsInst
import HandS.ExcInit
import HandS.WordsExc
import HandS.Exc
import HandS.TryOnly
import HandS.ExcOwn
import KE.SortKeyHeap
import HandS.Lambda
import HandS.Nested
import HandS.SortKw
import HandS.EndTab
import HandS.SetFor
import HandS.Strs
import HandS.SortInts
import HandS.Zip
import HandS.DictComp
import KE.GoesEnumKw
import KE.OsSetLaws
import HandS.MakeKwOnly
import HandS.Defaults
import HandS.RevRange
import HandS.WideBits
import HandS.Conv
import KE.KDictList
import HandS.Rev
import HandS.ReplaceLit
import HandS.RaiseMore
import KE.GoesMore
import HandS.FStr
import HandS.RevTup
import HandS.Style
import PyProof.ListStr
import PySem.Challenge.RW_homereads_k34_piles_and_mended_texts
set_option Elab.async false
set_option linter.all false
set_option maxRecDepth 100000
set_option maxHeartbeats 4000000
namespace Hr
open PySem PySem.Spec PyProof.Rows L2
namespace HRev
open PySem PySem.Spec PyProof.Rows L2
theorem str_noRev : typeLookup (.type "str") "__reversed__" = pure none := by
  rw [typeLookup_type, builtinLookup_eq_fast]
  kernel_rfl
theorem str_hasItem : typeLookup (.type "str") "__getitem__" = pure (some (.builtin "str.__getitem__")) := by
  rw [typeLookup_type, builtinLookup_eq_fast]
  kernel_rfl
theorem str_noDict : isSubtype (.type "str") (.type "dict") = pure false := by
  rw [isSubtype_type]
  kernel_rfl
/-- what reversed(text) makes -/
def made (z : Str) (tk : Tok) (j : Int) : Obj := { cls := .type "reversed", data := .fields #[.str z tk, rawInt j] }
def At (hp : Heap) (it : Addr) (z : Str) (tk : Tok) (j : Int) : Prop :=
  ∃ ob, hp.get? it = some ob ∧ ob.cls = .type "reversed" ∧ ob.data = .fields #[.str z tk, rawInt j]
theorem At.carry {hp hp' : Heap} {it : Addr} {z : Str} {tk : Tok} {j : Int} (q : At hp it z tk j) (k : ∀ ob, hp.get? it = some ob → hp'.get? it = some ob) : At hp' it z tk j := by
  obtain ⟨ob, e, r⟩ := q
  exact ⟨ob, k _ e, r⟩
theorem twice_but (it : Addr) (hp : Heap) (f g : Obj → Obj) : Heap.ExtBut it hp ((hp.update it f).update it g) := by
  intro b o hb hbo
  rw [Heap.get?_update_other _ _ (Ne.symm hb), Heap.get?_update_other _ _ (Ne.symm hb)]
  exact hbo
section
variable {prog : Program} {w : World} {A : Around} {E : Value → Shared → Prop} {s : Shared}
theorem At.ty {it : Addr} {z : Str} {tk : Tok} {j : Int} (q : At s.heap it z tk j) : s.TypeIs (.ref it) "reversed" := by
  obtain ⟨ob, e, c, _⟩ := q
  exact ⟨ob, e, c⟩
theorem code_new {z : Str} {tk : Tok} {W : Value → Shared → Prop} (hz : z.length ≤ sizeLine)
    (q : W (.ref s.heap.objs.size) { s with heap := s.heap.push (made z tk ((z.length : Int) - 1)), toks := s.toks + 1 + 1 }) :
    codeAny (model prog w) A (.call (.builtin "reversed.__new__") ⟨[.type "reversed", .str z tk], []⟩) (wants W E) s := by
  have ln := line63
  have ty : s.TypeIs (.str z tk) "str" := typeIs_str s z tk
  refine codeAny_of_tree ?_
  show wpAny _ A.in1 (do
    checkBuiltinCall "reversed.__new__" ⟨[.type "reversed", .str z tk], []⟩
    again (.builtin "reversed.__new__" ⟨[.type "reversed", .str z tk], []⟩)) _ _ s
  refine wpAny_bind (wpAny_of_eq (F.newCall_reversed_1 _) ?_)
  refine wpAny_pure ⟨plainId_quiet F.plain_reversed_new _, codeAny_builtin F.entry_reversed_new ?_⟩
  rw [Around.under_plainId F.plain_reversed_new _]
  unfold Builtin.«reversed.__new__»
  refine wpAny_bind (wpAny_of_eq (newClass_reversed _) ?_)
  dsimp only
  refine wpAny_bind (wpAny_of_eq (a := ()) (by first | rfl | kernel_rfl) ?_)
  refine wpAny_bind (wpAny_of_eq (a := ()) (by first | rfl | kernel_rfl) ?_)
  try dsimp only
  refine wpAny_bind (wpAny_specialOf ty str_noRev ?_)
  try dsimp only
  refine wpAny_bind ?_
  wp_delta
  refine wpAny_bind (wpAny_isInstance (T := "str") (U := "dict") (b := false) ty str_noDict ?_)
  try dsimp only
  try rw [if_neg Bool.false_ne_true]
  try dsimp only
  refine wpAny_bind (wpAny_specialOf ty str_hasItem ?_)
  try dsimp only
  try rw [if_pos (by decide +kernel)]
  refine wpAny_pure ?_
  try dsimp only
  try rw [if_neg (by decide)]
  try dsimp only
  refine wpAny_bind (PyProof.Rows.len_str (by omega) ?_)
  refine wpAny_bind (wpAny_of_eq (a := some ((z.length : Nat) : Int)) rfl ?_)
  try dsimp only
  refine wpAny_bind ?_
  show wpAny _ _ (newObj (.type "reversed") (.fields #[.str z tk, rawInt ((z.length : Int) - 1)])) _ _ _
  refine wpAny_newObj_type ?_
  exact wpAny_pure q
theorem call_new {z : Str} {tk : Tok} {Q : Value → Shared → Prop} (hz : z.length ≤ sizeLine)
    (q : Q (.ref s.heap.objs.size) { s with heap := s.heap.push (made z tk ((z.length : Int) - 1)), toks := s.toks + 1 + 1 }) : wpAny (model prog w) A (call (.type "reversed") [.str z tk]) Q E s := by
  refine callType_codes (Q₁ := fun ob s1 => s1.TypeIs ob "reversed" ∧ Q ob s1) RT.called_rt (F.typeCall_reversed_1 _) F.entry_object_init (code_new (A := A.in1) hz ⟨⟨_, Heap.get?_push_size _ rfl, rfl⟩, q⟩) ?_
  intro ob s1 k
  exact ⟨k.1, F.args_object_init_2 ob _, object_init_meets RT.called_rt.init.lookup RT.called_rt.made (by decide) prog w A.in1 _ s1 ⟨k.1, rfl, k.2⟩⟩
theorem step_item {it : Addr} {z : Str} {tk : Tok} {i c : Nat} {Q : Option Value → Shared → Prop} (q : At s.heap it z tk (i : Int)) (hc : z.cps[i]? = some c) (hz : z.length ≤ sizeLine)
    (hQ : ∀ hp', At hp' it z tk ((i : Int) - 1) → Heap.SameBut it s.heap hp' → Q (some (.str ⟨#[c]⟩ (s.toks + 1))) { s with heap := hp', toks := s.toks + 1 + 1 }) : wpAny (model prog w) A (pyNext (.ref it)) Q E s := by
  obtain ⟨ob, e, cl, dt⟩ := id q
  have ln := line63
  have hi : i < z.length := (Array.getElem?_eq_some_iff.mp hc).1
  have ty : s.TypeIs (.str z tk) "str" := typeIs_str s z tk
  unfold pyNext
  refine wpAny_bind (wpAny_attempt (wpAny_callSpecial?_slot (name := Str.ofString "__next__") q.ty RT.slot_rt_next ?_))
  refine wpAny_call_entry RT.slot_rt_next q.ty RT.entry_rt_next ?_ (RT.args_rt_next _)
  unfold Builtin.«reversed.__next__»
  refine wpAny_bind (wpAny_of_eq (a := (Value.ref it, [])) rfl ?_)
  dsimp only
  refine wpAny_bind (wpAny_field e dt (x := .str z tk) rfl ?_)
  try dsimp only
  refine wpAny_bind (wpAny_field e dt (x := rawInt (i : Int)) rfl ?_)
  show wpAny _ _ (if (i : Int) < 0 then _ else _) _ _ s
  rw [if_neg (show ¬ (i : Int) < 0 by omega)]
  try dsimp only
  refine wpAny_bind (wpAny_specialOf ty str_hasItem ?_)
  try dsimp only
  try rw [if_neg (by decide)]
  try dsimp only
  refine wpAny_bind (wpAny_mkInt ?_)
  refine wpAny_bind (wpAny_attempt ?_)
  have sx : seqIndex? (i : Int) z.length = some i := seqIndex_of (by omega) (by omega)
  refine PyProof.Rows.getItem_str (s := { s with toks := s.toks + 1 }) (c := c) ?_ ?_ ?_
  · have e1 : decide ((i : Int) < -(2 ^ 63 : Int)) = false := decide_eq_false (by omega)
    have e2 : decide ((i : Int) ≥ 2 ^ 63) = false := decide_eq_false (by omega)
    rw [e1, e2, Bool.or_false]
  · rw [sx]
    exact hc
  try dsimp only
  refine wpAny_bind (wpAny_field (s := { s with toks := s.toks + 1 + 1 }) e dt (x := rawInt (i : Int)) rfl ?_)
  try dsimp only
  refine wpAny_bind (wpAny_setField (s := { s with toks := s.toks + 1 + 1 }) e dt (by simp) ?_)
  first
  | refine wpAny_pure ⟨_, rfl, wpAny_pure (hQ _ ?_ (Heap.SameBut.update ..))⟩
  | refine wpAny_bind (wpAny_pure (wpAny_pure ⟨_, rfl, wpAny_pure (hQ _ ?_ (Heap.SameBut.update ..))⟩))
  refine ⟨_, Heap.get?_update_self _ e (Obj.isFreed_of_fields (Obj.data_mapFields dt _)), (Obj.cls_mapFields ..).trans cl, ?_⟩
  rw [Obj.data_mapFields dt]
  simp
theorem step_end {it : Addr} {z : Str} {tk : Tok} {Q : Option Value → Shared → Prop} (hh : A.handled = none) (q : At s.heap it z tk (-1))
    (hQ : ∀ hp', Heap.ExtBut it s.heap hp' → Q none { s with heap := hp' }) : wpAny (model prog w) A (pyNext (.ref it)) Q E s := by
  obtain ⟨ob, e, cl, dt⟩ := id q
  unfold pyNext
  refine wpAny_bind (wpAny_attempt (wpAny_callSpecial?_slot (name := Str.ofString "__next__") q.ty RT.slot_rt_next ?_))
  refine wpAny_call_entry RT.slot_rt_next q.ty RT.entry_rt_next ?_ (RT.args_rt_next _)
  unfold Builtin.«reversed.__next__»
  refine wpAny_bind (wpAny_of_eq (a := (Value.ref it, [])) rfl ?_)
  dsimp only
  refine wpAny_bind (wpAny_field e dt (x := .str z tk) rfl ?_)
  try dsimp only
  refine wpAny_bind (wpAny_field e dt (x := rawInt (-1)) rfl ?_)
  show wpAny _ _ (if (-1 : Int) < 0 then _ else _) _ _ s
  rw [if_pos (show (-1 : Int) < 0 by decide)]
  try dsimp only
  refine wpAny_bind (wpAny_rule ?_)
  refine wpAny_bind ?_
  wp_delta
  refine wpAny_bind (wpAny_setField e dt (by simp) ?_)
  have e2 := Heap.get?_update_self (Obj.mapFields (·.setIfInBounds 1 (rawInt (-1)))) e (Obj.isFreed_of_fields (Obj.data_mapFields dt _))
  refine wpAny_setField (s := { s with heap := s.heap.update it (Obj.mapFields (·.setIfInBounds 1 (rawInt (-1)))) }) e2 (Obj.data_mapFields dt _) (by simp) ?_
  try dsimp only
  first
  | show wpAny _ _ (newExc (.type "StopIteration") [] >>= _) _ _ _
  | (refine wpAny_bind ?_
     show wpAny _ _ (newExc (.type "StopIteration") [] >>= _) _ _ _)
  | (refine wpAny_bind ?_
     wp_delta
     show wpAny _ _ (newExc (.type "StopIteration") [] >>= _) _ _ _)
  refine wpAny_bind ?_
  simp only [newExc, newTuple]
  refine wpAny_bind (wpAny_newObj_type ?_ (by size_fits))
  refine wpAny_bind (m := firstArgMember _ _) (wpAny_of_eq (a := Value.none) (by first | rfl | (simp only [firstArgMember]; rfl)) ?_)
  refine wpAny_newObj_type ?_ (by size_fits)
  simp only [raiseNew]
  refine wpAny_bind (wpAny_handled ?_)
  first | rw [show A.in1.handled = none from hh] | rw [hh]
  refine wpAny_bind (wpAny_pure (wpAny_throw ?_))
  refine wpAny_bind (wpAny_isInstance (T := "StopIteration") (b := true) ⟨_, Heap.get?_push_size _ rfl, rfl⟩ isSubtype_stop ?_)
  refine wpAny_pure (hQ _ ?_)
  exact ((twice_but it s.heap _ _).push _).push _
theorem self_iter {it : Addr} {z : Str} {tk : Tok} {j : Int} {Q : Value → Shared → Prop} (q : At s.heap it z tk j) (k : Q (.ref it) s) : wpAny (model prog w) A (pyIter (.ref it)) Q E s := by
  refine wpAny_pyIter_slot q.ty RT.slot_rt_iter (wpAny_call_entry RT.slot_rt_iter q.ty RT.entry_rt_iter ?_ (RT.args_rt_iter _))
  show wpAny _ _ (ret (.ref it)) _ _ s
  exact wpAny_pure ⟨_, rfl, "reversed", _, q.ty, RT.slot_rt_next.lookup, k⟩
end
/-- the turns of a walk over reversed(z) -/
def Itb (z : Str) : It := ⟨fun i _ => i < z.cps.size, fun i H v H' => H' = H ∧ ∃ c, z.cps[z.cps.size - 1 - i]? = some c ∧ v = .str ⟨#[c]⟩, fun i _ => z.cps.size ≤ i⟩
theorem turn_b {P : Program} {w : World} {K : PySem.W.Frag} {tg : Expr} (it : Addr) (z : Str) (tk : Tok) (hz : z.length ≤ sizeLine) :
    Turn P w K tg (Itb z) [it] it (fun i h => i ≤ z.cps.size ∧ At h it z tk ((z.cps.size : Int) - 1 - (i : Nat))) where
  mem := by simp
  obj := fun i h st b hb => by
    obtain rfl : b = it := by simpa using hb
    obtain ⟨_, ob, e, _, d⟩ := st
    exact ⟨ob, e, fun v y => by rw [d] at y; cases y⟩
  keep := fun i h h' st k => ⟨st.1, st.2.carry fun o e => k it (by simp) o e⟩
  item := by
    intro X hP hw hK hc i pins s σ H E I hf st hg
    subst hP hw hK
    have hi : i < z.cps.size := hg
    obtain ⟨f0, f1, f2, f3, f4, f5⟩ := hf it (by simp)
    obtain ⟨_, q⟩ := st
    have lt : z.cps.size - 1 - i < z.cps.size := by omega
    have e1 : (z.cps.size : Int) - 1 - ((i : Nat) : Int) = ((z.cps.size - 1 - i : Nat) : Int) := by omega
    rw [e1] at q
    have hcx : z.cps[z.cps.size - 1 - i]? = some z.cps[z.cps.size - 1 - i] := Array.getElem?_eq_getElem lt
    refine step_item q hcx hz fun hp' st' sb => ?_
    have e2 : ((z.cps.size - 1 - i : Nat) : Int) - 1 = (z.cps.size : Int) - 1 - ((i + 1 : Nat) : Int) := by omega
    rw [e2] at st'
    have I1 : Inv X pins σ H { s with heap := hp', toks := s.toks + 1 + 1 } := I.turned (t' := s.toks + 1 + 1) (fun b o hb e => (sb.2 b hb).trans e) f0 f1 f3 f4 f5
    obtain ⟨ob, e, cl, dt⟩ := id st'
    refine ⟨_, rfl, go_of (s := { s with heap := hp', toks := s.toks + 1 + 1 }) e cl dt (by decide) ⟨.str ⟨#[_]⟩, H, I1, ⟨_, rfl⟩, ⟨rfl, _, hcx, rfl⟩, ⟨by omega, st'⟩, fun b hb => (hf b hb).1⟩⟩
  done := by
    intro X hP hw hK hc i pins s σ H E I hf st hg
    subst hP hw hK
    have hi : z.cps.size ≤ i := hg
    obtain ⟨f0, f1, f2, f3, f4, f5⟩ := hf it (by simp)
    obtain ⟨le, q⟩ := st
    have e1 : (z.cps.size : Int) - 1 - ((i : Nat) : Int) = -1 := by omega
    rw [e1] at q
    exact step_end (I.ok.hd hc) q fun hp' eb => ⟨rfl, I.turned (t' := s.toks) (fun b o hb e => eb b o hb e) f0 f1 f3 f4 f5⟩
  self := fun A i s Q E st h => self_iter st.2 h
def iRevS (te : TE) : TI := fun σ H R => te σ H fun v H1 => ∃ z : Str, v = .str z ∧ z.length ≤ sizeLine ∧ R (Itb z) H1
theorem pi_revS {X : Cx} {tg e : Expr} {te : TE} {p pos : Pos} (hg : Gl X "reversed") (hm : X.mg "reversed" = none) (he : PE X e te)
    (hs : starEach [e] X.env = (false, eval e X.env) :: starEach [] X.env := by rfl) : PI X tg (.Call (.Name "reversed" p) [e] [] pos) (iRevS te) := by
  refine ⟨fun pins s σ H R I h => ?_⟩
  refine Call_ (ld_blt I hg hm PyProof.Rows.boot_reversed (PyProof.Rows.callWith_type1 (args_cons (thn (he.run pins s σ H _ I h) fun u s1 ⟨v, H1, I1, r1, q1⟩ => args_nil ?_) hs) hs rfl))
  obtain ⟨z, ev, hz, q⟩ := q1
  subst ev
  obtain ⟨tk, rfl⟩ := r1
  refine call_new hz (self_iter (z := z) (tk := tk) (j := (z.length : Int) - 1) ⟨_, Heap.get?_push_size _ rfl, rfl, rfl⟩ ?_)
  refine pi_one (tk := s1.toks + 1 + 1) I1 _ (turn_b _ z tk hz) ⟨Nat.zero_le _, ?_⟩ q
  have e1 : (z.cps.size : Int) - 1 - ((0 : Nat) : Int) = (z.length : Int) - 1 := by
    show ((z.cps.size : Nat) : Int) - 1 - 0 = ((z.cps.size : Nat) : Int) - 1
    omega
  rw [e1]
  exact ⟨_, Heap.get?_push_size _ rfl, rfl, rfl⟩
end HRev
/-! ### the text -/
def topS (i : Nat) : Stmt := PySem.Challenge.pw_homereads_k34_piles_and_mended_texts.main.body.getD i (.Pass ⟨0, 0, 0, 0⟩)
abbrev sAgree : Stmt := topS 3
abbrev sTurned : Stmt := topS 4
abbrev sJPath : Stmt := topS 6
abbrev mInit : Stmt := inClass (topS 10) 0
abbrev mAdd : Stmt := inClass (topS 10) 1
abbrev mSums : Stmt := inClass (topS 10) 2
abbrev mTold : Stmt := inClass (topS 10) 3
abbrev mDiffs : Stmt := inClass (topS 10) 4
abbrev mMended : Stmt := inClass (topS 10) 5
abbrev sCell : Stmt := topS 12
abbrev sRow : Stmt := topS 13
abbrev sInteger : Stmt := topS 14
abbrev sText : Stmt := topS 15
abbrev sLTurned : Stmt := topS 16
abbrev sLRead : Stmt := topS 17
abbrev sLRefs : Stmt := topS 18
abbrev sUncut : Stmt := topS 19
abbrev sRows : Stmt := topS 20
abbrev sLaid : Stmt := topS 21
abbrev sLCut : Stmt := topS 22
abbrev sTold : Stmt := topS 23
abbrev sRight : Stmt := topS 24
abbrev sLaw : Stmt := topS 25
theorem scCell : FnScope ["script", "k"] ["script", "k"] (defScope sCell) := ⟨rfl, rfl, rfl, by decide +kernel, rfl, by decide +kernel, by decide +kernel⟩
theorem scRow : FnScope ["cell", "count", "bound", "rest", "mixed", "row", "k"] ["cell", "count", "bound"] (defScope sRow) := ⟨rfl, rfl, rfl, by decide +kernel, rfl, by decide +kernel, by decide +kernel⟩
theorem scInteger : FnScope ["value"] ["value"] (defScope sInteger) := ⟨rfl, rfl, rfl, by decide +kernel, rfl, by decide +kernel, by decide +kernel⟩
theorem scText : FnScope ["cell", "size", "drawn", "kind", "text", "k", "letter"] ["cell", "size"] (defScope sText) := ⟨rfl, rfl, rfl, by decide +kernel, rfl, by decide +kernel, by decide +kernel⟩
theorem scLTurned : FnScope ["text", "news", "letter"] ["text"] (defScope sLTurned) := ⟨rfl, rfl, rfl, by decide +kernel, rfl, by decide +kernel, by decide +kernel⟩
/-! ### walks of a known number of turns -/
theorem for_gen {J : It} {n : Nat} {g : TG} {tb : TS} {D : Ends} {σ : L2.St} {H : Hp} (Pv : Nat → L2.St → Hp → Prop) (h0 : Pv 0 σ H) (hgo : ∀ i σ H, i < n → Pv i σ H → J.go i H) (hstop : ∀ σ H, Pv n σ H → J.stop n H)
    (hs : ∀ i σ H x H', i < n → Pv i σ H → J.yld i H x H' → g x σ H' fun σ2 H2 => tb { D with nx := Pv (i + 1), ct := Pv (i + 1), bk := D.nx } σ2 H2) (hd : ∀ σ H, Pv n σ H → D.nx σ H) :
    ∃ W : Nat → Nat → L2.St → Hp → Prop, (∃ m, W 0 m σ H) ∧ ∀ i m σ H, W i m σ H →
      (J.stop i H ∧ D.nx σ H) ∨ (J.go i H ∧ ∃ N : L2.St → Hp → Prop, (∀ σ' H', N σ' H' → ∃ m', m' < m ∧ W (i + 1) m' σ' H') ∧ ∀ x H', J.yld i H x H' → g x σ H' fun σ2 H2 => tb { D with nx := N, ct := N, bk := D.nx } σ2 H2) := by
  refine ⟨fun i m σ H => i + m = n ∧ Pv i σ H, ⟨n, Nat.zero_add n, h0⟩, fun i m σ H hw => ?_⟩
  obtain ⟨em, p⟩ := hw
  cases m with
  | zero =>
    obtain rfl : i = n := em
    exact .inl ⟨hstop σ H p, hd σ H p⟩
  | succ m =>
    have lt : i < n := by omega
    exact .inr ⟨hgo i σ H lt p, Pv (i + 1), fun σ' H' p' => ⟨m, Nat.lt_succ_self m, by omega, p'⟩, fun x H' y => hs i σ H x H' lt p y⟩
theorem lc_gen {J : It} {n : Nat} {g : TG} {tt : TT} {te : TE} {vs : List Nat} {σ : L2.St} {H1 : Hp} {D : Addr} {Qd : Hp → Prop} (Pv : Nat → Hp → Prop) (h0 : Pv 0 (upd H1 D (.lst []))) (hgo : ∀ i H, i < n → Pv i H → J.go i H) (hstop : ∀ H, Pv n H → J.stop n H)
    (hs : ∀ i H x H', i < n → Pv i H → J.yld i H x H' → g x (wipe σ vs) H' fun σ2 H2 => wipe σ2 vs = wipe σ vs ∧ tt σ2 H2 fun b H3 =>
      if b = true then te σ2 H3 fun y H4 => ∃ acc, H4 D = some (.lst acc) ∧ acc.length < sizeLine ∧ Pv (i + 1) (upd H4 D (.lst (acc ++ [y]))) else Pv (i + 1) H3) (hd : ∀ H, Pv n H → Qd H) :
    ∃ W : Nat → Nat → Hp → Prop, (∃ m, W 0 m (upd H1 D (.lst []))) ∧ ∀ i m H, W i m H →
      (J.stop i H ∧ Qd H) ∨ (J.go i H ∧ ∃ Nx : Hp → Prop, (∀ H', Nx H' → ∃ m', m' < m ∧ W (i + 1) m' H') ∧ ∀ x H', J.yld i H x H' → g x (wipe σ vs) H' fun σ2 H2 => wipe σ2 vs = wipe σ vs ∧ tt σ2 H2 fun b H3 =>
        if b = true then te σ2 H3 fun y H4 => ∃ acc, H4 D = some (.lst acc) ∧ acc.length < sizeLine ∧ Nx (upd H4 D (.lst (acc ++ [y]))) else Nx H3) := by
  refine ⟨fun i m H => i + m = n ∧ Pv i H, ⟨n, Nat.zero_add n, h0⟩, fun i m H hw => ?_⟩
  obtain ⟨em, p⟩ := hw
  cases m with
  | zero =>
    obtain rfl : i = n := em
    exact .inl ⟨hstop H p, hd H p⟩
  | succ m =>
    have lt : i < n := by omega
    exact .inr ⟨hgo i H lt p, Pv (i + 1), fun H' p' => ⟨m, Nat.lt_succ_self m, by omega, p'⟩, fun x H' y => hs i H x H' lt p y⟩
/-- a loop over a text's signs -/
theorem for_str {z : Str} {g : TG} {tb : TS} {D : Ends} {σ : L2.St} {H : Hp} (Pv : Nat → L2.St → Hp → Prop) (h0 : Pv 0 σ H)
    (hs : ∀ i c σ H, z.cps[i]? = some c → Pv i σ H → g (.str ⟨#[c]⟩) σ H fun σ2 H2 => tb { D with nx := Pv (i + 1), ct := Pv (i + 1), bk := D.nx } σ2 H2) (hd : ∀ σ H, Pv z.cps.size σ H → D.nx σ H) :
    ∃ W : Nat → Nat → L2.St → Hp → Prop, (∃ m, W 0 m σ H) ∧ ∀ i m σ H, W i m σ H →
      ((Its z).stop i H ∧ D.nx σ H) ∨ ((Its z).go i H ∧ ∃ N : L2.St → Hp → Prop, (∀ σ' H', N σ' H' → ∃ m', m' < m ∧ W (i + 1) m' σ' H') ∧ ∀ x H', (Its z).yld i H x H' → g x σ H' fun σ2 H2 => tb { D with nx := N, ct := N, bk := D.nx } σ2 H2) :=
  for_gen (J := Its z) (n := z.cps.size) Pv h0 (fun i σ H hi _ => hi) (fun σ H _ => Nat.le_refl _) (fun i σ H x H' hi p y => by
    obtain ⟨e, c, hc, ex⟩ := y
    subst e
    subst ex
    exact hs i c σ _ hc p) hd
/-! ### texts by lists -/
def T (l : List Nat) : Str := ⟨l.toArray⟩
theorem T_len (l : List Nat) : (T l).length = l.length := by
  show l.toArray.size = l.length
  simp
theorem T_size (l : List Nat) : (T l).cps.size = l.length := by
  show l.toArray.size = l.length
  simp
theorem T_list (l : List Nat) : (T l).cps.toList = l := rfl
theorem T_at (l : List Nat) (i : Nat) : (T l).cps[i]? = l[i]? := by
  show l.toArray[i]? = l[i]?
  simp
theorem T_app (a b : List Nat) : T a ++ T b = T (a ++ b) := by
  show Str.mk (a.toArray ++ b.toArray) = Str.mk (a ++ b).toArray
  simp
theorem T_inj {a b : List Nat} (h : T a = T b) : a = b := by
  have e : (T a).cps.toList = (T b).cps.toList := by rw [h]
  exact e
theorem T_nil : (Str.ofString "" : Str) = T [] := by decide +kernel
def Sg (c : Nat) : Prop := c = 65 ∨ c = 67 ∨ c = 71 ∨ c = 84 ∨ c = 78
def Dna (l : List Nat) : Prop := ∀ c ∈ l, Sg c
theorem Dna.app {a b : List Nat} (h : Dna a) (k : Dna b) : Dna (a ++ b) := fun c hc => by
  rcases List.mem_append.mp hc with q | q
  · exact h c q
  · exact k c q
theorem Dna.one {c : Nat} (h : Sg c) : Dna [c] := fun d hd => by
  obtain rfl : d = c := by simpa using hd
  exact h
theorem line_ok {n : Nat} (h : n ≤ 100000) : n ≤ sizeLine := by
  rw [sizeLine_eq]
  omega
theorem line_lt {n : Nat} (h : n ≤ 100000) : n < sizeLine := by
  rw [sizeLine_eq]
  omega
theorem same_upd {H : Hp} {p : Addr} {o : HO} (h : H p = none) : Same H (upd H p o) := fun b x e => by
  rw [upd_ne (ne_of_none e h)]
  exact e
theorem upd_upd {H : Hp} {p : Addr} {o o' : HO} : upd (upd H p o) p o' = upd H p o' := by
  funext b
  by_cases e : b = p
  · rw [e, upd_same, upd_same]
  · rw [upd_ne e, upd_ne e, upd_ne e]
/-! ### names that are still the built-in ones -/
structure Bl (mg : Str → Option Value) : Prop where
  len : mg "len" = none
  int : mg "int" = none
  abs : mg "abs" = none
  range : mg "range" = none
  isin : mg "isinstance" = none
  bool : mg "bool" = none
  str : mg "str" = none
section
variable {P : Program} {w : World} {K : PySem.W.Frag} {mg : Str → Option Value} {base : Heap}
/-! ### _law_cell -/
def spCell (K : PySem.W.Frag) : Sp := fun vs H Q _ => ∃ (a : Addr) (ns : List Int) (k : Nat), vs = [.ref a, .int (k : Int)] ∧ SqL K H a (ns.map V.int) ∧ ∀ x : Int, Q (.int x) H
theorem ok_cell {f : Addr} {fd : FuncData} {k : Nat} (F : Fun K "_law_cell" "_law_cell" sCell f fd) (B : Bl mg) : FnOk P w K mg base CX0 (k + 1) f fd ["script", "k"] (spCell K) := by
  refine F.ok scCell (fun vs H Q E h => ?_) (fun cdv A outer s H vs Q E hr h => ?_)
  · obtain ⟨a, ns, j, rfl, _⟩ := h
    rfl
  · obtain ⟨a, ns, j, rfl, hS, q⟩ := h
    refine ⟨_, pss_cons (ps_if (pt_cmpR op_lt (pv 1) (pe_callB call_len_seq (by rfl) B.len PySem.boot_len (pa_cons (pv 0) pa_nil)) (nomark _))
        (pss_one (ps_ret (pe_callTy call_int1 (by rfl) B.int (by decide +kernel) (pa_cons (pe_ix ix_list (pv 0) (pv 1) (fun _ _ => rfl)) pa_nil)))) pss_nil)
      (pss_one (ps_ret pe_int)), ?_⟩
    refine ⟨.int j, rfl, .ref a, rfl, a, ns.map V.int, rfl, .inl hS, j, _, rfl, rfl, _, rfl, ite2 (fun e => ?_) (fun e => q 0)⟩
    have h1 : (j : Int) < ((ns.map V.int).length : Int) := of_decide_eq_true e
    have h2 : j < ns.length := by
      rw [List.length_map] at h1
      omega
    have g1 : (ns.map V.int)[j]? = some (.int ns[j]) := by
      rw [List.getElem?_map, List.getElem?_eq_getElem h2]
      rfl
    exact ⟨.ref a, rfl, .int j, rfl, a, _, j, .int ns[j], rfl, rfl, hS, atI_nat g1, .inl ⟨_, rfl, q _⟩⟩
/-! ### _law_row -/
def spRow (K : PySem.W.Frag) : Sp := fun vs H Q _ => ∃ (c n b : Int), vs = [.int c, .int n, .int b] ∧ 0 ≤ n ∧ n ≤ 100000 ∧ 1 < b ∧ b < 1000 ∧
  ∀ (H' : Hp) (p : Addr) (xs : List Int), Same H H' → H p = none → H' p = some (.lst (xs.map V.int)) → xs.length = n.toNat → (∀ x ∈ xs, 0 ≤ x ∧ x < b) → Q (.ref p) H'
theorem ok_row {f : Addr} {fd : FuncData} {k : Nat} (F : Fun K "_law_row" "_law_row" sRow f fd) (B : Bl mg) : FnOk P w K mg base CX0 (k + 1) f fd ["cell", "count", "bound"] (spRow K) := by
  refine F.ok scRow (fun vs H Q E h => ?_) (fun cdv A outer s H vs Q E hr h => ?_)
  · obtain ⟨c, n, b, rfl, _⟩ := h
    rfl
  · obtain ⟨c, n, b, rfl, hn0, hn, hb1, hb2, q⟩ := h
    refine ⟨_, pss_cons (ps_set (i := 3) scRow.nd rfl (.inl rfl) (pe_callB call_abs (by rfl) B.abs (by decide +kernel) (pa_cons (pe_callTy call_int1 (by rfl) B.int (by decide +kernel) (pa_cons (pv 0) pa_nil)) pa_nil)))
      (pss_cons (ps_set (i := 4) scRow.nd rfl (.inl rfl) (pe_op op_add (pe_op op_mod (pe_callTy call_int1 (by rfl) B.int (by decide +kernel) (pa_cons (pv 0) pa_nil)) pe_int) pe_int))
      (pss_cons (ps_set (i := 5) scRow.nd rfl (.inl rfl) (pe_lst pa_nil))
      (pss_cons (ps_for PassesOwn.never rfl (pi_range1 rfl B.range (pa_cons (pv 1) pa_nil)) (pg_name (i := 6) scRow.nd rfl (.inl rfl))
        (pss_one (ps_if (pt_cmpR op_ge (pv 3) (pv 2) (nomark _))
          (pss_cons (ps_expr (pe_bm PySem.F.plainAttrs_list PySem.F.slot_list_append PySem.F.type_list_append mt_append (pv 5) (pa_cons (pe_op op_mod (pe_callTy call_int1 (by rfl) B.int (by decide +kernel) (pa_cons (pv 3) pa_nil)) (pv 2)) pa_nil)))
            (pss_one (ps_set (i := 3) scRow.nd rfl (.inl rfl) (pe_op op_fdiv (pv 3) (pv 2)))))
          (pss_cons (ps_set (i := 4) scRow.nd rfl (.inl rfl) (pe_op op_mod (pe_callTy call_int1 (by rfl) B.int (by decide +kernel) (pa_cons (pe_op op_add (pe_op op_add (pe_op op_mul (pv 4) pe_int) (pe_op op_mul pe_int (pv 6))) pe_int) pa_nil)) pe_int))
            (pss_one (ps_expr (pe_bm PySem.F.plainAttrs_list PySem.F.slot_list_append PySem.F.type_list_append mt_append (pv 5) (pa_cons (pe_op op_mod (pe_callTy call_int1 (by rfl) B.int (by decide +kernel) (pa_cons (pe_op op_fdiv (pe_op op_mul (pv 4) pe_int) pe_int) pa_nil)) (pv 2)) pa_nil))))))))
      (pss_one (ps_ret (pv 5)))))), ?_⟩
    refine ⟨.int c, rfl, .inl ⟨c, rfl, c, rfl, ?_⟩⟩
    refine ⟨.int c, rfl, .inl ⟨c, rfl, c, 1000003, rfl, rfl, (show (0 : Int) < 1000003 by decide), _, _, rfl, rfl, ?_⟩⟩
    refine ⟨Nat.zero_le _, fun p hp => ?_⟩
    refine ⟨.int n, rfl, n, rfl, by omega, by omega, ?_⟩
    refine for_range (lo := 0) (n := n.toNat) (fun i σ H' => ∃ (r m : Int) (kv : Option V) (xs : List Int), σ = [some (.int c), some (.int n), some (.int b), some (.int r), some (.int m), some (.ref p), kv] ∧ 0 ≤ m ∧ m < 4294967296 ∧ Same H H' ∧
      H' p = some (.lst (xs.map V.int)) ∧ xs.length = i ∧ ∀ x ∈ xs, 0 ≤ x ∧ x < b) ?_ ?_ ?_
    · refine ⟨_, _, none, [], rfl, ?_, ?_, same_upd hp, upd_same, rfl, fun x hx => by cases hx⟩
      · have := Int.emod_nonneg c (show (1000003 : Int) ≠ 0 by decide)
        omega
      · have := Int.emod_lt_of_pos c (show (0 : Int) < 1000003 by decide)
        omega
    · rintro i σ H' hi ⟨r, m, kv, xs, rfl, hm0, hm1, sm, hx, hl, hall⟩
      have grow : ∀ (y : Int) (τ : L2.St) (r' m' : Int), 0 ≤ y → y < b → 0 ≤ m' → m' < 4294967296 → τ = [some (.int c), some (.int n), some (.int b), some (.int r'), some (.int m'), some (.ref p), some (.int (0 + (i : Nat)))] →
          ∃ (r m : Int) (kv : Option V) (zs : List Int), τ = [some (.int c), some (.int n), some (.int b), some (.int r), some (.int m), some (.ref p), kv] ∧ 0 ≤ m ∧ m < 4294967296 ∧ Same H (upd H' p (.lst (xs.map V.int ++ [.int y]))) ∧
          (upd H' p (.lst (xs.map V.int ++ [.int y]))) p = some (.lst (zs.map V.int)) ∧ zs.length = i + 1 ∧ ∀ x ∈ zs, 0 ≤ x ∧ x < b := by
        intro y τ r' m' y0 y1 h0 h1 e
        refine ⟨r', m', _, xs ++ [y], e, h0, h1, fun q o k => ?_, ?_, ?_, ?_⟩
        · rw [upd_ne (ne_of_none k hp)]
          exact sm q o k
        · rw [upd_same, List.map_append]
          rfl
        · rw [List.length_append, hl]
          rfl
        · intro x hxm
          rcases List.mem_append.mp hxm with z | z
          · exact hall x z
          · obtain rfl : x = y := by simpa using z
            exact ⟨y0, y1⟩
      have hsz : (xs.map V.int).length < sizeLine := line_lt (by rw [List.length_map]; omega)
      refine ⟨.int r, rfl, .int b, rfl, r, b, rfl, rfl, _, rfl, ite2 (fun e => ?_) (fun e => ?_)⟩
      · refine ⟨.ref p, rfl, .inl ⟨rfl, _, .inl (.inl hx)⟩, .int r, rfl, .inl ⟨r, rfl, .int b, rfl, r, b, rfl, rfl, (show 0 < b by omega), p, _, _, rfl, rfl, hx, hsz, ?_⟩⟩
        refine ⟨.int r, rfl, .int b, rfl, r, b, rfl, rfl, ⟨by omega, by omega⟩, ?_⟩
        exact grow _ _ (r / b) m (Int.emod_nonneg r (by omega)) (Int.emod_lt_of_pos r (by omega)) hm0 hm1 rfl
      · refine ⟨.int m, rfl, m, 48271, rfl, rfl, .inl ⟨by omega, by omega⟩, .int (0 + (i : Nat)), rfl, 11, _, rfl, rfl, .inl ⟨by decide, by decide⟩, _, _, rfl, rfl, _, _, rfl, rfl, .inl ⟨_, rfl, _, 2147483647, rfl, rfl, (show (0 : Int) < 2147483647 by decide), ?_⟩⟩
        have b0 : 0 ≤ (m * 48271 + 11 * (0 + ((i : Nat) : Int)) + 7) % 2147483647 := Int.emod_nonneg _ (by decide)
        have b1 : (m * 48271 + 11 * (0 + ((i : Nat) : Int)) + 7) % 2147483647 < 2147483647 := Int.emod_lt_of_pos _ (by decide)
        refine ⟨.ref p, rfl, .inl ⟨rfl, _, .inl (.inl hx)⟩, _, rfl, (m * 48271 + 11 * (0 + ((i : Nat) : Int)) + 7) % 2147483647, 2862933555777941757, rfl, rfl, .inl ⟨by omega, by omega⟩, _, 1024, rfl, rfl, ⟨by decide, by decide⟩, .inl ⟨_, rfl, .int b, rfl, _, b, rfl, rfl, (show 0 < b by omega), p, _, _, rfl, rfl, hx, hsz, ?_⟩⟩
        exact grow _ _ r ((m * 48271 + 11 * (0 + ((i : Nat) : Int)) + 7) % 2147483647) (Int.emod_nonneg _ (by omega)) (Int.emod_lt_of_pos _ (by omega)) b0 (by omega) rfl
    · rintro σ H' ⟨r, m, kv, xs, rfl, hm0, hm1, sm, hx, hl, hall⟩
      exact ⟨.ref p, rfl, q H' p xs sm hp hx hl hall⟩
/-! ### _law_integer -/
def spInteger : Sp := fun vs H Q _ => ∃ i : Int, vs = [.int i] ∧ Q (.bl true) H
theorem ok_integer {f : Addr} {fd : FuncData} {k : Nat} (F : Fun K "_law_integer" "_law_integer" sInteger f fd) (B : Bl mg) : FnOk P w K mg base CX0 (k + 1) f fd ["value"] spInteger := by
  refine F.ok scInteger (fun vs H Q E h => ?_) (fun cdv A outer s H vs Q E hr h => ?_)
  · obtain ⟨i, rfl, _⟩ := h
    rfl
  · obtain ⟨i, rfl, q⟩ := h
    refine ⟨_, pss_one (ps_ret (pe_and (pe_callB call_isi (by rfl) B.isin (by decide +kernel) (pa_cons (pv 0) (pa_cons (pe_bltn (v := .ty "int") (by rfl) B.int (by decide +kernel) rfl) pa_nil)))
      (pe_one (pe_not (pe_callB call_isi (by rfl) B.isin (by decide +kernel) (pa_cons (pv 0) (pa_cons (pe_bltn (v := .ty "bool") (by rfl) B.bool (by decide +kernel) rfl) pa_nil))))))), ?_⟩
    refine ⟨.int i, rfl, .int i, .ty "int", _, _, true, rfl, .ty _, .base (.int i), kit_ty (by decide +kernel), true, rfl, iteT ?_⟩
    exact ⟨.int i, rfl, .int i, .ty "bool", _, _, false, rfl, .ty _, .base (.int i), kit_ty (by decide +kernel), false, rfl, q⟩
/-! ### _law_text -/
theorem sg_four (x : Int) : ∃ c, Sg c ∧ atI (Str.ofString "ACGT").cps.toList (x % 4) = some c := by
  have h : x % 4 = 0 ∨ x % 4 = 1 ∨ x % 4 = 2 ∨ x % 4 = 3 := by omega
  rcases h with h | h | h | h <;> rw [h]
  · exact ⟨65, .inl rfl, by decide +kernel⟩
  · exact ⟨67, .inr (.inl rfl), by decide +kernel⟩
  · exact ⟨71, .inr (.inr (.inl rfl)), by decide +kernel⟩
  · exact ⟨84, .inr (.inr (.inr (.inl rfl))), by decide +kernel⟩
theorem sg_two (x : Int) : ∃ c, Sg c ∧ atI (Str.ofString "AC").cps.toList (x % 2) = some c := by
  have h : x % 2 = 0 ∨ x % 2 = 1 := by omega
  rcases h with h | h <;> rw [h]
  · exact ⟨65, .inl rfl, by decide +kernel⟩
  · exact ⟨67, .inr (.inl rfl), by decide +kernel⟩
def spText (K : PySem.W.Frag) : Sp := fun vs H Q _ => ∃ (c n : Int), vs = [.int c, .int n] ∧ 0 ≤ n ∧ n ≤ 100000 ∧ ∀ (H' : Hp) (l : List Nat), Same H H' → Dna l → l.length = n.toNat → Q (.str (T l)) H'
theorem ok_text {f fR : Addr} {fd fdR : FuncData} {k : Nat} (F : Fun K "_law_text" "_law_text" sText f fd) (B : Bl mg) (GR : FnOk P w K mg base CX0 (k + 1) fR fdR ["cell", "count", "bound"] (spRow K)) (gR : mg "_law_row" = some (.ref fR)) (kR : PySem.W.keepIn K (.ref fR) = true) (bR : Binds K fdR ["cell", "count", "bound"] []) :
    FnOk P w K mg base CX0 (k + 1 + 1) f fd ["cell", "size"] (spText K) := by
  refine F.ok scText (fun vs H Q E h => ?_) (fun cdv A outer s H vs Q E hr h => ?_)
  · obtain ⟨c, n, rfl, _⟩ := h
    rfl
  · obtain ⟨c, n, rfl, hn0, hn, q⟩ := h
    refine ⟨_, pss_cons (ps_set (i := 2) scText.nd rfl (.inl rfl) (pe_call GR hr (by rfl) gR kR bR .nil pass0 (pa_cons (pv 0) (pa_cons (pv 1) (pa_cons pe_int pa_nil)))))
      (pss_cons (ps_set (i := 3) scText.nd rfl (.inl rfl) (pe_op op_mod (pe_op op_fdiv (pe_callB call_abs (by rfl) B.abs (by decide +kernel) (pa_cons (pe_callTy call_int1 (by rfl) B.int (by decide +kernel) (pa_cons (pv 0) pa_nil)) pa_nil)) pe_int) pe_int))
      (pss_cons (ps_set (i := 4) scText.nd rfl (.inl rfl) pe_str)
      (pss_cons (ps_for PassesOwn.never rfl (pi_range1 rfl B.range (pa_cons (pv 1) pa_nil)) (pg_name (i := 5) scText.nd rfl (.inl rfl))
        (C8.pss_cut (ps_set (i := 6) scText.nd rfl (.inl rfl) (pe_ix ix_str pe_str (pe_op op_mod (pe_ix ix_list (pv 2) (pv 5) (fun _ _ => rfl)) pe_int) (fun _ _ => rfl)))
        (C8.pss_cut (ps_if (PW.pt (pw_and (pt_cmpR op_eq (pv 3) pe_int (nomark _)) (pw_and (pt_cmpR op_gt (pv 5) pe_int (nomark _)) (pw_and1 (pt_cmpR op_gt (pe_op op_mod (pe_ix ix_list (pv 2) (pv 5) (fun _ _ => rfl)) pe_int) pe_int (nomark _))))))
            (pss_one (ps_set (i := 6) scText.nd rfl (.inl rfl) (pe_ix ix_str (pv 4) (pe_op op_sub (pv 5) pe_int) (fun _ _ => rfl)))) pss_nil)
        (C8.pss_cut (ps_if (pt_cmpR op_eq (pv 3) pe_int (nomark _)) (pss_one (ps_set (i := 6) scText.nd rfl (.inl rfl) (pe_ix ix_str pe_str (pe_op op_mod (pe_ix ix_list (pv 2) (pv 5) (fun _ _ => rfl)) pe_int) (fun _ _ => rfl)))) pss_nil)
        (C8.pss_cut (ps_if (PW.pt (pw_and (pt_cmpR op_eq (pv 3) pe_int (nomark _)) (pw_and1 (pt_cmpR op_gt (pe_ix ix_list (pv 2) (pv 5) (fun _ _ => rfl)) pe_int (nomark _)))))
            (pss_one (ps_set (i := 6) scText.nd rfl (.inl rfl) pe_str)) pss_nil)
        (pss_one (ps_set (i := 4) scText.nd rfl (.inl rfl) (pe_op op_add_str (pv 4) (pv 6)))))))))
      (pss_one (ps_ret (pv 4)))))), ?_⟩
    refine ⟨.int c, rfl, .int n, rfl, c, n, 97, rfl, hn0, hn, by decide, by decide, fun H1 p xs sm hp hx hl hall => ?_⟩
    refine ⟨.int c, rfl, .inl ⟨c, rfl, c, rfl, _, 7, rfl, rfl, ⟨by decide, by decide⟩, _, 4, rfl, rfl, (show (0 : Int) < 4 by decide), ?_⟩⟩
    refine ⟨.int n, rfl, n, rfl, by omega, by omega, ?_⟩
    obtain ⟨kd, hkd⟩ : ∃ kd : Int, kd = (if c < 0 then -c else c) / 7 % 4 := ⟨_, rfl⟩
    have hS : SqL K H1 p (xs.map V.int) := .inl (.inl hx)
    refine for_range (lo := 0) (n := n.toNat) (fun i σ H' => H' = H1 ∧ ∃ (l : List Nat) (kv lv : Option V), σ = [some (.int c), some (.int n), some (.ref p), some (.int kd), some (.str (T l)), kv, lv] ∧ l.length = i ∧ Dna l) ?_ ?_ ?_
    · exact ⟨rfl, [], none, none, by rw [← T_nil, hkd]; rfl, rfl, fun c hc => by cases hc⟩
    · rintro i σ H' hi ⟨rfl, l, kv, lv, rfl, hli, hd⟩
      have hix : i < xs.length := by omega
      have at1 : atI (xs.map V.int) (0 + (i : Nat)) = some (.int xs[i]) := by
        rw [Int.zero_add]
        refine atI_nat ?_
        rw [List.getElem?_map, List.getElem?_eq_getElem hix]
        rfl
      have done : ∀ d : Nat, Sg d → ∃ e, Sg e ∧ [some (.int c), some (.int n), some (.ref p), some (.int kd), some (.str (T l)), some (V.int (0 + (i : Nat))), some (.str (T [d]))] = [some (.int c), some (.int n), some (.ref p), some (.int kd), some (.str (T l)), some (V.int (0 + (i : Nat))), some (.str (T [e]))] := fun d hd => ⟨d, hd, rfl⟩
      refine ⟨fun σ H2 => H2 = H' ∧ ∃ d, Sg d ∧ σ = [some (.int c), some (.int n), some (.ref p), some (.int kd), some (.str (T l)), some (V.int (0 + (i : Nat))), some (.str (T [d]))], ?_, ?_⟩
      · obtain ⟨d, hsd, hat⟩ := sg_four xs[i]
        exact ⟨.ref p, rfl, .int (0 + (i : Nat)), rfl, p, _, _, _, rfl, rfl, hS, at1, _, 4, rfl, rfl, (show (0 : Int) < 4 by decide), _, _, d, rfl, rfl, by decide, hat, rfl, d, hsd, rfl⟩
      rintro σ H2 ⟨rfl, d, hsd, rfl⟩
      refine ⟨fun σ H3 => H3 = H2 ∧ ∃ d, Sg d ∧ σ = [some (.int c), some (.int n), some (.ref p), some (.int kd), some (.str (T l)), some (V.int (0 + (i : Nat))), some (.str (T [d]))], ?_, ?_⟩
      · refine ⟨.int kd, rfl, rfl, _, rfl, ite2 (fun _ => ?_) (fun _ => iteF ⟨rfl, d, hsd, rfl⟩)⟩
        refine ⟨.int (0 + (i : Nat)), rfl, _, 4, rfl, rfl, _, rfl, ite2 (fun e4 => ?_) (fun _ => iteF ⟨rfl, d, hsd, rfl⟩)⟩
        refine ⟨.ref p, rfl, .int (0 + (i : Nat)), rfl, p, _, _, _, rfl, rfl, hS, at1, _, 11, rfl, rfl, (show (0 : Int) < 11 by decide), _, 0, rfl, rfl, _, rfl, ite2 (fun _ => ?_) (fun _ => ⟨rfl, d, hsd, rfl⟩)⟩
        have h4 : (4 : Int) < 0 + (i : Nat) := of_decide_eq_true e4
        have hlt : i - 5 < l.length := by omega
        refine ⟨.str (T l), rfl, .int (0 + (i : Nat)), rfl, _, 5, rfl, rfl, T l, _, l[i - 5], rfl, rfl, line_ok (by rw [T_len]; omega), ?_, rfl, _, hd _ (List.getElem_mem hlt), rfl⟩
        rw [show (0 + ((i : Nat) : Int)) - 5 = ((i - 5 : Nat) : Int) by omega]
        refine atI_nat ?_
        exact List.getElem?_eq_getElem hlt
      rintro σ H3 ⟨rfl, d, hsd, rfl⟩
      refine ⟨fun σ H4 => H4 = H3 ∧ ∃ d, Sg d ∧ σ = [some (.int c), some (.int n), some (.ref p), some (.int kd), some (.str (T l)), some (V.int (0 + (i : Nat))), some (.str (T [d]))], ?_, ?_⟩
      · refine ⟨.int kd, rfl, rfl, _, rfl, ite2 (fun _ => ?_) (fun _ => ⟨rfl, d, hsd, rfl⟩)⟩
        obtain ⟨d, hsd, hat⟩ := sg_two xs[i]
        exact ⟨.ref p, rfl, .int (0 + (i : Nat)), rfl, p, _, _, _, rfl, rfl, hS, at1, _, 2, rfl, rfl, (show (0 : Int) < 2 by decide), _, _, d, rfl, rfl, by decide, hat, rfl, d, hsd, rfl⟩
      rintro σ H4 ⟨rfl, d, hsd, rfl⟩
      refine ⟨fun σ H5 => H5 = H4 ∧ ∃ d, Sg d ∧ σ = [some (.int c), some (.int n), some (.ref p), some (.int kd), some (.str (T l)), some (V.int (0 + (i : Nat))), some (.str (T [d]))], ?_, ?_⟩
      · refine ⟨.int kd, rfl, rfl, _, rfl, ite2 (fun _ => ?_) (fun _ => iteF ⟨rfl, d, hsd, rfl⟩)⟩
        refine ⟨.ref p, rfl, .int (0 + (i : Nat)), rfl, p, _, _, _, rfl, rfl, hS, at1, _, 88, rfl, rfl, _, rfl, ite2 (fun _ => ?_) (fun _ => ⟨rfl, d, hsd, rfl⟩)⟩
        exact ⟨rfl, 78, .inr (.inr (.inr (.inr rfl))), rfl⟩
      rintro σ H5 ⟨rfl, d, hsd, rfl⟩
      refine ⟨.str (T l), rfl, .str (T [d]), rfl, T l, T [d], rfl, rfl, line_ok (by rw [T_len, T_len, List.length_singleton]; omega), rfl, l ++ [d], some (.int (0 + (i : Nat))), some (.str (T [d])), ?_, ?_, hd.app (.one hsd)⟩
      · rw [T_app]
        rfl
      · rw [List.length_append, hli]
        rfl
    · rintro σ H' ⟨rfl, l, kv, lv, rfl, hli, hd⟩
      exact ⟨.str (T l), rfl, q H' l sm hd hli⟩
/-! ### _law_turned -/
def opp (c : Nat) : Nat := if c = 65 then 84 else if c = 67 then 71 else if c = 71 then 67 else if c = 84 then 65 else c
def turn (l : List Nat) : List Nat := (l.map opp).reverse
theorem opp_sg {c : Nat} (h : Sg c) : Sg (opp c) := by
  rcases h with h | h | h | h | h <;> subst h
  · exact .inr (.inr (.inr (.inl rfl)))
  · exact .inr (.inr (.inl rfl))
  · exact .inr (.inl rfl)
  · exact .inl rfl
  · exact .inr (.inr (.inr (.inr rfl)))
theorem opp_opp {c : Nat} (h : Sg c) : opp (opp c) = c := by
  rcases h with h | h | h | h | h <;> subst h <;> rfl
theorem turn_dna {l : List Nat} (h : Dna l) : Dna (turn l) := fun c hc => by
  obtain ⟨d, hd, e⟩ := List.mem_map.mp (List.mem_reverse.mp hc)
  rw [← e]
  exact opp_sg (h d hd)
theorem turn_len (l : List Nat) : (turn l).length = l.length := by
  unfold turn
  rw [List.length_reverse, List.length_map]
theorem turn_turn {l : List Nat} (h : Dna l) : turn (turn l) = l := by
  unfold turn
  rw [List.map_reverse, List.reverse_reverse, List.map_map]
  conv => rhs; rw [← List.map_id l]
  exact List.map_congr_left fun c hc => opp_opp (h c hc)
theorem turn_app (a b : List Nat) : turn (a ++ b) = turn b ++ turn a := by
  unfold turn
  rw [List.map_append, List.reverse_append]
theorem turn_snoc (a : List Nat) (c : Nat) : turn (a ++ [c]) = opp c :: turn a := by
  rw [turn_app]
  rfl
theorem sign_ix {c : Nat} (h : Sg c) : ∃ (i : Nat) (r : List Nat), Builtin.Str.occurrences (Str.ofString "ACGTN") ⟨#[c]⟩ 0 (Str.ofString "ACGTN").length 1 = i :: r ∧ atI (Str.ofString "TGCAN").cps.toList (i : Int) = some (opp c) ∧ (i : Int) + 2 = (if c = 65 then 2 else if c = 67 then 3 else if c = 71 then 4 else if c = 84 then 5 else 6) := by
  rcases h with h | h | h | h | h <;> subst h
  · exact ⟨0, [], by decide +kernel, by decide +kernel, by decide⟩
  · exact ⟨1, [], by decide +kernel, by decide +kernel, by decide⟩
  · exact ⟨2, [], by decide +kernel, by decide +kernel, by decide⟩
  · exact ⟨3, [], by decide +kernel, by decide +kernel, by decide⟩
  · exact ⟨4, [], by decide +kernel, by decide +kernel, by decide⟩
def spLTurned : Sp := fun vs H Q _ => ∃ l : List Nat, vs = [.str (T l)] ∧ Dna l ∧ l.length ≤ 100000 ∧ Q (.str (T (turn l))) H
theorem ok_lturned {f : Addr} {fd : FuncData} {k : Nat} (F : Fun K "_law_turned" "_law_turned" sLTurned f fd) : FnOk P w K mg base CX0 (k + 1) f fd ["text"] spLTurned := by
  refine F.ok scLTurned (fun vs H Q E h => ?_) (fun cdv A outer s H vs Q E hr h => ?_)
  · obtain ⟨l, rfl, _⟩ := h
    rfl
  · obtain ⟨l, rfl, hd, hl, q⟩ := h
    refine ⟨_, pss_cons (ps_set (i := 1) scLTurned.nd rfl (.inl rfl) pe_str)
      (pss_cons (ps_for PassesOwn.never rfl (pi_str (pv 0)) (pg_name (i := 2) scLTurned.nd rfl (.inl rfl))
        (pss_one (ps_set (i := 1) scLTurned.nd rfl (.inl rfl) (pe_op op_add_str (pe_ix ix_str pe_str (pe_bm PySem.F.plainAttrs_str PySem.F.slot_str_index PySem.F.type_str_index mt_sindex pe_str (pa_cons (pv 2) pa_nil)) (fun _ _ => rfl)) (pv 1)))))
      (pss_one (ps_ret (pv 1)))), ?_⟩
    refine ⟨.str (T l), rfl, T l, rfl, ?_⟩
    refine for_str (z := T l) (fun i σ H' => H' = H ∧ i ≤ l.length ∧ ∃ lv, σ = [some (.str (T l)), some (.str (T (turn (l.take i)))), lv]) ?_ ?_ ?_
    · exact ⟨rfl, Nat.zero_le _, none, by
        show [some (V.str (T l)), some (V.str (Str.ofString "")), none] = _
        rw [T_nil]
        rfl⟩
    · rintro i c σ H' hc ⟨rfl, _, lv, rfl⟩
      rw [T_at] at hc
      obtain ⟨hlt, hce⟩ := List.getElem?_eq_some_iff.mp hc
      have hsc : Sg c := by
        rw [← hce]
        exact hd _ (List.getElem_mem hlt)
      obtain ⟨j, r, ho, ha, _⟩ := sign_ix hsc
      have et : turn (l.take (i + 1)) = opp c :: turn (l.take i) := by
        rw [List.take_add_one, hc]
        exact turn_snoc _ c
      refine ⟨rfl, .str ⟨#[c]⟩, rfl, _, _, j, r, rfl, rfl, ho, _, _, _, rfl, rfl, by decide, ha, .str (T (turn (l.take i))), rfl, T [opp c], _, rfl, rfl, line_ok ?_, rfl, hlt, some (.str ⟨#[c]⟩), ?_⟩
      · rw [T_len, T_len, turn_len, List.length_take, List.length_singleton]
        omega
      · rw [T_app, et]
        rfl
    · rintro σ H' ⟨rfl, _, lv, rfl⟩
      rw [T_size, List.take_length]
      exact ⟨_, rfl, q⟩
end
theorem line_ok6 {n : Nat} (h : n ≤ 1000000) : n ≤ sizeLine := by
  rw [sizeLine_eq]
  omega
theorem line_ok7 {n : Nat} (h : n ≤ 10000000) : n ≤ sizeLine := by
  rw [sizeLine_eq]
  omega
theorem new_ne {H : Hp} {p q : Addr} {o : HO} (h : upd H p o q = none) : q ≠ p := fun e => by
  rw [e, upd_same] at h
  cases h
theorem new_old {H : Hp} {p q : Addr} {o : HO} (h : upd H p o q = none) : H q = none := by
  rw [upd_ne (new_ne h)] at h
  exact h
theorem cell_arg2 (a : Addr) (c d i : Nat) : [V.ref a, V.int ((c : Int) + (d : Int) * (0 + ((i : Nat) : Int)))] = [V.ref a, V.int ((c + d * i : Nat) : Int)] := by
  congr 2
  rw [Int.zero_add]
  simp
theorem cell_arg3 (a : Addr) (d i : Nat) : [V.ref a, V.int ((d : Int) * (0 + ((i : Nat) : Int)))] = [V.ref a, V.int ((d * i : Nat) : Int)] := by
  congr 2
  rw [Int.zero_add]
  simp
theorem cell_arg4 (a : Addr) (c d i : Nat) : [V.ref a, V.int ((d : Int) * (0 + ((i : Nat) : Int)) + (c : Int))] = [V.ref a, V.int ((d * i + c : Nat) : Int)] := by
  congr 2
  rw [Int.zero_add]
  simp
theorem map_int_at {ns : List Int} {i : Nat} (h : i < ns.length) : (ns.map V.int)[i]? = some (.int ns[i]) := by
  rw [List.getElem?_map, List.getElem?_eq_getElem h]
  rfl
def rFind : V → List V → Hp → VK → Prop := fun x xs H Q => ∃ a b, x = .str a ∧ xs = [.str b] ∧ Q (.int (Txt.find a b)) H
def rMaxP : List V → Hp → VK → Prop := fun xs H Q => ∃ i j, xs = [.int i, .int j] ∧ Q (.int (if j > i then j else i)) H
/-! ### lists of ints as data -/
abbrev LI (ns : List Int) : HO := .lst (ns.map V.int)
theorem LI_snoc (l : List Int) (x : Int) : LI (l ++ [x]) = .lst (l.map V.int ++ [.int x]) := by
  show HO.lst ((l ++ [x]).map V.int) = _
  rw [List.map_append]
  rfl
def dI (ns : List Int) : PyData := .list (ns.map .int)
theorem can_ints (ns : List Int) : PyData.canLayAll0 (ns.map .int) = true := by
  induction ns with
  | nil => rfl
  | cons n r ih => exact ih
theorem depth_intsD (ns : List Int) : PyData.depthAll (ns.map .int) = 0 := by
  induction ns with
  | nil => rfl
  | cons n r ih =>
    show max 0 (PyData.depthAll (r.map .int)) = 0
    rw [ih]
    rfl
theorem shaped_dI (ns : List Int) : SeqAt.shaped (dI ns) = true := by
  unfold SeqAt.shaped
  have e1 : (dI ns).canLay0 = true := can_ints ns
  have e2 : PyData.depth (dI ns) ≤ 64 := by
    show PyData.depthAll (ns.map .int) + 1 ≤ 64
    rw [depth_intsD]
    decide
  rw [e1, decide_eq_true e2]
  rfl
theorem dp_ints {K : PySem.W.Frag} {H : Hp} : ∀ ns : List Int, DpAll K H (ns.map V.int) (ns.map .int)
  | [] => .nil
  | n :: r => .cons (.int n) (dp_ints r)
theorem dp_dI {K : PySem.W.Frag} {H : Hp} {a : Addr} {ns : List Int} (h : SqL K H a (ns.map V.int)) : Dp K H (.ref a) (dI ns) := .lst h (dp_ints ns)
theorem eqv_ints (ns : List Int) : PyData.eqv (dI ns) (dI ns) = true := SeqAt.eqv_refl _ (can_ints ns)
theorem cutV_to (xs : List V) (k : Nat) : L2.cutV xs none (some (k : Int)) = xs.take k := by
  unfold L2.cutV
  rw [HT.sIx_none, HT.sIx_nat, List.drop_zero, Nat.sub_zero]
  by_cases h : k ≤ xs.length
  · rw [Nat.min_eq_left h]
  · rw [Nat.min_eq_right (by omega), List.take_of_length_le (Nat.le_refl _), List.take_of_length_le (by omega)]
theorem cutV_from (xs : List V) (k : Nat) : L2.cutV xs (some (k : Int)) none = xs.drop k := by
  unfold L2.cutV
  rw [HT.sIx_none, HT.sIx_nat]
  by_cases h : k ≤ xs.length
  · rw [Nat.min_eq_left h, List.take_of_length_le (by rw [List.length_drop]; omega)]
  · rw [Nat.min_eq_right (by omega), List.drop_of_length_le (Nat.le_refl _), List.drop_of_length_le (by omega), List.take_nil]
theorem ix_set {xs : List V} {i : Int} {j : Nat} (e : i = (j : Int)) (h : j < xs.length) : ixN xs.length i = some j := by
  rw [e]
  unfold ixN
  rw [if_pos (by omega), if_pos (by omega)]
  rfl
/-- a def of the module that keeps a promise -/
def Has (P : Program) (w : World) (K : PySem.W.Frag) (mg : Str → Option Value) (base : Heap) (k : Nat) (x : Str) (ps : List Str) (sp : Sp) : Prop :=
  ∃ f fd, FnOk P w K mg base CX0 k f fd ps sp ∧ mg x = some (.ref f) ∧ PySem.W.keepIn K (.ref f) = true ∧ Binds K fd ps []
/-- lists of bytes -/
def Byt (l : List Int) : Prop := ∀ x ∈ l, 0 ≤ x ∧ x < 256
theorem Byt.app {a b : List Int} (h : Byt a) (k : Byt b) : Byt (a ++ b) := fun x hx => by
  rcases List.mem_append.mp hx with z | z
  · exact h x z
  · exact k x z
theorem Byt.take {a : List Int} (h : Byt a) (n : Nat) : Byt (a.take n) := fun x hx => h x (List.mem_of_mem_take hx)
theorem Byt.rep {a : List Int} (h : Byt a) (n : Nat) : Byt (List.replicate n a).flatten := fun x hx => by
  obtain ⟨z, hz1, hz2⟩ := List.mem_flatten.mp hx
  rw [List.eq_of_mem_replicate hz1] at hz2
  exact h x hz2
theorem rep_map {α β : Type} (f : α → β) (n : Nat) (l : List α) : (List.replicate n (l.map f)).flatten = (List.replicate n l).flatten.map f := by
  rw [List.map_flatten, List.map_replicate]
theorem rep_len {α : Type} (n : Nat) (l : List α) : (List.replicate n l).flatten.length = n * l.length := by simp
section
variable {X : Cx}
theorem fold_app : ∀ (n : Nat) (z acc : Array Nat), (List.replicate n z).foldl (· ++ ·) acc = acc ++ ((List.replicate n z.toList).flatten).toArray
  | 0, z, acc => by simp
  | n + 1, z, acc => by
    rw [List.replicate_succ, List.foldl_cons, fold_app n z (acc ++ z), List.replicate_succ, List.flatten_cons]
    apply Array.toList_inj.mp
    simp
theorem mul_T (l : List Nat) (n : Int) (h0 : 0 ≤ n) : Txt.mul (T l) n = T (List.replicate n.toNat l).flatten := by
  unfold Txt.mul
  by_cases h1 : n < 1
  · rw [if_pos h1, show n.toNat = 0 by omega]
    exact T_nil
  · rw [if_neg h1]
    by_cases h2 : (n == 1 || (T l).length == 0) = true
    · rw [if_pos h2]
      rw [T_len] at h2
      rcases (Bool.or_eq_true _ _).mp h2 with z | z
      · have e : n = 1 := by simpa using z
        subst e
        show T l = T (List.replicate 1 l).flatten
        simp
      · have e : l = [] := by simpa using z
        subst e
        have : ∀ m : Nat, (List.replicate m ([] : List Nat)).flatten = [] := fun m => by simp
        rw [this]
    · rw [if_neg h2]
      show Str.mk _ = Str.mk _
      congr 1
      rw [fold_app, T_list]
      simp
/-- a text n times -/
theorem op_mulT : OpR X (binaryOp .Mult) (fun x y H Q => ∃ (l : List Nat) (n : Int), x = .str (T l) ∧ y = .int n ∧ l.length ≤ 100 ∧ 0 ≤ n ∧ n ≤ 1000 ∧ Q (.str (T (List.replicate n.toNat l).flatten)) H) := by
  intro pins s σ H x y v u Q I rx ry h
  obtain ⟨l, n, rfl, rfl, hl, h0, hn, q⟩ := h
  obtain ⟨t, rfl⟩ := rx
  obtain ⟨t', rfl⟩ := ry
  refine SB.mul (mulOk_of 100 1000 (by rw [T_len]; exact hl) hn (by omega) (by decide) (by decide)) fun t1 tk => ?_
  rw [mul_T l n h0]
  exact ⟨.str (T (List.replicate n.toNat l).flatten), H, I.tok _, ⟨_, rfl⟩, q⟩
end
theorem rep_mem {n : Nat} {l : List Nat} {c : Nat} (h : c ∈ (List.replicate n l).flatten) : c ∈ l := by
  obtain ⟨z, hz1, hz2⟩ := List.mem_flatten.mp h
  rw [List.eq_of_mem_replicate hz1] at hz2
  exact hz2
/-- a text n times: only how long it is and what stands in it -/
theorem op_mulM {X : Cx} : OpR X (binaryOp .Mult) (fun x y H Q => ∃ (l : List Nat) (n : Int), x = .str (T l) ∧ y = .int n ∧ l.length ≤ 100 ∧ 0 ≤ n ∧ n ≤ 1000 ∧ ∀ m : List Nat, m.length = n.toNat * l.length → (∀ c ∈ m, c ∈ l) → Q (.str (T m)) H) := by
  intro pins s σ H x y v u Q I rx ry h
  obtain ⟨l, n, e1, e2, hl, h0, hn, q⟩ := h
  exact op_mulT pins s σ H x y v u Q I rx ry ⟨l, n, e1, e2, hl, h0, hn, q _ (rep_len _ _) fun c hc => rep_mem hc⟩
theorem cut_head (l : List Nat) (k : Nat) : cutS (T l) none (some (k : Int)) = T (l.take k) := by
  unfold cutS
  rw [HT.sIx_nat, HT.sIx_none, T_len, T_list, List.drop_zero, Nat.sub_zero]
  show Str.mk _ = Str.mk _
  congr 2
  by_cases h : k ≤ l.length
  · rw [Nat.min_eq_left h]
  · rw [Nat.min_eq_right (by omega), List.take_of_length_le (Nat.le_refl _), List.take_of_length_le (by omega)]
theorem paired_len {α β : Type} {F : α → β → Prop} : ∀ {xs : List α} {ys : List β}, Paired F xs ys → xs.length = ys.length
  | _, _, .nil => rfl
  | _, _, .cons _ t => congrArg (· + 1) (paired_len t)
theorem paired_get {α β : Type} {F : α → β → Prop} : ∀ {xs : List α} {ys : List β} {i : Nat} {x : α}, Paired F xs ys → xs[i]? = some x → ∃ y, ys[i]? = some y ∧ F x y
  | _, _, 0, _, .cons r _, e => ⟨_, rfl, by cases e; exact r⟩
  | _, _, i + 1, _, .cons _ t, e => paired_get (i := i) t e
/-! ### enumerate(text), enumerate(text, start=k) -/
section
open PySem PySem.Spec PyProof.Rows L2 PySem.W
theorem callWith_kwT2 {M : Model} {A : Around} {E : Value → Shared → Prop} {s : Shared} {env : Env} {pos : Pos} {U : String} {e : Expr} {rest : List Expr} {kws : List Keyword} {Q : Value → Shared → Prop}
    (h : wpAny M A (spliced (backTo pos (starEach (e :: rest) env))) (fun vs s₁ => wpAny M A (evalAll ((backToKw pos (keywordEach kws env)).map (·.2))) (fun kvs s₂ => wpAny M A (call (.type U) vs (((backToKw pos (keywordEach kws env)).filterMap (·.1)).zip kvs)) Q E s₂) E s₁) E s)
    (he : backTo pos (starEach (e :: rest) env) = (false, eval e env) :: backTo pos (starEach rest env)) (hplain : (backTo pos (starEach (e :: rest) env)).any (·.1) = false)
    (hall : (backToKw pos (keywordEach kws env)).all (·.1.isSome) = true) (hkw : (backToKw pos (keywordEach kws env)).any (·.1.isNone) = false) :
    wpAny M A (callWith pos (.type U) [] (backTo pos (starEach (e :: rest) env)) (backToKw pos (keywordEach kws env))) Q E s := by
  have h2 : wpAny M A (evalArgs (.type U) true (backTo pos (starEach (e :: rest) env)) (backToKw pos (keywordEach kws env))) (fun a s₁ => wpAny M A (call (.type U) ([] ++ a.pos) a.kw) Q E s₁) E s := by
    rw [he] at h ⊢
    exact evalArgs_kwB hall h
  unfold callWith
  refine wpAny_bind (wpAny_holding (wpAny_mono h2 (fun a s₁ h₁ => wpAny_bind (wpAny_standAt ?_)) fun _ _ x => x))
  simp only [hplain, hkw, Bool.or_false]
  refine wpAny_bind (wpAny_pure ?_)
  exact wpAny_bind (wpAny_mono h₁ (fun r s₂ hr => wpAny_bind (wpAny_holding (wpAny_point (wpAny_pure hr)))) fun _ _ x => x)
/-- the signs of x, each in a new pair with its number from k on -/
def ItT (k : Int) (x : Str) : It :=
  ⟨fun i _ => i < x.cps.size, fun i H v H' => ∃ T c, v = .ref T ∧ H T = none ∧ H' = upd H T (.tup [.int (k + (i : Nat)), .str ⟨#[c]⟩]) ∧ x.cps[i]? = some c, fun i _ => x.cps.size ≤ i⟩
theorem turn_enumT {P : Program} {w : World} {K : PySem.W.Frag} {elts : List Expr} {kk : Nat} {tpos : Pos} (k : Int) (x : Str) (t : Tok) (e it : Addr) (hne : e ≠ it) :
    Turn P w K (.Tuple elts kk tpos) (ItT k x) [e, it] e (fun i h => (∃ old, IsEnum h e it (k + ((i : Nat) : Int)) old) ∧ h.IsStrIter it (strIterType x) x t i ∧ i ≤ x.cps.size) where
  mem := by simp
  obj := fun i h st b hb => by
    obtain ⟨⟨old, he⟩, ⟨o, ho, hc, hd⟩, _⟩ := st
    rcases (show b = e ∨ b = it by simpa using hb) with z | z
    · rw [z]
      exact ⟨_, he, fun v q => nomatch q⟩
    · rw [z]
      exact ⟨o, ho, fun v q => by rw [hd] at q; cases q⟩
  keep := fun i h h' st k => let ⟨⟨old, he⟩, ⟨o, ho, r⟩, l⟩ := st; ⟨⟨old, k e (by simp) _ he⟩, ⟨o, k it (by simp) _ ho, r⟩, l⟩
  item := by
    intro X hP hw hK hc i pins s σ H E I hf st hg
    subst hP hw hK
    obtain ⟨⟨old, he⟩, hit, hle⟩ := st
    have hel : e < s.heap.objs.size := Heap.lt_size he
    have hil : it < s.heap.objs.size := by obtain ⟨_, q, _⟩ := hit; exact Heap.lt_size q
    have hef : e ∉ [it] := by
      simp only [List.mem_cons, List.not_mem_nil, or_false]
      exact hne
    refine wpAny_pyNext_enum_itemC (Draws.text (by simpa using I.ok.hd hc) it x t) he hit hg hne hef fun x1 h' tk hx1 ho hst' hT hsz hk => ?_
    obtain ⟨c, u, hcx, rfl⟩ := hx1
    refine ⟨_, rfl, wpAny_letOwnedTupleGo_enum (s := { s with heap := h', toks := tk + 1 }) ho fun h'' he' sb => ?_⟩
    have hT2 : h''.get? s.heap.objs.size = some { cls := .type "tuple", data := .seq #[.int (k + (i : Int)) tk, .str ⟨#[c]⟩ u] } := (sb.2 _ (Nat.ne_of_gt hel)).trans hT
    have new : ObjOk X.prog X.w (upd H s.heap.objs.size (.tup [.int (k + (i : Nat)), .str ⟨#[c]⟩])) h'' s.heap.objs.size (.tup [.int (k + (i : Nat)), .str ⟨#[c]⟩]) :=
      ⟨by show 2 ≤ sizeLine; decide, [.int (k + (i : Int)) tk, .str ⟨#[c]⟩ u], .cons ⟨_, rfl⟩ (.cons ⟨_, rfl⟩ .nil), ⟨_, hT2, rfl, _, rfl⟩⟩
    have I1 : Inv X pins σ (upd H s.heap.objs.size (.tup [.int (k + (i : Nat)), .str ⟨#[c]⟩])) { s with heap := h'', toks := tk + 1 } :=
      I.turnedNew (ch := [e, it]) (fun b ob hb q => (sb.2 b (fun z => hb (by simp [z]))).trans (hk b ob (fun z => hb (by simp [z])) (fun z => hb (by simp [z])) q)) hf (Nat.le_refl _) new
    refine ⟨.ref s.heap.objs.size, _, I1, rfl, ⟨_, c, rfl, I.hok.fresh (Nat.le_refl _), rfl, hcx⟩, ⟨⟨.str ⟨#[c]⟩ u, ?_⟩, ?_, hg⟩, fun b hb => ?_⟩
    · rw [show k + ((i + 1 : Nat) : Int) = k + (i : Int) + 1 by omega]
      exact he'
    · obtain ⟨o, q, r⟩ := hst'
      exact ⟨o, (sb.2 it (Ne.symm hne)).trans q, r⟩
    · have hb' : b < s.heap.objs.size := by
        rcases (show b = e ∨ b = it by simpa using hb) with z | z
        · rw [z]; exact hel
        · rw [z]; exact hil
      rw [upd_ne (Nat.ne_of_lt hb')]
      exact (hf b hb).1
  done := by
    intro X hP hw hK hc i pins s σ H E I hf st hg
    subst hP hw hK
    obtain ⟨⟨old, he⟩, hit, hle⟩ := st
    obtain ⟨f0, f1, f2, f3, f4, f5⟩ := hf it (by simp)
    have hin : i = x.cps.size := Nat.le_antisymm hle hg
    refine wpAny_pyNext_enum_endD (Draws.text (by simpa using I.ok.hd hc) it x t) he (by rw [← hin]; exact hit) fun h' eb => ⟨rfl, I.turned (t' := s.toks) (fun b o hb q => eb b o hb q) f0 f1 f3 f4 f5⟩
  self := fun A i s Q E st h => let ⟨⟨_, he⟩, _⟩ := st; wpAny_pyIter_enum he h
def iEnumT (ta : TA) : TI := fun σ H R => ta σ H fun vs H1 => ∃ x, vs = [.str x] ∧ R (ItT 0 x) H1
theorem pi_enumT {X : Cx} {e : Expr} {ta : TA} {p pos tpos : Pos} {elts : List Expr} {kk : Nat} (hg : Gl X "enumerate") (hm : X.mg "enumerate" = none) (ha : PA X [e] ta) (hs : starEach [e] X.env = [(false, eval e X.env)] := by rfl) :
    PI X (.Tuple elts kk tpos) (.Call (.Name "enumerate" p) [e] [] pos) (iEnumT ta) := by
  refine ⟨fun pins s σ H R I h => ?_⟩
  refine Call_ (ld_blt I hg hm boot_enumerate (PyProof.Rows.callWith_type1 (thn (ha.run pos pins s σ H _ I h) fun us s1 ⟨vs, H1, I1, r1, q1⟩ => ?_) hs rfl))
  obtain ⟨x, ex, q⟩ := q1
  subst ex
  obtain ⟨u, rfl, ru⟩ := vals1 r1
  obtain ⟨t, rfl⟩ : ∃ t, u = Value.str x t := ru
  refine call_enumerate_str fun h' he hit hsz hk => wpAny_pyIter_enum he ?_
  have I3 : Inv X pins σ H1 { s1 with heap := h' } := I1.kept (t' := s1.toks) hk
  refine ⟨s1.heap.objs.size + 1, [s1.heap.objs.size + 1, s1.heap.objs.size], _, _, H1, rfl, I3, turn_enumT 0 x t (s1.heap.objs.size + 1) s1.heap.objs.size (Nat.succ_ne_self _), ⟨⟨.none, he⟩, hit, Nat.zero_le _⟩, fun b hb => ?_, q⟩
  have hle : s1.heap.objs.size ≤ b := by
    rcases (show b = s1.heap.objs.size + 1 ∨ b = s1.heap.objs.size by simpa using hb) with z | z
    · rw [z]; exact Nat.le_add_right _ _
    · rw [z]; exact Nat.le_refl _
  exact I1.fpOk hle (I1.hok.fresh hle)
def iEnumTS (ta tk : TA) : TI := fun σ H R => ta σ H fun vs H1 => tk σ H1 fun zs H2 => ∃ x k, vs = [.str x] ∧ zs = [.int k] ∧ -(2 ^ 63) ≤ k ∧ k < 2 ^ 63 ∧ R (ItT k x) H2
theorem pi_enumTS {X : Cx} {e ek : Expr} {ta tk : TA} {p pos tpos kp : Pos} {elts : List Expr} {kk : Nat} (hg : Gl X "enumerate") (hm : X.mg "enumerate" = none) (ha : PA X [e] ta) (hk : PK X [⟨some "start", ek, kp⟩] tk)
    (he1 : backTo pos (starEach [e] X.env) = (false, eval e X.env) :: backTo pos (starEach [] X.env) := by rfl) (hpl : (backTo pos (starEach [e] X.env)).any (·.1) = false := by rfl) :
    PI X (.Tuple elts kk tpos) (.Call (.Name "enumerate" p) [e] [⟨some "start", ek, kp⟩] pos) (iEnumTS ta tk) := by
  constructor
  intro pins s σ H R I h
  refine wpAny_Call_Name_kw (ld_blt I hg hm boot_enumerate ?_)
  refine callWith_kwT2 (thn (ha.run pos pins s σ H _ I h) fun us s1 ⟨vs, H1, I1, r1, q1⟩ => ?_) he1 hpl (by rfl) (by rfl)
  refine thn (hk.run pos pins s1 σ H1 _ I1 q1) fun ws s2 ⟨zs, H2, I2, r2, x, k, ev, ez, hk0, hk1, q⟩ => ?_
  subst ev ez
  obtain ⟨u, rfl, ru⟩ := vals1 r1
  obtain ⟨t, rfl⟩ : ∃ t, u = Value.str x t := ru
  obtain ⟨z, rfl, rz⟩ := vals1 r2
  obtain ⟨t2, rfl⟩ : ∃ t, z = Value.int k t := rz
  show wpAny _ _ (call (.type "enumerate") [.str x t] [(Str.ofString "start", .int k t2)]) _ _ s2
  refine enum_begins_start (begins_text x t) trivial hk0 hk1 fun h' he hit hsz hk => wpAny_pyIter_enum he ?_
  have I3 : Inv X pins σ H2 { s2 with heap := h' } := I2.kept (t' := s2.toks) hk
  refine ⟨s2.heap.objs.size + 1, [s2.heap.objs.size + 1, s2.heap.objs.size], _, _, H2, rfl, I3, turn_enumT k x t (s2.heap.objs.size + 1) s2.heap.objs.size (Nat.succ_ne_self _), ⟨⟨.none, ?_⟩, ⟨_, hit, rfl, rfl⟩, Nat.zero_le _⟩, fun b hb => ?_, q⟩
  · rw [show k + ((0 : Nat) : Int) = k by omega]
    exact he
  · have hle : s2.heap.objs.size ≤ b := by
      rcases (show b = s2.heap.objs.size + 1 ∨ b = s2.heap.objs.size by simpa using hb) with z | z
      · rw [z]; exact Nat.le_add_right _ _
      · rw [z]; exact Nat.le_refl _
    exact I2.fpOk hle (I2.hok.fresh hle)
end
/-! ### n * text -/
section
open PySem PySem.Spec PyProof.Rows L2
theorem mul_int_str {prog : Program} {w : World} {A : Around} {E : Value → Shared → Prop} {s : Shared} {x : Str} {n : Int} {t u : Tok} {Q : Value → Shared → Prop} (hok : MulOk x n) (h : ∀ t' k, Q (.str (Txt.mul x n) t') { s with toks := k }) :
    wpAny (model prog w) A (binaryOp .Mult (.int n u) (.str x t)) Q E s := by
  refine lm_binaryOp_repeat_right (T := "str") (U := "int") (by decide) (fun s' => typeIs_int s' n u) (typeIs_str s x t) F.fills_int_mul noFill_str_mul F.slot_int_mul lm_noRepeat_int repeat_str F.slot_int_index.lookup
    (call_gives F.slot_int_mul (typeIs_int s n u) F.entry_int_mul (F.args_int_mul_2 _ _) (AutoIntG3.int___mul___int_str_0 n u x t)
      ⟨rfl, typeIs_str s x t, call_gives F.slot_str_mul (typeIs_str s x t) F.entry_str_mul (F.args_str_mul_2 _ _) (gives_str_mul x n t u hok.1 hok.2.1 hok.2.2) ?_⟩)
  unfold Txt.mul at h
  by_cases h1 : n < 1
  · rw [if_pos h1]; have h' := h s.toks (s.toks + 1); rw [if_pos h1] at h'; exact ⟨by decide, h'⟩
  · rw [if_neg h1]; refine post_val_or_made (fun hc => fits_reps (hok.2.2 h1 (by simpa using hc))) fun t' k => ?_
    have h' := h t' k; rw [if_neg h1] at h'; exact h'
theorem rep_one (n c : Nat) : (List.replicate n [c]).flatten = List.replicate n c := by
  induction n with
  | zero => rfl
  | succ n ih =>
    rw [List.replicate_succ, List.flatten_cons, ih]
    rfl
/-- n times one sign -/
theorem op_imulT {X : Cx} : OpR X (binaryOp .Mult) (fun x y H Q => ∃ n c : Nat, x = .int (n : Int) ∧ y = .str (T [c]) ∧ n ≤ 100000 ∧ Q (.str (T (List.replicate n c))) H) := by
  intro pins s σ H x y v u Q I rx ry h
  obtain ⟨n, c, rfl, rfl, hn, q⟩ := h
  obtain ⟨t, rfl⟩ := rx
  obtain ⟨t', rfl⟩ := ry
  refine mul_int_str (mulOk_of 1 100000 (by rw [T_len]; exact Nat.le_refl 1) (by omega) (by omega) (by decide) (by decide)) fun t1 tk => ?_
  have e : (List.replicate (n : Int).toNat [c]).flatten = List.replicate n c := by
    rw [Int.toNat_natCast]
    exact rep_one n c
  rw [mul_T [c] n (by omega), e]
  exact ⟨.str _, H, I.tok _, ⟨_, rfl⟩, q⟩
end
/-! ### runs of a path -/
def rns : List Nat → List (Nat × Nat)
  | [] => []
  | c :: t => match rns t with
    | [] => [(c, 1)]
    | (d, n) :: r => if c = d then (c, n + 1) :: r else (c, 1) :: (d, n) :: r
theorem rns_cons (c d n : Nat) (t : List Nat) (r : List (Nat × Nat)) (h : rns t = (d, n) :: r) : rns (c :: t) = if c = d then (c, n + 1) :: r else (c, 1) :: (d, n) :: r := by
  show (match rns t with
    | [] => [(c, 1)]
    | (d, n) :: r => if c = d then (c, n + 1) :: r else (c, 1) :: (d, n) :: r) = _
  rw [h]
theorem rns_head : ∀ (c : Nat) (t : List Nat), ∃ n r, rns (c :: t) = (c, n + 1) :: r
  | c, [] => ⟨0, [], rfl⟩
  | c, d :: t => by
    obtain ⟨n, r, e⟩ := rns_head d t
    rw [rns_cons c d (n + 1) _ r e]
    by_cases h : c = d
    · rw [if_pos h]
      exact ⟨n + 1, r, rfl⟩
    · rw [if_neg h]
      exact ⟨0, _, rfl⟩
theorem rns_rep (c : Nat) : ∀ m : Nat, rns (List.replicate (m + 1) c) = [(c, m + 1)]
  | 0 => rfl
  | m + 1 => by
    rw [List.replicate_succ, rns_cons c c (m + 1) _ [] (rns_rep c m), if_pos rfl]
theorem rns_snoc {m c : Nat} (hm : 0 < m) : ∀ a : List Nat, a.getLast? ≠ some c → rns (a ++ List.replicate m c) = rns a ++ [(c, m)]
  | [], _ => by
    obtain ⟨k, rfl⟩ : ∃ k, m = k + 1 := ⟨m - 1, by omega⟩
    exact rns_rep c k
  | [x], h => by
    have hx : x ≠ c := fun e => h (by rw [e]; rfl)
    obtain ⟨k, rfl⟩ : ∃ k, m = k + 1 := ⟨m - 1, by omega⟩
    show rns (x :: List.replicate (k + 1) c) = _
    rw [rns_cons x c (k + 1) _ [] (rns_rep c k), if_neg hx]
    rfl
  | x :: y :: a, h => by
    have ih := rns_snoc hm (y :: a) (by rw [List.getLast?_cons_cons] at h; exact h)
    obtain ⟨n, r, e⟩ := rns_head y a
    rw [e] at ih
    show rns (x :: ((y :: a) ++ List.replicate m c)) = _
    rw [rns_cons x y (n + 1) _ (r ++ [(c, m)]) ih, rns_cons x y (n + 1) _ r e]
    by_cases hx : x = y
    · rw [if_pos hx, if_pos hx]
      rfl
    · rw [if_neg hx, if_neg hx]
      rfl
def unr (rs : List (Nat × Nat)) : List Nat := (rs.map fun r => List.replicate r.2 r.1).flatten
theorem unr_rns : ∀ l : List Nat, unr (rns l) = l
  | [] => rfl
  | [c] => rfl
  | c :: d :: t => by
    have ih := unr_rns (d :: t)
    obtain ⟨n, r, e⟩ := rns_head d t
    rw [rns_cons c d (n + 1) _ r e]
    rw [e] at ih
    by_cases h : c = d
    · rw [if_pos h, ← ih]
      show List.replicate (n + 1 + 1) c ++ unr r = c :: (List.replicate (n + 1) d ++ unr r)
      rw [List.replicate_succ, h]
      rfl
    · rw [if_neg h, ← ih]
      rfl
theorem rns_mem : ∀ {l : List Nat} {r : Nat × Nat}, r ∈ rns l → r.1 ∈ l ∧ 0 < r.2 ∧ r.2 ≤ l.length
  | [], _, h => nomatch h
  | [c], r, h => by
    obtain rfl : r = (c, 1) := by simpa [rns] using h
    exact ⟨List.mem_singleton.mpr rfl, Nat.one_pos, Nat.le_refl _⟩
  | c :: d :: t, r, h => by
    obtain ⟨n, q, e⟩ := rns_head d t
    have ih := fun {x : Nat × Nat} (hx : x ∈ rns (d :: t)) => rns_mem hx
    rw [rns_cons c d (n + 1) _ q e] at h
    by_cases hc : c = d
    · rw [if_pos hc] at h
      rcases List.mem_cons.mp h with z | z
      · have h2 := ih (x := (d, n + 1)) (by rw [e]; exact List.mem_cons_self)
        rw [z]
        exact ⟨List.mem_cons_self, Nat.succ_pos _, by have := h2.2.2; simp only [List.length_cons] at this ⊢; omega⟩
      · have h2 := ih (x := r) (by rw [e]; exact List.mem_cons_of_mem _ z)
        exact ⟨List.mem_cons_of_mem _ h2.1, h2.2.1, Nat.le_succ_of_le h2.2.2⟩
    · rw [if_neg hc] at h
      rcases List.mem_cons.mp h with z | z
      · rw [z]
        exact ⟨List.mem_cons_self, Nat.one_pos, by simp only [List.length_cons]; omega⟩
      · have h2 := ih (x := r) (by rw [e]; exact z)
        exact ⟨List.mem_cons_of_mem _ h2.1, h2.2.1, Nat.le_succ_of_le h2.2.2⟩
theorem unr_len (rs : List (Nat × Nat)) : (unr rs).length = (rs.map (·.2)).sum := by
  induction rs with
  | nil => rfl
  | cons r t ih =>
    show (List.replicate r.2 r.1 ++ unr t).length = r.2 + (t.map (·.2)).sum
    rw [List.length_append, List.length_replicate, ih]
theorem rns_len : ∀ l : List Nat, (rns l).length ≤ l.length
  | [] => Nat.le_refl _
  | [c] => Nat.le_refl _
  | c :: d :: t => by
    have ih := rns_len (d :: t)
    obtain ⟨n, q, e⟩ := rns_head d t
    rw [rns_cons c d (n + 1) _ q e]
    rw [e] at ih
    by_cases hc : c = d
    · rw [if_pos hc]
      simp only [List.length_cons] at ih ⊢
      omega
    · rw [if_neg hc]
      simp only [List.length_cons] at ih ⊢
      omega
/-- the cut form -/
def flat (rs : List (Nat × Nat)) : List Nat := (rs.map fun r => TL.numL r.2 ++ [r.1]).flatten
theorem join_flat : ∀ ls : List (List Nat), Str.join (T []) (ls.map T) = T ls.flatten
  | [] => rfl
  | [c] => by
    show T c = _
    simp
  | c :: e :: r => by
    have ih := join_flat (e :: r)
    show T c ++ T [] ++ Str.join (T []) ((e :: r).map T) = _
    rw [ih, T_app, T_app, List.append_nil]
    rfl
theorem sum_lens (ls : List (List Nat)) : ((ls.map T).map (·.length)).sum = ls.flatten.length := by
  induction ls with
  | nil => rfl
  | cons c r ih =>
    rw [List.map_cons, List.map_cons, List.sum_cons, ih, T_len, List.flatten_cons, List.length_append]
theorem sum_lensF {α : Type} (f : α → List Nat) (rs : List α) : ((rs.map fun r => T (f r)).map (·.length)).sum = ((rs.map f).flatten).length := by
  induction rs with
  | nil => rfl
  | cons c r ih =>
    rw [List.map_cons, List.map_cons, List.sum_cons, ih, T_len, List.map_cons, List.flatten_cons, List.length_append]
theorem join_flatF {α : Type} (f : α → List Nat) (rs : List α) : Str.join (T []) (rs.map fun r => T (f r)) = T ((rs.map f).flatten) := by
  have e := join_flat (rs.map f)
  rw [List.map_map] at e
  exact e
/-! ### costs -/
def rcost (a b c : Nat) (r : Nat × Nat) : Nat := if r.1 = 88 then r.2 * a else if r.1 = 61 then 0 else b + r.2 * c
def costR (a b c : Nat) (rs : List (Nat × Nat)) : Nat := (rs.map (rcost a b c)).sum
/-- step by step -/
def prc (a b c : Nat) : Option Nat → List Nat → Nat
  | _, [] => 0
  | pv, x :: t => (if x = 88 then a else 0) + (if x = 73 ∨ x = 68 then c + (if pv = some x then 0 else b) else 0) + prc a b c (some x) t
def PC (l : List Nat) : Prop := ∀ c ∈ l, c = 61 ∨ c = 88 ∨ c = 73 ∨ c = 68
theorem prc_rns (a b c : Nat) : ∀ (l : List Nat) (pv : Option Nat), PC l → prc a b c pv l + (match l with | [] => 0 | x :: _ => if (x = 73 ∨ x = 68) ∧ pv = some x then b else 0) = costR a b c (rns l)
  | [], _, _ => rfl
  | [x], pv, h => by
    have hx := h x (List.mem_singleton.mpr rfl)
    show (if x = 88 then a else 0) + (if x = 73 ∨ x = 68 then c + (if pv = some x then 0 else b) else 0) + 0 + (if (x = 73 ∨ x = 68) ∧ pv = some x then b else 0) = (if x = 88 then 1 * a else if x = 61 then 0 else b + 1 * c) + 0
    by_cases hp : pv = some x <;> rcases hx with e | e | e | e <;> subst e <;> simp [hp] <;> omega
  | x :: y :: t, pv, h => by
    have hx := h x List.mem_cons_self
    have ih := prc_rns a b c (y :: t) (some x) fun z hz => h z (List.mem_cons_of_mem _ hz)
    obtain ⟨n, q, e⟩ := rns_head y t
    rw [rns_cons x y (n + 1) _ q e]
    rw [e] at ih
    have e1 : prc a b c pv (x :: y :: t) = (if x = 88 then a else 0) + (if x = 73 ∨ x = 68 then c + (if pv = some x then 0 else b) else 0) + prc a b c (some x) (y :: t) := rfl
    have e2 : costR a b c ((y, n + 1) :: q) = rcost a b c (y, n + 1) + costR a b c q := rfl
    rw [e2] at ih
    rw [e1]
    by_cases hxy : x = y
    · subst hxy
      rw [if_pos rfl]
      have e3 : costR a b c ((x, n + 1 + 1) :: q) = rcost a b c (x, n + 1 + 1) + costR a b c q := rfl
      rw [e3]
      unfold rcost at ih ⊢
      have m1 : (n + 1 + 1) * a = (n + 1) * a + a := Nat.succ_mul _ _
      have m2 : (n + 1 + 1) * c = (n + 1) * c + c := Nat.succ_mul _ _
      by_cases hp : pv = some x <;> rcases hx with e | e | e | e <;> subst e <;> simp [hp] at ih ⊢ <;> omega
    · rw [if_neg hxy]
      have e3 : costR a b c ((x, 1) :: (y, n + 1) :: q) = rcost a b c (x, 1) + (rcost a b c (y, n + 1) + costR a b c q) := rfl
      have hs : ¬ (some x = some y) := fun z => hxy (Option.some.inj z)
      rw [e3]
      have ih2 : prc a b c (some x) (y :: t) = rcost a b c (y, n + 1) + costR a b c q := by
        rw [← ih]
        simp [hxy]
      rw [ih2]
      unfold rcost
      by_cases hp : pv = some x <;> rcases hx with e | e | e | e <;> subst e <;> simp [hp] <;> omega
/-! ### walks -/
def agB (a b : Nat) : Bool := decide (a = b) && decide (a ≠ 78)
def pst (a b : Nat) : Nat := if agB a b = true then 61 else 88
def wk (r t : List Nat) : List Nat → Nat → Nat → Option (Nat × Nat)
  | [], i, j => some (i, j)
  | c :: p, i, j => if c = 73 then wk r t p (i + 1) j else if c = 68 then wk r t p i (j + 1) else if i < r.length ∧ j < t.length ∧ c = pst (r.getD i 0) (t.getD j 0) then wk r t p (i + 1) (j + 1) else none
theorem wk_cons (r t : List Nat) (c : Nat) (p : List Nat) (i j : Nat) : wk r t (c :: p) i j = if c = 73 then wk r t p (i + 1) j else if c = 68 then wk r t p i (j + 1) else if i < r.length ∧ j < t.length ∧ c = pst (r.getD i 0) (t.getD j 0) then wk r t p (i + 1) (j + 1) else none := rfl
theorem wk_nil (r t : List Nat) (i j : Nat) : wk r t [] i j = some (i, j) := rfl
def fitB (r t p : List Nat) : Bool := decide (wk r t p 0 0 = some (r.length, t.length))
theorem pst_two (a b : Nat) : pst a b = 61 ∨ pst a b = 88 := by
  unfold pst
  split
  · exact .inl rfl
  · exact .inr rfl
theorem cut_mid (l : List Nat) (a b : Nat) : cutS (T l) (some (a : Int)) (some (b : Int)) = T ((l.drop a).take (b - a)) := by
  unfold cutS
  rw [HT.sIx_nat, HT.sIx_nat, T_len, T_list]
  show Str.mk _ = Str.mk _
  congr 2
  by_cases ha : a ≤ l.length
  · rw [Nat.min_eq_left ha]
    by_cases hb : b ≤ l.length
    · rw [Nat.min_eq_left hb]
    · rw [Nat.min_eq_right (a := b) (by omega), List.take_of_length_le (by rw [List.length_drop]; omega), List.take_of_length_le (by rw [List.length_drop]; omega)]
  · rw [Nat.min_eq_right (a := a) (by omega), List.drop_of_length_le (Nat.le_refl _), List.drop_of_length_le (by omega), List.take_nil, List.take_nil]
/-! ### signs, joined paths, short paths -/
theorem one_eq {c d : Nat} {s : Str} (h : s = T [d]) : (V.str (T [c]) = V.str s) ↔ c = d := by
  rw [h]
  constructor
  · intro e
    have := T_inj (V.str.inj e)
    simpa using this
  · intro e
    rw [e]
theorem iteN {c A B : Prop} [Decidable c] (h1 : ¬ c → A) (h2 : c → B) : if (!decide c) = true then A else B := by
  by_cases h : c
  · rw [decide_eq_true h]
    exact iteF (h2 h)
  · rw [decide_eq_false h]
    exact iteT (h1 h)
theorem tX : Str.ofString "X" = T [88] := by decide +kernel
theorem tE : Str.ofString "=" = T [61] := by decide +kernel
theorem tI : Str.ofString "I" = T [73] := by decide +kernel
theorem tD : Str.ofString "D" = T [68] := by decide +kernel
theorem tN : Str.ofString "N" = T [78] := by decide +kernel
theorem scAgree : FnScope ["first", "second"] ["first", "second"] (defScope sAgree) := ⟨rfl, rfl, rfl, by decide +kernel, rfl, by decide +kernel, by decide +kernel⟩
theorem scJPath : FnScope ["cut_path", "parts", "begin", "at", "character"] ["cut_path"] (defScope sJPath) := ⟨rfl, rfl, rfl, by decide +kernel, rfl, by decide +kernel, by decide +kernel⟩
theorem at_T {l : List Nat} {i : Nat} (h : i < l.length) : atI (T l).cps.toList (i : Int) = some l[i] := atI_nat (List.getElem?_eq_getElem h)
section
variable {P : Program} {w : World} {K : PySem.W.Frag} {mg : Str → Option Value} {base : Heap}
def spAg : Sp := fun vs H Q _ => ∃ a b : Nat, vs = [.str (T [a]), .str (T [b])] ∧ Q (.bl (agB a b)) H
theorem ok_agree {f : Addr} {fd : FuncData} {k : Nat} (F : Fun K "agree" "agree" sAgree f fd) : FnOk P w K mg base CX0 (k + 1) f fd ["first", "second"] spAg := by
  refine F.ok scAgree (fun vs H Q E h => ?_) (fun cdv A outer s H vs Q E hr h => ?_)
  · obtain ⟨a, b, rfl, _⟩ := h
    rfl
  · obtain ⟨a, b, rfl, q⟩ := h
    refine ⟨_, pss_one (ps_ret (pe_and (pe_cmpR op_eq (pv 0) (pv 1) (nomark _)) (pe_one (pe_cmpR op_ne (pv 0) pe_str (nomark _))))), ?_⟩
    refine ⟨_, rfl, _, rfl, rfl, _, rfl, ite2 (fun e => ?_) (fun e => ?_)⟩
    · have e2 := (one_eq rfl).mp (of_decide_eq_true e)
      refine ⟨_, rfl, rfl, ?_⟩
      unfold agB at q
      rw [decide_eq_true e2, Bool.true_and] at q
      have e3 : (!decide (V.str (T [a]) = V.str (Str.ofString "N"))) = decide (a ≠ 78) := by
        by_cases h : a = 78
        · rw [decide_eq_true ((one_eq tN).mpr h), decide_eq_false (fun z => z h)]
          rfl
        · rw [decide_eq_false (fun z => h ((one_eq tN).mp z)), decide_eq_true h]
          rfl
      show Q (.bl (!decide (V.str (T [a]) = V.str (Str.ofString "N")))) H
      rw [e3]
      exact q
    · have e2 : ¬ a = b := fun z => e (decide_eq_true ((one_eq rfl).mpr z))
      unfold agB at q
      rw [decide_eq_false e2, Bool.false_and] at q
      exact q
theorem flat_le : ∀ rs : List (Nat × Nat), (∀ r ∈ rs, r.2 < 10 ^ 9) → (flat rs).length ≤ 10 * rs.length
  | [], _ => Nat.le_refl _
  | r :: t, h => by
    have h1 := flat_le t fun x hx => h x (List.mem_cons_of_mem _ hx)
    have h2 : (TL.numL r.2).length ≤ 9 := TL.numL_len (by decide) (h r List.mem_cons_self)
    show (TL.numL r.2 ++ [r.1] ++ flat t).length ≤ 10 * (t.length + 1)
    rw [List.length_append, List.length_append, List.length_singleton]
    omega
open TL in
theorem num_T (n : Nat) : (Str.ofString (toString ((n : Nat) : Int)) : Str) = T (numL n) := by
  have e : (Str.ofString (toString ((n : Nat) : Int))).cps.toList = numL n := tl_num n
  rw [← e]
  show _ = Str.mk _
  rw [Array.toArray_toList]
theorem log_ok {n : Nat} (h : n < 10 ^ 9) : n.log2 < 1920 := by
  by_cases h0 : n = 0
  · subst h0
    decide
  · exact Nat.lt_of_lt_of_le ((Nat.log2_lt h0).mpr (Nat.lt_of_lt_of_le h (show 10 ^ 9 ≤ 2 ^ 30 by decide))) (by decide)
theorem dig {c : Nat} (h : 48 ≤ c ∧ c ≤ 57) : Txt.isdigit ⟨#[c]⟩ = true := by
  have e : c = 48 ∨ c = 49 ∨ c = 50 ∨ c = 51 ∨ c = 52 ∨ c = 53 ∨ c = 54 ∨ c = 55 ∨ c = 56 ∨ c = 57 := by omega
  rcases e with e | e | e | e | e | e | e | e | e | e <;> subst e <;> decide +kernel
theorem nodig {c : Nat} (h : c = 61 ∨ c = 88 ∨ c = 73 ∨ c = 68) : Txt.isdigit ⟨#[c]⟩ = false := by
  rcases h with e | e | e | e <;> subst e <;> decide +kernel
theorem flat_split {rs : List (Nat × Nat)} {j : Nat} {r : Nat × Nat} (h : rs[j]? = some r) : flat rs = flat (rs.take j) ++ (TL.numL r.2 ++ r.1 :: flat (rs.drop (j + 1))) := by
  obtain ⟨hj, e⟩ := List.getElem?_eq_some_iff.mp h
  have e2 : rs = rs.take j ++ r :: rs.drop (j + 1) := by
    rw [← e, ← List.drop_eq_getElem_cons hj, List.take_append_drop]
  have e3 : flat rs = flat (rs.take j ++ r :: rs.drop (j + 1)) := congrArg flat e2
  rw [e3]
  unfold flat
  rw [List.map_append, List.flatten_append, List.map_cons, List.flatten_cons, List.append_assoc]
  rfl
theorem flat_snoc {rs : List (Nat × Nat)} {j : Nat} {r : Nat × Nat} (h : rs[j]? = some r) : (flat (rs.take (j + 1))).length = (flat (rs.take j)).length + (TL.numL r.2).length + 1 := by
  unfold flat
  rw [List.take_add_one, h, List.map_append, List.flatten_append, List.length_append]
  show _ + ((TL.numL r.2 ++ [r.1]) ++ []).length = _
  rw [List.append_nil, List.length_append, List.length_singleton]
  omega
def spJPath : Sp := fun vs H Q _ => ∃ l : List Nat, vs = [.str (T (flat (rns l)))] ∧ PC l ∧ l.length ≤ 10000 ∧ ∀ H', Same H H' → Q (.str (T l)) H'
theorem ok_jpath {f : Addr} {fd : FuncData} {k : Nat} (F : Fun K "joined_path" "joined_path" sJPath f fd) (menum : mg "enumerate" = none) (mint : mg "int" = none) : FnOk P w K mg base CX0 (k + 1) f fd ["cut_path"] spJPath := by
  refine F.ok scJPath (fun vs H Q E h => ?_) (fun cdv A outer s H vs Q E hr h => ?_)
  · obtain ⟨l, rfl, _⟩ := h
    rfl
  · obtain ⟨l, rfl, pc, hl, q⟩ := h
    refine ⟨_, pss_cons (ps_set (i := 1) scJPath.nd rfl (.inl rfl) (pe_lst pa_nil))
      (pss_cons (ps_set (i := 2) scJPath.nd rfl (.inl rfl) pe_int)
      (pss_cons (ps_for PassesOwn.never rfl (pi_enumT (by rfl) menum (pa_cons (pv 0) pa_nil)) (pg_tup rfl (pgs_cons (pg_name (i := 3) scJPath.nd rfl (.inl rfl)) (pgs_cons (pg_name (i := 4) scJPath.nd rfl (.inl rfl)) pgs_nil)))
        (pss_one (ps_if (pt_not (pt_val (pe_m0 PySem.F.slot_str_isdigit PySem.F.type_str_isdigit mt_isdigit (pv 4))))
          (pss_cons (ps_expr (pe_bm PySem.F.plainAttrs_list PySem.F.slot_list_append PySem.F.type_list_append mt_append (pv 1) (pa_cons (pe_op op_imulT (pe_callTy call_int_str (by rfl) mint (by decide +kernel) (pa_cons (pe_slice sl_str (pv 0) (po_some (pv 2)) (po_some (pv 3))) pa_nil)) (pv 4)) pa_nil)))
          (pss_one (ps_set (i := 2) scJPath.nd rfl (.inl rfl) (pe_op op_add (pv 3) pe_int)))) pss_nil)))
      (pss_one (ps_ret (pe_join pe_str (pv 1)))))), ?_⟩
    have h10 : ∀ r ∈ rns l, r.2 < 10 ^ 9 := fun r hr => Nat.lt_of_le_of_lt (rns_mem hr).2.2 (Nat.lt_of_le_of_lt hl (by decide))
    have hrl := rns_len l
    have hfl := flat_le (rns l) h10
    refine ⟨Nat.zero_le _, fun p hp => ?_⟩
    refine ⟨_, rfl, _, rfl, ?_⟩
    refine for_gen (J := ItT 0 (T (flat (rns l)))) (n := (flat (rns l)).length) (fun i σ H' => Same H H' ∧ ∃ (j d : Nat) (v3 v4 : Option V), j ≤ (rns l).length ∧ i = (flat ((rns l).take j)).length + d ∧ (∀ r, (rns l)[j]? = some r → d ≤ (TL.numL r.2).length) ∧ ((rns l)[j]? = none → d = 0) ∧
      H' p = some (.lst ((((rns l).take j).map fun r => T (List.replicate r.2 r.1)).map V.str)) ∧ σ = [some (.str (T (flat (rns l)))), some (.ref p), some (.int ((flat ((rns l).take j)).length : Nat)), v3, v4]) ?_ (fun i σ H' hi _ => by show i < (T (flat (rns l))).cps.size; rw [T_size]; exact hi) (fun σ H' _ => by show (T (flat (rns l))).cps.size ≤ (flat (rns l)).length; rw [T_size]; exact Nat.le_refl _) ?_ ?_
    · exact ⟨same_upd hp, 0, 0, none, none, Nat.zero_le _, rfl, fun _ _ => Nat.zero_le _, fun _ => rfl, upd_same, rfl⟩
    · rintro i σ H1 x H2 hi ⟨s1, j, d, v3, v4, hj, hid, hdr, hdn, hd, rfl⟩ ⟨t, c, rfl, ht, rfl, hc⟩
      rw [T_at] at hc
      have hjl : j < (rns l).length := by
        rcases Nat.lt_or_ge j (rns l).length with z | z
        · exact z
        · have e1 : (rns l).take j = rns l := List.take_of_length_le z
          have e2 := hdn (List.getElem?_eq_none z)
          rw [e1] at hid
          omega
      have hr' : (rns l)[j]? = some (rns l)[j] := List.getElem?_eq_getElem hjl
      generalize (rns l)[j] = r at hr'
      have hm := rns_mem (List.mem_of_getElem? hr')
      have hsp := flat_split hr'
      have hdl := hdr r hr'
      have hc2 : (TL.numL r.2 ++ r.1 :: flat ((rns l).drop (j + 1)))[d]? = some c := by
        rw [hsp, hid, List.getElem?_append_right (by omega), Nat.add_sub_cancel_left] at hc
        exact hc
      have npt : p ≠ t := ne_of_none hd ht
      have hd2 : (upd H1 t (.tup [.int (0 + (i : Nat)), .str ⟨#[c]⟩])) p = _ := (upd_ne npt).trans hd
      have s2 := s1.trans (same_upd (o := .tup [.int (0 + (i : Nat)), .str ⟨#[c]⟩]) ht)
      refine ⟨t, _, rfl, .inl (.inl upd_same), rfl, _, _, rfl, _, _, rfl, rfl, ?_⟩
      generalize upd H1 t (.tup [.int (0 + (i : Nat)), .str ⟨#[c]⟩]) = H3 at hd2 s2 ⊢
      refine ⟨_, rfl, ⟨_, rfl⟩, _, rfl, rfl, trivial, _, rfl, ?_⟩
      by_cases hlt : d < (TL.numL r.2).length
      · have hdig : 48 ≤ c ∧ c ≤ 57 := by
          rw [List.getElem?_append_left hlt] at hc2
          exact TL.numL_digits r.2 c (List.mem_of_getElem? hc2)
        rw [dig hdig]
        refine iteF ⟨s2, j, d + 1, some (.int (0 + (i : Nat))), some (.str ⟨#[c]⟩), hj, by omega, fun r2 h2 => ?_, fun h2 => ?_, hd2, rfl⟩
        · rw [hr'] at h2
          obtain rfl := Option.some.inj h2
          omega
        · rw [hr'] at h2
          cases h2
      · have hde : d = (TL.numL r.2).length := by omega
        have hcr : r.1 = c := by
          rw [hde, List.getElem?_append_right (Nat.le_refl _), Nat.sub_self] at hc2
          exact Option.some.inj hc2
        rw [← hcr, nodig (pc _ hm.1)]
        have hsn := flat_snoc hr'
        have e5 : T ((((flat (rns l)).drop (flat ((rns l).take j)).length).take (i - (flat ((rns l).take j)).length))) = T (TL.numL r.2) := by
          rw [hid, Nat.add_sub_cancel_left, hde, hsp, List.drop_left, List.take_left]
        have hml : (TL.numL r.2).length ≤ 9 := TL.numL_len (by decide) (h10 r (List.mem_of_getElem? hr'))
        have hzz : (T (flat (rns l))).length ≤ sizeLine := line_ok6 (by rw [T_len]; omega)
        have ei : (0 : Int) + (i : Nat) = (i : Nat) := by omega
        refine iteT ⟨.ref p, rfl, .inl ⟨rfl, _, .inl (.inl hd2)⟩, .str (T (flat (rns l))), rfl, _, rfl, _, rfl, .int (0 + (i : Nat)), rfl, _, rfl, T (flat (rns l)), rfl, hzz, ?_⟩
        rw [ei, cut_mid, e5]
        refine ⟨_, _, rfl, ?_, ?_, .str (T [r.1]), rfl, r.2, r.1, rfl, rfl, by omega, p, _, _, rfl, rfl, hd2, line_ok6 ?_, ?_⟩
        · rw [← num_T]
          exact TL.int_num (by omega)
        · rw [T_len]
          omega
        · rw [List.length_map, List.length_map, List.length_take]
          omega
        · refine ⟨_, rfl, _, 1, rfl, rfl, fun b o e => ?_, j + 1, 0, some (.int (i : Nat)), some (.str ⟨#[r.1]⟩), hjl, by omega, fun _ _ => Nat.zero_le _, fun _ => rfl, ?_, ?_⟩
          · rw [upd_ne (ne_of_none e hp)]
            exact s2 b o e
          · rw [upd_same, List.take_add_one, hr', List.map_append, List.map_append]
            rfl
          · have e6 : ((flat ((rns l).take (j + 1))).length : Int) = (i : Int) + 1 := by omega
            rw [e6]
            rfl
    · rintro σ H1 ⟨s1, j, d, v3, v4, hj, hid, hdr, hdn, hd, rfl⟩
      have hjl : j = (rns l).length := by
        rcases Nat.lt_or_ge j (rns l).length with z | z
        · have hr' : (rns l)[j]? = some (rns l)[j] := List.getElem?_eq_getElem z
          have e1 := congrArg List.length (flat_split hr')
          have e2 := hdr _ hr'
          rw [List.length_append, List.length_append, List.length_cons] at e1
          omega
        · omega
      rw [hjl, List.take_length] at hd
      refine ⟨⟨_, rfl⟩, .ref p, rfl, Str.ofString "", p, _, rfl, rfl, .inl (.inl (.inl hd)), ?_, ?_⟩
      · have e2 := sum_lensF (fun r : Nat × Nat => List.replicate r.2 r.1) (rns l)
        rw [show (Str.ofString "").length = 0 by decide +kernel, Nat.mul_zero, Nat.add_zero, e2]
        show (unr (rns l)).length ≤ 16777216
        rw [unr_rns]
        omega
      · rw [TL.join_eq, T_nil]
        rw [join_flatF (fun r : Nat × Nat => List.replicate r.2 r.1) (rns l)]
        have e4 := unr_rns l
        unfold unr at e4
        rw [e4]
        exact q H1 s1
end
theorem scLCut : FnScope ["path", "news", "count", "k"] ["path"] (defScope sLCut) := ⟨rfl, rfl, rfl, by decide +kernel, rfl, by decide +kernel, by decide +kernel⟩
/-- within a run that begins at b, at the place i -/
structure RI (l : List Nat) (b i : Nat) : Prop where
  le : b ≤ i
  top : i ≤ l.length
  fin : i = l.length → b = l.length
  all : ∀ j, b ≤ j → j ≤ i → l[j]? = l[b]?
  last : i < l.length → (l.take b).getLast? ≠ l[b]?
theorem RI.zero (l : List Nat) : RI l 0 0 := ⟨Nat.le_refl _, Nat.zero_le _, fun e => e, fun j h1 h2 => by rw [show j = 0 by omega], fun h => by
  rw [List.take_zero, List.getElem?_eq_getElem h]
  exact fun z => nomatch z⟩
theorem RI.ends {l : List Nat} {b i : Nat} (R : RI l b i) (hi : i < l.length) (hb : b < l.length) (hne : i + 1 < l.length → l[i + 1]? ≠ l[b]?) : rns (l.take (i + 1)) = rns (l.take b) ++ [(l[b], i + 1 - b)] ∧ RI l (i + 1) (i + 1) := by
  have hrep : l.take (i + 1) = l.take b ++ List.replicate (i + 1 - b) l[b] := by
    refine List.ext_getElem? fun j => ?_
    have := R.le
    rw [List.getElem?_take]
    by_cases hj : j < b
    · rw [if_pos (by omega), List.getElem?_append_left (by rw [List.length_take]; omega), List.getElem?_take, if_pos hj]
    · rw [List.getElem?_append_right (by rw [List.length_take]; omega), List.length_take, Nat.min_eq_left (by omega), List.getElem?_replicate]
      by_cases hj2 : j < i + 1
      · rw [if_pos hj2, if_pos (by omega), R.all j (by omega) (by omega), List.getElem?_eq_getElem hb]
      · rw [if_neg hj2, if_neg (by omega)]
  have hle := R.le
  refine ⟨?_, Nat.le_refl _, hi, fun e => e, fun j h1 h2 => by rw [show j = i + 1 by omega], fun h => ?_⟩
  · rw [hrep, rns_snoc (by omega) _ (by rw [← List.getElem?_eq_getElem hb]; exact R.last hi)]
  · rw [hrep]
    have e1 : (l.take b ++ List.replicate (i + 1 - b) l[b]).getLast? = some l[b] := by
      rw [show i + 1 - b = (i - b) + 1 by omega, List.replicate_succ', ← List.append_assoc, List.getLast?_append]
      rfl
    rw [e1, ← List.getElem?_eq_getElem hb]
    exact fun z => hne h z.symm
theorem RI.goes {l : List Nat} {b i : Nat} (R : RI l b i) (hi : i + 1 < l.length) (h : l[i + 1]? = l[b]?) : RI l b (i + 1) := ⟨Nat.le_succ_of_le R.le, Nat.le_of_lt hi, fun z => absurd z (by omega), fun j h1 h2 => by
  by_cases hj : j ≤ i
  · exact R.all j h1 hj
  · rw [show j = i + 1 by omega, h], fun _ => R.last (by omega)⟩
section
variable {P : Program} {w : World} {K : PySem.W.Frag} {mg : Str → Option Value} {base : Heap}
def spLCut : Sp := fun vs H Q _ => ∃ l : List Nat, vs = [.str (T l)] ∧ l.length ≤ 10000 ∧ Q (.str (T (flat (rns l)))) H
def rStrN : List V → Hp → VK → Prop := fun xs H Q => ∃ n : Nat, xs = [.int (n : Int)] ∧ n < 10 ^ 9 ∧ Q (.str (T (TL.numL n))) H
theorem call_strN {X : Cx} : CallR X (.type "str") rStrN := by
  intro pins s σ H xs us Q I r h
  obtain ⟨n, e, hn, q⟩ := h
  exact call_str_int pins s σ H xs us Q I r ⟨n, e, log_ok hn, by rw [← num_T] at q; exact q⟩
theorem flat_app (a b : List (Nat × Nat)) : flat (a ++ b) = flat a ++ flat b := by
  unfold flat
  rw [List.map_append, List.flatten_append]
theorem ok_lcut {f : Addr} {fd : FuncData} {k : Nat} (F : Fun K "_law_short" "_law_short" sLCut f fd) (B : Bl mg) : FnOk P w K mg base CX0 (k + 1) f fd ["path"] spLCut := by
  refine F.ok scLCut (fun vs H Q E h => ?_) (fun cdv A outer s H vs Q E hr h => ?_)
  · obtain ⟨l, rfl, _⟩ := h
    rfl
  · obtain ⟨l, rfl, hl, q⟩ := h
    refine ⟨_, pss_cons (ps_set (i := 1) scLCut.nd rfl (.inl rfl) pe_str)
      (pss_cons (ps_set (i := 2) scLCut.nd rfl (.inl rfl) pe_int)
      (pss_cons (ps_for PassesOwn.never rfl (pi_range1 rfl B.range (pa_cons (pe_callB call_len_str (by rfl) B.len PySem.boot_len (pa_cons (pv 0) pa_nil)) pa_nil)) (pg_name (i := 3) scLCut.nd rfl (.inl rfl))
        (C8.pss_cut (ps_set (i := 2) scLCut.nd rfl (.inl rfl) (pe_op op_add (pv 2) pe_int))
        (pss_one (ps_if (PW.pt (pw_or (pt_cmpR op_eq (pe_op op_add (pv 3) pe_int) (pe_callB call_len_str (by rfl) B.len PySem.boot_len (pa_cons (pv 0) pa_nil)) (nomark _)) (pw_or1 (pt_cmpR op_ne (pe_ix ix_str (pv 0) (pe_op op_add (pv 3) pe_int) (fun _ _ => rfl)) (pe_ix ix_str (pv 0) (pv 3) (fun _ _ => rfl)) (nomark _)))))
          (pss_cons (ps_set (i := 1) scLCut.nd rfl (.inl rfl) (pe_op op_add_str (pe_op op_add_str (pv 1) (pe_callTy call_strN (by rfl) B.str (by decide +kernel) (pa_cons (pv 2) pa_nil))) (pe_ix ix_str (pv 0) (pv 3) (fun _ _ => rfl))))
          (pss_one (ps_set (i := 2) scLCut.nd rfl (.inl rfl) pe_int))) pss_nil))))
      (pss_one (ps_ret (pv 1))))), ?_⟩
    have hz : (T l).length ≤ sizeLine := line_ok (by rw [T_len]; omega)
    have h10 : ∀ b, ∀ r ∈ rns (l.take b), r.2 < 10 ^ 9 := fun b r hr => by
      have h1 := (rns_mem hr).2.2
      rw [List.length_take] at h1
      exact Nat.lt_of_le_of_lt h1 (Nat.lt_of_le_of_lt (Nat.le_trans (Nat.min_le_right _ _) hl) (by decide))
    have hfl : ∀ b, (flat (rns (l.take b))).length ≤ 100000 := fun b => by
      have h1 := flat_le _ (h10 b)
      have h2 := rns_len (l.take b)
      rw [List.length_take] at h2
      omega
    refine ⟨.str (T l), rfl, T l, rfl, hz, _, rfl, by rw [T_len]; omega, by rw [T_len]; omega, ?_⟩
    rw [T_len, Int.toNat_natCast]
    refine for_range (lo := 0) (n := l.length) (fun i σ H' => H' = H ∧ ∃ (b : Nat) (v3 : Option V), RI l b i ∧ σ = [some (.str (T l)), some (.str (T (flat (rns (l.take b))))), some (.int ((i - b : Nat) : Int)), v3]) ⟨rfl, 0, none, RI.zero l, by rw [List.take_zero]; show _ = [_, some (V.str (T [])), _, _]; rw [← T_nil]; rfl⟩ ?_ ?_
    · rintro i σ H' hi ⟨rfl, b, v3, R, rfl⟩
      have hbi := R.le
      have hb : b < l.length := by omega
      have a0 : (0 : Int) + (i : Nat) = (i : Nat) := by omega
      have ai := at_T hi
      rw [← a0] at ai
      have elb : l[i] = l[b] := by
        have := R.all i hbi (Nat.le_refl _)
        rw [List.getElem?_eq_getElem hi, List.getElem?_eq_getElem hb] at this
        exact Option.some.inj this
      have ec : ((i - b : Nat) : Int) + 1 = ((i + 1 - b : Nat) : Int) := by omega
      have hm9 : i + 1 - b < 10 ^ 9 := Nat.lt_of_le_of_lt (show i + 1 - b ≤ 10000 by omega) (by decide)
      have hml : (TL.numL (i + 1 - b)).length ≤ 9 := TL.numL_len (by decide) hm9
      refine ⟨fun σ H2 => H2 = H' ∧ σ = [some (.str (T l)), some (.str (T (flat (rns (l.take b))))), some (.int ((i + 1 - b : Nat) : Int)), some (.int (0 + (i : Nat)))], ⟨_, rfl, _, 1, rfl, rfl, rfl, by rw [← ec]; rfl⟩, ?_⟩
      rintro σ H2 ⟨rfl, rfl⟩
      have fin : (i + 1 < l.length → l[i + 1]? ≠ l[b]?) → ∃ (b' : Nat) (v3 : Option V), RI l b' (i + 1) ∧ [some (V.str (T l)), some (.str (T (flat (rns (l.take b))) ++ T (TL.numL (i + 1 - b)) ++ ⟨#[l[i]]⟩)), some (.int 0), some (.int (0 + (i : Nat)))] = [some (V.str (T l)), some (.str (T (flat (rns (l.take b'))))), some (.int ((i + 1 - b' : Nat) : Int)), v3] := fun hne => by
        obtain ⟨e1, R2⟩ := R.ends hi hb hne
        refine ⟨i + 1, some (.int (0 + (i : Nat))), R2, ?_⟩
        rw [e1, flat_app, elb, Nat.sub_self]
        show _ = [_, some (V.str (T (flat (rns (l.take b)) ++ (TL.numL (i + 1 - b) ++ [l[b]] ++ [])))), _, _]
        rw [List.append_nil, ← List.append_assoc, ← T_app, ← T_app]
        rfl
      have s1 : (T (flat (rns (l.take b)))).length + (T (TL.numL (i + 1 - b))).length ≤ sizeLine := line_ok6 (by rw [T_len, T_len]; have := hfl b; omega)
      have s2 : (T (flat (rns (l.take b))) ++ T (TL.numL (i + 1 - b))).length + (⟨#[l[i]]⟩ : Str).length ≤ sizeLine := line_ok6 (by rw [T_app, T_len, List.length_append]; have := hfl b; show _ + 1 ≤ _; omega)
      refine ⟨_, rfl, _, 1, rfl, rfl, _, rfl, T l, rfl, hz, rfl, _, rfl, ite2 (fun e => ?_) (fun e => ?_)⟩
      · have hie : i + 1 = l.length := by
          have := V.int.inj (of_decide_eq_true e)
          rw [T_len] at this
          omega
        exact ⟨_, rfl, _, rfl, i + 1 - b, rfl, hm9, _, _, rfl, rfl, s1, _, rfl, _, rfl, T l, _, _, rfl, rfl, hz, ai, _, _, rfl, rfl, s2, rfl, fin (fun h => absurd h (by omega))⟩
      · have hie : i + 1 < l.length := by
          have : ¬ ((0 : Int) + (i : Nat) + 1 = ((T l).length : Nat)) := fun z => e (decide_eq_true (congrArg V.int z))
          rw [T_len] at this
          omega
        have a1 := at_T hie
        rw [show (((i + 1 : Nat)) : Int) = 0 + (i : Nat) + 1 by omega] at a1
        refine ⟨_, rfl, _, rfl, _, 1, rfl, rfl, T l, _, _, rfl, rfl, hz, a1, _, rfl, _, rfl, T l, _, _, rfl, rfl, hz, ai, rfl, _, rfl, iteN (fun e2 => ?_) (fun e2 => ?_)⟩
        · have e3 : l[i + 1] ≠ l[b] := fun z => e2 (by rw [z, elb])
          exact ⟨_, rfl, _, rfl, i + 1 - b, rfl, hm9, _, _, rfl, rfl, s1, _, rfl, _, rfl, T l, _, _, rfl, rfl, hz, ai, _, _, rfl, rfl, s2, rfl, fin (fun h => by rw [List.getElem?_eq_getElem hie, List.getElem?_eq_getElem hb]; exact fun z => e3 (Option.some.inj z))⟩
        · have e3 : l[i + 1] = l[i] := (one_eq rfl).mp e2
          exact ⟨rfl, b, some (.int (0 + (i : Nat))), R.goes hie (by rw [List.getElem?_eq_getElem hie, List.getElem?_eq_getElem hb, e3, elb]), rfl⟩
    · rintro σ H' ⟨rfl, b, v3, R, rfl⟩
      rw [R.fin rfl, List.take_length]
      exact ⟨_, rfl, q⟩
end
/-! ### turned texts -/
theorem scTurned : FnScope ["text", "letter"] ["text"] (defScope sTurned) := ⟨rfl, rfl, rfl, by decide +kernel, rfl, by decide +kernel, by decide +kernel⟩
section
variable {P : Program} {w : World} {K : PySem.W.Frag} {mg : Str → Option Value} {base : Heap}
def KD (K : PySem.W.Frag) (w : World) (d : Addr) (g : Nat → V) : Prop := ∀ c, Sg c → KDct K w d (T [c]) (g c)
theorem join_ones : ∀ l : List Nat, Str.join (T []) (l.map fun c => T [c]) = T l
  | [] => rfl
  | [c] => rfl
  | c :: e :: r => by
    have ih := join_ones (e :: r)
    show T [c] ++ T [] ++ Str.join (T []) ((e :: r).map fun c => T [c]) = _
    rw [ih, T_app, T_app]
    rfl
theorem sum_ones (l : List Nat) : ((l.map fun c => T [c]).map (·.length)).sum = l.length := by
  induction l with
  | nil => rfl
  | cons c r ih =>
    rw [List.map_cons, List.map_cons, List.sum_cons, ih, T_len, List.length_cons]
    show 1 + r.length = r.length + 1
    omega
def spTurned : Sp := fun vs H Q _ => ∃ l : List Nat, vs = [.str (T l)] ∧ Dna l ∧ l.length ≤ 100000 ∧ ∀ H' : Hp, Same H H' → Q (.str (T (turn l))) H'
theorem ok_turned {f d : Addr} {fd : FuncData} {k : Nat} (F : Fun K "turned" "turned" sTurned f fd) (mr : mg "reversed" = none) (gd : mg "_TURNED" = some (.ref d)) (D : KD K w d fun c => .str (T [opp c])) : FnOk P w K mg base CX0 (k + 1) f fd ["text"] spTurned := by
  refine F.ok scTurned (fun vs H Q E h => ?_) (fun cdv A outer s H vs Q E hr h => ?_)
  · obtain ⟨c, rfl, _⟩ := h
    rfl
  · obtain ⟨l, rfl, hd, hl, q⟩ := h
    refine ⟨_, pss_one (ps_ret (pe_join pe_str (pe_lc (own := [("letter", 1)]) (g := gName 1) (tt := tYes) rfl scTurned.nd (HRev.pi_revS rfl mr (pv 0)) (blkOk_by (own := [("letter", 1)]) (N := ["text", "letter"]) (sc := defScope sTurned) (by decide +kernel))
      (fun _ _ _ _ _ => pg_name (i := 1) scTurned.nd rfl (Or.inl rfl)) (fun _ _ _ _ _ => pts_nil) (fun _ _ _ _ _ => pe_ix (r := rIxD K w) ix_kdict (pe_glob (v := .ref d) (by rfl) gd rfl) (pv 1) (fun _ _ => rfl))))), ?_⟩
    refine ⟨⟨_, rfl⟩, .str (T l), rfl, T l, rfl, line_ok (by rw [T_len]; omega), fun D hD => ?_⟩
    refine lc_gen (n := l.length) (fun i H' => Same H H' ∧ H' D = some (.lst ((((turn l).take i).map fun c => T [c]).map V.str))) ?_ ?_ ?_ ?_ ?_
    · exact ⟨same_upd hD, upd_same⟩
    · intro i H' hi _
      show i < (T l).cps.size
      rw [T_size]
      exact hi
    · intro H' _
      show (T l).cps.size ≤ l.length
      rw [T_size]
      exact Nat.le_refl _
    · rintro i H' x H'' hi ⟨sm, hx⟩ ⟨rfl, c, hc, rfl⟩
      rw [T_size, T_at] at hc
      obtain ⟨hlt, hce⟩ := List.getElem?_eq_some_iff.mp hc
      have hsc : Sg c := by
        rw [← hce]
        exact hd _ (List.getElem_mem hlt)
      refine ⟨rfl, ?_⟩
      dsimp only [tYes]
      rw [if_pos rfl]
      refine ⟨.str (T [c]), rfl, d, T [c], .str (T [opp c]), rfl, rfl, ‹KD K w d _› c hsc, _, hx, ?_, ?_, ?_⟩
      · refine line_lt ?_
        rw [List.length_map, List.length_map, List.length_take, turn_len]
        omega
      · intro b o e
        rw [upd_ne (ne_of_none e hD)]
        exact sm b o e
      · have e1 : (turn l)[i]? = some (opp c) := by
          unfold turn
          rw [List.getElem?_reverse (by rw [List.length_map]; exact hi), List.length_map, List.getElem?_map, hc]
          rfl
        rw [upd_same, List.take_add_one, e1, List.map_append, List.map_append]
        rfl
    · rintro H' ⟨sm, hx⟩
      rw [List.take_of_length_le (by rw [turn_len]; exact Nat.le_refl _)] at hx
      refine ⟨_, D, (turn l).map fun c => T [c], rfl, rfl, .inl (.inl (.inl hx)), ?_, ?_⟩
      · rw [sum_ones, turn_len, show (Str.ofString "").length = 0 by decide +kernel]
        omega
      · rw [TL.join_eq, T_nil, join_ones]
        exact q H' sm
end
/-! ### rows of numbers that are changed in place -/
theorem get_list {X : Cx} : PGet X (rIxL X.K) := by
  intro pins s σ H x y v u Q I rx ry h
  obtain ⟨p, xs, i, z, rfl, rfl, hq, he, q⟩ := h
  cases rx
  obtain ⟨t, rfl⟩ := ry
  obtain ⟨its, r, pl, hz⟩ := I.list hq
  obtain ⟨j, h1, h2, h3, h4, h5⟩ := atI_get he
  obtain ⟨w, ew, rw'⟩ := r.get h2
  have hl := r.length
  have hn := line63
  have fin : EP X pins σ Q w s := ⟨z, H, I, rw', q⟩
  by_cases h0 : 0 ≤ i
  · have hj : i.toNat = j := by
      rw [seqIndex_of h0 h5] at h1
      exact Option.some.inj h1
    exact wpAny_getItem_list pl.isList h0 (by omega) (by rw [hj]; simpa using ew) fin
  · have hj : (i + (its.toArray.size : Int)).toNat = j := by
      rw [seqIndex_neg (by omega) h4] at h1
      rw [List.size_toArray, ← hl]
      exact Option.some.inj h1
    exact wpAny_getItem_list_neg pl.isList (by omega) (by rw [List.size_toArray] <;> omega) (by omega) (by rw [hj]; simpa using ew) fin
def bumpM (S : List (List Int)) (r c : Nat) (m : Int) : List (List Int) := S.set r ((S.getD r []).set c ((S.getD r []).getD c 0 + m))
structure Good7 (S : List (List Int)) : Prop where
  seven : ∀ r ∈ S, r.length = 7
  pos : ∀ r ∈ S, ∀ x ∈ r, 0 ≤ x
structure Mtx (H : Hp) (p : Addr) (qs : List Addr) (S : List (List Int)) : Prop where
  top : H p = some (.lst (qs.map V.ref))
  nd : qs.Nodup
  np : p ∉ qs
  len : qs.length = S.length
  row : ∀ (i : Nat) (q : Addr), qs[i]? = some q → ∀ r : List Int, S[i]? = some r → H q = some (LI r)
theorem Mtx.keep {H H' : Hp} {p : Addr} {qs : List Addr} {S : List (List Int)} (M : Mtx H p qs S) (k : ∀ b o, (b = p ∨ b ∈ qs) → H b = some o → H' b = some o) : Mtx H' p qs S :=
  ⟨k _ _ (.inl rfl) M.top, M.nd, M.np, M.len, fun i q hq r hr => k _ _ (.inr (List.mem_of_getElem? hq)) (M.row i q hq r hr)⟩
theorem Mtx.same {H H' : Hp} {p : Addr} {qs : List Addr} {S : List (List Int)} (M : Mtx H p qs S) (s : Same H H') : Mtx H' p qs S := M.keep fun b o _ e => s b o e
theorem Mtx.get {H : Hp} {p : Addr} {qs : List Addr} {S : List (List Int)} (M : Mtx H p qs S) {i : Nat} (h : i < S.length) : ∃ q, qs[i]? = some q ∧ q ∈ qs ∧ H q = some (LI (S.getD i [])) ∧ atI (qs.map V.ref) ((i : Nat) : Int) = some (.ref q) := by
  have hi : i < qs.length := by rw [M.len]; exact h
  have e : qs[i]? = some qs[i] := List.getElem?_eq_getElem hi
  have er : S[i]? = some (S.getD i []) := by rw [List.getD_eq_getElem?_getD, List.getElem?_eq_getElem h]; rfl
  refine ⟨qs[i], e, List.getElem_mem hi, M.row i _ e _ er, atI_nat ?_⟩
  rw [List.getElem?_map, e]
  rfl
theorem Mtx.bump {H : Hp} {p q : Addr} {qs : List Addr} {S : List (List Int)} (M : Mtx H p qs S) {i c : Nat} {m : Int} (hq : qs[i]? = some q) : Mtx (upd H q (.lst (((S.getD i []).map V.int).set c (.int ((S.getD i []).getD c 0 + m))))) p qs (bumpM S i c m) := by
  have hqm := List.mem_of_getElem? hq
  have npq : p ≠ q := fun z => M.np (z ▸ hqm)
  refine ⟨by rw [upd_ne npq]; exact M.top, M.nd, M.np, by unfold bumpM; rw [List.length_set]; exact M.len, fun j q' hj r hr => ?_⟩
  unfold bumpM at hr
  by_cases e : i = j
  · subst e
    obtain rfl : q' = q := by rw [hq] at hj; exact (Option.some.inj hj).symm
    have hlt : i < S.length := by
      have := (List.getElem?_eq_some_iff.mp hr).1
      rw [List.length_set] at this
      exact this
    rw [List.getElem?_set_self hlt] at hr
    rw [upd_same, ← Option.some.inj hr]
    exact congrArg (fun z => some (HO.lst z)) List.map_set.symm
  · rw [List.getElem?_set_ne e] at hr
    have nq : q' ≠ q := fun z => by
      subst z
      obtain ⟨a1, b1⟩ := List.getElem?_eq_some_iff.mp hq
      obtain ⟨a2, b2⟩ := List.getElem?_eq_some_iff.mp hj
      rcases Nat.lt_or_gt_of_ne e with lt | lt
      · exact List.pairwise_iff_getElem.mp M.nd i j a1 a2 lt (b1.trans b2.symm)
      · exact List.pairwise_iff_getElem.mp M.nd j i a2 a1 lt (b2.trans b1.symm)
    rw [upd_ne nq]
    exact M.row j q' hj r hr
theorem getD_mem {S : List (List Int)} {i : Nat} (h : i < S.length) : S.getD i [] ∈ S := by
  rw [List.getD_eq_getElem?_getD, List.getElem?_eq_getElem h]
  exact List.getElem_mem h
theorem row_at {r : List Int} {c : Nat} (h : c < r.length) : atI (r.map V.int) ((c : Nat) : Int) = some (.int (r.getD c 0)) := by
  rw [List.getD_eq_getElem?_getD, List.getElem?_eq_getElem h]
  exact atI_nat (map_int_at h)
theorem bump_len (S : List (List Int)) (i c : Nat) (m : Int) : (bumpM S i c m).length = S.length := by
  unfold bumpM
  rw [List.length_set]
theorem bump_good {S : List (List Int)} (G : Good7 S) {i : Nat} (c : Nat) {m : Int} (hi : i < S.length) (hm : 0 ≤ m) : Good7 (bumpM S i c m) := by
  have h7 := G.seven _ (getD_mem hi)
  have hp := G.pos _ (getD_mem hi)
  refine ⟨fun r hr => ?_, fun r hr x hx => ?_⟩
  · rcases List.mem_or_eq_of_mem_set hr with z | z
    · exact G.seven r z
    · rw [z, List.length_set]
      exact h7
  · rcases List.mem_or_eq_of_mem_set hr with z | z
    · exact G.pos r z x hx
    · rw [z] at hx
      rcases List.mem_or_eq_of_mem_set hx with y | y
      · exact hp x y
      · rw [y]
        by_cases hc : c < (S.getD i []).length
        · generalize S.getD i [] = r0 at *
          have := hp (r0.getD c 0) (by rw [List.getD_eq_getElem?_getD, List.getElem?_eq_getElem hc]; exact List.getElem_mem hc)
          omega
        · generalize S.getD i [] = r0 at *
          rw [List.getD_eq_getElem?_getD, List.getElem?_eq_none (by omega)]
          show 0 ≤ 0 + m
          omega
def li (c : Nat) : Nat := if c = 65 then 0 else if c = 67 then 1 else if c = 71 then 2 else if c = 84 then 3 else 4
theorem li_lt (c : Nat) : li c < 7 := by
  unfold li
  split
  · decide
  split
  · decide
  split
  · decide
  split <;> decide
theorem li_occ {c : Nat} (h : Sg c) : ∃ rest, Builtin.Str.occurrences (Str.ofString "ACGTN") (T [c]) 0 (Str.ofString "ACGTN").length 1 = li c :: rest := by
  rcases h with e | e | e | e | e <;> subst e <;> exact ⟨[], by decide +kernel⟩
/-- one step of a path: its sums, its position, its place in the read -/
structure PS3 where
  S : List (List Int)
  p : Nat
  a : Nat
def pstep (ls : List Nat) (ms : List Int) (x : PS3) (c : Nat) : PS3 :=
  ⟨if c = 73 then bumpM x.S x.p 6 1 else if c = 68 then bumpM x.S x.p 5 1 else bumpM x.S x.p (li (ls.getD x.a 0)) (ms.getD x.a 0), if c = 73 then x.p else x.p + 1, if c = 68 then x.a else x.a + 1⟩
def prun (ls : List Nat) (ms : List Int) (pa : List Nat) (x : PS3) : PS3 := pa.foldl (pstep ls ms) x
/-- the path stays within n positions and L letters -/
def okp (L n : Nat) : List Nat → Nat → Nat → Prop
  | [], _, _ => True
  | c :: r, p, a => (c = 61 ∨ c = 88 ∨ c = 73 ∨ c = 68) ∧ p < n ∧ (c ≠ 73 → c ≠ 68 → a < L) ∧ okp L n r (if c = 73 then p else p + 1) (if c = 68 then a else a + 1)
theorem okp_at {L n : Nat} (ls : List Nat) (ms : List Int) : ∀ (pa : List Nat) (x : PS3) (k c : Nat), okp L n pa x.p x.a → pa[k]? = some c → (c = 61 ∨ c = 88 ∨ c = 73 ∨ c = 68) ∧ (prun ls ms (pa.take k) x).p < n ∧ (c ≠ 73 → c ≠ 68 → (prun ls ms (pa.take k) x).a < L)
  | [], x, k, c, _, h => by cases h
  | d :: r, x, 0, c, o, h => by
    obtain rfl : d = c := Option.some.inj h
    exact ⟨o.1, o.2.1, o.2.2.1⟩
  | d :: r, x, k + 1, c, o, h => okp_at ls ms r (pstep ls ms x d) k c o.2.2.2 h
theorem prun_snoc (ls : List Nat) (ms : List Int) {pa : List Nat} {k c : Nat} (x : PS3) (h : pa[k]? = some c) : prun ls ms (pa.take (k + 1)) x = pstep ls ms (prun ls ms (pa.take k) x) c := by
  unfold prun
  rw [List.take_add_one, h]
  show List.foldl _ _ (_ ++ [c]) = _
  rw [List.foldl_append]
  rfl
theorem pstep_len (ls : List Nat) (ms : List Int) (x : PS3) (c : Nat) : (pstep ls ms x c).S.length = x.S.length := by
  unfold pstep
  dsimp only
  split
  · exact bump_len ..
  split <;> exact bump_len ..
theorem prun_len (ls : List Nat) (ms : List Int) : ∀ (pa : List Nat) (x : PS3), (prun ls ms pa x).S.length = x.S.length
  | [], _ => rfl
  | c :: r, x => (prun_len ls ms r (pstep ls ms x c)).trans (pstep_len ls ms x c)
theorem prun_good {L n : Nat} {ls : List Nat} {ms : List Int} (hm : ∀ x ∈ ms, 0 ≤ x) : ∀ (pa : List Nat) (x : PS3), okp L n pa x.p x.a → n ≤ x.S.length → Good7 x.S → Good7 (prun ls ms pa x).S
  | [], _, _, _, g => g
  | c :: r, x, o, hn, g => by
    have hp : x.p < x.S.length := Nat.lt_of_lt_of_le o.2.1 hn
    have hg : 0 ≤ ms.getD x.a 0 := by
      rw [List.getD_eq_getElem?_getD]
      cases e : ms[x.a]? with
      | none => exact Int.le_refl _
      | some y => exact hm y (List.mem_of_getElem? e)
    refine prun_good hm r (pstep ls ms x c) o.2.2.2 (by rw [pstep_len]; exact hn) ?_
    unfold pstep
    dsimp only
    split
    · exact bump_good g _ hp (by decide)
    split
    · exact bump_good g _ hp (by decide)
    · exact bump_good g _ hp hg
/-! ### piles -/
def z7 : List Int := [0, 0, 0, 0, 0, 0, 0]
def zer (n : Nat) : List (List Int) := (List.range n).map fun _ => z7
theorem zer_len (n : Nat) : (zer n).length = n := by
  unfold zer
  rw [List.length_map, List.length_range]
theorem zer_good (n : Nat) : Good7 (zer n) := by
  refine ⟨fun r hr => ?_, fun r hr x hx => ?_⟩
  · obtain ⟨_, _, rfl⟩ := List.mem_map.mp hr
    rfl
  · obtain ⟨_, _, rfl⟩ := List.mem_map.mp hr
    have : x = 0 := by simpa [z7] using hx
    omega
structure PlT (K : PySem.W.Frag) (mg : Str → Option Value) (C : Addr) : Prop where
  cl : Cls K C
  n1 : NoAttr K C "_text"
  n2 : NoAttr K C "_sums"
  gC : mg "Pile" = some (.ref C)
  gE : ∃ t, mg "_EXTRAS" = some (.int 6 t)
  gG : ∃ t, mg "_GAPS" = some (.int 5 t)
  gL : ∃ t, mg "LETTERS" = some (.str (Str.ofString "ACGTN") t)
structure Pl (C : Addr) (H : Hp) (a dx p : Addr) (qs : List Addr) (t : List Nat) (S : List (List Int)) : Prop where
  ob : H a = some (.ins C dx [("_text", .str (T t)), ("_sums", .ref p)])
  mx : Mtx H p qs S
  ap : a ≠ p
  aq : a ∉ qs
theorem Pl.keep {C : Addr} {H H' : Hp} {a dx p : Addr} {qs : List Addr} {t : List Nat} {S : List (List Int)} (h : Pl C H a dx p qs t S) (k : ∀ b o, (b = a ∨ b = p ∨ b ∈ qs) → H b = some o → H' b = some o) : Pl C H' a dx p qs t S :=
  ⟨k _ _ (.inl rfl) h.ob, h.mx.keep fun b o hb e => k b o (.inr hb) e, h.ap, h.aq⟩
theorem Pl.same {C : Addr} {H H' : Hp} {a dx p : Addr} {qs : List Addr} {t : List Nat} {S : List (List Int)} (h : Pl C H a dx p qs t S) (s : Same H H') : Pl C H' a dx p qs t S := h.keep fun b o _ e => s b o e
theorem scPInit : FnScope ["self", "text", "_"] ["self", "text"] (defScope mInit) := ⟨rfl, rfl, rfl, by decide +kernel, rfl, by decide +kernel, by decide +kernel⟩
def NA : List Str := ["self", "record", "read", "_", "strand", "position", "cut_path", "letters", "marks", "at", "step"]
theorem scPAdd : FnScope NA ["self", "record", "read"] (defScope mAdd) := ⟨rfl, rfl, rfl, by decide +kernel, rfl, by decide +kernel, by decide +kernel⟩
theorem scPSums : FnScope ["self", "position"] ["self", "position"] (defScope mSums) := ⟨rfl, rfl, rfl, by decide +kernel, rfl, by decide +kernel, by decide +kernel⟩
theorem scPTold : FnScope ["self", "position", "marks", "largest"] ["self", "position"] (defScope mTold) := ⟨rfl, rfl, rfl, by decide +kernel, rfl, by decide +kernel, by decide +kernel⟩
theorem scPDiffs : FnScope ["self", "found", "position", "letter", "told"] ["self"] (defScope mDiffs) := ⟨rfl, rfl, rfl, by decide +kernel, rfl, by decide +kernel, by decide +kernel⟩
theorem scPMended : FnScope ["self", "letters", "position", "_", "told"] ["self"] (defScope mMended) := ⟨rfl, rfl, rfl, by decide +kernel, rfl, by decide +kernel, by decide +kernel⟩
section
variable {P : Program} {w : World} {K : PySem.W.Frag} {mg : Str → Option Value} {base : Heap}
def spPInit (C : Addr) : Sp := fun vs H Q _ => ∃ (x dx : Addr) (t : List Nat), vs = [.ref x, .str (T t)] ∧ H x = some (.ins C dx []) ∧ t.length ≤ 100000 ∧
  ∀ (H' : Hp) (p : Addr) (qs : List Addr), (∀ c o, c ≠ x → H c = some o → H' c = some o) → H p = none → (∀ q ∈ qs, H q = none) → Pl C H' x dx p qs t (zer (t.length + 1)) → Q .non H'
theorem ok_pinit {f C : Addr} {fd : FuncData} {k : Nat} (F : Fun K "__init__" "Pile.__init__" mInit f fd) (X : PlT K mg C) (B : Bl mg) : FnOk P w K mg base CX0 (k + 1) f fd ["self", "text"] (spPInit C) := by
  obtain ⟨tE, gE⟩ := X.gE
  refine F.ok scPInit (fun vs H Q E h => ?_) (fun cdv A outer s H vs Q E hr h => ?_)
  · obtain ⟨x, dx, t, rfl, _⟩ := h
    rfl
  · obtain ⟨x, dx, t, rfl, hx, hl, q⟩ := h
    refine ⟨_, PSs.nox (pss_cons (ps_fld (pv 0) (pv 1) rfl)
      (pss_one (ps_fld (pv 0) (pe_lc (own := [("_", 2)]) (g := gName 2) (tt := tYes) (te := tOp rRep (tLst (tCons (tC (.int 0)) tNil)) (tOp (rI0 fun i j => V.int (i + j)) (tC (.int 6)) (tC (.int 1)))) (by rfl) scPInit.nd (pi_range1 rfl B.range (pa_cons (pe_op op_add (pe_callB call_len_str (by rfl) B.len PySem.boot_len (pa_cons (pv 1) pa_nil)) pe_int) pa_nil)) (blkOk_by (own := [("_", 2)]) (N := ["self", "text", "_"]) (sc := defScope mInit) (by decide +kernel)) (fun _ _ _ _ _ => pg_name (i := 2) scPInit.nd rfl (Or.inl rfl)) (fun _ _ _ _ _ => pts_nil) (fun _ _ _ _ _ => (pe_op op_rep (pe_lst (pa_cons pe_int pa_nil)) (pe_op op_add (pe_glob (v := .int 6) (by rfl) gE ⟨_, rfl⟩) pe_int)))) rfl))), ?_⟩
    refine ⟨_, rfl, _, rfl, x, C, dx, _, rfl, hx, X.cl, X.n1, by decide, ?_⟩
    refine ⟨_, rfl, T t, rfl, line_ok6 (by rw [T_len]; omega), _, 1, rfl, rfl, _, rfl, by rw [T_len]; omega, by rw [T_len]; omega, fun D hD => ?_⟩
    rw [T_len, show ((t.length : Int) + 1).toNat = t.length + 1 by omega]
    have hxD : D ≠ x := fun z => by rw [z, upd_same] at hD; cases hD
    have hDH : H D = none := by rw [upd_ne hxD] at hD; exact hD
    refine lc_gen (n := t.length + 1) (fun j H' => (∀ c o, c ≠ x → H c = some o → H' c = some o) ∧ H' x = some (.ins C dx [("_text", .str (T t))]) ∧ ∃ qs : List Addr, H' D = some (.lst (qs.map V.ref)) ∧ qs.length = j ∧ qs.Nodup ∧ D ∉ qs ∧ x ∉ qs ∧ ∀ q ∈ qs, H' q = some (LI z7) ∧ H q = none) ⟨fun c o nc e => ?_, ?_, [], upd_same, rfl, List.nodup_nil, List.not_mem_nil, List.not_mem_nil, fun q hq => by cases hq⟩ (fun j H' hj _ => hj) (fun H' _ => Nat.le_refl _) ?_ ?_
    · rw [upd_ne (ne_of_none e hDH), upd_ne nc]
      exact e
    · rw [upd_ne hxD.symm, upd_same]
      rfl
    · rintro j H2 v H3 hj ⟨sb, hx2, qs, hD2, hlen, hnd, hDq, hxq, hqs⟩ ⟨rfl, rfl⟩
      refine ⟨rfl, ?_⟩
      dsimp only [tYes]
      rw [if_pos rfl]
      refine ⟨by show 1 ≤ sizeLine; decide, fun q0 hq0 => ⟨6, 1, rfl, rfl, q0, _, _, rfl, rfl, upd_same, by decide, by decide, by show 1 * 7 ≤ sizeLine; decide, fun q1 hq1 => ?_⟩⟩
      have n0D : D ≠ q0 := ne_of_none hD2 hq0
      have n0x : x ≠ q0 := ne_of_none hx2 hq0
      have hq1' := new_old hq1
      have n1D : D ≠ q1 := ne_of_none hD2 hq1'
      have n1x : x ≠ q1 := ne_of_none hx2 hq1'
      have hD4 : (upd (upd H3 q0 (.lst [V.int 0])) q1 (.lst (List.replicate (6 + 1 : Int).toNat [V.int 0]).flatten)) D = some (.lst (qs.map V.ref)) := by
        rw [upd_ne n1D, upd_ne n0D]
        exact hD2
      have nq : ∀ q ∈ qs, q ≠ q1 := fun q hq => ne_of_none (hqs q hq).1 hq1'
      have nq0 : ∀ q ∈ qs, q ≠ q0 := fun q hq => ne_of_none (hqs q hq).1 hq0
      have hq1H : H q1 = none := by
        cases e : H q1 with
        | none => rfl
        | some o =>
          have := sb q1 o n1x.symm e
          rw [hq1'] at this
          cases this
      refine ⟨_, hD4, line_lt (by rw [List.length_map]; omega), fun c o nc e => ?_, ?_, qs ++ [q1], ?_, by rw [List.length_append, hlen]; rfl, ?_, ?_, ?_, fun q hq => ?_⟩
      · have e2 := sb c o nc e
        rw [upd_ne (ne_of_none e hDH), upd_ne (ne_of_none e2 hq1'), upd_ne (ne_of_none e2 hq0)]
        exact e2
      · rw [upd_ne hxD.symm, upd_ne n1x, upd_ne n0x]
        exact hx2
      · rw [upd_same, List.map_append]
        rfl
      · rw [List.nodup_append]
        exact ⟨hnd, by simp, fun a ha b hb => by
          obtain rfl : b = q1 := by simpa using hb
          exact nq a ha⟩
      · intro z
        rcases List.mem_append.mp z with z | z
        · exact hDq z
        · exact n1D (by simpa using z)
      · intro z
        rcases List.mem_append.mp z with z | z
        · exact hxq z
        · exact n1x (by simpa using z)
      · rcases List.mem_append.mp hq with z | z
        · obtain ⟨h1, h2⟩ := hqs q z
          refine ⟨?_, h2⟩
          rw [upd_ne (fun (y : q = D) => hDq (by rw [← y]; exact z)), upd_ne (nq q z), upd_ne (nq0 q z)]
          exact h1
        · obtain rfl : q = q1 := by simpa using z
          refine ⟨?_, hq1H⟩
          rw [upd_ne n1D.symm, upd_same]
          rfl
    · rintro H2 ⟨sb, hx2, qs, hD2, hlen, hnd, hDq, hxq, hqs⟩
      refine ⟨_, rfl, x, C, dx, _, rfl, hx2, X.cl, X.n2, by show 1 < 1000; decide, ?_⟩
      refine q _ D qs (fun c o nc e => ?_) hDH (fun z hz => (hqs z hz).2) ⟨upd_same, ⟨?_, hnd, hDq, ?_, fun i z hz r hr => ?_⟩, hxD.symm, hxq⟩
      · rw [upd_ne nc]
        exact sb c o nc e
      · rw [upd_ne hxD]
        exact hD2
      · rw [hlen, zer_len]
      · have hm := List.mem_of_getElem? hz
        rw [upd_ne (fun (y : z = x) => hxq (by rw [← y]; exact hm)), (hqs z hm).1]
        obtain ⟨_, _, e⟩ := List.mem_map.mp (List.mem_of_getElem? hr)
        rw [← e]
def eff (s : Nat) (ls : List Nat) : List Nat := if s = 1 then turn ls else ls
def effM (s : Nat) (ms : List Int) : List Int := if s = 1 then ms.reverse else ms
def spPAdd (C : Addr) : Sp := fun vs H Q _ => ∃ (x dx p ra rd mr : Addr) (qs : List Addr) (t : List Nat) (S : List (List Int)) (v1 v2 v5 v6 v7 nm : V) (sd ps : Nat) (pa ls : List Nat) (ms : List Int), vs = [.ref x, .ref ra, .ref rd] ∧ Pl C H x dx p qs t S ∧
  H ra = some (.tup [v1, v2, .int (sd : Int), .int (ps : Int), v5, v6, v7, .str (T (flat (rns pa)))]) ∧ H rd = some (.tup [nm, .str (T ls), .ref mr]) ∧ H mr = some (LI ms) ∧ mr ∉ qs ∧ Dna ls ∧ ls.length ≤ 100000 ∧ ms.length = ls.length ∧ PC pa ∧ pa.length ≤ 10000 ∧ okp ls.length S.length pa ps 0 ∧ Good7 S ∧ (∀ y ∈ ms, 0 ≤ y) ∧
  ∀ H', (∀ b o, b ∉ qs → H b = some o → H' b = some o) → Pl C H' x dx p qs t (prun (eff sd ls) (effM sd ms) pa ⟨S, ps, 0⟩).S → Q .non H'
theorem ok_padd {f C : Addr} {fd : FuncData} {k : Nat} (F : Fun K "add" "Pile.add" mAdd f fd) (X : PlT K mg C) (hT : Has P w K mg base (k + 1) "turned" ["text"] spTurned) (hJ : Has P w K mg base (k + 1) "joined_path" ["cut_path"] spJPath) : FnOk P w K mg base CX0 (k + 2) f fd ["self", "record", "read"] (spPAdd C) := by
  obtain ⟨fT, dT', GT, gT, kT, bT⟩ := hT
  obtain ⟨fJ, dJ, GJ, gJ, kJ, bJ⟩ := hJ
  obtain ⟨tE, gE⟩ := X.gE
  obtain ⟨tG, gG⟩ := X.gG
  obtain ⟨tL, gL⟩ := X.gL
  refine F.ok scPAdd (fun vs H Q E h => ?_) (fun cdv A outer s H vs Q E hr h => ?_)
  · obtain ⟨x, dx, p, ra, rd, mr, qs, t, S, v1, v2, v5, v6, v7, nm, sd, ps, pa, ls, ms, rfl, _⟩ := h
    rfl
  · obtain ⟨x, dx, p, ra, rd, mr, qs, t, S, v1, v2, v5, v6, v7, nm, sd, ps, pa, ls, ms, rfl, hP, hra, hrd, hmr, hmq, hdn, hll, hml, hpc, hpl, ho, hg, hpos, q⟩ := h
    refine ⟨_, (pss_cons (ps_asg (pv 1) (pg_tup rfl (pgs_cons (pg_name (i := 3) scPAdd.nd rfl (.inl rfl)) (pgs_cons (pg_name (i := 3) scPAdd.nd rfl (.inl rfl)) (pgs_cons (pg_name (i := 4) scPAdd.nd rfl (.inl rfl)) (pgs_cons (pg_name (i := 5) scPAdd.nd rfl (.inl rfl)) (pgs_cons (pg_name (i := 3) scPAdd.nd rfl (.inl rfl)) (pgs_cons (pg_name (i := 3) scPAdd.nd rfl (.inl rfl)) (pgs_cons (pg_name (i := 3) scPAdd.nd rfl (.inl rfl)) (pgs_cons (pg_name (i := 6) scPAdd.nd rfl (.inl rfl)) pgs_nil))))))))))
      (pss_cons (ps_asg (pv 2) (pg_tup rfl (pgs_cons (pg_name (i := 3) scPAdd.nd rfl (.inl rfl)) (pgs_cons (pg_name (i := 7) scPAdd.nd rfl (.inl rfl)) (pgs_cons (pg_name (i := 8) scPAdd.nd rfl (.inl rfl)) pgs_nil)))))
      (C8.pss_cut (ps_if (pt_cmpR op_eq (pv 4) pe_int (nomark _)) (pss_cons (ps_set (i := 7) scPAdd.nd rfl (.inl rfl) (pe_call GT hr (by rfl) gT kT bT .nil pass0 (pa_cons (pv 7) pa_nil)))
      (pss_one (ps_set (i := 8) scPAdd.nd rfl (.inl rfl) (pe_revL (pv 8))))) pss_nil)
      (pss_cons (ps_set (i := 9) scPAdd.nd rfl (.inl rfl) pe_int)
      (pss_one (ps_for PassesOwn.never rfl (pi_str (pe_call GJ hr (by rfl) gJ kJ bJ .nil pass0 (pa_cons (pv 6) pa_nil))) (pg_name (i := 10) scPAdd.nd rfl (.inl rfl))
        (C8.pss_cut (ps_if (pt_cmpR op_eq (pv 10) pe_str (nomark _)) (pss_one (ps_augS (pe_ix ix_list (pe_fld (pv 0) rfl) (pv 5) (fun _ _ => rfl)) (pe_glob (v := .int 6) (by rfl) gE ⟨_, rfl⟩) get_list pe_int ip_add set_list)) (pss_one (ps_if (pt_cmpR op_eq (pv 10) pe_str (nomark _)) (pss_one (ps_augS (pe_ix ix_list (pe_fld (pv 0) rfl) (pv 5) (fun _ _ => rfl)) (pe_glob (v := .int 5) (by rfl) gG ⟨_, rfl⟩) get_list pe_int ip_add set_list)) (pss_one (ps_augS (pe_ix ix_list (pe_fld (pv 0) rfl) (pv 5) (fun _ _ => rfl)) (pe_bm PySem.F.plainAttrs_str PySem.F.slot_str_index PySem.F.type_str_index mt_sindex (pe_glob (v := .str (Str.ofString "ACGTN")) (by rfl) gL ⟨_, rfl⟩) (pa_cons (pe_ix ix_str (pv 7) (pv 9) (fun _ _ => rfl)) pa_nil)) get_list (pe_ix ix_list (pv 8) (pv 9) (fun _ _ => rfl)) ip_add set_list)))))
      (C8.pss_cut (ps_if (pt_cmpR op_ne (pv 10) pe_str (nomark _)) (pss_one (ps_aug (i := 9) scPAdd.nd rfl (.inl rfl) pe_int ip_add)) pss_nil)
      (pss_one (ps_if (pt_cmpR op_ne (pv 10) pe_str (nomark _)) (pss_one (ps_aug (i := 5) scPAdd.nd rfl (.inl rfl) pe_int ip_add)) pss_nil)))))))))), ?_⟩
    refine ⟨_, rfl, ra, _, rfl, .inl (.inl hra), rfl, _, _, rfl, _, _, rfl, _, _, rfl, _, _, rfl, _, _, rfl, _, _, rfl, _, _, rfl, _, _, rfl, rfl, ?_⟩
    refine ⟨_, rfl, rd, _, rfl, .inl (.inl hrd), rfl, _, _, rfl, _, _, rfl, _, _, rfl, rfl, ?_⟩
    refine ⟨fun σ H' => Same H H' ∧ ∃ m, m ∉ qs ∧ H' m = some (LI (effM sd ms)) ∧ σ = [some (.ref x), some (.ref ra), some (.ref rd), some nm, some (.int (sd : Int)), some (.int (ps : Int)), some (.str (T (flat (rns pa)))), some (.str (T (eff sd ls))), some (.ref m), none, none], ?_, ?_⟩
    · refine ⟨_, rfl, rfl, _, rfl, ite2 (fun e => ?_) (fun e => ?_)⟩
      · have e1 : sd = 1 := by
          have := V.int.inj (of_decide_eq_true e)
          omega
        subst e1
        refine ⟨_, rfl, ls, rfl, hdn, hll, fun H1 s1 => ⟨_, rfl, mr, _, rfl, .inl (.inl (s1 _ _ hmr)), fun m hm => ⟨s1.trans (same_upd hm), m, fun z => ?_, ?_, rfl⟩⟩⟩
        · obtain ⟨i, hi, e2⟩ := List.mem_iff_getElem.mp z
          have hi2 : i < S.length := by rw [← hP.mx.len]; exact hi
          have := hP.mx.row i m (by rw [List.getElem?_eq_getElem hi, e2]) _ (List.getElem?_eq_getElem hi2)
          have := s1 _ _ this
          rw [hm] at this
          cases this
        · rw [upd_same]
          show some (HO.lst ((ms.map V.int).reverse)) = some (HO.lst ((effM 1 ms).map V.int))
          unfold effM
          rw [if_pos rfl, List.map_reverse]
      · have e1 : sd ≠ 1 := fun z => e (by rw [z]; rfl)
        refine ⟨Same.refl _, mr, hmq, ?_, ?_⟩
        · unfold effM
          rw [if_neg e1]
          exact hmr
        · unfold eff
          rw [if_neg e1]
          rfl
    rintro σ H1 ⟨s1, m, hmq1, hm, rfl⟩
    have hel : (eff sd ls).length = ls.length := by
      unfold eff
      split
      · exact turn_len ls
      · rfl
    have hdE : Dna (eff sd ls) := by
      unfold eff
      split
      · exact turn_dna hdn
      · exact hdn
    have heM : (effM sd ms).length = ls.length := by
      unfold effM
      split
      · rw [List.length_reverse, hml]
      · exact hml
    have hpM : ∀ y ∈ effM sd ms, 0 ≤ y := fun y hy => by
      unfold effM at hy
      split at hy
      · exact hpos y (List.mem_reverse.mp hy)
      · exact hpos y hy
    have hP1 := hP.same s1
    generalize eff sd ls = el at hel hdE q ⊢
    generalize effM sd ms = em at heM hpM hm q ⊢
    refine ⟨_, rfl, pa, rfl, hpc, hpl, fun H2 s2 => ⟨T pa, rfl, ?_⟩⟩
    have s12 := s1.trans s2
    have hX : ∀ k, (prun el em (pa.take k) ⟨S, ps, 0⟩).S.length = S.length := fun k => prun_len ..
    have ho2 : okp el.length S.length pa ps 0 := by rw [hel]; exact ho
    refine for_str (z := T pa) (fun i σ H' => i ≤ pa.length ∧ (∀ b o, b ∉ qs → H b = some o → H' b = some o) ∧ Pl C H' x dx p qs t (prun el em (pa.take i) ⟨S, ps, 0⟩).S ∧ Good7 (prun el em (pa.take i) ⟨S, ps, 0⟩).S ∧ H' m = some (LI em) ∧ ∃ v10 : Option V, σ = [some (.ref x), some (.ref ra), some (.ref rd), some nm, some (.int (sd : Int)), some (.int ((prun el em (pa.take i) ⟨S, ps, 0⟩).p : Int)), some (.str (T (flat (rns pa)))), some (.str (T el)), some (.ref m), some (.int ((prun el em (pa.take i) ⟨S, ps, 0⟩).a : Int)), v10]) ⟨Nat.zero_le _, fun b o _ e => s12 b o e, hP.same s12, by rw [List.take_zero]; exact hg, s2 _ _ hm, none, by rw [List.take_zero]; rfl⟩ ?_ ?_
    · rintro i c σ H3 hc ⟨_, hfr, hPi, hgi, hmi, v10, rfl⟩
      rw [T_at] at hc
      have hi : i < pa.length := (List.getElem?_eq_some_iff.mp hc).1
      obtain ⟨hcc, hpi, hai⟩ := okp_at el em pa ⟨S, ps, 0⟩ i c ho2 hc
      rw [prun_snoc el em ⟨S, ps, 0⟩ hc]
      have hSl := hX i
      generalize prun el em (pa.take i) ⟨S, ps, 0⟩ = Y at hPi hgi hpi hai hSl ⊢
      have hpi' : Y.p < Y.S.length := by rw [hSl]; exact hpi
      obtain ⟨qr, hqr, hqm, hqv, hqa⟩ := hPi.mx.get hpi'
      have h7 := hgi.seven _ (getD_mem hpi')
      have hx7 : ∀ c, c < 7 → atI ((Y.S.getD Y.p []).map V.int) ((c : Nat) : Int) = some (.int ((Y.S.getD Y.p []).getD c 0)) := fun c hc => row_at (by rw [h7]; exact hc)
      have fin : ∀ (c : Nat) (mv : Int) (nl : m ≠ qr), 0 ≤ mv → (∀ b o, b ∉ qs → H b = some o → (upd H3 qr (.lst (((Y.S.getD Y.p []).map V.int).set c (.int ((Y.S.getD Y.p []).getD c 0 + mv))))) b = some o) ∧ Pl C (upd H3 qr (.lst (((Y.S.getD Y.p []).map V.int).set c (.int ((Y.S.getD Y.p []).getD c 0 + mv))))) x dx p qs t (bumpM Y.S Y.p c mv) ∧ Good7 (bumpM Y.S Y.p c mv) ∧ (upd H3 qr (.lst (((Y.S.getD Y.p []).map V.int).set c (.int ((Y.S.getD Y.p []).getD c 0 + mv))))) m = some (LI em) := fun c mv nl h0 => by
        refine ⟨fun b o hb e => ?_, ⟨?_, hPi.mx.bump hqr, hPi.ap, hPi.aq⟩, bump_good hgi _ hpi' h0, ?_⟩
        · rw [upd_ne (fun (y : b = qr) => hb (by rw [y]; exact hqm))]
          exact hfr b o hb e
        · rw [upd_ne (fun (y : x = qr) => hPi.aq (by rw [y]; exact hqm))]
          exact hPi.ob
        · rw [upd_ne nl]
          exact hmi
      have nl : m ≠ qr := fun y => hmq1 (by rw [y]; exact hqm)
      have eI : (V.str ⟨#[c]⟩ = V.str (Str.ofString "I")) ↔ c = 73 := one_eq tI
      have eD : (V.str ⟨#[c]⟩ = V.str (Str.ofString "D")) ↔ c = 68 := one_eq tD
      have pz : (pstep el em Y c).S = if c = 73 then bumpM Y.S Y.p 6 1 else if c = 68 then bumpM Y.S Y.p 5 1 else bumpM Y.S Y.p (li (el.getD Y.a 0)) (em.getD Y.a 0) := rfl
      refine ⟨fun σ H' => (∀ b o, b ∉ qs → H b = some o → H' b = some o) ∧ Pl C H' x dx p qs t (pstep el em Y c).S ∧ Good7 (pstep el em Y c).S ∧ H' m = some (LI em) ∧ σ = [some (.ref x), some (.ref ra), some (.ref rd), some nm, some (.int (sd : Int)), some (.int (Y.p : Int)), some (.str (T (flat (rns pa)))), some (.str (T el)), some (.ref m), some (.int (Y.a : Int)), some (.str ⟨#[c]⟩)], ?_, ?_⟩
      · refine ⟨_, rfl, rfl, _, rfl, ite2 (fun e => ?_) (fun e => ?_)⟩
        · have hc73 := eI.mp (of_decide_eq_true e)
          obtain ⟨f1, f2, f3, f4⟩ := fin 6 1 nl (by decide)
          rw [pz, if_pos hc73]
          exact ⟨_, rfl, x, C, dx, _, _, rfl, hPi.ob, X.cl, X.n2, rfl, _, rfl, p, _, _, .ref qr, rfl, rfl, .inl (.inl hPi.mx.top), hqa, qr, _, _, _, rfl, rfl, .inl (.inl hqv), hx7 6 (by decide), _, _, rfl, rfl, qr, _, _, 6, rfl, rfl, hqv, ix_set rfl (by rw [List.length_map, h7]; decide), f1, f2, f3, f4, rfl⟩
        have hc73 : c ≠ 73 := fun z => e (decide_eq_true (eI.mpr z))
        refine ⟨_, rfl, rfl, _, rfl, ite2 (fun e => ?_) (fun e => ?_)⟩
        · have hc68 := eD.mp (of_decide_eq_true e)
          obtain ⟨f1, f2, f3, f4⟩ := fin 5 1 nl (by decide)
          rw [pz, if_neg hc73, if_pos hc68]
          exact ⟨_, rfl, x, C, dx, _, _, rfl, hPi.ob, X.cl, X.n2, rfl, _, rfl, p, _, _, .ref qr, rfl, rfl, .inl (.inl hPi.mx.top), hqa, qr, _, _, _, rfl, rfl, .inl (.inl hqv), hx7 5 (by decide), _, _, rfl, rfl, qr, _, _, 5, rfl, rfl, hqv, ix_set rfl (by rw [List.length_map, h7]; decide), f1, f2, f3, f4, rfl⟩
        have hc68 : c ≠ 68 := fun z => e (decide_eq_true (eD.mpr z))
        have ha := hai hc73 hc68
        have hgd : el.getD Y.a 0 = el[Y.a] := by rw [List.getD_eq_getElem?_getD, List.getElem?_eq_getElem ha]; rfl
        have ham : Y.a < em.length := by rw [heM, ← hel]; exact ha
        have hgm : em.getD Y.a 0 = em[Y.a] := by rw [List.getD_eq_getElem?_getD, List.getElem?_eq_getElem ham]; rfl
        obtain ⟨rest, hocc⟩ := li_occ (hdE _ (List.getElem_mem ha))
        obtain ⟨f1, f2, f3, f4⟩ := fin (li el[Y.a]) em[Y.a] nl (hpM _ (List.getElem_mem ham))
        rw [pz, if_neg hc73, if_neg hc68, hgd, hgm]
        exact ⟨_, rfl, x, C, dx, _, _, rfl, hPi.ob, X.cl, X.n2, rfl, _, rfl, p, _, _, .ref qr, rfl, rfl, .inl (.inl hPi.mx.top), hqa, rfl, _, rfl, _, rfl, T el, _, _, rfl, rfl, line_ok6 (by rw [T_len, hel]; omega), at_T ha, _, _, _, _, rfl, rfl, hocc, qr, _, _, _, rfl, rfl, .inl (.inl hqv), hx7 _ (li_lt _), _, rfl, _, rfl, m, _, _, _, rfl, rfl, .inl (.inl hmi), atI_nat (map_int_at ham), _, _, rfl, rfl, qr, _, _, _, rfl, rfl, hqv, ix_set rfl (by rw [List.length_map, h7]; exact li_lt _), f1, f2, f3, f4, rfl⟩
      rintro σ H4 ⟨f1, f2, f3, f4, rfl⟩
      refine ⟨fun σ H' => H' = H4 ∧ σ = [some (.ref x), some (.ref ra), some (.ref rd), some nm, some (.int (sd : Int)), some (.int (Y.p : Int)), some (.str (T (flat (rns pa)))), some (.str (T el)), some (.ref m), some (.int ((pstep el em Y c).a : Int)), some (.str ⟨#[c]⟩)], ?_, ?_⟩
      · have ea : (pstep el em Y c).a = if c = 68 then Y.a else Y.a + 1 := rfl
        refine ⟨_, rfl, rfl, _, rfl, iteN (fun e => ?_) (fun e => ?_)⟩
        · have hc68 : c ≠ 68 := fun z => e (eD.mpr z)
          rw [ea, if_neg hc68]
          exact ⟨_, rfl, _, _, rfl, rfl, rfl, rfl⟩
        · rw [ea, if_pos (eD.mp e)]
          exact ⟨rfl, rfl⟩
      rintro σ H5 ⟨rfl, rfl⟩
      have ep : (pstep el em Y c).p = if c = 73 then Y.p else Y.p + 1 := rfl
      refine ⟨_, rfl, rfl, _, rfl, iteN (fun e => ?_) (fun e => ?_)⟩
      · have hc73 : c ≠ 73 := fun z => e (eI.mpr z)
        refine ⟨_, rfl, _, _, rfl, rfl, hi, f1, f2, f3, f4, some (.str ⟨#[c]⟩), ?_⟩
        rw [ep, if_neg hc73]
        rfl
      · refine ⟨hi, f1, f2, f3, f4, some (.str ⟨#[c]⟩), ?_⟩
        rw [ep, if_pos (eI.mp e)]
    · rintro σ H3 ⟨_, hfr, hPi, _, _, v10, rfl⟩
      rw [T_size, List.take_length] at hPi
      exact q H3 hfr hPi
end
/-! ### list(text) -/
theorem call_listS {X : Cx} (hc : X.calm = true) : CallR X (.type "list") (fun xs H Q => ∃ l : List Nat, xs = [.str (T l)] ∧ l.length ≤ 100000 ∧ ∀ p, H p = none → Q (.ref p) (upd H p (.lst (l.map fun c => V.str (T [c]))))) := by
  intro pins s σ H xs us Q I r h
  obtain ⟨l, rfl, hl, q⟩ := h
  obtain ⟨u, rfl, rx⟩ := vals1 r
  obtain ⟨t, rfl⟩ := rx
  refine PySem.call_list_str (I.ok.hd hc) (T l) t (fun h' tk acc c' hk he hi => ?_) (by rw [T_size, sizeLine_eq]; omega)
  have hsz : (T l).cps.size = l.length := T_size l
  have el : acc.toList.length = acc.size := by simp
  refine ⟨.ref s.heap.objs.size, upd H s.heap.objs.size (.lst (l.map fun c => V.str (T [c]))), I.laid hk (Nat.le_refl _) (show ObjOk X.prog X.w _ _ _ (.lst (l.map fun c => V.str (T [c]))) from ⟨?_, acc.toList, c', ?_, ?_⟩), rfl, q _ (I.hok.fresh (Nat.le_refl _))⟩
  · rw [List.length_map, sizeLine_eq]
    omega
  · refine vals_of_at (by rw [List.length_map, el, hi.1, hsz]) fun j x w h1 h2 => ?_
    have h3 := hi.2 j w (by rw [← Array.getElem?_toList]; exact h2)
    obtain ⟨c, tk2, e1, e2⟩ := h3
    subst e2
    rw [T_at] at e1
    rw [List.getElem?_map, e1] at h1
    obtain rfl := Option.some.inj h1
    exact ⟨_, rfl⟩
  · rw [Array.toArray_toList]
    exact he
/-! ### told letters, differences, mended texts -/
def tlN (r : List Int) : Option Nat :=
  if 2 * r.getD 0 0 > (r.take 5).sum then some 65 else if 2 * r.getD 1 0 > (r.take 5).sum then some 67 else if 2 * r.getD 2 0 > (r.take 5).sum then some 71 else if 2 * r.getD 3 0 > (r.take 5).sum then some 84 else none
def tlV (r : List Int) : V := match tlN r with
  | some c => .str (T [c])
  | none => .non
theorem tlN_dna {r : List Int} {c : Nat} (h : tlN r = some c) : c = 65 ∨ c = 67 ∨ c = 71 ∨ c = 84 := by
  unfold tlN at h
  split at h
  · exact .inl (Option.some.inj h).symm
  split at h
  · exact .inr (.inl (Option.some.inj h).symm)
  split at h
  · exact .inr (.inr (.inl (Option.some.inj h).symm))
  split at h
  · exact .inr (.inr (.inr (Option.some.inj h).symm))
  · cases h
theorem seven_ex {r : List Int} (h : r.length = 7) : ∃ a b c d e f g, r = [a, b, c, d, e, f, g] := by
  match r, h with
  | [a, b, c, d, e, f, g], _ => exact ⟨a, b, c, d, e, f, g, rfl⟩
theorem eqV_int (a b : Int) : eqV (.int a) (.int b) = decide (a = b) := rfl
section
variable {P : Program} {w : World} {K : PySem.W.Frag} {mg : Str → Option Value} {base : Heap}
def spPSums (C : Addr) : Sp := fun vs H Q _ => ∃ (x dx p : Addr) (qs : List Addr) (t : List Nat) (S : List (List Int)) (k : Nat), vs = [.ref x, .int (k : Int)] ∧ Pl C H x dx p qs t S ∧ k < S.length ∧ ∀ q, H q = none → Q (.ref q) (upd H q (.tup ((S.getD k []).map V.int)))
theorem ok_psums {f C : Addr} {fd : FuncData} {k : Nat} (F : Fun K "sums" "Pile.sums" mSums f fd) (X : PlT K mg C) (mtup : mg "tuple" = none) : FnOk P w K mg base CX0 (k + 1) f fd ["self", "position"] (spPSums C) := by
  refine F.ok scPSums (fun vs H Q E h => ?_) (fun cdv A outer s H vs Q E hr h => ?_)
  · obtain ⟨x, dx, p, qs, t, S, k, rfl, _⟩ := h
    rfl
  · obtain ⟨x, dx, p, qs, t, S, j, rfl, hP, hj, q⟩ := h
    refine ⟨_, (pss_one (ps_ret (pe_callTy call_tuple_of (by rfl) mtup (by decide +kernel) (pa_cons (pe_ix ix_list (pe_fld (pv 0) rfl) (pv 1) (fun _ _ => rfl)) pa_nil)))), ?_⟩
    obtain ⟨qr, hqr, hqm, hqv, hqa⟩ := hP.mx.get hj
    exact ⟨_, rfl, x, C, dx, _, _, rfl, hP.ob, X.cl, X.n2, rfl, _, rfl, p, _, _, .ref qr, rfl, rfl, .inl (.inl hP.mx.top), hqa, qr, _, rfl, .inl ⟨.inl (.inl hqv), q⟩⟩
def spPTold (C : Addr) : Sp := fun vs H Q _ => ∃ (x dx p : Addr) (qs : List Addr) (t : List Nat) (S : List (List Int)) (k : Nat), vs = [.ref x, .int (k : Int)] ∧ Pl C H x dx p qs t S ∧ k < S.length ∧ Good7 S ∧ ∀ H', Same H H' → Q (tlV (S.getD k [])) H'
theorem ok_ptold {f C : Addr} {fd : FuncData} {k : Nat} (F : Fun K "told" "Pile.told" mTold f fd) (X : PlT K mg C) (mmax : mg "max" = none) (msum : mg "sum" = none) : FnOk P w K mg base CX0 (k + 1) f fd ["self", "position"] (spPTold C) := by
  obtain ⟨tG, gG⟩ := X.gG
  obtain ⟨tL, gL⟩ := X.gL
  refine F.ok scPTold (fun vs H Q E h => ?_) (fun cdv A outer s H vs Q E hr h => ?_)
  · obtain ⟨x, dx, p, qs, t, S, k, rfl, _⟩ := h
    rfl
  · obtain ⟨x, dx, p, qs, t, S, j, rfl, hP, hj, hG, q⟩ := h
    refine ⟨_, (pss_cons (ps_set (i := 2) scPTold.nd rfl (.inl rfl) (pe_slice sl_list (pe_ix ix_list (pe_fld (pv 0) rfl) (pv 1) (fun _ _ => rfl)) po_none (po_some (pe_glob (v := .int 5) (by rfl) gG ⟨_, rfl⟩))))
      (pss_cons (ps_set (i := 3) scPTold.nd rfl (.inl rfl) (pe_callB (cr_max rfl) (by rfl) mmax (by decide +kernel) (pa_cons (pe_slice sl_list (pv 2) po_none (po_some (pe_un un_neg pe_int))) pa_nil)))
      (pss_cons (ps_if (pt_cmpR op_gt (pe_op op_mul pe_int (pv 3)) (pe_callB (cr_sum rfl) (by rfl) msum (by decide +kernel) (pa_cons (pv 2) pa_nil)) (nomark _)) (pss_one (ps_ret (pe_ix ix_str (pe_glob (v := .str (Str.ofString "ACGTN")) (by rfl) gL ⟨_, rfl⟩) (pe_bm PySem.F.plainAttrs_list PySem.F.slot_list_index PySem.F.type_list_index mt_index (pv 2) (pa_cons (pv 3) pa_nil)) (fun _ _ => rfl)))) pss_nil)
      (pss_one (ps_ret pe_non))))), ?_⟩
    obtain ⟨qr, hqr, hqm, hqv, hqa⟩ := hP.mx.get hj
    have h7 := hG.seven _ (getD_mem hj)
    have hp := hG.pos _ (getD_mem hj)
    generalize S.getD j [] = r at hqv h7 hp q
    obtain ⟨a, b, c, d, e, g6, g7, rfl⟩ := seven_ex h7
    have pa := hp a (by simp)
    have pb := hp b (by simp)
    have pc := hp c (by simp)
    have pd := hp d (by simp)
    have pe := hp e (by simp)
    refine ⟨_, rfl, x, C, dx, _, _, rfl, hP.ob, X.cl, X.n2, rfl, _, rfl, p, _, _, .ref qr, rfl, rfl, .inl (.inl hP.mx.top), hqa, _, rfl, qr, _, rfl, .inl (.inl hqv), fun q5 hq5 => ?_⟩
    have s5 := same_upd (o := .lst (L2.cutV ([a, b, c, d, e, g6, g7].map V.int) none (some 5))) hq5
    have h5 : (upd H q5 (.lst (L2.cutV ([a, b, c, d, e, g6, g7].map V.int) none (some 5)))) q5 = some (LI [a, b, c, d, e]) := upd_same
    generalize upd H q5 (.lst (L2.cutV ([a, b, c, d, e, g6, g7].map V.int) none (some 5))) = H1 at s5 h5 ⊢
    refine ⟨_, rfl, 1, rfl, _, rfl, q5, _, rfl, .inl (.inl h5), fun q4 hq4 => ?_⟩
    have s4 := same_upd (o := .lst (L2.cutV ([a, b, c, d, e].map V.int) none (some (-1)))) hq4
    have h4 : (upd H1 q4 (.lst (L2.cutV ([a, b, c, d, e].map V.int) none (some (-1))))) q4 = some (LI [a, b, c, d]) := upd_same
    have h54 := s4 _ _ h5
    have s14 := s5.trans s4
    generalize upd H1 q4 (.lst (L2.cutV ([a, b, c, d, e].map V.int) none (some (-1)))) = H2 at s4 h4 h54 s14 ⊢
    refine ⟨q4, [a, b, c, d], rfl, .inl (.inl h4), (show 0 < 4 by decide), fun m hm hmx => ?_⟩
    have ma := hmx a (by simp)
    have mb := hmx b (by simp)
    have mc := hmx c (by simp)
    have md := hmx d (by simp)
    have hs5 : ([a, b, c, d, e] : List Int).sum = a + (b + (c + (d + (e + 0)))) := rfl
    have ht : tlN [a, b, c, d, e, g6, g7] = if 2 * a > a + (b + (c + (d + (e + 0)))) then some 65 else if 2 * b > a + (b + (c + (d + (e + 0)))) then some 67 else if 2 * c > a + (b + (c + (d + (e + 0)))) then some 71 else if 2 * d > a + (b + (c + (d + (e + 0)))) then some 84 else none := rfl
    refine ⟨_, rfl, 2, _, rfl, rfl, .inl ⟨by decide, by decide⟩, _, rfl, q5, [a, b, c, d, e], rfl, .inl (.inl h54), _, _, rfl, rfl, _, rfl, ite2 (fun e2 => ?_) (fun e2 => ?_)⟩
    · have e2 := of_decide_eq_true e2
      rw [hs5] at e2
      have out : ∀ (j : Nat) (y : Int) (z : Nat), ([a, b, c, d, e].map V.int)[j]? = some (.int y) → y = m → (∀ (i : Nat) (z' : V), i < j → ([a, b, c, d, e].map V.int)[i]? = some z' → eqV z' (.int m) = false) → atI (Str.ofString "ACGTN").cps.toList ((j : Nat) : Int) = some z → tlN [a, b, c, d, e, g6, g7] = some z →
          rIndex K (.ref q5) [.int m] H2 fun v H' => rIxS (.str (Str.ofString "ACGTN")) v H' Q := fun j y z h1 h2 h3 h4 h5 => by
        refine ⟨q5, [a, b, c, d, e].map V.int, .int m, j, .int y, rfl, rfl, .inl (.inl h54), rfl, rfl, h1, by rw [eqV_int, h2]; exact decide_eq_true rfl, h3, Str.ofString "ACGTN", _, z, rfl, rfl, by rw [show (Str.ofString "ACGTN").length = 5 by decide +kernel]; decide, h4, ?_⟩
        have := q H2 s14
        unfold tlV at this
        rw [h5] at this
        exact this
      have neq : ∀ y : Int, y ≠ m → eqV (.int y) (.int m) = false := fun y hy => by rw [eqV_int]; exact decide_eq_false hy
      have fin : rIndex K (.ref q5) [.int m] H2 fun v H' => rIxS (.str (Str.ofString "ACGTN")) v H' Q := by
        simp only [List.mem_cons, List.not_mem_nil, or_false] at hm
        rcases hm with z | z | z | z
        · exact out 0 a 65 rfl z.symm (fun i z' hi => absurd hi (Nat.not_lt_zero i)) (by decide +kernel) (by rw [ht, if_pos (by omega)])
        · refine out 1 b 67 rfl z.symm (fun i z' hi h => ?_) (by decide +kernel) (by rw [ht, if_neg (by omega), if_pos (by omega)])
          obtain rfl : i = 0 := by omega
          obtain rfl := Option.some.inj h
          exact neq a (by omega)
        · refine out 2 c 71 rfl z.symm (fun i z' hi h => ?_) (by decide +kernel) (by rw [ht, if_neg (by omega), if_neg (by omega), if_pos (by omega)])
          have : i = 0 ∨ i = 1 := by omega
          rcases this with y | y <;> subst y <;> obtain rfl := Option.some.inj h
          · exact neq a (by omega)
          · exact neq b (by omega)
        · refine out 3 d 84 rfl z.symm (fun i z' hi h => ?_) (by decide +kernel) (by rw [ht, if_neg (by omega), if_neg (by omega), if_neg (by omega), if_pos (by omega)])
          have : i = 0 ∨ i = 1 ∨ i = 2 := by omega
          rcases this with y | y | y <;> subst y <;> obtain rfl := Option.some.inj h
          · exact neq a (by omega)
          · exact neq b (by omega)
          · exact neq c (by omega)
      exact ⟨_, rfl, .inl ⟨rfl, _, .inl (.inl h54)⟩, _, rfl, fin⟩
    · have e2 : ¬ 2 * m > a + (b + (c + (d + (e + 0)))) := fun z => e2 (decide_eq_true (by rw [hs5]; exact z))
      have hnone : tlN [a, b, c, d, e, g6, g7] = none := by rw [ht, if_neg (by omega), if_neg (by omega), if_neg (by omega), if_neg (by omega)]
      have := q H2 s14
      unfold tlV at this
      rw [hnone] at this
      exact this
end
def HasM (P : Program) (w : World) (K : PySem.W.Frag) (mg : Str → Option Value) (base : Heap) (C : Addr) (k : Nat) (m : Str) (ps : List Str) (sp : Sp) : Prop :=
  ∃ f fd, FnOk P w K mg base CX0 k f fd ps sp ∧ Meth K C m f ∧ Binds K fd ps []
/-! ### differences and mended texts -/
def dfs (t : List Nat) (S : List (List Int)) : Nat → List (Nat × Nat × Nat)
  | 0 => []
  | i + 1 => dfs t S i ++ (match tlN (S.getD i []) with
    | some c => if c = t.getD i 0 then [] else [(i, t.getD i 0, c)]
    | none => [])
theorem dfs_in (t : List Nat) (S : List (List Int)) : ∀ i, (dfs t S i).length ≤ i ∧ ∀ d ∈ dfs t S i, d.1 < i
  | 0 => ⟨Nat.le_refl _, fun d h => by cases h⟩
  | i + 1 => by
    obtain ⟨h1, h2⟩ := dfs_in t S i
    have key : ∀ e : List (Nat × Nat × Nat), e.length ≤ 1 → (∀ d ∈ e, d.1 = i) → (dfs t S i ++ e).length ≤ i + 1 ∧ ∀ d ∈ dfs t S i ++ e, d.1 < i + 1 := fun e he hd => by
      refine ⟨by rw [List.length_append]; omega, fun d hm => ?_⟩
      rcases List.mem_append.mp hm with z | z
      · have := h2 d z
        omega
      · have := hd d z
        omega
    unfold dfs
    cases tlN (S.getD i []) with
    | none => exact key [] (by decide) fun d h => by cases h
    | some c =>
      dsimp only
      split
      · exact key [] (by decide) fun d h => by cases h
      · refine key [(i, t.getD i 0, c)] (Nat.le_refl 1) fun d h => ?_
        rw [List.mem_singleton.mp h]
theorem set_mid : ∀ (a b : List Nat) (x y i : Nat), a.length = i → (a ++ x :: b).set i y = a ++ y :: b
  | [], b, x, y, i, h => by
    subst h
    rfl
  | z :: a, b, x, y, i, h => by
    subst h
    show z :: (a ++ x :: b).set a.length y = _
    rw [set_mid a b x y a.length rfl]
    rfl
def Dfv (H : Hp) : List V → List (Nat × Nat × Nat) → Prop := Paired fun v d => ∃ q, v = .ref q ∧ H q = some (.tup [.int (d.1 : Int), .str (T [d.2.1]), .str (T [d.2.2])])
theorem Dfv.mono {H H' : Hp} {xs : List V} {ds : List (Nat × Nat × Nat)} (h : Dfv H xs ds) (k : ∀ q ys, H q = some (.tup ys) → H' q = some (.tup ys)) : Dfv H' xs ds :=
  Paired.mapP h fun _ _ ⟨q, e, t⟩ => ⟨q, e, k q _ t⟩
theorem Dfv.snoc {H : Hp} {xs : List V} {ds : List (Nat × Nat × Nat)} {q : Addr} {d : Nat × Nat × Nat} (h : Dfv H xs ds) (e : H q = some (.tup [.int (d.1 : Int), .str (T [d.2.1]), .str (T [d.2.2])])) : Dfv H (xs ++ [.ref q]) (ds ++ [d]) := by
  induction h with
  | nil => exact .cons ⟨q, rfl, e⟩ .nil
  | cons a _ ih => exact .cons a ih
def mnd (t : List Nat) (S : List (List Int)) : List Nat := (List.range t.length).map fun k => match tlN (S.getD k []) with
  | some c => c
  | none => t.getD k 0
def apps (l : List Nat) (ds : List (Nat × Nat × Nat)) : List Nat := ds.foldl (fun l d => l.set d.1 d.2.2) l
theorem apps_len (ds : List (Nat × Nat × Nat)) : ∀ l : List Nat, (apps l ds).length = l.length := by
  induction ds with
  | nil => intro l; rfl
  | cons d r ih =>
    intro l
    show (apps (l.set d.1 d.2.2) r).length = _
    rw [ih, List.length_set]
theorem apps_dfs (t : List Nat) (S : List (List Int)) : ∀ i, i ≤ t.length → apps t (dfs t S i) = (mnd t S).take i ++ t.drop i
  | 0, _ => by
    show t = _
    rw [List.take_zero, List.drop_zero]
    rfl
  | i + 1, hi => by
    have ih := apps_dfs t S i (by omega)
    have hlt : i < t.length := hi
    have hg : t.getD i 0 = t[i] := by rw [List.getD_eq_getElem?_getD, List.getElem?_eq_getElem hlt]; rfl
    have hd : t.drop i = t[i] :: t.drop (i + 1) := List.drop_eq_getElem_cons hlt
    have hm : ∀ c, (match tlN (S.getD i []) with
      | some c => c
      | none => t.getD i 0) = c → (mnd t S).take (i + 1) = (mnd t S).take i ++ [c] := fun c e => by
      rw [List.take_add_one]
      have : (mnd t S)[i]? = some c := by
        unfold mnd
        rw [List.getElem?_map, List.getElem?_range hlt]
        exact congrArg some e
      rw [this]
      rfl
    have hl : ((mnd t S).take i).length = i := by
      unfold mnd
      rw [List.length_take, List.length_map, List.length_range]
      omega
    unfold dfs
    cases e : tlN (S.getD i []) with
    | none =>
      rw [e] at hm
      rw [List.append_nil, ih, hm t[i] hg, hd, List.append_assoc]
      rfl
    | some c =>
      rw [e] at hm
      dsimp only
      split
      · rename_i h
        rw [List.append_nil, ih, hm c rfl, hd, List.append_assoc, ← hg, ← h]
        rfl
      · unfold apps at ih ⊢
        rw [List.foldl_append, ih, hm c rfl, hd]
        show List.set _ i c = _
        rw [set_mid _ _ _ _ i hl, List.append_assoc]
        rfl
section
variable {P : Program} {w : World} {K : PySem.W.Frag} {mg : Str → Option Value} {base : Heap}
def spPDiffs (C : Addr) : Sp := fun vs H Q _ => ∃ (x dx p : Addr) (qs : List Addr) (t : List Nat) (S : List (List Int)), vs = [.ref x] ∧ Pl C H x dx p qs t S ∧ S.length = t.length + 1 ∧ Good7 S ∧ t.length ≤ 100000 ∧
  ∀ (H' : Hp) (q : Addr) (xs : List V), Same H H' → H q = none → H' q = some (.lst xs) → Dfv H' xs (dfs t S t.length) → Q (.ref q) H'
theorem ok_pdiffs {f C : Addr} {fd : FuncData} {k : Nat} (F : Fun K "differences" "Pile.differences" mDiffs f fd) (X : PlT K mg C) (menum : mg "enumerate" = none) (hA : Has P w K mg base (k + 1) "agree" ["first", "second"] spAg) (hM : HasM P w K mg base C (k + 1) "told" ["self", "position"] (spPTold C)) : FnOk P w K mg base CX0 (k + 2) f fd ["self"] (spPDiffs C) := by
  obtain ⟨fA, dA, GA, gA, kA, bA⟩ := hA
  obtain ⟨fM, dM, GM, mM, bM⟩ := hM
  refine F.ok scPDiffs (fun vs H Q E h => ?_) (fun cdv A outer s H vs Q E hr h => ?_)
  · obtain ⟨x, dx, p, qs, t, S, rfl, _⟩ := h
    rfl
  · obtain ⟨x, dx, p, qs, t, S, rfl, hP, hSl, hG, htl, q⟩ := h
    refine ⟨_, (pss_cons (ps_set (i := 1) scPDiffs.nd rfl (.inl rfl) (pe_lst pa_nil))
      (pss_cons (ps_for PassesOwn.never rfl (pi_enumT (by rfl) menum (pa_cons (pe_fld (pv 0) rfl) pa_nil)) (pg_tup rfl (pgs_cons (pg_name (i := 2) scPDiffs.nd rfl (.inl rfl)) (pgs_cons (pg_name (i := 3) scPDiffs.nd rfl (.inl rfl)) pgs_nil)))
        (pss_cons (ps_set (i := 4) scPDiffs.nd rfl (.inl rfl) (pe_meth (pv 0) X.cl mM GM hr bM .nil pass0 (pa_cons (pv 2) pa_nil)))
      (pss_one (ps_if (PW.pt (pw_and (pt_cmp (pc_notN (pv 4))) (pw_and1 (pt_not (pt_val (pe_call GA hr (by rfl) gA kA bA .nil pass0 (pa_cons (pv 3) (pa_cons (pv 4) pa_nil)))))))) (pss_one (ps_expr (pe_bm PySem.F.plainAttrs_list PySem.F.slot_list_append PySem.F.type_list_append mt_append (pv 1) (pa_cons (pe_tup (pa_cons (pv 2) (pa_cons (pv 3) (pa_cons (pv 4) pa_nil)))) pa_nil)))) pss_nil))))
      (pss_one (ps_ret (pv 1))))), ?_⟩
    refine ⟨Nat.zero_le _, fun pf hpf => ?_⟩
    have hP1 := hP.same (same_upd (o := .lst []) hpf)
    refine ⟨_, rfl, x, C, dx, _, _, rfl, hP1.ob, X.cl, X.n1, rfl, T t, rfl, ?_⟩
    refine for_gen (J := ItT 0 (T t)) (n := t.length) (fun i σ H' => Same H H' ∧ ∃ (xs : List V) (v2 v3 v4 : Option V), H' pf = some (.lst xs) ∧ Dfv H' xs (dfs t S i) ∧ σ = [some (.ref x), some (.ref pf), v2, v3, v4]) ⟨same_upd hpf, [], none, none, none, upd_same, .nil, rfl⟩ (fun i σ H' hi _ => by show i < (T t).cps.size; rw [T_size]; exact hi) (fun σ H' _ => by show (T t).cps.size ≤ t.length; rw [T_size]; exact Nat.le_refl _) ?_ ?_
    · rintro i σ H1 y H2 hi ⟨s1, xs, v2, v3, v4, hx, hd, rfl⟩ ⟨tq, c, rfl, ht, rfl, hc⟩
      rw [T_at] at hc
      have hgc : t.getD i 0 = c := by rw [List.getD_eq_getElem?_getD, hc]; rfl
      have s12 := same_upd (o := .tup [.int (0 + (i : Nat)), .str ⟨#[c]⟩]) ht
      refine ⟨tq, _, rfl, .inl (.inl upd_same), rfl, _, _, rfl, _, _, rfl, rfl, ?_⟩
      generalize upd H1 tq (.tup [.int (0 + (i : Nat)), .str ⟨#[c]⟩]) = H2 at s12 ⊢
      have s2 := s1.trans s12
      have hP2 := hP.same s2
      refine ⟨_, rfl, x, dx, _, rfl, hP2.ob, rfl, _, rfl, x, dx, p, qs, t, S, i, by rw [Int.zero_add]; rfl, hP2, by omega, hG, fun H3 s3 => ?_⟩
      have s13 := s12.trans s3
      have s03 := s1.trans s13
      have hx3 := s13 _ _ hx
      have hd3 := hd.mono fun b ys e => s13 _ _ e
      have hxl : xs.length ≤ t.length := by
        have h1 := paired_len hd
        have h2 := (dfs_in t S i).1
        omega
      have ed : dfs t S (i + 1) = dfs t S i ++ (match tlN (S.getD i []) with
        | some c => if c = t.getD i 0 then [] else [(i, t.getD i 0, c)]
        | none => []) := rfl
      unfold tlV
      cases e : tlN (S.getD i []) with
      | none =>
        rw [e] at ed
        refine ⟨_, rfl, _, rfl, iteF ⟨s03, xs, _, _, _, hx3, ?_, rfl⟩⟩
        rw [ed, List.append_nil]
        exact hd3
      | some z =>
        rw [e, hgc] at ed
        have hz78 : z ≠ 78 := by
          have := tlN_dna e
          omega
        refine ⟨_, rfl, _, rfl, iteT ⟨_, rfl, _, rfl, c, z, rfl, _, rfl, ?_⟩⟩
        by_cases ez : z = c
        · subst ez
          have hag : agB z z = true := by
            unfold agB
            rw [decide_eq_true rfl, decide_eq_true hz78]
            rfl
          rw [hag]
          refine iteF ⟨s03, xs, _, _, _, hx3, ?_, rfl⟩
          rw [ed]
          dsimp only
          rw [if_pos rfl, List.append_nil]
          exact hd3
        · have hag : agB c z = false := by
            unfold agB
            rw [decide_eq_false (fun h => ez h.symm), Bool.false_and]
          rw [hag]
          refine iteT ⟨_, rfl, .inl ⟨rfl, _, .inl (.inl hx3)⟩, _, rfl, _, rfl, _, rfl, by show 3 ≤ sizeLine; decide, fun tr htr => ?_⟩
          have n1 : pf ≠ tr := ne_of_none hx3 htr
          have st := same_upd (o := .tup [V.int (0 + (i : Nat)), V.str ⟨#[c]⟩, V.str (T [z])]) htr
          have hpfH : H pf = none := hpf
          refine ⟨pf, xs, _, rfl, rfl, st _ _ hx3, line_ok6 (by omega), fun b o eb => ?_, xs ++ [.ref tr], _, _, _, upd_same, ?_, rfl⟩
          · rw [upd_ne (ne_of_none eb hpfH)]
            exact st _ _ (s03 _ _ eb)
          · rw [ed]
            dsimp only
            rw [if_neg ez]
            refine Dfv.snoc (hd3.mono fun b ys eb => ?_) ?_
            · have : b ≠ pf := fun y => by
                rw [y, hx3] at eb
                cases eb
              rw [upd_ne this]
              exact st _ _ eb
            · rw [upd_ne n1.symm, upd_same, Int.zero_add]
              rfl
    · rintro σ H1 ⟨s1, xs, v2, v3, v4, hx, hd, rfl⟩
      exact ⟨_, rfl, q H1 pf xs s1 hpf hx hd⟩
def spPMended (C : Addr) : Sp := fun vs H Q _ => ∃ (x dx p : Addr) (qs : List Addr) (t : List Nat) (S : List (List Int)), vs = [.ref x] ∧ Pl C H x dx p qs t S ∧ S.length = t.length + 1 ∧ Good7 S ∧ t.length ≤ 100000 ∧ ∀ H' : Hp, Same H H' → Q (.str (T (mnd t S))) H'
theorem ok_pmended {f C : Addr} {fd : FuncData} {k : Nat} (F : Fun K "mended" "Pile.mended" mMended f fd) (X : PlT K mg C) (mlist : mg "list" = none) (hM : HasM P w K mg base C (k + 1) "differences" ["self"] (spPDiffs C)) : FnOk P w K mg base CX0 (k + 2) f fd ["self"] (spPMended C) := by
  obtain ⟨fM, dM, GM, mM, bM⟩ := hM
  refine F.ok scPMended (fun vs H Q E h => ?_) (fun cdv A outer s H vs Q E hr h => ?_)
  · obtain ⟨x, dx, p, qs, t, S, rfl, _⟩ := h
    rfl
  · obtain ⟨x, dx, p, qs, t, S, rfl, hP, hSl, hG, htl, q⟩ := h
    refine ⟨_, (pss_cons (ps_set (i := 1) scPMended.nd rfl (.inl rfl) (pe_callTy (call_listS rfl) (by rfl) mlist (by decide +kernel) (pa_cons (pe_fld (pv 0) rfl) pa_nil)))
      (pss_cons (ps_for PassesOwn.never rfl (pi_list (pe_meth0 (pv 0) X.cl mM GM hr bM .nil pass0)) (pg_tup rfl (pgs_cons (pg_name (i := 2) scPMended.nd rfl (.inl rfl)) (pgs_cons (pg_name (i := 3) scPMended.nd rfl (.inl rfl)) (pgs_cons (pg_name (i := 4) scPMended.nd rfl (.inl rfl)) pgs_nil))))
        (pss_one (ps_asg (pv 4) (pg_sub (pv 1) (pv 2) set_list))))
      (pss_one (ps_ret (pe_join pe_str (pv 1)))))), ?_⟩
    refine ⟨_, rfl, x, C, dx, _, _, rfl, hP.ob, X.cl, X.n1, rfl, t, rfl, htl, fun pl hpl => ?_⟩
    have sl := same_upd (o := .lst (t.map fun c => V.str (T [c]))) hpl
    have hP1 := hP.same sl
    refine ⟨_, rfl, x, dx, _, rfl, hP1.ob, rfl, x, dx, p, qs, t, S, rfl, hP1, hSl, hG, htl, fun H2 pd xs s2 hpd0 hpd hd => ⟨pd, rfl, ⟨_, .inl (.inl hpd)⟩, ?_⟩⟩
    have npl : pd ≠ pl := new_ne hpd0
    have hpl2 := s2 _ _ (upd_same (H := H) (a := pl) (o := .lst (t.map fun c => V.str (T [c]))))
    have hxl := paired_len hd
    have s02 := sl.trans s2
    refine for_list (K := K) (xs := xs) (fun i σ H' => (∀ b o, b ≠ pl → H2 b = some o → H' b = some o) ∧ H' pl = some (.lst ((apps t ((dfs t S t.length).take i)).map fun c => V.str (T [c]))) ∧ ∃ v2 v3 v4 : Option V, σ = [some (.ref x), some (.ref pl), v2, v3, v4]) ⟨fun b o _ e => e, by rw [List.take_zero]; exact hpl2, none, none, none, rfl⟩ (fun i σ H' _ h => .inl (.inl (h.1 _ _ npl hpd))) ?_ ?_
    · rintro i v σ H3 hv ⟨fr, hl3, v2, v3, v4, rfl⟩
      obtain ⟨r, hr0, qa, rfl, hqa⟩ := paired_get hd hv
      have hqn : qa ≠ pl := fun z => by
        rw [z, hpl2] at hqa
        cases hqa
      have hrl : r.1 < t.length := (dfs_in t S t.length).2 r (List.mem_of_getElem? hr0)
      refine ⟨qa, _, rfl, .inl (.inl (fr _ _ hqn hqa)), rfl, _, _, rfl, _, _, rfl, _, _, rfl, rfl, ?_⟩
      refine ⟨_, rfl, _, rfl, _, rfl, pl, _, _, r.1, rfl, rfl, hl3, ix_set rfl (by rw [List.length_map, apps_len]; exact hrl), fun b o nb e => ?_, ?_, _, _, _, rfl⟩
      · rw [upd_ne nb]
        exact fr b o nb e
      · rw [upd_same, List.take_add_one, hr0]
        have : apps t ((dfs t S t.length).take i ++ (some r).toList) = (apps t ((dfs t S t.length).take i)).set r.1 r.2.2 := by
          unfold apps
          rw [List.foldl_append]
          rfl
        rw [this, List.map_set]
    · rintro σ H3 ⟨fr, hl3, v2, v3, v4, rfl⟩
      rw [List.take_of_length_le (by omega), apps_dfs t S t.length (Nat.le_refl _), List.drop_length, List.append_nil, List.take_of_length_le (by unfold mnd; rw [List.length_map, List.length_range]; exact Nat.le_refl _)] at hl3
      refine ⟨⟨_, rfl⟩, _, rfl, _, pl, (mnd t S).map fun c => T [c], rfl, rfl, .inl (.inl (.inl (by rw [hl3, List.map_map]; rfl))), ?_, ?_⟩
      · have : (mnd t S).length = t.length := by unfold mnd; rw [List.length_map, List.length_range]
        rw [sum_ones, this, show (Str.ofString "").length = 0 by decide +kernel]
        omega
      · rw [TL.join_eq, T_nil, join_ones]
        refine q _ fun b o e => fr b o (ne_of_none e hpl) (s02 _ _ e)
end
/-! ### the law's told letter, paths by steps -/
theorem scLTold : FnScope ["row", "k"] ["row"] (defScope sTold) := ⟨rfl, rfl, rfl, by decide +kernel, rfl, by decide +kernel, by decide +kernel⟩
theorem scUncut : FnScope ["text", "path", "count", "sign"] ["text"] (defScope sUncut) := ⟨rfl, rfl, rfl, by decide +kernel, rfl, by decide +kernel, by decide +kernel⟩
theorem rep_one1 (c : Nat) : ∀ n : Nat, (List.replicate n [c]).flatten = List.replicate n c
  | 0 => rfl
  | n + 1 => by
    rw [List.replicate_succ, List.replicate_succ, List.flatten_cons, rep_one1 c n]
    rfl
theorem op_mulR {X : Cx} : OpR X (binaryOp .Mult) (fun x y H Q => ∃ (c : Nat) (n : Nat), x = .str (T [c]) ∧ y = .int (n : Int) ∧ n ≤ 2000 ∧ Q (.str (T (List.replicate n c))) H) := by
  intro pins s σ H x y v u Q I rx ry h
  obtain ⟨c, n, rfl, rfl, hn, q⟩ := h
  obtain ⟨t, rfl⟩ := rx
  obtain ⟨t', rfl⟩ := ry
  refine SB.mul (mulOk_of 100 2000 (by rw [T_len]; show 1 ≤ 100; decide) (by omega) (by omega) (by decide) (by decide)) fun t1 tk => ?_
  rw [mul_T [c] n (by omega)]
  have e : (List.replicate (n : Int).toNat [c]).flatten = List.replicate n c := by
    rw [Int.toNat_natCast]
    exact rep_one1 c n
  rw [e]
  exact ⟨.str (T (List.replicate n c)), H, I.tok _, ⟨_, rfl⟩, q⟩
def vl (ds : List Nat) : Int := ds.foldl (fun (t : Int) (c : Nat) => t * 10 + ((c : Int) - 48)) 0
theorem vl_snoc (a : List Nat) (c : Nat) : vl (a ++ [c]) = vl a * 10 + ((c : Int) - 48) := by
  unfold vl
  rw [List.foldl_append]
  rfl
theorem int_dig {c : Nat} (h : 48 ≤ c ∧ c ≤ 57) : PySem.intText? ⟨#[c]⟩ = some ((c : Int) - 48) := by
  have : c = 48 ∨ c = 49 ∨ c = 50 ∨ c = 51 ∨ c = 52 ∨ c = 53 ∨ c = 54 ∨ c = 55 ∨ c = 56 ∨ c = 57 := by omega
  rcases this with e | e | e | e | e | e | e | e | e | e <;> subst e <;> decide +kernel
theorem in_dig {c : Nat} : decide (c ∈ (Str.ofString "0123456789").cps.toList) = decide (48 ≤ c ∧ c ≤ 57) := by
  have e : (Str.ofString "0123456789").cps.toList = [48, 49, 50, 51, 52, 53, 54, 55, 56, 57] := by decide +kernel
  rw [e]
  refine decide_eq_decide.mpr ⟨fun h => ?_, fun h => ?_⟩
  · simp only [List.mem_cons, List.not_mem_nil, or_false] at h
    omega
  · simp only [List.mem_cons, List.not_mem_nil, or_false]
    omega
section
variable {P : Program} {w : World} {K : PySem.W.Frag} {mg : Str → Option Value} {base : Heap}
def spLTold (K : PySem.W.Frag) : Sp := fun vs H Q _ => ∃ (a : Addr) (r : List Int), vs = [.ref a] ∧ SqL K H a (r.map V.int) ∧ r.length = 7 ∧ ∀ H', Same H H' → Q (tlV r) H'
theorem ok_ltold {f : Addr} {fd : FuncData} {k : Nat} (F : Fun K "_law_told" "_law_told" sTold f fd) (B : Bl mg) (msum : mg "sum" = none) : FnOk P w K mg base CX0 (k + 1) f fd ["row"] (spLTold K) := by
  refine F.ok scLTold (fun vs H Q E h => ?_) (fun cdv A outer s H vs Q E hr h => ?_)
  · obtain ⟨a, r, rfl, _⟩ := h
    rfl
  · obtain ⟨a, r, rfl, hS, h7, q⟩ := h
    refine ⟨_, (pss_cons (ps_for PassesOwn.never rfl (pi_range1 rfl B.range (pa_cons pe_int pa_nil)) (pg_name (i := 1) scLTold.nd rfl (.inl rfl))
        (pss_one (ps_if (pt_cmpR op_gt (pe_op op_mul pe_int (pe_ix ix_list (pv 0) (pv 1) (fun _ _ => rfl))) (pe_callB (cr_sum rfl) (by rfl) msum (by decide +kernel) (pa_cons (pe_slice sl_list (pv 0) po_none (po_some pe_int)) pa_nil)) (nomark _)) (pss_one (ps_ret (pe_ix ix_str pe_str (pv 1) (fun _ _ => rfl)))) pss_nil)))
      (pss_one (ps_ret pe_non))), ?_⟩
    refine ⟨4, rfl, by decide, by decide, ?_⟩
    have hsum : ∀ (H1 : Hp) (z : VK), True := fun _ _ => trivial
    have htl : ∀ i c, i < 4 → (∀ j, j < i → ¬ 2 * r.getD j 0 > (r.take 5).sum) → 2 * r.getD i 0 > (r.take 5).sum → ([65, 67, 71, 84] : List Nat)[i]? = some c → tlN r = some c := fun i c hi hl hg hc => by
      unfold tlN
      have : i = 0 ∨ i = 1 ∨ i = 2 ∨ i = 3 := by omega
      rcases this with e | e | e | e <;> subst e <;> obtain rfl := Option.some.inj hc
      · rw [if_pos hg]
      · rw [if_neg (hl 0 (by decide)), if_pos hg]
      · rw [if_neg (hl 0 (by decide)), if_neg (hl 1 (by decide)), if_pos hg]
      · rw [if_neg (hl 0 (by decide)), if_neg (hl 1 (by decide)), if_neg (hl 2 (by decide)), if_pos hg]
    refine for_range (lo := 0) (n := 4) (fun i σ H' => Same H H' ∧ (∀ j, j < i → ¬ 2 * r.getD j 0 > (r.take 5).sum) ∧ ∃ kv : Option V, σ = [some (.ref a), kv]) ⟨Same.refl _, fun j h => absurd h (Nat.not_lt_zero j), none, rfl⟩ ?_ ?_
    · rintro i σ H1 hi ⟨s1, hl, kv, rfl⟩
      have hi4 : i < 4 := hi
      have hix : i < r.length := by omega
      refine ⟨_, rfl, _, rfl, a, _, _, .int (r.getD i 0), rfl, rfl, s1.seq hS, ?_, 2, _, rfl, rfl, .inl ⟨by decide, by decide⟩, _, rfl, 5, rfl, a, _, rfl, s1.seq hS, fun q5 hq5 => ?_⟩
      · rw [Int.zero_add]
        exact row_at hix
      have e5 : L2.cutV (r.map V.int) none (some 5) = (r.take 5).map V.int := by
        have := cutV_to (r.map V.int) 5
        rw [← List.map_take] at this
        exact this
      rw [e5]
      refine ⟨q5, r.take 5, rfl, .inl (.inl upd_same), _, _, rfl, rfl, _, rfl, ite2 (fun e => ?_) (fun e => ?_)⟩
      · have e := of_decide_eq_true e
        have hc : ∃ c, ([65, 67, 71, 84] : List Nat)[i]? = some c := ⟨_, List.getElem?_eq_getElem (show i < 4 from hi)⟩
        obtain ⟨c, hc⟩ := hc
        have ht := htl i c hi4 hl e hc
        refine ⟨_, rfl, Str.ofString "ACGT", _, c, rfl, rfl, by rw [show (Str.ofString "ACGT").length = 4 by decide +kernel]; decide, ?_, ?_⟩
        · rw [show (Str.ofString "ACGT").cps.toList = [65, 67, 71, 84] by decide +kernel, Int.zero_add]
          exact atI_nat hc
        · have := q _ (s1.trans (same_upd (o := .lst ((r.take 5).map V.int)) hq5))
          unfold tlV at this
          rw [ht] at this
          exact this
      · have e : ¬ 2 * r.getD i 0 > (r.take 5).sum := fun z => e (decide_eq_true z)
        refine ⟨s1.trans (same_upd hq5), fun j hj => ?_, some (.int (0 + (i : Nat))), rfl⟩
        by_cases hji : j = i
        · rw [hji]
          exact e
        · exact hl j (by omega)
    · rintro σ H1 ⟨s1, hl, kv, rfl⟩
      have hn : tlN r = none := by
        unfold tlN
        rw [if_neg (hl 0 (by decide)), if_neg (hl 1 (by decide)), if_neg (hl 2 (by decide)), if_neg (hl 3 (by decide))]
      have := q _ s1
      unfold tlV at this
      rw [hn] at this
      exact this
def spUncut : Sp := fun vs H Q _ => ∃ l : List Nat, vs = [.str (T (flat (rns l)))] ∧ PC l ∧ l.length ≤ 1000 ∧ Q (.str (T l)) H
theorem ok_uncut {f : Addr} {fd : FuncData} {k : Nat} (F : Fun K "_law_uncut" "_law_uncut" sUncut f fd) (B : Bl mg) : FnOk P w K mg base CX0 (k + 1) f fd ["text"] spUncut := by
  refine F.ok scUncut (fun vs H Q E h => ?_) (fun cdv A outer s H vs Q E hr h => ?_)
  · obtain ⟨l, rfl, _⟩ := h
    rfl
  · obtain ⟨l, rfl, pc, hl, q⟩ := h
    refine ⟨_, (pss_cons (ps_set (i := 1) scUncut.nd rfl (.inl rfl) pe_str)
      (pss_cons (ps_set (i := 2) scUncut.nd rfl (.inl rfl) pe_int)
      (pss_cons (ps_for PassesOwn.never rfl (pi_str (pv 0)) (pg_name (i := 3) scUncut.nd rfl (.inl rfl))
        (pss_one (ps_if (pt_cmpR op_in_sign (pv 3) pe_str rfl) (pss_one (ps_set (i := 2) scUncut.nd rfl (.inl rfl) (pe_op op_add (pe_op op_mul (pv 2) pe_int) (pe_callTy call_int_str (by rfl) B.int (by decide +kernel) (pa_cons (pv 3) pa_nil))))) (pss_cons (ps_set (i := 1) scUncut.nd rfl (.inl rfl) (pe_op op_add_str (pv 1) (pe_op op_mulR (pv 3) (pv 2))))
      (pss_one (ps_set (i := 2) scUncut.nd rfl (.inl rfl) pe_int))))))
      (pss_one (ps_ret (pv 1)))))), ?_⟩
    refine ⟨_, rfl, T (flat (rns l)), rfl, ?_⟩
    refine for_str (z := T (flat (rns l))) (fun i σ H' => H' = H ∧ ∃ (j d : Nat) (v3 : Option V), j ≤ (rns l).length ∧ i = (flat ((rns l).take j)).length + d ∧ (∀ r, (rns l)[j]? = some r → d ≤ (TL.numL r.2).length) ∧ ((rns l)[j]? = none → d = 0) ∧
      σ = [some (.str (T (flat (rns l)))), some (.str (T (unr ((rns l).take j)))), some (.int (vl ((match (rns l)[j]? with | some r => TL.numL r.2 | none => []).take d))), v3]) ⟨rfl, 0, 0, none, Nat.zero_le _, rfl, fun _ _ => Nat.zero_le _, fun _ => rfl, by rw [List.take_zero, List.take_zero]; show _ = [_, some (V.str (T [])), _, _]; rw [← T_nil]; rfl⟩ ?_ ?_
    · rintro i c σ H' hc ⟨rfl, j, d, v3, hj, hid, hdr, hdn, rfl⟩
      rw [T_at] at hc
      have hjl : j < (rns l).length := by
        rcases Nat.lt_or_ge j (rns l).length with z | z
        · exact z
        · have e1 : (rns l).take j = rns l := List.take_of_length_le z
          have e2 := hdn (List.getElem?_eq_none z)
          rw [e1] at hid
          have := (List.getElem?_eq_some_iff.mp hc).1
          omega
      have hr' : (rns l)[j]? = some (rns l)[j] := List.getElem?_eq_getElem hjl
      generalize (rns l)[j] = r at hr'
      have hm := rns_mem (List.mem_of_getElem? hr')
      have hsp := flat_split hr'
      have hdl := hdr r hr'
      have hc2 : (TL.numL r.2 ++ r.1 :: flat ((rns l).drop (j + 1)))[d]? = some c := by
        rw [hsp, hid, List.getElem?_append_right (by omega), Nat.add_sub_cancel_left] at hc
        exact hc
      rw [hr']
      dsimp only
      have tj : unr ((rns l).take (j + 1)) = unr ((rns l).take j) ++ List.replicate r.2 r.1 := by
        unfold unr
        rw [List.take_add_one, hr', List.map_append, List.flatten_append]
        show _ = _ ++ _
        congr 1
        exact List.append_nil _
      have tl : (unr ((rns l).take (j + 1))).length ≤ l.length := by
        have e1 : unr (rns l) = unr ((rns l).take (j + 1)) ++ unr ((rns l).drop (j + 1)) := by
          unfold unr
          rw [← List.flatten_append, ← List.map_append, List.take_append_drop]
        have e2 := congrArg List.length e1
        rw [unr_rns, List.length_append] at e2
        omega
      by_cases hlt : d < (TL.numL r.2).length
      · rw [List.getElem?_append_left hlt] at hc2
        have hdig : 48 ≤ c ∧ c ≤ 57 := TL.numL_digits r.2 c (List.mem_of_getElem? hc2)
        refine ⟨_, rfl, c, Str.ofString "0123456789", rfl, rfl, _, rfl, ?_⟩
        rw [in_dig, decide_eq_true hdig]
        refine iteT ⟨_, rfl, _, 10, rfl, rfl, .inr ⟨by decide, by decide⟩, _, rfl, _, _, rfl, int_dig hdig, by show 1 ≤ 640; decide, _, _, rfl, rfl, rfl, j, d + 1, some (.str ⟨#[c]⟩), hj, by omega, fun r2 h2 => ?_, fun h2 => ?_, ?_⟩
        · rw [hr'] at h2
          rw [← Option.some.inj h2]
          omega
        · rw [hr'] at h2
          cases h2
        · rw [hr']
          dsimp only
          rw [List.take_add_one, hc2]
          show _ = [_, _, some (V.int (vl (_ ++ [c]))), _]
          rw [vl_snoc]
          rfl
      · have hde : d = (TL.numL r.2).length := by omega
        subst hde
        rw [List.getElem?_append_right (Nat.le_refl _), Nat.sub_self] at hc2
        obtain rfl : r.1 = c := Option.some.inj hc2
        have hpc := pc _ hm.1
        have hnd : ¬ (48 ≤ r.1 ∧ r.1 ≤ 57) := by omega
        have ev : vl ((TL.numL r.2).take (TL.numL r.2).length) = (r.2 : Int) := by
          rw [List.take_length]
          exact TL.fold_num r.2
        rw [ev]
        refine ⟨_, rfl, r.1, Str.ofString "0123456789", rfl, rfl, _, rfl, ?_⟩
        rw [in_dig, decide_eq_false hnd]
        refine iteF ⟨_, rfl, _, rfl, _, rfl, r.1, r.2, rfl, rfl, by omega, _, _, rfl, rfl, ?_, rfl, j + 1, 0, some (.str ⟨#[r.1]⟩), hjl, ?_, fun _ _ => Nat.zero_le _, fun _ => rfl, ?_⟩
        · rw [tj, List.length_append] at tl
          rw [T_len, T_len]
          exact line_ok6 (by omega)
        · rw [flat_snoc hr']
          omega
        · rw [T_app, ← tj, List.take_zero]
          rfl
    · rintro σ H' ⟨rfl, j, d, v3, hj, hid, hdr, hdn, rfl⟩
      rw [T_size] at hid
      have ej : j = (rns l).length := by
        rcases Nat.lt_or_ge j (rns l).length with z | z
        · have hr' : (rns l)[j]? = some (rns l)[j] := List.getElem?_eq_getElem z
          have h1 := flat_split hr'
          have h2 := congrArg List.length h1
          rw [List.length_append, List.length_append, List.length_cons] at h2
          have h3 := hdr _ hr'
          omega
        · omega
      subst ej
      rw [List.take_length, unr_rns]
      exact ⟨_, rfl, q⟩
end
/-! ### rows of records -/
structure Rcd where
  sd : Nat
  ps : Nat
  pa : List Nat
  ls : List Nat
  ms : List Int
structure Rcd.Ok (n : Nat) (r : Rcd) : Prop where
  dna : Dna r.ls
  ll : r.ls.length ≤ 1000
  ml : r.ms.length = r.ls.length
  pc : PC r.pa
  pl : r.pa.length ≤ 1000
  ok : okp r.ls.length n r.pa r.ps 0
  pos : ∀ y ∈ r.ms, 0 ≤ y
def rstep (S : List (List Int)) (r : Rcd) : List (List Int) := (prun (eff r.sd r.ls) (effM r.sd r.ms) r.pa ⟨S, r.ps, 0⟩).S
def rowsOf (S : List (List Int)) (rs : List Rcd) : List (List Int) := rs.foldl rstep S
theorem eff_len (s : Nat) (l : List Nat) : (eff s l).length = l.length := by
  unfold eff
  split
  · exact turn_len l
  · rfl
theorem eff_dna {s : Nat} {l : List Nat} (h : Dna l) : Dna (eff s l) := by
  unfold eff
  split
  · exact turn_dna h
  · exact h
theorem effM_len (s : Nat) (l : List Int) : (effM s l).length = l.length := by
  unfold effM
  split
  · exact List.length_reverse
  · rfl
theorem effM_pos {s : Nat} {l : List Int} (h : ∀ y ∈ l, 0 ≤ y) : ∀ y ∈ effM s l, 0 ≤ y := fun y hy => by
  unfold effM at hy
  split at hy
  · exact h y (List.mem_reverse.mp hy)
  · exact h y hy
theorem rstep_good {S : List (List Int)} {r : Rcd} (o : r.Ok S.length) (G : Good7 S) : (rstep S r).length = S.length ∧ Good7 (rstep S r) :=
  ⟨prun_len .., prun_good (L := (eff r.sd r.ls).length) (n := S.length) (effM_pos o.pos) r.pa ⟨S, r.ps, 0⟩ (by rw [eff_len]; exact o.ok) (Nat.le_refl _) G⟩
theorem rowsOf_good : ∀ (rs : List Rcd) {S : List (List Int)} {n : Nat}, S.length = n → (∀ r ∈ rs, r.Ok n) → Good7 S → (rowsOf S rs).length = n ∧ Good7 (rowsOf S rs)
  | [], S, n, h, _, g => ⟨h, g⟩
  | r :: t, S, n, h, o, g => by
    subst h
    obtain ⟨h1, h2⟩ := rstep_good (o r List.mem_cons_self) g
    exact rowsOf_good t h1 (fun x hx => o x (List.mem_cons_of_mem _ hx)) h2
theorem rowsOf_snoc (S : List (List Int)) (rs : List Rcd) (r : Rcd) : rowsOf S (rs ++ [r]) = rstep (rowsOf S rs) r := by
  unfold rowsOf
  rw [List.foldl_append]
  rfl
def Rcs (H : Hp) : List V → List Rcd → Prop := Paired fun v r => ∃ q v1 v2 v5 v6 v7, v = .ref q ∧ H q = some (.tup [v1, v2, .int (r.sd : Int), .int (r.ps : Int), v5, v6, v7, .str (T (flat (rns r.pa)))])
def Rds (H : Hp) : List V → List Rcd → Prop := Paired fun v r => ∃ q nm m, v = .ref q ∧ H q = some (.tup [nm, .str (T r.ls), .ref m]) ∧ H m = some (LI r.ms)
theorem Rcs.same {H H' : Hp} {xs : List V} {rs : List Rcd} (h : Rcs H xs rs) (k : Same H H') : Rcs H' xs rs :=
  Paired.mapP h fun _ _ ⟨q, v1, v2, v5, v6, v7, e, t⟩ => ⟨q, v1, v2, v5, v6, v7, e, k q _ t⟩
theorem Rds.same {H H' : Hp} {xs : List V} {rs : List Rcd} (h : Rds H xs rs) (k : Same H H') : Rds H' xs rs :=
  Paired.mapP h fun _ _ ⟨q, nm, m, e, t, u⟩ => ⟨q, nm, m, e, k q _ t, k m _ u⟩
def NR : List Str := ["text", "records", "reads", "k", "rows", "letters", "marks", "i", "at", "step"]
theorem scRows : FnScope NR ["text", "records", "reads"] (defScope sRows) := ⟨rfl, rfl, rfl, by decide +kernel, rfl, by decide +kernel, by decide +kernel⟩
section
variable {P : Program} {w : World} {K : PySem.W.Frag} {mg : Str → Option Value} {base : Heap}
def spRows : Sp := fun vs H Q _ => ∃ (rl dl : Addr) (xs ys : List V) (t : List Nat) (rs : List Rcd), vs = [.str (T t), .ref rl, .ref dl] ∧ H rl = some (.lst xs) ∧ H dl = some (.lst ys) ∧ Rcs H xs rs ∧ Rds H ys rs ∧ rs.length ≤ 100 ∧ t.length ≤ 1000 ∧ (∀ r ∈ rs, r.Ok (t.length + 1)) ∧
  ∀ (H' : Hp) (p : Addr) (qs : List Addr), Same H H' → H p = none → (∀ q ∈ qs, H q = none) → Mtx H' p qs (rowsOf (zer (t.length + 1)) rs) → Q (.ref p) H'
theorem ok_rows {f : Addr} {fd : FuncData} {k : Nat} (F : Fun K "_law_rows" "_law_rows" sRows f fd) (B : Bl mg) (mlist : mg "list" = none) (hT : Has P w K mg base (k + 1) "_law_turned" ["text"] spLTurned) (hU : Has P w K mg base (k + 1) "_law_uncut" ["text"] spUncut) : FnOk P w K mg base CX0 (k + 2) f fd ["text", "records", "reads"] spRows := by
  obtain ⟨fT, dT', GT, gT, kT, bT⟩ := hT
  obtain ⟨fU, dU, GU, gU, kU, bU⟩ := hU
  refine F.ok scRows (fun vs H Q E h => ?_) (fun cdv A outer s H vs Q E hr h => ?_)
  · obtain ⟨rl, dl, xs, ys, t, rs, rfl, _⟩ := h
    rfl
  · obtain ⟨rl, dl, xs, ys, t, rs, rfl, hrl, hdl, hxs, hys, hrs, htl, hok, q⟩ := h
    have hxl : xs.length = rs.length := paired_len hxs
    have hyl : ys.length = rs.length := paired_len hys
    refine ⟨_, (pss_cons (ps_setLc (i := 4) (own := [("k", 3)]) (g := gName 3) (tt := tYes) (te := tLst (tCons (tC (.int 0)) (tCons (tC (.int 0)) (tCons (tC (.int 0)) (tCons (tC (.int 0)) (tCons (tC (.int 0)) (tCons (tC (.int 0)) (tCons (tC (.int 0)) (tNil))))))))) (by rfl) scRows.nd rfl rfl (sw_true rfl rfl rfl (by decide +kernel)) (pi_range1 rfl B.range (pa_cons (pe_op op_add (pe_callB call_len_str (by rfl) B.len PySem.boot_len (pa_cons (pv 0) pa_nil)) pe_int) pa_nil)) (blkOk_by (own := [("k", 3)]) (N := NR) (sc := defScope sRows) (by decide +kernel)) (fun _ _ _ _ _ => pg_name (i := 3) scRows.nd rfl (Or.inl rfl)) (fun _ _ _ _ _ => pts_nil) (fun _ _ _ _ _ => (pe_lst (pa_cons pe_int (pa_cons pe_int (pa_cons pe_int (pa_cons pe_int (pa_cons pe_int (pa_cons pe_int (pa_cons pe_int pa_nil))))))))))
      (pss_cons (ps_for PassesOwn.never rfl (pi_range1 rfl B.range (pa_cons (pe_callB call_len_seq (by rfl) B.len PySem.boot_len (pa_cons (pv 1) pa_nil)) pa_nil)) (pg_name (i := 3) scRows.nd rfl (.inl rfl))
        (pss_cons (ps_set (i := 5) scRows.nd rfl (.inl rfl) (pe_ix ix_tup (pe_ix ix_list (pv 2) (pv 3) (fun _ _ => rfl)) pe_int (fun _ _ => rfl)))
      (pss_cons (ps_set (i := 6) scRows.nd rfl (.inl rfl) (pe_callTy call_list_of (by rfl) mlist (by decide +kernel) (pa_cons (pe_ix ix_tup (pe_ix ix_list (pv 2) (pv 3) (fun _ _ => rfl)) pe_int (fun _ _ => rfl)) pa_nil)))
      (C8.pss_cut (ps_if (pt_cmpR op_eq (pe_ix ix_tup (pe_ix ix_list (pv 1) (pv 3) (fun _ _ => rfl)) pe_int (fun _ _ => rfl)) pe_int (nomark _)) (pss_cons (ps_set (i := 5) scRows.nd rfl (.inl rfl) (pe_call GT hr (by rfl) gT kT bT .nil pass0 (pa_cons (pv 5) pa_nil)))
      (pss_one (ps_set (i := 6) scRows.nd rfl (.inl rfl) (pe_revL (pv 6))))) pss_nil)
      (pss_cons (ps_set (i := 7) scRows.nd rfl (.inl rfl) pe_int)
      (pss_cons (ps_set (i := 8) scRows.nd rfl (.inl rfl) (pe_ix ix_tup (pe_ix ix_list (pv 1) (pv 3) (fun _ _ => rfl)) pe_int (fun _ _ => rfl)))
      (pss_one (ps_for PassesOwn.never rfl (pi_str (pe_call GU hr (by rfl) gU kU bU .nil pass0 (pa_cons (pe_ix ix_tup (pe_ix ix_list (pv 1) (pv 3) (fun _ _ => rfl)) pe_int (fun _ _ => rfl)) pa_nil))) (pg_name (i := 9) scRows.nd rfl (.inl rfl))
        (C8.pss_cut (ps_if (pt_cmpR op_eq (pv 9) pe_str (nomark _)) (pss_one (ps_asg (pe_op op_add (pe_ix ix_list (pe_ix ix_list (pv 4) (pv 8) (fun _ _ => rfl)) pe_int (fun _ _ => rfl)) pe_int) (pg_sub (pe_ix ix_list (pv 4) (pv 8) (fun _ _ => rfl)) pe_int set_list))) (pss_one (ps_if (pt_cmpR op_eq (pv 9) pe_str (nomark _)) (pss_one (ps_asg (pe_op op_add (pe_ix ix_list (pe_ix ix_list (pv 4) (pv 8) (fun _ _ => rfl)) pe_int (fun _ _ => rfl)) pe_int) (pg_sub (pe_ix ix_list (pv 4) (pv 8) (fun _ _ => rfl)) pe_int set_list))) (pss_one (ps_asg (pe_op op_add (pe_ix ix_list (pe_ix ix_list (pv 4) (pv 8) (fun _ _ => rfl)) (pe_bm PySem.F.plainAttrs_str PySem.F.slot_str_index PySem.F.type_str_index mt_sindex pe_str (pa_cons (pe_ix ix_str (pv 5) (pv 7) (fun _ _ => rfl)) pa_nil)) (fun _ _ => rfl)) (pe_ix ix_list (pv 6) (pv 7) (fun _ _ => rfl))) (pg_sub (pe_ix ix_list (pv 4) (pv 8) (fun _ _ => rfl)) (pe_bm PySem.F.plainAttrs_str PySem.F.slot_str_index PySem.F.type_str_index mt_sindex pe_str (pa_cons (pe_ix ix_str (pv 5) (pv 7) (fun _ _ => rfl)) pa_nil)) set_list))))))
      (pss_cons (ps_set (i := 7) scRows.nd rfl (.inl rfl) (pe_op op_add (pv 7) (pe_callTy call_int1 (by rfl) B.int (by decide +kernel) (pa_cons (pe_cmpR op_ne (pv 9) pe_str (nomark _)) pa_nil))))
      (pss_one (ps_set (i := 8) scRows.nd rfl (.inl rfl) (pe_op op_add (pv 8) (pe_callTy call_int1 (by rfl) B.int (by decide +kernel) (pa_cons (pe_cmpR op_ne (pv 9) pe_str (nomark _)) pa_nil)))))))))))))))
      (pss_one (ps_ret (pv 4))))), ?_⟩
    refine ⟨_, rfl, T t, rfl, line_ok6 (by rw [T_len]; omega), _, 1, rfl, rfl, _, rfl, by rw [T_len]; omega, by rw [T_len]; omega, fun D hD => ?_⟩
    rw [T_len, show ((t.length : Int) + 1).toNat = t.length + 1 by omega]
    refine lc_gen (n := t.length + 1) (fun j H' => Same H H' ∧ ∃ qs : List Addr, H' D = some (.lst (qs.map V.ref)) ∧ qs.length = j ∧ qs.Nodup ∧ D ∉ qs ∧ ∀ q ∈ qs, H' q = some (LI z7) ∧ H q = none) ⟨same_upd hD, [], upd_same, rfl, List.nodup_nil, List.not_mem_nil, fun q hq => by cases hq⟩ (fun j H' hj _ => hj) (fun H' _ => Nat.le_refl _) ?_ ?_
    · rintro j H2 v H3 hj ⟨sb, qs, hD2, hlen, hnd, hDq, hqs⟩ ⟨rfl, rfl⟩
      refine ⟨rfl, ?_⟩
      dsimp only [tYes]
      rw [if_pos rfl]
      refine ⟨by show 7 ≤ sizeLine; decide, fun q1 hq1 => ?_⟩
      have n1D : D ≠ q1 := ne_of_none hD2 hq1
      have nq : ∀ q ∈ qs, q ≠ q1 := fun q hq => ne_of_none (hqs q hq).1 hq1
      refine ⟨_, (upd_ne n1D).trans hD2, line_lt (by rw [List.length_map]; omega), fun c o e => ?_, qs ++ [q1], ?_, by rw [List.length_append, hlen]; rfl, ?_, ?_, fun q hq => ?_⟩
      · have e2 := sb c o e
        rw [upd_ne (ne_of_none e hD), upd_ne (ne_of_none e2 hq1)]
        exact e2
      · rw [upd_same, List.map_append]
        rfl
      · rw [List.nodup_append]
        exact ⟨hnd, by simp, fun a ha b hb => by
          obtain rfl : b = q1 := by simpa using hb
          exact nq a ha⟩
      · intro z
        rcases List.mem_append.mp z with z | z
        · exact hDq z
        · exact n1D (by simpa using z)
      · rcases List.mem_append.mp hq with z | z
        · obtain ⟨h1, h2⟩ := hqs q z
          refine ⟨?_, h2⟩
          rw [upd_ne (fun (y : q = D) => hDq (by rw [← y]; exact z)), upd_ne (nq q z)]
          exact h1
        · obtain rfl : q = q1 := by simpa using z
          refine ⟨?_, sb.free hq1⟩
          rw [upd_ne n1D.symm, upd_same]
          rfl
    rintro H1 ⟨s1, qs, hD1, hlen, hnd, hDq, hqs⟩
    have M1 : Mtx H1 D qs (zer (t.length + 1)) := ⟨hD1, hnd, hDq, by rw [hlen, zer_len], fun i z hz r hr => by
      have hm := List.mem_of_getElem? hz
      rw [(hqs z hm).1]
      obtain ⟨_, _, e⟩ := List.mem_map.mp (List.mem_of_getElem? hr)
      rw [← e]⟩
    have hqn : ∀ q ∈ qs, H q = none := fun q hq => (hqs q hq).2
    have hz := zer_len (t.length + 1)
    have hzg := zer_good (t.length + 1)
    refine ⟨_, rfl, rl, _, rfl, .inl (s1.seq (.inl (.inl hrl))), _, rfl, by rw [hxl]; omega, by rw [hxl]; omega, ?_⟩
    rw [Int.toNat_natCast, hxl]
    refine for_range (lo := 0) (n := rs.length) (fun j σ H' => Same H H' ∧ Mtx H' D qs (rowsOf (zer (t.length + 1)) (rs.take j)) ∧ ∃ v3 v5 v6 v7 v8 v9 : Option V, σ = [some (.str (T t)), some (.ref rl), some (.ref dl), v3, some (.ref D), v5, v6, v7, v8, v9]) ⟨s1, by rw [List.take_zero]; exact M1, _, none, none, none, none, none, rfl⟩ ?_ ?_
    · rintro j σ H2 hj ⟨s2, M2, v3, v5, v6, v7, v8, v9, rfl⟩
      have hrj : rs[j]? = some rs[j] := List.getElem?_eq_getElem hj
      have hO := hok rs[j] (List.getElem_mem hj)
      have hG2 := rowsOf_good (rs.take j) hz (fun r hr => hok r (List.mem_of_mem_take hr)) hzg
      have hsn : rowsOf (zer (t.length + 1)) (rs.take (j + 1)) = rstep (rowsOf (zer (t.length + 1)) (rs.take j)) rs[j] := by
        rw [List.take_add_one, hrj]
        exact rowsOf_snoc ..
      rw [hsn]
      generalize rowsOf (zer (t.length + 1)) (rs.take j) = S at M2 hG2 ⊢
      generalize rs[j] = r at hO hrj ⊢
      have hxj : xs[j]? = some xs[j] := List.getElem?_eq_getElem (by omega)
      have hyj : ys[j]? = some ys[j] := List.getElem?_eq_getElem (by omega)
      obtain ⟨r1, hr1, qa, v1, v2, v5', v6', v7', hqa, hqt⟩ := paired_get hxs hxj
      obtain ⟨r2, hr2, qd, nm, mr, hqd, hqdt, hmr⟩ := paired_get hys hyj
      rw [hrj] at hr1 hr2
      obtain rfl := Option.some.inj hr1
      obtain rfl := Option.some.inj hr2
      rw [hqa] at hxj
      rw [hqd] at hyj
      have aX : atI xs (0 + ((j : Nat) : Int)) = some (.ref qa) := by rw [Int.zero_add]; exact atI_nat hxj
      have aY : atI ys (0 + ((j : Nat) : Int)) = some (.ref qd) := by rw [Int.zero_add]; exact atI_nat hyj
      have gX : ∀ H', Same H H' → SqL K H' rl xs := fun H' s' => s'.seq (.inl (.inl hrl))
      have gY : ∀ H', Same H H' → SqL K H' dl ys := fun H' s' => s'.seq (.inl (.inl hdl))
      refine ⟨_, rfl, _, rfl, dl, _, _, .ref qd, rfl, rfl, gY H2 s2, aY, qd, _, _, .str (T r.ls), rfl, rfl, .inl (.inl (s2 _ _ hqdt)), rfl, ?_⟩
      refine ⟨_, rfl, _, rfl, dl, _, _, .ref qd, rfl, rfl, gY H2 s2, aY, qd, _, _, .ref mr, rfl, rfl, .inl (.inl (s2 _ _ hqdt)), rfl, mr, _, rfl, .inl (.inl (.inl (s2 _ _ hmr))), fun m1 hm1 => ?_⟩
      have sm1 := same_upd (o := .lst (r.ms.map V.int)) hm1
      have s3 := s2.trans sm1
      have M3 := M2.same sm1
      have hm1v : (upd H2 m1 (.lst (r.ms.map V.int))) m1 = some (LI r.ms) := upd_same
      have fresh : ∀ {Hx : Hp} {m : Addr}, Mtx Hx D qs S → Hx m = none → m ∉ qs := fun {Hx m} M hn z => by
        obtain ⟨i, hi, e2⟩ := List.mem_iff_getElem.mp z
        have hi2 : i < S.length := by rw [← M.len]; exact hi
        have := M.row i m (by rw [List.getElem?_eq_getElem hi, e2]) _ (List.getElem?_eq_getElem hi2)
        rw [hn] at this
        cases this
      have nm1 := fresh M2 hm1
      generalize upd H2 m1 (.lst (r.ms.map V.int)) = H3 at sm1 s3 M3 hm1v ⊢
      refine ⟨fun σ H' => Same H H' ∧ Mtx H' D qs S ∧ ∃ m, m ∉ qs ∧ H' m = some (LI (effM r.sd r.ms)) ∧ σ = [some (.str (T t)), some (.ref rl), some (.ref dl), some (.int (0 + (j : Nat))), some (.ref D), some (.str (T (eff r.sd r.ls))), some (.ref m), v7, v8, v9], ?_, ?_⟩
      · refine ⟨_, rfl, _, rfl, rl, _, _, .ref qa, rfl, rfl, gX _ s3, aX, qa, _, _, .int (r.sd : Int), rfl, rfl, .inl (.inl (s3 _ _ hqt)), rfl, rfl, _, rfl, ite2 (fun e => ?_) (fun e => ?_)⟩
        · have e1 : r.sd = 1 := by
            have := V.int.inj (of_decide_eq_true e)
            omega
          refine ⟨_, rfl, r.ls, rfl, hO.dna, by have := hO.ll; omega, _, rfl, m1, _, rfl, .inl (.inl hm1v), fun m hm => ⟨s3.trans (same_upd hm), M3.same (same_upd hm), m, fresh M3 hm, ?_, ?_⟩⟩
          · rw [upd_same]
            show some (HO.lst ((r.ms.map V.int).reverse)) = some (HO.lst ((effM r.sd r.ms).map V.int))
            unfold effM
            rw [if_pos e1, List.map_reverse]
          · unfold eff
            rw [if_pos e1]
            rfl
        · have e1 : r.sd ≠ 1 := fun z => e (by rw [z]; rfl)
          refine ⟨s3, M3, m1, nm1, ?_, ?_⟩
          · unfold effM
            rw [if_neg e1]
            exact hm1v
          · unfold eff
            rw [if_neg e1]
            rfl
      rintro σ H4 ⟨s4, M4, m, hmq, hm, rfl⟩
      have hel := eff_len r.sd r.ls
      have hdE : Dna (eff r.sd r.ls) := eff_dna hO.dna
      have heM : (effM r.sd r.ms).length = r.ls.length := (effM_len ..).trans hO.ml
      have hpM : ∀ y ∈ effM r.sd r.ms, 0 ≤ y := effM_pos hO.pos
      unfold rstep
      generalize eff r.sd r.ls = el at hel hdE ⊢
      generalize effM r.sd r.ms = em at heM hpM hm ⊢
      have hll := hO.ll
      refine ⟨_, rfl, _, rfl, rl, _, _, .ref qa, rfl, rfl, gX _ s4, aX, qa, _, _, .int (r.ps : Int), rfl, rfl, .inl (.inl (s4 _ _ hqt)), rfl, ?_⟩
      refine ⟨_, rfl, _, rfl, rl, _, _, .ref qa, rfl, rfl, gX _ s4, aX, qa, _, _, .str (T (flat (rns r.pa))), rfl, rfl, .inl (.inl (s4 _ _ hqt)), rfl, r.pa, rfl, hO.pc, hO.pl, T r.pa, rfl, ?_⟩
      have hX : ∀ k, (prun el em (r.pa.take k) ⟨S, r.ps, 0⟩).S.length = S.length := fun k => prun_len ..
      have ho2 : okp el.length S.length r.pa r.ps 0 := by rw [hel, hG2.1]; exact hO.ok
      refine for_str (z := T r.pa) (fun i σ H' => i ≤ r.pa.length ∧ Same H H' ∧ Mtx H' D qs (prun el em (r.pa.take i) ⟨S, r.ps, 0⟩).S ∧ Good7 (prun el em (r.pa.take i) ⟨S, r.ps, 0⟩).S ∧ H' m = some (LI em) ∧ ∃ v9 : Option V, σ = [some (.str (T t)), some (.ref rl), some (.ref dl), some (.int (0 + (j : Nat))), some (.ref D), some (.str (T el)), some (.ref m), some (.int ((prun el em (r.pa.take i) ⟨S, r.ps, 0⟩).a : Int)), some (.int ((prun el em (r.pa.take i) ⟨S, r.ps, 0⟩).p : Int)), v9]) ⟨Nat.zero_le _, s4, by rw [List.take_zero]; exact M4, by rw [List.take_zero]; exact hG2.2, hm, v9, by rw [List.take_zero]; rfl⟩ ?_ ?_
      · rintro i c σ H5 hc ⟨_, s5, hPi, hgi, hmi, v9, rfl⟩
        rw [T_at] at hc
        have hi : i < r.pa.length := (List.getElem?_eq_some_iff.mp hc).1
        obtain ⟨hcc, hpi, hai⟩ := okp_at el em r.pa ⟨S, r.ps, 0⟩ i c ho2 hc
        rw [prun_snoc el em ⟨S, r.ps, 0⟩ hc]
        have hSl := hX i
        generalize prun el em (r.pa.take i) ⟨S, r.ps, 0⟩ = Y at hPi hgi hpi hai hSl ⊢
        have hpi' : Y.p < Y.S.length := by rw [hSl]; exact hpi
        obtain ⟨qr, hqr, hqm, hqv, hqx⟩ := hPi.get hpi'
        have h7 := hgi.seven _ (getD_mem hpi')
        have hx7 : ∀ c, c < 7 → atI ((Y.S.getD Y.p []).map V.int) ((c : Nat) : Int) = some (.int ((Y.S.getD Y.p []).getD c 0)) := fun c hc => row_at (by rw [h7]; exact hc)
        have nl : m ≠ qr := fun y => hmq (by rw [y]; exact hqm)
        have fin : ∀ (c : Nat) (mv : Int), 0 ≤ mv → Same H (upd H5 qr (.lst (((Y.S.getD Y.p []).map V.int).set c (.int ((Y.S.getD Y.p []).getD c 0 + mv))))) ∧ Mtx (upd H5 qr (.lst (((Y.S.getD Y.p []).map V.int).set c (.int ((Y.S.getD Y.p []).getD c 0 + mv))))) D qs (bumpM Y.S Y.p c mv) ∧ Good7 (bumpM Y.S Y.p c mv) ∧ (upd H5 qr (.lst (((Y.S.getD Y.p []).map V.int).set c (.int ((Y.S.getD Y.p []).getD c 0 + mv))))) m = some (LI em) := fun c mv h0 => by
          refine ⟨fun b o e => ?_, hPi.bump hqr, bump_good hgi _ hpi' h0, ?_⟩
          · rw [upd_ne (ne_of_none e (hqn qr hqm))]
            exact s5 b o e
          · rw [upd_ne nl]
            exact hmi
        have eI : (V.str ⟨#[c]⟩ = V.str (Str.ofString "I")) ↔ c = 73 := one_eq tI
        have eD : (V.str ⟨#[c]⟩ = V.str (Str.ofString "D")) ↔ c = 68 := one_eq tD
        have pz : (pstep el em Y c).S = if c = 73 then bumpM Y.S Y.p 6 1 else if c = 68 then bumpM Y.S Y.p 5 1 else bumpM Y.S Y.p (li (el.getD Y.a 0)) (em.getD Y.a 0) := rfl
        refine ⟨fun σ H' => Same H H' ∧ Mtx H' D qs (pstep el em Y c).S ∧ Good7 (pstep el em Y c).S ∧ H' m = some (LI em) ∧ σ = [some (.str (T t)), some (.ref rl), some (.ref dl), some (.int (0 + (j : Nat))), some (.ref D), some (.str (T el)), some (.ref m), some (.int (Y.a : Int)), some (.int (Y.p : Int)), some (.str ⟨#[c]⟩)], ?_, ?_⟩
        · refine ⟨_, rfl, rfl, _, rfl, ite2 (fun e => ?_) (fun e => ?_)⟩
          · have hc73 := eI.mp (of_decide_eq_true e)
            obtain ⟨f1, f2, f3, f4⟩ := fin 6 1 (by decide)
            rw [pz, if_pos hc73]
            exact ⟨_, rfl, _, rfl, D, _, _, .ref qr, rfl, rfl, .inl (.inl hPi.top), hqx, qr, _, _, _, rfl, rfl, .inl (.inl hqv), hx7 6 (by decide), _, 1, rfl, rfl, _, rfl, _, rfl, D, _, _, .ref qr, rfl, rfl, .inl (.inl hPi.top), hqx, qr, _, _, 6, rfl, rfl, hqv, ix_set rfl (by rw [List.length_map, h7]; decide), f1, f2, f3, f4, rfl⟩
          have hc73 : c ≠ 73 := fun z => e (decide_eq_true (eI.mpr z))
          refine ⟨_, rfl, rfl, _, rfl, ite2 (fun e => ?_) (fun e => ?_)⟩
          · have hc68 := eD.mp (of_decide_eq_true e)
            obtain ⟨f1, f2, f3, f4⟩ := fin 5 1 (by decide)
            rw [pz, if_neg hc73, if_pos hc68]
            exact ⟨_, rfl, _, rfl, D, _, _, .ref qr, rfl, rfl, .inl (.inl hPi.top), hqx, qr, _, _, _, rfl, rfl, .inl (.inl hqv), hx7 5 (by decide), _, 1, rfl, rfl, _, rfl, _, rfl, D, _, _, .ref qr, rfl, rfl, .inl (.inl hPi.top), hqx, qr, _, _, 5, rfl, rfl, hqv, ix_set rfl (by rw [List.length_map, h7]; decide), f1, f2, f3, f4, rfl⟩
          have hc68 : c ≠ 68 := fun z => e (decide_eq_true (eD.mpr z))
          have ha := hai hc73 hc68
          have hgd : el.getD Y.a 0 = el[Y.a] := by rw [List.getD_eq_getElem?_getD, List.getElem?_eq_getElem ha]; rfl
          have ham : Y.a < em.length := by rw [heM, ← hel]; exact ha
          have hgm : em.getD Y.a 0 = em[Y.a] := by rw [List.getD_eq_getElem?_getD, List.getElem?_eq_getElem ham]; rfl
          obtain ⟨rest, hocc⟩ := li_occ (hdE _ (List.getElem_mem ha))
          obtain ⟨f1, f2, f3, f4⟩ := fin (li el[Y.a]) em[Y.a] (hpM _ (List.getElem_mem ham))
          have hzl : (T el).length ≤ sizeLine := line_ok6 (by rw [T_len, hel]; omega)
          rw [pz, if_neg hc73, if_neg hc68, hgd, hgm]
          exact ⟨_, rfl, _, rfl, D, _, _, .ref qr, rfl, rfl, .inl (.inl hPi.top), hqx, rfl, _, rfl, _, rfl, T el, _, _, rfl, rfl, hzl, at_T ha, _, _, _, _, rfl, rfl, hocc, qr, _, _, _, rfl, rfl, .inl (.inl hqv), hx7 _ (li_lt _), _, rfl, _, rfl, m, _, _, _, rfl, rfl, .inl (.inl hmi), atI_nat (map_int_at ham), _, _, rfl, rfl,
            _, rfl, _, rfl, D, _, _, .ref qr, rfl, rfl, .inl (.inl hPi.top), hqx, rfl, _, rfl, _, rfl, T el, _, _, rfl, rfl, hzl, at_T ha, _, _, _, _, rfl, rfl, hocc, qr, _, _, _, rfl, rfl, hqv, ix_set rfl (by rw [List.length_map, h7]; exact li_lt _), f1, f2, f3, f4, rfl⟩
        rintro σ H6 ⟨f1, f2, f3, f4, rfl⟩
        have ea : ((pstep el em Y c).a : Int) = (Y.a : Int) + (if (!decide (V.str ⟨#[c]⟩ = V.str (Str.ofString "D"))) = true then 1 else 0) := by
          have e0 : (pstep el em Y c).a = if c = 68 then Y.a else Y.a + 1 := rfl
          rw [e0]
          by_cases h : c = 68
          · rw [if_pos h, decide_eq_true (eD.mpr h), if_neg (by decide)]
            omega
          · rw [if_neg h, decide_eq_false (fun z => h (eD.mp z)), if_pos (by decide)]
            omega
        have ep : ((pstep el em Y c).p : Int) = (Y.p : Int) + (if (!decide (V.str ⟨#[c]⟩ = V.str (Str.ofString "I"))) = true then 1 else 0) := by
          have e0 : (pstep el em Y c).p = if c = 73 then Y.p else Y.p + 1 := rfl
          rw [e0]
          by_cases h : c = 73
          · rw [if_pos h, decide_eq_true (eI.mpr h), if_neg (by decide)]
            omega
          · rw [if_neg h, decide_eq_false (fun z => h (eI.mp z)), if_pos (by decide)]
            omega
        refine ⟨_, rfl, _, rfl, rfl, .inr ⟨_, rfl, _, _, rfl, rfl, _, rfl, _, rfl, rfl, .inr ⟨_, rfl, _, _, rfl, rfl, hi, f1, f2, f3, f4, some (.str ⟨#[c]⟩), ?_⟩⟩⟩
        rw [ea, ep]
        rfl
      · rintro σ H5 ⟨_, s5, hPi, _, _, v9, rfl⟩
        rw [T_size, List.take_length] at hPi
        exact ⟨s5, hPi, _, _, _, _, _, _, rfl⟩
    · rintro σ H2 ⟨s2, M2, v3, v5, v6, v7, v8, v9, rfl⟩
      rw [List.take_length] at M2
      exact ⟨_, rfl, q H2 D qs s2 hD hqn M2⟩
end
/-! ### data as a whole -/
def Asc (l : List Nat) : Prop := ∀ c ∈ l, c < 128
def dS (l : List Nat) : PyData := .str (T l)
def dL (ls : List (List Nat)) : PyData := .list (ls.map dS)
def dR (rs : List (List Nat × List Nat)) : PyData := .list (rs.map fun r => .tuple [dS r.1, dS r.2])
theorem can_dS {l : List Nat} (h : Asc l) : (dS l).canLay0 = true := by
  show PyData.strOk (T l) = true
  unfold PyData.strOk
  rw [Array.all_eq_true]
  intro i hi
  have hi2 : i < l.length := by rw [T_size] at hi; exact hi
  have e : (T l).cps[i]? = l[i]? := T_at l i
  rw [Array.getElem?_eq_getElem hi, List.getElem?_eq_getElem hi2] at e
  rw [Option.some.inj e]
  have := h _ (List.getElem_mem hi2)
  exact decide_eq_true (by omega)
theorem can_dL {ls : List (List Nat)} (h : ∀ l ∈ ls, Asc l) : (dL ls).canLay0 = true := by
  show PyData.canLayAll0 (ls.map dS) = true
  induction ls with
  | nil => rfl
  | cons l r ih =>
    show ((dS l).canLay0 && PyData.canLayAll0 (r.map dS)) = true
    rw [can_dS (h l List.mem_cons_self), ih fun x hx => h x (List.mem_cons_of_mem _ hx)]
    rfl
theorem depth_dL (ls : List (List Nat)) : PyData.depth (dL ls) ≤ 64 := by
  have : PyData.depthAll (ls.map dS) = 0 := by
    induction ls with
    | nil => rfl
    | cons l r ih =>
      show max (PyData.depth (dS l)) (PyData.depthAll (r.map dS)) = 0
      rw [ih]
      rfl
  show PyData.depthAll (ls.map dS) + 1 ≤ 64
  omega
theorem shaped_dL {ls : List (List Nat)} (h : ∀ l ∈ ls, Asc l) : SeqAt.shaped (dL ls) = true := by
  unfold SeqAt.shaped
  rw [can_dL h, decide_eq_true (depth_dL ls)]
  rfl
theorem can_dR {rs : List (List Nat × List Nat)} (h : ∀ r ∈ rs, Asc r.1 ∧ Asc r.2) : (dR rs).canLay0 = true := by
  show PyData.canLayAll0 (rs.map fun r => .tuple [dS r.1, dS r.2]) = true
  induction rs with
  | nil => rfl
  | cons l r ih =>
    show (((dS l.1).canLay0 && ((dS l.2).canLay0 && true)) && PyData.canLayAll0 (r.map fun r => .tuple [dS r.1, dS r.2])) = true
    rw [can_dS (h l List.mem_cons_self).1, can_dS (h l List.mem_cons_self).2, ih fun x hx => h x (List.mem_cons_of_mem _ hx)]
    rfl
theorem depth_dR (rs : List (List Nat × List Nat)) : PyData.depth (dR rs) ≤ 64 := by
  have : PyData.depthAll (rs.map fun r => .tuple [dS r.1, dS r.2]) ≤ 1 := by
    induction rs with
    | nil => exact Nat.zero_le _
    | cons l r ih =>
      show max (max 0 (max 0 0) + 1) (PyData.depthAll (r.map fun r => .tuple [dS r.1, dS r.2])) ≤ 1
      omega
  show PyData.depthAll (rs.map fun r => .tuple [dS r.1, dS r.2]) + 1 ≤ 64
  omega
theorem shaped_dR {rs : List (List Nat × List Nat)} (h : ∀ r ∈ rs, Asc r.1 ∧ Asc r.2) : SeqAt.shaped (dR rs) = true := by
  unfold SeqAt.shaped
  rw [can_dR h, decide_eq_true (depth_dR rs)]
  rfl
/-! ### the law's view of a pile -/
theorem scal_tl (r : List Int) : scal (tlV r) (tlV r) = true := by
  unfold tlV
  cases tlN r <;> rfl
def dDf (ds : List (Nat × Nat × Nat)) : PyData := .list (ds.map fun d => .tuple [.int d.1, dS [d.2.1], dS [d.2.2]])
def DfA (ds : List (Nat × Nat × Nat)) : Prop := ∀ d ∈ ds, Asc [d.2.1] ∧ Asc [d.2.2]
theorem can_dDf {ds : List (Nat × Nat × Nat)} (h : DfA ds) : (dDf ds).canLay0 = true := by
  show PyData.canLayAll0 (ds.map fun d => .tuple [.int d.1, dS [d.2.1], dS [d.2.2]]) = true
  induction ds with
  | nil => rfl
  | cons l r ih =>
    show ((true && ((dS [l.2.1]).canLay0 && ((dS [l.2.2]).canLay0 && true))) && PyData.canLayAll0 (r.map fun d => .tuple [.int d.1, dS [d.2.1], dS [d.2.2]])) = true
    rw [can_dS (h l List.mem_cons_self).1, can_dS (h l List.mem_cons_self).2, ih fun x hx => h x (List.mem_cons_of_mem _ hx)]
    rfl
theorem depth_dDf (ds : List (Nat × Nat × Nat)) : PyData.depth (dDf ds) ≤ 64 := by
  have : PyData.depthAll (ds.map fun d => .tuple [.int d.1, dS [d.2.1], dS [d.2.2]]) ≤ 1 := by
    induction ds with
    | nil => exact Nat.zero_le _
    | cons l r ih =>
      show max (max 0 (max 0 (max 0 0)) + 1) (PyData.depthAll (r.map fun d => .tuple [.int d.1, dS [d.2.1], dS [d.2.2]])) ≤ 1
      omega
  show PyData.depthAll (ds.map fun d => .tuple [.int d.1, dS [d.2.1], dS [d.2.2]]) + 1 ≤ 64
  omega
theorem shaped_dDf {ds : List (Nat × Nat × Nat)} (h : DfA ds) : SeqAt.shaped (dDf ds) = true := by
  unfold SeqAt.shaped
  rw [can_dDf h, decide_eq_true (depth_dDf ds)]
  rfl
theorem dpa_dDf {K : PySem.W.Frag} {H : Hp} {xs : List V} {ds : List (Nat × Nat × Nat)} (h : Dfv H xs ds) : DpAll K H xs (ds.map fun d => .tuple [.int d.1, dS [d.2.1], dS [d.2.2]]) := by
  induction h with
  | nil => exact .nil
  | cons a _ ih =>
    obtain ⟨q, rfl, e⟩ := a
    exact .cons (.tup (.inl (.inl e)) (.cons (.int _) (.cons (.str _) (.cons (.str _) .nil)))) ih
theorem dp_dDf {K : PySem.W.Frag} {H : Hp} {a : Addr} {xs : List V} {ds : List (Nat × Nat × Nat)} (h : H a = some (.lst xs)) (k : Dfv H xs ds) : Dp K H (.ref a) (dDf ds) := .lst (.inl (.inl h)) (dpa_dDf k)
theorem asc1 {c : Nat} (h : c < 128) : Asc [c] := fun x hx => by
  obtain rfl : x = c := by simpa using hx
  exact h
theorem dfs_asc {t : List Nat} (ht : Dna t) (S : List (List Int)) : ∀ i, i ≤ t.length → DfA (dfs t S i)
  | 0, _ => fun d h => by cases h
  | i + 1, hi => by
    have ih := dfs_asc ht S i (by omega)
    have hlt : i < t.length := hi
    have hg : t.getD i 0 = t[i] := by rw [List.getD_eq_getElem?_getD, List.getElem?_eq_getElem hlt]; rfl
    have ha : t[i] < 128 := by
      rcases ht _ (List.getElem_mem hlt) with e | e | e | e | e <;> omega
    unfold dfs
    cases e : tlN (S.getD i []) with
    | none =>
      rw [List.append_nil]
      exact ih
    | some c =>
      dsimp only
      split
      · rw [List.append_nil]
        exact ih
      · intro d hd
        rcases List.mem_append.mp hd with z | z
        · exact ih d z
        · rw [List.mem_singleton.mp z]
          have hc := tlN_dna e
          exact ⟨asc1 (by rw [hg]; exact ha), asc1 (show c < 128 by omega)⟩
def NRt : List Str := ["pile", "text", "rows", "differences", "mended", "k", "told", "letter", "found"]
theorem scRight : FnScope NRt ["pile", "text", "rows"] (defScope sRight) := ⟨rfl, rfl, rfl, by decide +kernel, rfl, by decide +kernel, by decide +kernel⟩
section
variable {P : Program} {w : World} {K : PySem.W.Frag} {mg : Str → Option Value} {base : Heap}
def spRight (C : Addr) : Sp := fun vs H Q _ => ∃ (x dx p rp : Addr) (qs rqs : List Addr) (t : List Nat) (S : List (List Int)), vs = [.ref x, .str (T t), .ref rp] ∧ Pl C H x dx p qs t S ∧ Mtx H rp rqs S ∧ S.length = t.length + 1 ∧ Good7 S ∧ t.length ≤ 1000 ∧ Dna t ∧ ∀ H', Same H H' → Q (.bl true) H'
theorem ok_right {f C : Addr} {fd : FuncData} {k : Nat} (F : Fun K "_law_right" "_law_right" sRight f fd) (X : PlT K mg C) (B : Bl mg) (mlist : mg "list" = none) (mtup : mg "tuple" = none) (hLT : Has P w K mg base (k + 3) "_law_told" ["row"] (spLTold K)) (hS : HasM P w K mg base C (k + 3) "sums" ["self", "position"] (spPSums C)) (hT : HasM P w K mg base C (k + 3) "told" ["self", "position"] (spPTold C))
    (hD : HasM P w K mg base C (k + 3) "differences" ["self"] (spPDiffs C)) (hM : HasM P w K mg base C (k + 3) "mended" ["self"] (spPMended C)) : FnOk P w K mg base CX0 (k + 4) f fd ["pile", "text", "rows"] (spRight C) := by
  obtain ⟨fLT, dLT, GLT, gLT, kLT, bLT⟩ := hLT
  obtain ⟨fS, dS', GS, mS, bS⟩ := hS
  obtain ⟨fT, dT', GT, mT, bT⟩ := hT
  obtain ⟨fD, dD', GD, mD, bD⟩ := hD
  obtain ⟨fM, dM, GM, mM, bM⟩ := hM
  refine F.ok scRight (fun vs H Q E h => ?_) (fun cdv A outer s H vs Q E hr h => ?_)
  · obtain ⟨x, dx, p, rp, qs, rqs, t, S, rfl, _⟩ := h
    rfl
  · obtain ⟨x, dx, p, rp, qs, rqs, t, S, rfl, hP, hR, hSl, hG, htl, hdn, q⟩ := h
    refine ⟨_, (pss_cons (ps_set (i := 3) scRight.nd rfl (.inl rfl) (pe_lst pa_nil))
      (pss_cons (ps_set (i := 4) scRight.nd rfl (.inl rfl) pe_str)
      (pss_cons (ps_for PassesOwn.never rfl (pi_range1 rfl B.range (pa_cons (pe_op op_add (pe_callB call_len_str (by rfl) B.len PySem.boot_len (pa_cons (pv 1) pa_nil)) pe_int) pa_nil)) (pg_name (i := 5) scRight.nd rfl (.inl rfl))
        (pss_cons (ps_set (i := 6) scRight.nd rfl (.inl rfl) (pe_meth (pv 0) X.cl mS GS hr bS .nil pass0 (pa_cons (pv 5) pa_nil)))
      (C8.pss_cut (ps_if (PW.pt (pw_or (pt_not (pt_val (pe_callB call_isi (by rfl) B.isin (by decide +kernel) (pa_cons (pv 6) (pa_cons (pe_bltn (v := .ty "tuple") (by rfl) mtup (by decide +kernel) rfl) pa_nil))))) (pw_or1 (pt_cmpR (op_neD hr.units) (pe_callTy call_list_of (by rfl) mlist (by decide +kernel) (pa_cons (pv 6) pa_nil)) (pe_ix ix_list (pv 2) (pv 5) (fun _ _ => rfl)) (nomark _))))) (pss_one (ps_ret pe_bl)) pss_nil)
      (pss_one (ps_if (pt_cmpR op_lt (pv 5) (pe_callB call_len_str (by rfl) B.len PySem.boot_len (pa_cons (pv 1) pa_nil)) (nomark _)) (pss_cons (ps_set (i := 7) scRight.nd rfl (.inl rfl) (pe_call GLT hr (by rfl) gLT kLT bLT .nil pass0 (pa_cons (pe_ix ix_list (pv 2) (pv 5) (fun _ _ => rfl)) pa_nil)))
      (C8.pss_cut (ps_if (pt_cmpR op_ne (pe_meth (pv 0) X.cl mT GT hr bT .nil pass0 (pa_cons (pv 5) pa_nil)) (pv 7) (nomark _)) (pss_one (ps_ret pe_bl)) pss_nil)
      (pss_one (ps_if (PW.pt (pw_and (pt_cmp (pc_notN (pv 7))) (pw_and1 (pt_cmpR op_ne (pv 7) (pe_ix ix_str (pv 1) (pv 5) (fun _ _ => rfl)) (nomark _))))) (pss_cons (ps_expr (pe_bm PySem.F.plainAttrs_list PySem.F.slot_list_append PySem.F.type_list_append mt_append (pv 3) (pa_cons (pe_tup (pa_cons (pv 5) (pa_cons (pe_ix ix_str (pv 1) (pv 5) (fun _ _ => rfl)) (pa_cons (pv 7) pa_nil)))) pa_nil)))
      (pss_one (ps_set (i := 4) scRight.nd rfl (.inl rfl) (pe_op op_add_str (pv 4) (pv 7))))) (pss_one (ps_set (i := 4) scRight.nd rfl (.inl rfl) (pe_op op_add_str (pv 4) (pe_ix ix_str (pv 1) (pv 5) (fun _ _ => rfl))))))))) pss_nil)))))
      (pss_cons (ps_set (i := 8) scRight.nd rfl (.inl rfl) (pe_meth0 (pv 0) X.cl mD GD hr bD .nil pass0))
      (C8.pss_cut (ps_if (PW.pt (pw_or (pt_not (pt_val (pe_callB call_isi (by rfl) B.isin (by decide +kernel) (pa_cons (pv 8) (pa_cons (pe_bltn (v := .ty "list") (by rfl) mlist (by decide +kernel) rfl) pa_nil))))) (pw_or (pt_cmpR (op_neD hr.units) (pv 8) (pv 3) (nomark _)) (pw_or1 (pt_cmpR op_ne (pe_meth0 (pv 0) X.cl mM GM hr bM .nil pass0) (pv 4) (nomark _)))))) (pss_one (ps_ret pe_bl)) pss_nil)
      (pss_cons (ps_expr (pe_bm PySem.F.plainAttrs_list PySem.F.slot_list_append PySem.F.type_list_append mt_append (pv 8) (pa_cons (pe_tup (pa_cons pe_int (pa_cons pe_str (pa_cons pe_str pa_nil)))) pa_nil)))
      (pss_one (ps_ret (pe_cmpR (op_eqD hr.units) (pe_meth0 (pv 0) X.cl mD GD hr bD .nil pass0) (pv 3) (nomark _)))))))))), ?_⟩
    have hzt : (T t).length ≤ sizeLine := line_ok6 (by rw [T_len]; omega)
    refine ⟨Nat.zero_le _, fun pd hpd => ?_⟩
    refine ⟨_, rfl, T t, rfl, hzt, _, 1, rfl, rfl, _, rfl, by rw [T_len]; omega, by rw [T_len]; omega, ?_⟩
    rw [T_len, show ((t.length : Int) + 1).toNat = t.length + 1 by omega]
    refine for_range (lo := 0) (n := t.length + 1) (fun i σ H' => Same H H' ∧ ∃ (xs : List V) (v5 v6 v7 : Option V), H' pd = some (.lst xs) ∧ Dfv H' xs (dfs t S (min i t.length)) ∧ σ = [some (.ref x), some (.str (T t)), some (.ref rp), some (.ref pd), some (.str (T ((mnd t S).take (min i t.length)))), v5, v6, v7, none]) ⟨same_upd hpd, [], none, none, none, upd_same, by rw [Nat.zero_min]; exact .nil, by rw [Nat.zero_min, List.take_zero, ← T_nil]; rfl⟩ ?_ ?_
    · rintro i σ H1 hi ⟨s1, xs, v5, v6, v7, hx, hd, rfl⟩
      have hP1 := hP.same s1
      have hiS : i < S.length := by omega
      refine ⟨_, rfl, x, dx, _, rfl, hP1.ob, rfl, _, rfl, x, dx, p, qs, t, S, i, by rw [Int.zero_add]; rfl, hP1, hiS, fun tq htq => ?_⟩
      have st := same_upd (o := .tup ((S.getD i []).map V.int)) htq
      have htv : (upd H1 tq (.tup ((S.getD i []).map V.int))) tq = some (.tup ((S.getD i []).map V.int)) := upd_same
      generalize upd H1 tq (.tup ((S.getD i []).map V.int)) = H2 at st htv ⊢
      have s2 := s1.trans st
      obtain ⟨qr, hqr, hqm, hqv, hqa⟩ := hR.get hiS
      have h7 := hG.seven _ (getD_mem hiS)
      have hqa0 : atI (rqs.map V.ref) (0 + ((i : Nat) : Int)) = some (.ref qr) := by rw [Int.zero_add]; exact hqa
      refine ⟨fun σ H' => Same H2 H' ∧ σ = [some (.ref x), some (.str (T t)), some (.ref rp), some (.ref pd), some (.str (T ((mnd t S).take (min i t.length)))), some (.int (0 + (i : Nat))), some (.ref tq), v7, none], ?_, ?_⟩
      · refine ⟨_, rfl, .ref tq, .ty "tuple", _, _, true, rfl, .ty _, .base (.tup htv), kit_ty (by decide +kernel), true, rfl, iteF ?_⟩
        refine ⟨_, rfl, tq, _, rfl, .inr (.inl (.inl htv)), fun pl hpl => ⟨_, rfl, _, rfl, rp, _, _, .ref qr, rfl, rfl, .inl (.inl ((s2.trans (same_upd hpl)) _ _ hR.top)), hqa0, dI (S.getD i []), dI (S.getD i []), dp_dI (.inl (.inl upd_same)), dp_dI (.inl (.inl ((s2.trans (same_upd hpl)) _ _ hqv))), shaped_dI _, shaped_dI _, _, rfl, ?_⟩⟩
        rw [eqv_ints]
        exact iteF ⟨same_upd hpl, rfl⟩
      rintro σ H3 ⟨s23, rfl⟩
      have s3 := s2.trans s23
      have hx3 := (st.trans s23) _ _ hx
      have hd3 := hd.mono fun b ys e => (st.trans s23) _ _ e
      refine ⟨_, rfl, _, rfl, T t, rfl, hzt, _, _, rfl, rfl, _, rfl, ite2 (fun e => ?_) (fun e => ?_)⟩
      · have e := of_decide_eq_true e
        rw [T_len] at e
        have hit : i < t.length := by omega
        have hat : atI (T t).cps.toList (0 + ((i : Nat) : Int)) = some t[i] := by rw [Int.zero_add]; exact at_T hit
        have hgt : t.getD i 0 = t[i] := by rw [List.getD_eq_getElem?_getD, List.getElem?_eq_getElem hit]; rfl
        refine ⟨_, rfl, _, rfl, rp, _, _, .ref qr, rfl, rfl, .inl (.inl (s3 _ _ hR.top)), hqa0, qr, _, rfl, .inl (.inl (s3 _ _ hqv)), h7, fun H4 s4 => ?_⟩
        have s14 := s3.trans s4
        refine ⟨fun σ H' => Same H4 H' ∧ σ = [some (.ref x), some (.str (T t)), some (.ref rp), some (.ref pd), some (.str (T ((mnd t S).take (min i t.length)))), some (.int (0 + (i : Nat))), some (.ref tq), some (tlV (S.getD i [])), none], ?_, ?_⟩
        · have hP4 := hP.same s14
          exact ⟨_, rfl, x, dx, _, rfl, hP4.ob, rfl, _, rfl, x, dx, p, qs, t, S, i, by rw [Int.zero_add]; rfl, hP4, hiS, hG, fun H5 s5 => ⟨_, rfl, scal_tl _, _, rfl, iteNS rfl ⟨s5, rfl⟩⟩⟩
        rintro σ H5 ⟨s45, rfl⟩
        have s5 := s14.trans s45
        have hx5 := (s4.trans s45) _ _ hx3
        have hd5 := hd3.mono fun b ys e => (s4.trans s45) _ _ e
        have em1 : min i t.length = i := by omega
        have em2 : min (i + 1) t.length = i + 1 := by omega
        rw [em1] at hd5
        rw [em1, em2]
        have mi : ∀ c, (match tlN (S.getD i []) with
          | some c => c
          | none => t.getD i 0) = c → (mnd t S).take (i + 1) = (mnd t S).take i ++ [c] := fun c e => by
          rw [List.take_add_one]
          have : (mnd t S)[i]? = some c := by
            unfold mnd
            rw [List.getElem?_map, List.getElem?_range hit]
            exact congrArg some e
          rw [this]
          rfl
        have ml : ((mnd t S).take i).length ≤ 1000 := by
          unfold mnd
          rw [List.length_take, List.length_map, List.length_range]
          omega
        have hsz : ∀ c : Nat, (T ((mnd t S).take i)).length + (T [c]).length ≤ sizeLine := fun c => by
          rw [T_len, T_len]
          exact line_ok6 (by show _ + 1 ≤ _; omega)
        have ed : dfs t S (i + 1) = dfs t S i ++ (match tlN (S.getD i []) with
          | some c => if c = t.getD i 0 then [] else [(i, t.getD i 0, c)]
          | none => []) := rfl
        unfold tlV
        cases e : tlN (S.getD i []) with
        | none =>
          rw [e] at ed mi
          refine ⟨_, rfl, _, rfl, iteF ⟨_, rfl, _, rfl, _, rfl, T t, _, _, rfl, rfl, hzt, hat, _, _, rfl, rfl, hsz _, s5, xs, some (.int (0 + (i : Nat))), some (.ref tq), some .non, hx5, ?_, ?_⟩⟩
          · rw [ed, List.append_nil]
            exact hd5
          · rw [mi t[i] hgt, ← T_app]
            rfl
        | some z =>
          rw [e] at ed mi
          refine ⟨_, rfl, _, rfl, iteT ⟨_, rfl, _, rfl, _, rfl, T t, _, _, rfl, rfl, hzt, hat, rfl, _, rfl, iteN (fun ne => ?_) (fun eq => ?_)⟩⟩
          · have hzt2 : z ≠ t.getD i 0 := fun y => ne (by rw [y, hgt]; rfl)
            refine ⟨_, rfl, .inl ⟨rfl, _, .inl (.inl hx5)⟩, _, rfl, _, rfl, _, rfl, T t, _, _, rfl, rfl, hzt, hat, _, rfl, by show 3 ≤ sizeLine; decide, fun tr htr => ?_⟩
            have n1 : pd ≠ tr := ne_of_none hx5 htr
            have str := same_upd (o := .tup [V.int (0 + (i : Nat)), V.str (T [t[i]]), V.str (T [z])]) htr
            have hxl : xs.length ≤ 1000 := by
              have h1 : xs.length = (dfs t S i).length := paired_len hd5
              have h2 := (dfs_in t S i).1
              omega
            refine ⟨pd, xs, _, rfl, rfl, str _ _ hx5, line_ok6 (by omega), _, rfl, _, rfl, _, _, rfl, rfl, hsz z, fun b o eb => ?_, xs ++ [.ref tr], some (.int (0 + (i : Nat))), some (.ref tq), some (.str (T [z])), upd_same, ?_, ?_⟩
            · rw [upd_ne (ne_of_none eb hpd)]
              exact str _ _ (s5 _ _ eb)
            · rw [ed]
              dsimp only
              rw [if_neg hzt2]
              refine Dfv.snoc (hd5.mono fun b ys eb => ?_) ?_
              · have : b ≠ pd := fun y => by
                  rw [y, hx5] at eb
                  cases eb
                rw [upd_ne this]
                exact str _ _ eb
              · rw [upd_ne n1.symm, upd_same, Int.zero_add, hgt]
                rfl
            · rw [mi z rfl, ← T_app]
              rfl
          · have hzt2 : z = t.getD i 0 := by
              have := T_inj (V.str.inj eq)
              rw [hgt]
              simpa using this
            refine ⟨_, rfl, _, rfl, _, rfl, T t, _, _, rfl, rfl, hzt, hat, _, _, rfl, rfl, hsz _, s5, xs, some (.int (0 + (i : Nat))), some (.ref tq), some (.str (T [z])), hx5, ?_, ?_⟩
            · rw [ed]
              dsimp only
              rw [if_pos hzt2, List.append_nil]
              exact hd5
            · rw [mi z rfl, ← T_app, hzt2, hgt]
              rfl
      · have e : ¬ (0 + ((i : Nat) : Int) < ((T t).length : Int)) := fun z => e (decide_eq_true z)
        rw [T_len] at e
        rw [show min (i + 1) t.length = min i t.length by omega]
        exact ⟨s3, xs, _, _, _, hx3, hd3, rfl⟩
    · rintro σ H1 ⟨s1, xs, v5, v6, v7, hx, hd, rfl⟩
      rw [show min (t.length + 1) t.length = t.length by omega] at *
      have hmn : (mnd t S).take t.length = mnd t S := List.take_of_length_le (by unfold mnd; rw [List.length_map, List.length_range]; exact Nat.le_refl _)
      rw [hmn]
      have hP1 := hP.same s1
      have hA := dfs_asc hdn S t.length (Nat.le_refl _)
      have shD := shaped_dDf hA
      have eqD := SeqAt.eqv_refl _ (can_dDf hA)
      refine ⟨_, rfl, x, dx, _, rfl, hP1.ob, rfl, x, dx, p, qs, t, S, rfl, hP1, hSl, hG, by omega, fun H2 qf xf s2 hqf0 hqf hdf => ?_⟩
      have s12 := s1.trans s2
      have hP2 := hP.same s12
      refine ⟨fun σ H' => Same H2 H' ∧ σ = [some (.ref x), some (.str (T t)), some (.ref rp), some (.ref pd), some (.str (T (mnd t S))), v5, v6, v7, some (.ref qf)], ?_, ?_⟩
      · refine ⟨_, rfl, .ref qf, .ty "list", _, _, true, rfl, .ty _, .base (.lst hqf), kit_ty (by decide +kernel), true, rfl, iteF ?_⟩
        refine ⟨_, rfl, _, rfl, dDf (dfs t S t.length), dDf (dfs t S t.length), dp_dDf hqf hdf, dp_dDf (s2 _ _ hx) (hd.mono fun b ys e => s2 _ _ e), shD, shD, _, rfl, ?_⟩
        rw [eqD]
        refine iteF ⟨_, rfl, x, dx, _, rfl, hP2.ob, rfl, x, dx, p, qs, t, S, rfl, hP2, hSl, hG, by omega, fun H3 s3 => ⟨_, rfl, rfl, _, rfl, iteNS rfl ⟨s3, rfl⟩⟩⟩
      rintro σ H3 ⟨s23, rfl⟩
      have hqf3 := s23 _ _ hqf
      refine ⟨_, rfl, .inl ⟨rfl, _, .inl (.inl hqf3)⟩, by show 3 ≤ sizeLine; decide, fun tr htr => ?_⟩
      have str := same_upd (o := .tup [V.int 1, V.str (Str.ofString "A"), V.str (Str.ofString "C")]) htr
      have hfl : xf.length ≤ 1000 := by
        have h1 := paired_len hdf
        have h2 := (dfs_in t S t.length).1
        omega
      have hqfH : H qf = none := s1.free hqf0
      have npq : pd ≠ qf := ne_of_none hx hqf0
      refine ⟨qf, xf, _, rfl, rfl, str _ _ hqf3, line_ok6 (by omega), ?_⟩
      have s4 : ∀ b o, b ≠ qf → H3 b = some o → (upd (upd H3 tr (.tup [V.int 1, V.str (Str.ofString "A"), V.str (Str.ofString "C")])) qf (.lst (xf ++ [V.ref tr]))) b = some o := fun b o nb e => by
        rw [upd_ne nb]
        exact str _ _ e
      generalize upd (upd H3 tr (.tup [V.int 1, V.str (Str.ofString "A"), V.str (Str.ofString "C")])) qf (.lst (xf ++ [V.ref tr])) = H4 at s4 ⊢
      have sH4 : Same H H4 := fun b o e => s4 b o (ne_of_none e hqfH) ((s12.trans s23) _ _ e)
      have hP4 := hP.same sH4
      have hpd4 := s4 _ _ npq ((s2.trans s23) _ _ hx)
      have hd4 : Dfv H4 xs (dfs t S t.length) := hd.mono fun b ys e => s4 _ _ (fun y => by
        rw [y, hqf0] at e
        cases e) ((s2.trans s23) _ _ e)
      refine ⟨_, rfl, x, dx, _, rfl, hP4.ob, rfl, x, dx, p, qs, t, S, rfl, hP4, hSl, hG, by omega, fun H5 qg xg s5 hqg0 hqg hdg => ?_⟩
      refine ⟨_, rfl, dDf (dfs t S t.length), dDf (dfs t S t.length), dp_dDf hqg hdg, dp_dDf (s5 _ _ hpd4) (hd4.mono fun b ys e => s5 _ _ e), shD, shD, ?_⟩
      rw [eqD]
      exact q _ (sH4.trans s5)
end
/-! ### records that are laid out -/
def pf : List Nat → Nat → Nat
  | [], p => p
  | c :: r, p => pf r (if c = 73 then p else p + 1)
def af : List Nat → Nat → Nat
  | [], a => a
  | c :: r, a => af r (if c = 68 then a else a + 1)
theorem okp_snoc {L n s : Nat} : ∀ {c : List Nat} {p a : Nat}, okp L n c p a → okp L n [s] (pf c p) (af c a) → okp L n (c ++ [s]) p a
  | [], _, _, _, h => h
  | _ :: _, _, _, h, k => ⟨h.1, h.2.1, h.2.2.1, okp_snoc h.2.2.2 k⟩
theorem okp_mono {L L' n : Nat} (hL : L ≤ L') : ∀ {c : List Nat} {p a : Nat}, okp L n c p a → okp L' n c p a
  | [], _, _, h => h
  | _ :: _, _, _, h => ⟨h.1, h.2.1, fun x y => Nat.lt_of_lt_of_le (h.2.2.1 x y) hL, okp_mono hL h.2.2.2⟩
theorem pf_snoc (s : Nat) : ∀ (c : List Nat) (p : Nat), pf (c ++ [s]) p = if s = 73 then pf c p else pf c p + 1
  | [], _ => rfl
  | _ :: r, _ => pf_snoc s r _
theorem af_snoc (s : Nat) : ∀ (c : List Nat) (p : Nat), af (c ++ [s]) p = if s = 68 then af c p else af c p + 1
  | [], _ => rfl
  | _ :: r, _ => af_snoc s r _
structure Laid (n b at_ : Nat) (c l : List Nat) : Prop where
  pc : PC c
  ok : okp l.length (n + 1) c b 0
  pe : pf c b = at_
  ae : af c 0 = l.length
  le : at_ ≤ n
  dna : Dna l
theorem Laid.step {n b at_ s g : Nat} {c l : List Nat} (h : Laid n b at_ c l) (hs : s = 61 ∨ s = 88 ∨ s = 73 ∨ s = 68) (h73 : s ≠ 73 → at_ < n) (hg : Sg g) : Laid n b (if s = 73 then at_ else at_ + 1) (c ++ [s]) (if s = 68 then l else l ++ [g]) := by
  have hlen : (if s = 68 then l else l ++ [g]).length = if s = 68 then l.length else l.length + 1 := by
    split
    · rfl
    · rw [List.length_append]
      rfl
  refine ⟨fun x hx => ?_, ?_, by rw [pf_snoc, h.pe], by rw [af_snoc, h.ae, hlen], ?_, ?_⟩
  · rcases List.mem_append.mp hx with z | z
    · exact h.pc x z
    · rw [List.mem_singleton.mp z]
      exact hs
  · refine okp_snoc (okp_mono (by rw [hlen]; split <;> omega) h.ok) ⟨hs, ?_, fun _ h2 => ?_, trivial⟩
    · rw [h.pe]
      have := h.le
      omega
    · rw [h.ae, hlen, if_neg h2]
      exact Nat.lt_succ_self _
  · split
    · exact h.le
    · exact h73 ‹_›
  · split
    · exact h.dna
    · refine h.dna.app fun x hx => ?_
      rw [List.mem_singleton.mp hx]
      exact hg
def NLd : List Str := ["text", "cell", "number", "x", "begin", "strand", "letters", "cut", "at", "y", "step", "letter"]
theorem scLaid : FnScope NLd ["text", "cell", "number"] (defScope sLaid) := ⟨rfl, rfl, rfl, by decide +kernel, rfl, by decide +kernel, by decide +kernel⟩
theorem steps_at {y : Int} (h0 : 0 ≤ y % 6) (h6 : y % 6 < 6) : ∃ (v : Int) (s : Nat), atI [V.int 0, V.int 0, V.int 0, V.int 1, V.int 2, V.int 3] (y % 6) = some (.int v) ∧ atI (Str.ofString "=XID").cps.toList v = some s ∧ (s = 61 ∨ s = 88 ∨ s = 73 ∨ s = 68) := by
  generalize y % 6 = z at h0 h6
  have : z = 0 ∨ z = 1 ∨ z = 2 ∨ z = 3 ∨ z = 4 ∨ z = 5 := by omega
  rcases this with e | e | e | e | e | e <;> subst e
  · exact ⟨0, 61, rfl, by decide +kernel, by decide⟩
  · exact ⟨0, 61, rfl, by decide +kernel, by decide⟩
  · exact ⟨0, 61, rfl, by decide +kernel, by decide⟩
  · exact ⟨1, 88, rfl, by decide +kernel, by decide⟩
  · exact ⟨2, 73, rfl, by decide +kernel, by decide⟩
  · exact ⟨3, 68, rfl, by decide +kernel, by decide⟩
theorem letter_at {y : Int} (h0 : 0 ≤ y % 5) (h5 : y % 5 < 5) : ∃ s : Nat, atI (Str.ofString "ACGTN").cps.toList (y % 5) = some s ∧ Sg s := by
  generalize y % 5 = z at h0 h5
  have : z = 0 ∨ z = 1 ∨ z = 2 ∨ z = 3 ∨ z = 4 := by omega
  rcases this with e | e | e | e | e <;> subst e
  · exact ⟨65, by decide +kernel, .inl rfl⟩
  · exact ⟨67, by decide +kernel, .inr (.inl rfl)⟩
  · exact ⟨71, by decide +kernel, .inr (.inr (.inl rfl))⟩
  · exact ⟨84, by decide +kernel, .inr (.inr (.inr (.inl rfl)))⟩
  · exact ⟨78, by decide +kernel, .inr (.inr (.inr (.inr rfl)))⟩
section
variable {P : Program} {w : World} {K : PySem.W.Frag} {mg : Str → Option Value} {base : Heap}
def spLaid (K : PySem.W.Frag) : Sp := fun vs H Q _ => ∃ (t : List Nat) (cl nb : Int), vs = [.str (T t), .int cl, .int nb] ∧ Dna t ∧ t.length ≤ 1000 ∧
  ∀ (H' : Hp) (p : Addr) (sd b e : Nat) (c l : List Nat), Same H H' → H p = none → H' p = some (.tup [.int nb, .int (sd : Int), .int (b : Int), .int (e : Int), .str (T (eff sd l)), .str (T c)]) → sd ≤ 1 → 1 ≤ l.length → l.length ≤ 20 → c.length ≤ 20 → Dna l → PC c → okp l.length (t.length + 1) c b 0 → Q (.ref p) H'
theorem ok_laid {f : Addr} {fd : FuncData} {k : Nat} (F : Fun K "_law_laid" "_law_laid" sLaid f fd) (B : Bl mg) (hR : Has P w K mg base (k + 1) "_law_row" ["cell", "count", "bound"] (spRow K)) (hT : Has P w K mg base (k + 1) "_law_turned" ["text"] spLTurned) : FnOk P w K mg base CX0 (k + 2) f fd ["text", "cell", "number"] (spLaid K) := by
  obtain ⟨fR, dR', GR, gR, kR, bR⟩ := hR
  obtain ⟨fT, dT', GT, gT, kT, bT⟩ := hT
  refine F.ok scLaid (fun vs H Q E h => ?_) (fun cdv A outer s H vs Q E hr h => ?_)
  · obtain ⟨t, cl, nb, rfl, _⟩ := h
    rfl
  · obtain ⟨t, cl, nb, rfl, hdn, htl, q⟩ := h
    have hzt : (T t).length ≤ sizeLine := line_ok6 (by rw [T_len]; omega)
    refine ⟨_, (pss_cons (ps_set (i := 3) scLaid.nd rfl (.inl rfl) (pe_callB call_abs (by rfl) B.abs (by decide +kernel) (pa_cons (pe_callTy call_int1 (by rfl) B.int (by decide +kernel) (pa_cons (pv 1) pa_nil)) pa_nil)))
      (pss_cons (ps_set (i := 4) scLaid.nd rfl (.inl rfl) (pe_op op_mod (pv 3) (pe_op op_add (pe_callB call_len_str (by rfl) B.len PySem.boot_len (pa_cons (pv 0) pa_nil)) pe_int)))
      (pss_cons (ps_set (i := 5) scLaid.nd rfl (.inl rfl) (pe_op op_mod (pe_op op_fdiv (pv 3) pe_int) pe_int))
      (pss_cons (ps_set (i := 6) scLaid.nd rfl (.inl rfl) pe_str)
      (pss_cons (ps_set (i := 7) scLaid.nd rfl (.inl rfl) pe_str)
      (pss_cons (ps_set (i := 8) scLaid.nd rfl (.inl rfl) (pv 4))
      (pss_cons (ps_for PassesOwn.never rfl (pi_list (pe_call GR hr (by rfl) gR kR bR .nil pass0 (pa_cons (pe_op op_fdiv (pv 3) pe_int) (pa_cons (pe_op op_add pe_int (pe_op op_mod (pe_op op_fdiv (pv 3) pe_int) pe_int)) (pa_cons pe_int pa_nil))))) (pg_name (i := 9) scLaid.nd rfl (.inl rfl))
        (C8.pss_cut (ps_set (i := 10) scLaid.nd rfl (.inl rfl) (pe_ix ix_str pe_str (pe_ix ix_list (pe_lst (pa_cons pe_int (pa_cons pe_int (pa_cons pe_int (pa_cons pe_int (pa_cons pe_int (pa_cons pe_int pa_nil))))))) (pe_op op_mod (pv 9) pe_int) (fun _ _ => rfl)) (fun _ _ => rfl)))
      (C8.pss_cut (ps_if (PW.pt (pw_and (pt_cmpR op_ne (pv 10) pe_str (nomark _)) (pw_and1 (pt_cmpR op_ge (pv 8) (pe_callB call_len_str (by rfl) B.len PySem.boot_len (pa_cons (pv 0) pa_nil)) (nomark _))))) (pss_one (ps_set (i := 10) scLaid.nd rfl (.inl rfl) pe_str)) pss_nil)
      (C8.pss_cut (ps_if (PW.pt (pw_and (pt_cmpR op_eq (pv 10) pe_str (nomark _)) (pw_and1 (pt_cmpR op_eq (pe_ix ix_str (pv 0) (pv 8) (fun _ _ => rfl)) pe_str (nomark _))))) (pss_one (ps_set (i := 10) scLaid.nd rfl (.inl rfl) pe_str)) pss_nil)
      (pss_cons (ps_set (i := 11) scLaid.nd rfl (.inl rfl) (pe_ix ix_str pe_str (pe_op op_mod (pv 9) pe_int) (fun _ _ => rfl)))
      (C8.pss_cut (ps_if (pt_cmpR op_eq (pv 10) pe_str (nomark _)) (pss_one (ps_set (i := 11) scLaid.nd rfl (.inl rfl) (pe_ix ix_str (pv 0) (pv 8) (fun _ _ => rfl)))) pss_nil)
      (C8.pss_cut (ps_if (PW.pt (pw_and (pt_cmpR op_eq (pv 10) pe_str (nomark _)) (pw_and (pt_cmpR op_eq (pv 11) (pe_ix ix_str (pv 0) (pv 8) (fun _ _ => rfl)) (nomark _)) (pw_and1 (pt_cmpR op_ne (pv 11) pe_str (nomark _)))))) (pss_one (ps_set (i := 11) scLaid.nd rfl (.inl rfl) pe_str)) pss_nil)
      (C8.pss_cut (ps_if (pt_cmpR op_ne (pv 10) pe_str (nomark _)) (pss_one (ps_set (i := 6) scLaid.nd rfl (.inl rfl) (pe_op op_add_str (pv 6) (pv 11)))) pss_nil)
      (pss_cons (ps_set (i := 8) scLaid.nd rfl (.inl rfl) (pe_op op_add (pv 8) (pe_callTy call_int1 (by rfl) B.int (by decide +kernel) (pa_cons (pe_cmpR op_ne (pv 10) pe_str (nomark _)) pa_nil))))
      (pss_one (ps_set (i := 7) scLaid.nd rfl (.inl rfl) (pe_op op_add_str (pv 7) (pv 10)))))))))))))
      (C8.pss_cut (ps_if (pt_cmpR op_eq (pv 6) pe_str (nomark _)) (pss_cons (ps_set (i := 6) scLaid.nd rfl (.inl rfl) pe_str)
      (pss_one (ps_set (i := 7) scLaid.nd rfl (.inl rfl) (pe_op op_add_str (pv 7) pe_str)))) pss_nil)
      (C8.pss_cut (ps_if (pt_cmpR op_eq (pv 5) pe_int (nomark _)) (pss_one (ps_set (i := 6) scLaid.nd rfl (.inl rfl) (pe_call GT hr (by rfl) gT kT bT .nil pass0 (pa_cons (pv 6) pa_nil)))) pss_nil)
      (pss_one (ps_ret (pe_tup (pa_cons (pv 2) (pa_cons (pv 5) (pa_cons (pv 4) (pa_cons (pv 8) (pa_cons (pv 6) (pa_cons (pv 7) pa_nil)))))))))))))))))), ?_⟩
    refine ⟨_, rfl, .inl ⟨_, rfl, cl, rfl, ?_⟩⟩
    generalize hxe : (if cl < 0 then -cl else cl) = x
    have x0 : 0 ≤ x := by
      rw [← hxe]
      split <;> omega
    refine ⟨_, rfl, _, rfl, T t, rfl, hzt, _, 1, rfl, rfl, x, _, rfl, rfl, (show (0 : Int) < ((T t).length : Int) + 1 by omega), ?_⟩
    dsimp only
    rw [T_len]
    have b0 := Int.emod_nonneg x (show (t.length : Int) + 1 ≠ 0 by omega)
    have b1 := Int.emod_lt_of_pos x (show (0 : Int) < (t.length : Int) + 1 by omega)
    obtain ⟨b, hb⟩ : ∃ b : Nat, x % ((t.length : Int) + 1) = (b : Int) := ⟨(x % ((t.length : Int) + 1)).toNat, by omega⟩
    rw [hb]
    have sd0 := Int.emod_nonneg (x / 97) (show (2 : Int) ≠ 0 by decide)
    have sd1 := Int.emod_lt_of_pos (x / 97) (show (0 : Int) < 2 by decide)
    obtain ⟨sd, hsd⟩ : ∃ sd : Nat, x / 97 % 2 = (sd : Int) := ⟨(x / 97 % 2).toNat, by omega⟩
    refine ⟨_, rfl, x, 97, rfl, rfl, ⟨by decide, by decide⟩, _, 2, rfl, rfl, (show (0 : Int) < 2 by decide), ?_⟩
    dsimp only
    rw [hsd]
    have c0 := Int.emod_nonneg (x / 194) (show (9 : Int) ≠ 0 by decide)
    have c1 := Int.emod_lt_of_pos (x / 194) (show (0 : Int) < 9 by decide)
    refine ⟨_, rfl, ?_⟩
    refine ⟨_, rfl, x, 194, rfl, rfl, ⟨by decide, by decide⟩, _, rfl, x, 194, rfl, rfl, ⟨by decide, by decide⟩, _, 9, rfl, rfl, (show (0 : Int) < 9 by decide), 1, _, rfl, rfl, x / 194, 1 + x / 194 % 9, 50, rfl, by omega, by omega, by decide, by decide, fun H1 pr xs s1 hpr0 hpr hxl hxs => ⟨pr, rfl, ⟨_, .inl (.inl hpr)⟩, ?_⟩⟩
    have hxn : xs.length ≤ 9 := by omega
    have ltx : ∀ a : Nat, a < t.length → atI (T t).cps.toList (a : Int) = some (t.getD a 0) := fun a h => by
      rw [List.getD_eq_getElem?_getD, List.getElem?_eq_getElem h]
      exact at_T h
    have gsg : ∀ a : Nat, a < t.length → Sg (t.getD a 0) := fun a h => by
      rw [List.getD_eq_getElem?_getD, List.getElem?_eq_getElem h]
      exact hdn _ (List.getElem_mem h)
    refine for_list (K := K) (xs := xs.map V.int) (fun i σ H' => Same H1 H' ∧ ∃ (a : Nat) (c l : List Nat) (v9 v10 v11 : Option V), Laid t.length b a c l ∧ c.length = i ∧ l.length ≤ i ∧ σ = [some (.str (T t)), some (.int cl), some (.int nb), some (.int x), some (.int (b : Int)), some (.int (sd : Int)), some (.str (T l)), some (.str (T c)), some (.int (a : Int)), v9, v10, v11]) ⟨Same.refl _, b, [], [], none, none, none, ⟨fun x hx => (by cases hx), trivial, rfl, rfl, by omega, fun x hx => (by cases hx)⟩, rfl, Nat.le_refl _, by rw [T_nil]; rfl⟩ (fun i σ H' _ h => .inl (.inl (h.1 _ _ hpr))) ?_ ?_
    · rintro i v σ H2 hv ⟨s2, a, c, l, v9, v10, v11, hL, hcl, hll, rfl⟩
      have hi : i < xs.length := by
        have := (List.getElem?_eq_some_iff.mp hv).1
        rw [List.length_map] at this
        exact this
      rw [map_int_at hi] at hv
      obtain rfl := Option.some.inj hv
      generalize xs[i] = y
      obtain ⟨vv, s0, hv1, hv2, hv3⟩ := steps_at (y := y) (Int.emod_nonneg y (by decide)) (Int.emod_lt_of_pos y (by decide))
      refine ⟨fun σ H' => Same H1 H' ∧ ∃ s, (s = 61 ∨ s = 88 ∨ s = 73 ∨ s = 68) ∧ σ = [some (.str (T t)), some (.int cl), some (.int nb), some (.int x), some (.int (b : Int)), some (.int (sd : Int)), some (.str (T l)), some (.str (T c)), some (.int (a : Int)), some (.int y), some (.str (T [s])), v11], ?_, ?_⟩
      · exact ⟨by show 6 ≤ sizeLine; decide, fun pl hpl => ⟨_, rfl, y, 6, rfl, rfl, (show (0 : Int) < 6 by decide), pl, _, _, .int vv, rfl, rfl, .inl (.inl upd_same), hv1, Str.ofString "=XID", _, s0, rfl, rfl, by rw [show (Str.ofString "=XID").length = 4 by decide +kernel]; decide, hv2, s2.trans (same_upd hpl), s0, hv3, rfl⟩⟩
      clear hv1 hv2 hv3
      rintro σ H3 ⟨s3, s1', hs1, rfl⟩
      refine ⟨fun σ H' => H' = H3 ∧ ∃ s, (s = 61 ∨ s = 88 ∨ s = 73 ∨ s = 68) ∧ (s ≠ 73 → a < t.length) ∧ σ = [some (.str (T t)), some (.int cl), some (.int nb), some (.int x), some (.int (b : Int)), some (.int (sd : Int)), some (.str (T l)), some (.str (T c)), some (.int (a : Int)), some (.int y), some (.str (T [s])), v11], ?_, ?_⟩
      · refine ⟨_, rfl, rfl, _, rfl, iteN (fun e => ?_) (fun e => ?_)⟩
        · refine ⟨_, rfl, _, rfl, T t, rfl, hzt, _, _, rfl, rfl, _, rfl, ite2 (fun e2 => ?_) (fun e2 => ?_)⟩
          · exact ⟨rfl, 73, .inr (.inr (.inl rfl)), fun z => absurd rfl z, by rw [← tI]; rfl⟩
          · have e2 : ¬ ((a : Int) ≥ ((T t).length : Int)) := fun z => e2 (decide_eq_true z)
            rw [T_len] at e2
            exact ⟨rfl, s1', hs1, fun _ => by omega, rfl⟩
        · have e1 : s1' = 73 := (one_eq tI).mp e
          exact iteF ⟨rfl, s1', hs1, fun z => absurd e1 z, rfl⟩
      clear hs1 s1'
      rintro σ H4 ⟨rfl, s2', hs2, ha2, rfl⟩
      refine ⟨fun σ H' => H' = H4 ∧ ∃ s, (s = 61 ∨ s = 88 ∨ s = 73 ∨ s = 68) ∧ (s ≠ 73 → a < t.length) ∧ σ = [some (.str (T t)), some (.int cl), some (.int nb), some (.int x), some (.int (b : Int)), some (.int (sd : Int)), some (.str (T l)), some (.str (T c)), some (.int (a : Int)), some (.int y), some (.str (T [s])), v11], ?_, ?_⟩
      · refine ⟨_, rfl, rfl, _, rfl, ite2 (fun e => ?_) (fun e => ?_)⟩
        · have e1 : s2' = 61 := (one_eq tE).mp (of_decide_eq_true e)
          have hat := ha2 (by omega)
          refine ⟨_, rfl, _, rfl, T t, _, _, rfl, rfl, hzt, ltx a hat, rfl, _, rfl, ite2 (fun e2 => ?_) (fun e2 => ?_)⟩
          · exact ⟨rfl, 88, .inr (.inl rfl), fun _ => hat, by rw [← tX]; rfl⟩
          · exact ⟨rfl, s2', hs2, ha2, rfl⟩
        · exact iteF ⟨rfl, s2', hs2, ha2, rfl⟩
      clear hs2 ha2 s2'
      rintro σ H5 ⟨rfl, sg, hs, ha, rfl⟩
      obtain ⟨g0, hg0, hg1⟩ := letter_at (y := y) (Int.emod_nonneg y (by decide)) (Int.emod_lt_of_pos y (by decide))
      refine ⟨_, rfl, y, 5, rfl, rfl, (show (0 : Int) < 5 by decide), Str.ofString "ACGTN", _, g0, rfl, rfl, by rw [show (Str.ofString "ACGTN").length = 5 by decide +kernel]; decide, hg0, ?_⟩
      refine ⟨fun σ H' => H' = H5 ∧ ∃ g, Sg g ∧ σ = [some (.str (T t)), some (.int cl), some (.int nb), some (.int x), some (.int (b : Int)), some (.int (sd : Int)), some (.str (T l)), some (.str (T c)), some (.int (a : Int)), some (.int y), some (.str (T [sg])), some (.str (T [g]))], ?_, ?_⟩
      · refine ⟨_, rfl, rfl, _, rfl, ite2 (fun e => ?_) (fun e => ?_)⟩
        · have e1 : sg = 61 := (one_eq tE).mp (of_decide_eq_true e)
          have hat := ha (by omega)
          exact ⟨_, rfl, _, rfl, T t, _, _, rfl, rfl, hzt, ltx a hat, rfl, _, gsg a hat, rfl⟩
        · exact ⟨rfl, g0, hg1, rfl⟩
      clear hg0 hg1 g0
      rintro σ H6 ⟨rfl, g1, hg1, rfl⟩
      refine ⟨fun σ H' => H' = H6 ∧ ∃ g, Sg g ∧ σ = [some (.str (T t)), some (.int cl), some (.int nb), some (.int x), some (.int (b : Int)), some (.int (sd : Int)), some (.str (T l)), some (.str (T c)), some (.int (a : Int)), some (.int y), some (.str (T [sg])), some (.str (T [g]))], ?_, ?_⟩
      · refine ⟨_, rfl, rfl, _, rfl, ite2 (fun e => ?_) (fun e => ?_)⟩
        · have e1 : sg = 88 := (one_eq tX).mp (of_decide_eq_true e)
          have hat := ha (by omega)
          refine ⟨_, rfl, _, rfl, _, rfl, T t, _, _, rfl, rfl, hzt, ltx a hat, rfl, _, rfl, ite2 (fun e2 => ?_) (fun e2 => ?_)⟩
          · refine ⟨_, rfl, rfl, _, rfl, iteN (fun e3 => ?_) (fun e3 => ?_)⟩
            · exact ⟨rfl, 78, .inr (.inr (.inr (.inr rfl))), by rw [← tN]; rfl⟩
            · exact ⟨rfl, g1, hg1, rfl⟩
          · exact iteF ⟨rfl, g1, hg1, rfl⟩
        · exact iteF ⟨rfl, g1, hg1, rfl⟩
      clear hg1 g1
      rintro σ H7 ⟨rfl, g, hg, rfl⟩
      have hLs := hL.step (s := sg) (g := g) hs ha hg
      refine ⟨fun σ H' => H' = H7 ∧ σ = [some (.str (T t)), some (.int cl), some (.int nb), some (.int x), some (.int (b : Int)), some (.int (sd : Int)), some (.str (T (if sg = 68 then l else l ++ [g]))), some (.str (T c)), some (.int (a : Int)), some (.int y), some (.str (T [sg])), some (.str (T [g]))], ?_, ?_⟩
      · refine ⟨_, rfl, rfl, _, rfl, iteN (fun e => ?_) (fun e => ?_)⟩
        · have e1 : sg ≠ 68 := fun z => e ((one_eq tD).mpr z)
          refine ⟨_, rfl, _, rfl, _, _, rfl, rfl, ?_, rfl, ?_⟩
          · rw [T_len, T_len]
            exact line_ok6 (by show l.length + 1 ≤ _; omega)
          · rw [if_neg e1, ← T_app]
            rfl
        · have e1 : sg = 68 := (one_eq tD).mp e
          rw [if_pos e1]
          exact ⟨rfl, rfl⟩
      rintro σ H8 ⟨rfl, rfl⟩
      have eI : (V.str (T [sg]) = V.str (Str.ofString "I")) ↔ sg = 73 := one_eq tI
      have ea : (((if sg = 73 then a else a + 1) : Nat) : Int) = (a : Int) + (if (!decide (V.str (T [sg]) = V.str (Str.ofString "I"))) = true then 1 else 0) := by
        by_cases h : sg = 73
        · rw [if_pos h, decide_eq_true (eI.mpr h), if_neg (by decide)]
          omega
        · rw [if_neg h, decide_eq_false (fun z => h (eI.mp z)), if_pos (by decide)]
          omega
      refine ⟨_, rfl, _, rfl, rfl, .inr ⟨_, rfl, _, _, rfl, rfl, _, rfl, _, rfl, _, _, rfl, rfl, ?_, s3, _, c ++ [sg], _, some (.int y), some (.str (T [sg])), some (.str (T [g])), hLs, by rw [List.length_append, hcl]; rfl, ?_, ?_⟩⟩
      · rw [T_len, T_len]
        exact line_ok6 (by show c.length + 1 ≤ _; omega)
      · split
        · omega
        · rw [List.length_append]
          show l.length + 1 ≤ i + 1
          omega
      · rw [ea, ← T_app]
        rfl
    · rintro σ H2 ⟨s2, a, c, l, v9, v10, v11, hL, hcl, hll, rfl⟩
      rw [List.length_map] at hcl hll
      have s12 := s1.trans s2
      refine ⟨fun σ H' => H' = H2 ∧ ∃ (c l : List Nat), PC c ∧ c.length ≤ 20 ∧ 1 ≤ l.length ∧ l.length ≤ 20 ∧ Dna l ∧ okp l.length (t.length + 1) c b 0 ∧ σ = [some (.str (T t)), some (.int cl), some (.int nb), some (.int x), some (.int (b : Int)), some (.int (sd : Int)), some (.str (T l)), some (.str (T c)), some (.int (a : Int)), v9, v10, v11], ?_, ?_⟩
      · refine ⟨_, rfl, rfl, _, rfl, ite2 (fun e => ?_) (fun e => ?_)⟩
        · have e1 : l = [] := by
            have := V.str.inj (of_decide_eq_true e)
            rw [T_nil] at this
            exact T_inj this
          subst e1
          have hok1 : okp 1 (t.length + 1) (c ++ [73]) b 0 := okp_snoc (okp_mono (Nat.zero_le 1) hL.ok) ⟨.inr (.inr (.inl rfl)), by rw [hL.pe]; have := hL.le; omega, fun h _ => absurd rfl h, trivial⟩
          refine ⟨_, rfl, _, _, rfl, rfl, ?_, rfl, c ++ [73], [65], fun z hz => ?_, ?_, Nat.le_refl 1, (by decide : 1 ≤ 20), fun z hz => ?_, hok1, ?_⟩
          · rw [T_len, show (Str.ofString "I").length = 1 by decide +kernel]
            exact line_ok6 (by omega)
          · rcases List.mem_append.mp hz with y | y
            · exact hL.pc z y
            · rw [List.mem_singleton.mp y]
              exact .inr (.inr (.inl rfl))
          · rw [List.length_append]
            show c.length + 1 ≤ 20
            omega
          · rw [List.mem_singleton.mp hz]
            exact .inl rfl
          · rw [← T_app, ← tI, show T [65] = Str.ofString "A" by decide +kernel]
            rfl
        · have e1 : l ≠ [] := fun z => e (by rw [z, ← T_nil]; exact decide_eq_true rfl)
          exact ⟨rfl, c, l, hL.pc, by omega, List.length_pos_iff.mpr e1, by omega, hL.dna, hL.ok, rfl⟩
      rintro σ H3 ⟨rfl, c2, l2, hpc, hc20, hl1, hl20, hdl, hok, rfl⟩
      refine ⟨fun σ H' => H' = H3 ∧ σ = [some (.str (T t)), some (.int cl), some (.int nb), some (.int x), some (.int (b : Int)), some (.int (sd : Int)), some (.str (T (eff sd l2))), some (.str (T c2)), some (.int (a : Int)), v9, v10, v11], ?_, ?_⟩
      · refine ⟨_, rfl, rfl, _, rfl, ite2 (fun e => ?_) (fun e => ?_)⟩
        · have e1 : sd = 1 := by
            have := V.int.inj (of_decide_eq_true e)
            omega
          refine ⟨_, rfl, l2, rfl, hdl, by omega, rfl, ?_⟩
          unfold eff
          rw [if_pos e1]
          rfl
        · have e1 : sd ≠ 1 := fun z => e (by rw [z]; rfl)
          unfold eff
          rw [if_neg e1]
          exact ⟨rfl, rfl⟩
      rintro σ H4 ⟨rfl, rfl⟩
      exact ⟨_, rfl, _, rfl, _, rfl, _, rfl, _, rfl, _, rfl, by show 6 ≤ sizeLine; decide, fun pt hpt => q _ pt sd b a c2 l2 (s12.trans (same_upd hpt)) (s12.free hpt) upd_same (by omega) hl1 hl20 hc20 hdl hpc hok⟩
end
/-! ### two piles and their records -/
def RdN (N : Addr → Prop) (H : Hp) : List V → List Rcd → Prop := Paired fun v r => ∃ q nm m, v = .ref q ∧ H q = some (.tup [nm, .str (T r.ls), .ref m]) ∧ H m = some (LI r.ms) ∧ N m
theorem RdN.rds {N : Addr → Prop} {H : Hp} {ys : List V} {rs : List Rcd} (h : RdN N H ys rs) : Rds H ys rs :=
  Paired.mapP h fun _ _ ⟨q, nm, m, e, t, u, _⟩ => ⟨q, nm, m, e, t, u⟩
structure St2 (C : Addr) (N : Addr → Prop) (H : Hp) (t : List Nat) (rs : List Rcd) (S1 S2 : List (List Int)) (a1 d1 p1 a2 d2 p2 rl dl : Addr) (qs1 qs2 : List Addr) (xs ys : List V) : Prop where
  A : Pl C H a1 d1 p1 qs1 t S1
  B : Pl C H a2 d2 p2 qs2 t S2
  r : H rl = some (.lst xs)
  d : H dl = some (.lst ys)
  nd : (qs1 ++ (qs2 ++ [rl, dl])).Nodup
  n1 : p1 ∉ qs1 ++ (qs2 ++ [rl, dl])
  n2 : p2 ∉ qs1 ++ (qs2 ++ [rl, dl])
  hN : ∀ m, N m → m ∉ qs1 ++ (qs2 ++ [rl, dl])
  rc : Rcs H xs rs
  rd : RdN N H ys rs
theorem Pl.lists {C : Addr} {H : Hp} {a dx p : Addr} {qs : List Addr} {t : List Nat} {S : List (List Int)} (h : Pl C H a dx p qs t S) {q : Addr} (hq : q ∈ qs) : ∃ l, H q = some (.lst l) := by
  obtain ⟨i, hi, e2⟩ := List.mem_iff_getElem.mp hq
  have hi2 : i < S.length := by rw [← h.mx.len]; exact hi
  exact ⟨_, h.mx.row i q (by rw [List.getElem?_eq_getElem hi, e2]) _ (List.getElem?_eq_getElem hi2)⟩
section
variable {C : Addr} {N : Addr → Prop} {H H' : Hp} {t : List Nat} {rs : List Rcd} {S1 S2 : List (List Int)} {a1 d1 p1 a2 d2 p2 rl dl : Addr} {qs1 qs2 : List Addr} {xs ys : List V}
theorem St2.lists (h : St2 C N H t rs S1 S2 a1 d1 p1 a2 d2 p2 rl dl qs1 qs2 xs ys) {b : Addr} (hb : b ∈ qs1 ++ (qs2 ++ [rl, dl])) : ∃ l, H b = some (.lst l) := by
  rcases List.mem_append.mp hb with z | z
  · exact h.A.lists z
  rcases List.mem_append.mp z with z | z
  · exact h.B.lists z
  · rcases List.mem_cons.mp z with e | z
    · exact ⟨xs, by rw [e]; exact h.r⟩
    · exact ⟨ys, by rw [List.mem_singleton.mp z]; exact h.d⟩
theorem St2.off (h : St2 C N H t rs S1 S2 a1 d1 p1 a2 d2 p2 rl dl qs1 qs2 xs ys) {b : Addr} {o : HO} (e : H b = some o) (ho : ∀ l, o ≠ .lst l) : b ∉ qs1 ++ (qs2 ++ [rl, dl]) := fun z => by
  obtain ⟨l, hl⟩ := h.lists z
  rw [e] at hl
  exact ho l (Option.some.inj hl)
/-- kept, but for what is told anew -/
theorem St2.keep {N' : Addr → Prop} (h : St2 C N H t rs S1 S2 a1 d1 p1 a2 d2 p2 rl dl qs1 qs2 xs ys) (k : ∀ b o, (b = p1 ∨ b = p2 ∨ b ∈ qs1 ++ (qs2 ++ [rl, dl]) ∨ (∀ l, o ≠ .lst l) ∨ N b) → H b = some o → H' b = some o) (hN' : ∀ m o, N m → H m = some o → N' m) (hNN : ∀ m, N' m → m ∉ qs1 ++ (qs2 ++ [rl, dl])) : St2 C N' H' t rs S1 S2 a1 d1 p1 a2 d2 p2 rl dl qs1 qs2 xs ys :=
  ⟨⟨k _ _ (.inr (.inr (.inr (.inl fun l z => nomatch z)))) h.A.ob, h.A.mx.keep fun b o hb e => by
      rcases hb with z | z
      · exact k b o (.inl z) e
      · exact k b o (.inr (.inr (.inl (List.mem_append_left _ z)))) e, h.A.ap, h.A.aq⟩,
   ⟨k _ _ (.inr (.inr (.inr (.inl fun l z => nomatch z)))) h.B.ob, h.B.mx.keep fun b o hb e => by
      rcases hb with z | z
      · exact k b o (.inr (.inl z)) e
      · exact k b o (.inr (.inr (.inl (List.mem_append_right _ (List.mem_append_left _ z))))) e, h.B.ap, h.B.aq⟩,
   k _ _ (.inr (.inr (.inl (List.mem_append_right _ (List.mem_append_right _ List.mem_cons_self))))) h.r,
   k _ _ (.inr (.inr (.inl (List.mem_append_right _ (List.mem_append_right _ (List.mem_cons_of_mem _ (List.mem_singleton.mpr rfl))))))) h.d, h.nd, h.n1, h.n2, hNN,
   Paired.mapP h.rc fun _ _ ⟨q, v1, v2, v5, v6, v7, e, u⟩ => ⟨q, v1, v2, v5, v6, v7, e, k q _ (.inr (.inr (.inr (.inl fun l z => nomatch z)))) u⟩,
   Paired.mapP h.rd fun _ _ ⟨q, nm, m, e, u, v, n⟩ => ⟨q, nm, m, e, k q _ (.inr (.inr (.inr (.inl fun l z => nomatch z)))) u, k m _ (.inr (.inr (.inr (.inr n)))) v, hN' m _ n v⟩⟩
theorem St2.same (h : St2 C N H t rs S1 S2 a1 d1 p1 a2 d2 p2 rl dl qs1 qs2 xs ys) (s : Same H H') : St2 C N H' t rs S1 S2 a1 d1 p1 a2 d2 p2 rl dl qs1 qs2 xs ys :=
  h.keep (fun b o _ e => s b o e) (fun _ _ n _ => n) h.hN
/-- the first pile has changed -/
theorem St2.add1 {S1' : List (List Int)} (h : St2 C N H t rs S1 S2 a1 d1 p1 a2 d2 p2 rl dl qs1 qs2 xs ys) (k : ∀ b o, b ∉ qs1 → H b = some o → H' b = some o) (P1 : Pl C H' a1 d1 p1 qs1 t S1') : St2 C N H' t rs S1' S2 a1 d1 p1 a2 d2 p2 rl dl qs1 qs2 xs ys := by
  have no : ∀ {b : Addr} {o : HO}, H b = some o → (∀ l, o ≠ .lst l) → b ∉ qs1 := fun e ho z => h.off e ho (List.mem_append_left _ z)
  have nd := List.nodup_append.mp h.nd
  have nq : ∀ b, b ∈ qs2 ++ [rl, dl] → b ∉ qs1 := fun b hb hq => nd.2.2 b hq b hb rfl
  exact ⟨P1, ⟨k _ _ (no h.B.ob fun l z => nomatch z) h.B.ob, h.B.mx.keep fun b o hb e => by
      rcases hb with z | z
      · exact k b o (by rw [z]; exact fun y => h.n2 (List.mem_append_left _ y)) e
      · exact k b o (nq b (List.mem_append_left _ z)) e, h.B.ap, h.B.aq⟩,
    k _ _ (nq _ (List.mem_append_right _ List.mem_cons_self)) h.r, k _ _ (nq _ (List.mem_append_right _ (List.mem_cons_of_mem _ (List.mem_singleton.mpr rfl)))) h.d, h.nd, h.n1, h.n2, h.hN,
    Paired.mapP h.rc fun _ _ ⟨q, v1, v2, v5, v6, v7, e, u⟩ => ⟨q, v1, v2, v5, v6, v7, e, k q _ (no u fun l z => nomatch z) u⟩,
    Paired.mapP h.rd fun _ _ ⟨q, nm, m, e, u, v, n⟩ => ⟨q, nm, m, e, k q _ (no u fun l z => nomatch z) u, k m _ (fun z => h.hN m n (List.mem_append_left _ z)) v, n⟩⟩
theorem St2.add2 {S2' : List (List Int)} (h : St2 C N H t rs S1 S2 a1 d1 p1 a2 d2 p2 rl dl qs1 qs2 xs ys) (k : ∀ b o, b ∉ qs2 → H b = some o → H' b = some o) (P2 : Pl C H' a2 d2 p2 qs2 t S2') : St2 C N H' t rs S1 S2' a1 d1 p1 a2 d2 p2 rl dl qs1 qs2 xs ys := by
  have mem2 : ∀ {b : Addr}, b ∈ qs2 → b ∈ qs1 ++ (qs2 ++ [rl, dl]) := fun z => List.mem_append_right _ (List.mem_append_left _ z)
  have no : ∀ {b : Addr} {o : HO}, H b = some o → (∀ l, o ≠ .lst l) → b ∉ qs2 := fun e ho z => h.off e ho (mem2 z)
  have nd := List.nodup_append.mp h.nd
  have nd2 := List.nodup_append.mp nd.2.1
  have nq1 : ∀ b, b ∈ qs1 → b ∉ qs2 := fun b hb hq => nd.2.2 b hb b (List.mem_append_left _ hq) rfl
  have nq : ∀ b, b ∈ [rl, dl] → b ∉ qs2 := fun b hb hq => nd2.2.2 b hq b hb rfl
  exact ⟨⟨k _ _ (no h.A.ob fun l z => nomatch z) h.A.ob, h.A.mx.keep fun b o hb e => by
      rcases hb with z | z
      · exact k b o (by rw [z]; exact fun y => h.n1 (mem2 y)) e
      · exact k b o (nq1 b z) e, h.A.ap, h.A.aq⟩, P2,
    k _ _ (nq _ List.mem_cons_self) h.r, k _ _ (nq _ (List.mem_cons_of_mem _ (List.mem_singleton.mpr rfl))) h.d, h.nd, h.n1, h.n2, h.hN,
    Paired.mapP h.rc fun _ _ ⟨q, v1, v2, v5, v6, v7, e, u⟩ => ⟨q, v1, v2, v5, v6, v7, e, k q _ (no u fun l z => nomatch z) u⟩,
    Paired.mapP h.rd fun _ _ ⟨q, nm, m, e, u, v, n⟩ => ⟨q, nm, m, e, k q _ (no u fun l z => nomatch z) u, k m _ (fun z => h.hN m n (mem2 z)) v, n⟩⟩
/-- one more record and read -/
theorem St2.snoc {r : Rcd} {qa qd m : Addr} {v1 v2 v5 v6 v7 nm : V} (h : St2 C N H t rs S1 S2 a1 d1 p1 a2 d2 p2 rl dl qs1 qs2 xs ys) (k : ∀ b o, b ≠ rl → b ≠ dl → H b = some o → H' b = some o) (hr : H' rl = some (.lst (xs ++ [.ref qa]))) (hd : H' dl = some (.lst (ys ++ [.ref qd])))
    (ha : H' qa = some (.tup [v1, v2, .int (r.sd : Int), .int (r.ps : Int), v5, v6, v7, .str (T (flat (rns r.pa)))])) (hq : H' qd = some (.tup [nm, .str (T r.ls), .ref m])) (hm : H' m = some (LI r.ms)) (hn : N m) : St2 C N H' t (rs ++ [r]) S1 S2 a1 d1 p1 a2 d2 p2 rl dl qs1 qs2 (xs ++ [.ref qa]) (ys ++ [.ref qd]) := by
  have mr : rl ∈ qs1 ++ (qs2 ++ [rl, dl]) := List.mem_append_right _ (List.mem_append_right _ List.mem_cons_self)
  have md : dl ∈ qs1 ++ (qs2 ++ [rl, dl]) := List.mem_append_right _ (List.mem_append_right _ (List.mem_cons_of_mem _ (List.mem_singleton.mpr rfl)))
  have no : ∀ {b : Addr} {o : HO}, H b = some o → (∀ l, o ≠ .lst l) → H' b = some o := fun {b o} e ho => k b o (fun z => h.off e ho (z ▸ mr)) (fun z => h.off e ho (z ▸ md)) e
  have nd := List.nodup_append.mp h.nd
  have nd2 := List.nodup_append.mp nd.2.1
  have q1 : ∀ b ∈ qs1, b ≠ rl ∧ b ≠ dl := fun b hb => ⟨fun z => nd.2.2 b hb rl (List.mem_append_right _ List.mem_cons_self) z, fun z => nd.2.2 b hb dl (List.mem_append_right _ (List.mem_cons_of_mem _ (List.mem_singleton.mpr rfl))) z⟩
  have q2 : ∀ b ∈ qs2, b ≠ rl ∧ b ≠ dl := fun b hb => ⟨fun z => nd2.2.2 b hb rl List.mem_cons_self z, fun z => nd2.2.2 b hb dl (List.mem_cons_of_mem _ (List.mem_singleton.mpr rfl)) z⟩
  refine ⟨⟨no h.A.ob (fun l z => nomatch z), h.A.mx.keep fun b o hb e => ?_, h.A.ap, h.A.aq⟩, ⟨no h.B.ob (fun l z => nomatch z), h.B.mx.keep fun b o hb e => ?_, h.B.ap, h.B.aq⟩, hr, hd, h.nd, h.n1, h.n2, h.hN,
    Paired.snoc (Paired.mapP h.rc fun _ _ ⟨q, v1, v2, v5, v6, v7, e, u⟩ => ⟨q, v1, v2, v5, v6, v7, e, no u (fun l z => nomatch z)⟩) ⟨qa, v1, v2, v5, v6, v7, rfl, ha⟩,
    Paired.snoc (Paired.mapP h.rd fun _ _ ⟨q, nm, m, e, u, v, n⟩ => ⟨q, nm, m, e, no u (fun l z => nomatch z), k m _ (fun z => h.hN m n (z ▸ mr)) (fun z => h.hN m n (z ▸ md)) v, n⟩) ⟨qd, nm, m, rfl, hq, hm, hn⟩⟩
  · rcases hb with z | z
    · exact k b o (fun y => h.n1 (by rw [← z, y]; exact mr)) (fun y => h.n1 (by rw [← z, y]; exact md)) e
    · exact k b o (q1 b z).1 (q1 b z).2 e
  · rcases hb with z | z
    · exact k b o (fun y => h.n2 (by rw [← z, y]; exact mr)) (fun y => h.n2 (by rw [← z, y]; exact md)) e
    · exact k b o (q2 b z).1 (q2 b z).2 e
end
/-! ### every third record -/
def kp (n : Nat) : List Nat := (List.range n).filter fun k => k % 3 == 1
def sel {α : Type} (n : Nat) (l : List α) : List α := (kp n).filterMap fun k => l[k]?
theorem fm_congr {α β : Type} {f g : α → Option β} : ∀ l : List α, (∀ x ∈ l, f x = g x) → l.filterMap f = l.filterMap g
  | [], _ => rfl
  | x :: r, h => by
    rw [List.filterMap_cons, List.filterMap_cons, h x List.mem_cons_self, fm_congr r fun y hy => h y (List.mem_cons_of_mem _ hy)]
theorem kp_succ (n : Nat) : kp (n + 1) = kp n ++ if n % 3 = 1 then [n] else [] := by
  unfold kp
  rw [List.range_succ, List.filter_append]
  congr 1
  by_cases h : n % 3 = 1
  · rw [if_pos h, List.filter_cons_of_pos (by simpa using h)]
    rfl
  · rw [if_neg h, List.filter_cons_of_neg (by simpa using h)]
    rfl
theorem kp_lt {n k : Nat} (h : k ∈ kp n) : k < n := List.mem_range.mp (List.mem_filter.mp h).1
theorem sel_snoc {α : Type} (l : List α) (x : α) : sel (l.length + 1) (l ++ [x]) = if l.length % 3 = 1 then sel l.length l ++ [x] else sel l.length l := by
  unfold sel
  rw [kp_succ, List.filterMap_append]
  have e : (kp l.length).filterMap (fun k => (l ++ [x])[k]?) = (kp l.length).filterMap fun k => l[k]? :=
    fm_congr _ fun k hk => List.getElem?_append_left (kp_lt hk)
  rw [e]
  by_cases h : l.length % 3 = 1
  · rw [if_pos h, if_pos h]
    congr 1
    show (match (l ++ [x])[l.length]? with | none => [] | some b => [b]) = [x]
    rw [List.getElem?_append_right (Nat.le_refl _), Nat.sub_self]
    rfl
  · rw [if_neg h, if_neg h]
    exact List.append_nil _
/-! ### the law -/
def NLw : List Str := ["script", "first", "text", "pile", "other", "records", "reads", "k", "number", "strand", "begin", "at", "letters", "path", "marks", "record", "handed", "kept"]
theorem scLaw : FnScope NLw ["script"] (defScope sLaw) := ⟨rfl, rfl, rfl, by decide +kernel, rfl, by decide +kernel, by decide +kernel⟩
theorem mkSame {C x dx : Addr} {H H' : Hp} {o : HO} (nx : H x = none) (ndx : H dx = none) (fr : ∀ c o', c ≠ x → upd (upd H dx o) x (.ins C dx []) c = some o' → H' c = some o') : Same H H' := fun c o' e => fr c o' (ne_of_none e nx) (by rw [upd_ne (ne_of_none e nx), upd_ne (ne_of_none e ndx)]; exact e)
theorem cell_arg6 (a : Addr) (c i : Nat) : [V.ref a, V.int ((c : Int) + (0 + ((i : Nat) : Int)))] = [V.ref a, V.int ((c + i : Nat) : Int)] := by
  congr 2
  rw [Int.zero_add]
  simp
theorem at2b {z : Int} (h0 : 0 ≤ z % 2) (h2 : z % 2 < 2) : ∃ b : Int, atI [V.int 4, V.int 41] (z % 2) = some (.int b) ∧ 1 < b ∧ b ≤ 100 := by
  generalize z % 2 = y at h0 h2
  have : y = 0 ∨ y = 1 := by omega
  rcases this with e | e <;> subst e
  · exact ⟨4, rfl, by decide, by decide⟩
  · exact ⟨41, rfl, by decide, by decide⟩
theorem num_short {n : Nat} (h : n < 1000) : (Str.ofString "q").length + (T (TL.numL n)).length ≤ sizeLine := by
  rw [T_len, show (Str.ofString "q").length = 1 by decide +kernel]
  have := TL.numL_len (n := n) (k := 3) (by decide) (by omega)
  exact line_ok6 (by omega)
theorem fm_one {α : Type} (l : List α) (ks : List Nat) {k : Nat} {x : α} (h : l[k]? = some x) : (ks ++ (some k).toList).filterMap (fun k => l[k]?) = ks.filterMap (fun k => l[k]?) ++ [x] := by
  rw [List.filterMap_append]
  congr 1
  show ([k]).filterMap _ = [x]
  rw [List.filterMap_cons, h]
  rfl
theorem paired_sel {R : V → Rcd → Prop} {xs : List V} {rs : List Rcd} (h : Paired R xs rs) : ∀ ks : List Nat, (∀ k ∈ ks, k < rs.length) → Paired R (ks.filterMap fun k => xs[k]?) (ks.filterMap fun k => rs[k]?)
  | [], _ => .nil
  | k :: t, hk => by
    have hl : xs.length = rs.length := paired_len h
    have hx : xs[k]? = some (xs[k]'(by have := hk k List.mem_cons_self; omega)) := List.getElem?_eq_getElem _
    obtain ⟨r, hr, rel⟩ := paired_get h hx
    rw [List.filterMap_cons, List.filterMap_cons, hx, hr]
    exact .cons rel (paired_sel h t fun y hy => hk y (List.mem_cons_of_mem _ hy))
section
variable {P : Program} {w : World} {K : PySem.W.Frag} {mg : Str → Option Value} {base : Heap}
def spLaw (K : PySem.W.Frag) : Sp := fun vs H Q _ => ∃ (a : Addr) (ns : List Int), vs = [.ref a] ∧ SqL K H a (ns.map V.int) ∧ ∀ H', Q (.bl true) H'
def LI34 (C : Addr) (H : Hp) (t : List Nat) (a1 d1 p1 a2 d2 p2 rl dl : Addr) (qs1 qs2 : List Addr) (i : Nat) (H' : Hp) (xs ys : List V) (rs : List Rcd) : Prop :=
  St2 C (fun m => m ∉ qs1 ++ (qs2 ++ [rl, dl])) H' t rs (rowsOf (zer (t.length + 1)) rs) (rowsOf (zer (t.length + 1)) (sel rs.length rs)) a1 d1 p1 a2 d2 p2 rl dl qs1 qs2 xs ys ∧ rs.length = i ∧ (∀ r ∈ rs, r.Ok (t.length + 1)) ∧ Same H H'
theorem ok_law {f C : Addr} {fd : FuncData} (F : Fun K "law" "law" sLaw f fd) (B : Bl mg) (X : PlT K mg C) (mlist : mg "list" = none)
    (hC : Has P w K mg base 5 "_law_cell" ["script", "k"] (spCell K)) (hT : Has P w K mg base 5 "_law_text" ["cell", "size"] (spText K)) (hR : Has P w K mg base 5 "_law_row" ["cell", "count", "bound"] (spRow K)) (hRT : Has P w K mg base 5 "_law_right" ["pile", "text", "rows"] (spRight C))
    (hRW : Has P w K mg base 5 "_law_rows" ["text", "records", "reads"] spRows) (hLa : Has P w K mg base 5 "_law_laid" ["text", "cell", "number"] (spLaid K)) (hSh : Has P w K mg base 5 "_law_short" ["path"] spLCut) (hA : HasM P w K mg base C 5 "add" ["self", "record", "read"] (spPAdd C))
    (hI : ∃ f fd, Mk K C f ∧ FnOk P w K mg base CX0 4 f fd ["self", "text"] (spPInit C) ∧ Binds K fd ["self", "text"] []) : FnOk P w K mg base CX0 6 f fd ["script"] (spLaw K) := by
  obtain ⟨fC, dC, GC, gC, kC, bC⟩ := hC
  obtain ⟨fT, dT', GT, gT, kT, bT⟩ := hT
  obtain ⟨fR, dR', GR, gR, kR, bR⟩ := hR
  obtain ⟨fRT, dRT, GRT, gRT, kRT, bRT⟩ := hRT
  obtain ⟨fRW, dRW, GRW, gRW, kRW, bRW⟩ := hRW
  obtain ⟨fLa, dLa, GLa, gLa, kLa, bLa⟩ := hLa
  obtain ⟨fSh, dSh, GSh, gSh, kSh, bSh⟩ := hSh
  obtain ⟨fA, dA, GA, mA, bA⟩ := hA
  obtain ⟨fI, dI', MI, GI, bI⟩ := hI
  refine F.ok scLaw (fun vs H Q E h => ?_) (fun cdv A outer s H vs Q E hr h => ?_)
  · obtain ⟨c, ns, rfl, _⟩ := h
    rfl
  · obtain ⟨a, ns, rfl, hsq, q⟩ := h
    refine ⟨_, (pss_cons (ps_set (i := 1) scLaw.nd rfl (.inl rfl) (pe_call GC (hr.mono (by omega)) (by rfl) gC kC bC .nil pass0 (pa_cons (pv 0) (pa_cons pe_int pa_nil))))
      (pss_cons (ps_set (i := 2) scLaw.nd rfl (.inl rfl) (pe_call GT (hr.mono (by omega)) (by rfl) gT kT bT .nil pass0 (pa_cons (pe_call GC (hr.mono (by omega)) (by rfl) gC kC bC .nil pass0 (pa_cons (pv 0) (pa_cons pe_int pa_nil))) (pa_cons (pe_op op_add pe_int (pe_op op_mod (pv 1) pe_int)) pa_nil))))
      (pss_cons (ps_set (i := 3) scLaw.nd rfl (.inl rfl) (pe_make MI GI (hr.mono (by omega)) (by rfl) X.gC bI .nil pass0 (pa_cons (pv 2) pa_nil)))
      (pss_cons (ps_set (i := 4) scLaw.nd rfl (.inl rfl) (pe_make MI GI (hr.mono (by omega)) (by rfl) X.gC bI .nil pass0 (pa_cons (pv 2) pa_nil)))
      (pss_cons (ps_set (i := 5) scLaw.nd rfl (.inr rfl) (pe_lst pa_nil))
      (pss_cons (ps_set (i := 6) scLaw.nd rfl (.inr rfl) (pe_lst pa_nil))
      (pss_cons (ps_if (pt_not (pt_val (pe_call GRT (hr.mono (by omega)) (by rfl) gRT kRT bRT .nil pass0 (pa_cons (pv 3) (pa_cons (pv 2) (pa_cons (pe_call GRW (hr.mono (by omega)) (by rfl) gRW kRW bRW .nil pass0 (pa_cons (pv 2) (pa_cons (pe_lst pa_nil) (pa_cons (pe_lst pa_nil) pa_nil)))) pa_nil)))))) (pss_one (ps_ret pe_bl)) pss_nil)
      (pss_cons (ps_for PassesOwn.never rfl (pi_range1 rfl B.range (pa_cons (pe_op op_add pe_int (pe_op op_mod (pe_call GC (hr.mono (by omega)) (by rfl) gC kC bC .nil pass0 (pa_cons (pv 0) (pa_cons pe_int pa_nil))) pe_int)) pa_nil)) (pg_name (i := 7) scLaw.nd rfl (.inl rfl))
        (pss_cons (ps_asg (pe_call GLa (hr.mono (by omega)) (by rfl) gLa kLa bLa .nil pass0 (pa_cons (pv 2) (pa_cons (pe_call GC (hr.mono (by omega)) (by rfl) gC kC bC .nil pass0 (pa_cons (pv 0) (pa_cons (pe_op op_add pe_int (pv 7)) pa_nil))) (pa_cons (pv 7) pa_nil)))) (pg_tup rfl (pgs_cons (pg_name (i := 8) scLaw.nd rfl (.inl rfl)) (pgs_cons (pg_name (i := 9) scLaw.nd rfl (.inl rfl)) (pgs_cons (pg_name (i := 10) scLaw.nd rfl (.inl rfl)) (pgs_cons (pg_name (i := 11) scLaw.nd rfl (.inl rfl)) (pgs_cons (pg_name (i := 12) scLaw.nd rfl (.inl rfl)) (pgs_cons (pg_name (i := 13) scLaw.nd rfl (.inl rfl)) pgs_nil))))))))
      (pss_cons (ps_set (i := 14) scLaw.nd rfl (.inl rfl) (pe_call GR (hr.mono (by omega)) (by rfl) gR kR bR .nil pass0 (pa_cons (pe_op op_add (pe_call GC (hr.mono (by omega)) (by rfl) gC kC bC .nil pass0 (pa_cons (pv 0) (pa_cons (pe_op op_add pe_int (pv 7)) pa_nil))) pe_int) (pa_cons (pe_callB call_len_str (by rfl) B.len PySem.boot_len (pa_cons (pv 12) pa_nil)) (pa_cons (pe_ix ix_list (pe_lst (pa_cons pe_int (pa_cons pe_int pa_nil))) (pe_op op_mod (pe_call GC (hr.mono (by omega)) (by rfl) gC kC bC .nil pass0 (pa_cons (pv 0) (pa_cons pe_int pa_nil))) pe_int) (fun _ _ => rfl)) pa_nil)))))
      (pss_cons (ps_set (i := 15) scLaw.nd rfl (.inl rfl) (pe_tup (pa_cons (pe_op op_add_str pe_str (pe_callTy call_strN (by rfl) B.str (by decide +kernel) (pa_cons (pv 7) pa_nil))) (pa_cons pe_int (pa_cons (pv 9) (pa_cons (pv 10) (pa_cons (pv 11) (pa_cons pe_int (pa_cons pe_int (pa_cons (pe_call GSh (hr.mono (by omega)) (by rfl) gSh kSh bSh .nil pass0 (pa_cons (pv 13) pa_nil)) pa_nil))))))))))
      (pss_cons (ps_expr (pe_bm PySem.F.plainAttrs_list PySem.F.slot_list_append PySem.F.type_list_append mt_append (pv 5) (pa_cons (pv 15) pa_nil)))
      (pss_cons (ps_expr (pe_bm PySem.F.plainAttrs_list PySem.F.slot_list_append PySem.F.type_list_append mt_append (pv 6) (pa_cons (pe_tup (pa_cons (pe_op op_add_str pe_str (pe_callTy call_strN (by rfl) B.str (by decide +kernel) (pa_cons (pv 7) pa_nil))) (pa_cons (pv 12) (pa_cons (pv 14) pa_nil)))) pa_nil)))
      (pss_cons (ps_set (i := 16) scLaw.nd rfl (.inl rfl) (pe_callTy call_list_of (by rfl) mlist (by decide +kernel) (pa_cons (pv 14) pa_nil)))
      (pss_cons (ps_if (PW.pt (pw_or (pt_cmp (pc_notN (pe_meth (pv 3) X.cl mA GA (hr.mono (by omega)) bA .nil pass0 (pa_cons (pv 15) (pa_cons (pe_tup (pa_cons (pe_op op_add_str pe_str (pe_callTy call_strN (by rfl) B.str (by decide +kernel) (pa_cons (pv 7) pa_nil))) (pa_cons (pv 12) (pa_cons (pv 16) pa_nil)))) pa_nil))))) (pw_or1 (pt_cmpR (op_neD hr.units) (pv 16) (pv 14) (nomark _))))) (pss_one (ps_ret pe_bl)) pss_nil)
      (C8.pss_cut (ps_if (pt_cmpR op_eq (pe_op op_mod (pv 7) pe_int) pe_int (nomark _)) (pss_one (ps_expr (pe_meth (pv 4) X.cl mA GA (hr.mono (by omega)) bA .nil pass0 (pa_cons (pv 15) (pa_cons (pe_tup (pa_cons (pe_op op_add_str pe_str (pe_callTy call_strN (by rfl) B.str (by decide +kernel) (pa_cons (pv 7) pa_nil))) (pa_cons (pv 12) (pa_cons (pe_callTy call_list_of (by rfl) mlist (by decide +kernel) (pa_cons (pv 14) pa_nil)) pa_nil)))) pa_nil))))) pss_nil)
      (pss_cons (ps_asg (pe_op op_sub pe_int (pe_ix ix_list (pv 16) pe_int (fun _ _ => rfl))) (pg_sub (pv 16) pe_int set_list))
      (pss_cons (ps_expr (pe_bm PySem.F.plainAttrs_list PySem.F.slot_list_append PySem.F.type_list_append mt_append (pv 16) (pa_cons pe_int pa_nil)))
      (pss_one (ps_if (pt_not (pt_val (pe_call GRT (hr.mono (by omega)) (by rfl) gRT kRT bRT .nil pass0 (pa_cons (pv 3) (pa_cons (pv 2) (pa_cons (pe_call GRW (hr.mono (by omega)) (by rfl) gRW kRW bRW .nil pass0 (pa_cons (pv 2) (pa_cons (pv 5) (pa_cons (pv 6) pa_nil)))) pa_nil)))))) (pss_one (ps_ret pe_bl)) pss_nil)))))))))))))
      (pss_cons (ps_setLc (i := 17) (own := [("k", 7)]) (g := gName 7) (tt := _) (te := tVar 7) (by rfl) scLaw.nd rfl rfl (sw_true rfl rfl rfl (by decide +kernel)) (pi_range1 rfl B.range (pa_cons (pe_callB call_len_seq (by rfl) B.len PySem.boot_len (pa_cons (pv 5) pa_nil)) pa_nil)) (blkOk_by (own := [("k", 7)]) (N := NLw) (sc := defScope sLaw) (by decide +kernel)) (fun _ _ _ _ _ => pg_name (i := 7) scLaw.nd rfl (Or.inl rfl)) (fun _ _ _ _ _ => pts_one (pt_cmpR op_eq (pe_op op_mod (pe_callTy call_int1 (by rfl) B.int (by decide +kernel) (pa_cons (pv 7) pa_nil)) pe_int) pe_int (nomark _))) (fun _ _ _ _ _ => pv 7))
      (pss_one (ps_ret (pe_call GRT (hr.mono (by omega)) (by rfl) gRT kRT bRT .nil pass0 (pa_cons (pv 4) (pa_cons (pv 2) (pa_cons (pe_call GRW (hr.mono (by omega)) (by rfl) gRW kRW bRW .nil pass0 (pa_cons (pv 2) (pa_cons (pe_lc (own := [("k", 7)]) (g := gName 7) (tt := tYes) (te := tOp (rIxL K) (tVar 5) (tVar 7)) (by rfl) scLaw.nd (pi_list (pv 17)) (blkOk_by (own := [("k", 7)]) (N := NLw) (sc := defScope sLaw) (by decide +kernel)) (fun _ _ _ _ _ => pg_name (i := 7) scLaw.nd rfl (Or.inl rfl)) (fun _ _ _ _ _ => pts_nil) (fun _ _ _ _ _ => pe_ix (r := rIxL K) ix_list (pv 5) (pv 7) (fun _ _ => rfl))) (pa_cons (pe_lc (own := [("k", 7)]) (g := gName 7) (tt := tYes) (te := tOp (rIxL K) (tVar 6) (tVar 7)) (by rfl) scLaw.nd (pi_list (pv 17)) (blkOk_by (own := [("k", 7)]) (N := NLw) (sc := defScope sLaw) (by decide +kernel)) (fun _ _ _ _ _ => pg_name (i := 7) scLaw.nd rfl (Or.inl rfl)) (fun _ _ _ _ _ => pts_nil) (fun _ _ _ _ _ => pe_ix (r := rIxL K) ix_list (pv 6) (pv 7) (fun _ _ => rfl))) pa_nil)))) pa_nil))))))))))))))), ?_⟩
    refine ⟨_, rfl, a, ns, 0, rfl, hsq, fun x0 => ?_⟩
    have f0 := Int.emod_nonneg x0 (show (30 : Int) ≠ 0 by decide)
    have f1 := Int.emod_lt_of_pos x0 (show (0 : Int) < 30 by decide)
    refine ⟨_, rfl, a, ns, 1, rfl, hsq, fun x1 => ⟨_, rfl, x0, 30, rfl, rfl, (show (0 : Int) < 30 by decide), 1, _, rfl, rfl, x1, 1 + x0 % 30, rfl, by omega, by omega, fun H1 t s1 dt lt => ?_⟩⟩
    have tl : t.length ≤ 30 := by omega
    refine ⟨_, rfl, fun a1 d1 ha1 hd1 hne1 => ⟨a1, d1, t, rfl, upd_same, by omega, fun H2 p1 qs1 fr1 hp1 hq1 P1 => ?_⟩⟩
    have sm1 := mkSame ha1 hd1 fr1
    refine ⟨rfl, _, rfl, fun a2 d2 ha2 hd2 hne2 => ⟨a2, d2, t, rfl, upd_same, by omega, fun H3 p2 qs2 fr2 hp2 hq2 P2 => ?_⟩⟩
    have sm2 := mkSame ha2 hd2 fr2
    have hp2' := new_old (new_old hp2)
    have hq2' : ∀ q ∈ qs2, H2 q = none := fun q hq => new_old (new_old (hq2 q hq))
    refine ⟨rfl, Nat.zero_le _, fun rl hrl => ⟨Nat.zero_le _, fun dl hdl => ?_⟩⟩
    have hdl' := new_old hdl
    have hdr := new_ne hdl
    have P13 := P1.same sm2
    have sr := (same_upd (o := .lst []) hrl).trans (same_upd (o := .lst []) hdl)
    have off1 : ∀ {b : Addr} {l : List V}, H2 b = some (.lst l) → b ∉ qs2 ∧ b ≠ rl ∧ b ≠ dl := fun {b l} e => ⟨fun z => (by
      have h := hq2' b z
      rw [e] at h
      cases h), ne_of_none (sm2 _ _ e) hrl, ne_of_none (sm2 _ _ e) hdl'⟩
    have nd : (qs1 ++ (qs2 ++ [rl, dl])).Nodup := by
      rw [List.nodup_append]
      refine ⟨P1.mx.nd, ?_, fun b hb c hc e => ?_⟩
      · rw [List.nodup_append]
        refine ⟨P2.mx.nd, by simp only [List.nodup_cons, List.mem_singleton, List.not_mem_nil, not_false_eq_true, List.nodup_nil, and_true]; exact fun z => hdr z.symm, fun b hb c hc e => ?_⟩
        subst e
        obtain ⟨l, hl⟩ := P2.lists hb
        rcases List.mem_cons.mp hc with z | z
        · exact ne_of_none hl hrl z
        · exact ne_of_none hl hdl' (List.mem_singleton.mp z)
      · subst e
        obtain ⟨l, hl⟩ := P1.lists hb
        obtain ⟨o1, o2, o3⟩ := off1 hl
        rcases List.mem_append.mp hc with z | z
        · exact o1 z
        · rcases List.mem_cons.mp z with z | z
          · exact o2 z
          · exact o3 (List.mem_singleton.mp z)
    have n1 : p1 ∉ qs1 ++ (qs2 ++ [rl, dl]) := fun z => by
      obtain ⟨o1, o2, o3⟩ := off1 P1.mx.top
      rcases List.mem_append.mp z with z | z
      · exact P1.mx.np z
      rcases List.mem_append.mp z with z | z
      · exact o1 z
      rcases List.mem_cons.mp z with z | z
      · exact o2 z
      · exact o3 (List.mem_singleton.mp z)
    have n2 : p2 ∉ qs1 ++ (qs2 ++ [rl, dl]) := fun z => by
      rcases List.mem_append.mp z with z | z
      · obtain ⟨l, hl⟩ := P1.lists z
        rw [hp2'] at hl
        cases hl
      rcases List.mem_append.mp z with z | z
      · exact P2.mx.np z
      rcases List.mem_cons.mp z with z | z
      · exact ne_of_none P2.mx.top hrl z
      · exact ne_of_none P2.mx.top hdl' (List.mem_singleton.mp z)
    have hfr : ∀ b ∈ qs1 ++ (qs2 ++ [rl, dl]), H b = none := fun b z => by
      have back : H1 b = none → H b = none := fun e => s1.free e
      rcases List.mem_append.mp z with z | z
      · exact back (new_old (new_old (hq1 b z)))
      rcases List.mem_append.mp z with z | z
      · exact back (sm1.free (hq2' b z))
      rcases List.mem_cons.mp z with z | z
      · subst z
        exact back (sm1.free (sm2.free hrl))
      · have z := List.mem_singleton.mp z
        subst z
        exact back (sm1.free (sm2.free hdl'))
    have I0 : LI34 C H t a1 d1 p1 a2 d2 p2 rl dl qs1 qs2 0 (upd (upd H3 rl (.lst [])) dl (.lst [])) [] [] [] :=
      ⟨⟨P13.same sr, P2.same sr, by rw [upd_ne hdr.symm, upd_same], upd_same, nd, n1, n2, fun m h => h, .nil, .nil⟩, rfl, (fun r hr => by cases hr), ((s1.trans sm1).trans sm2).trans sr⟩
    generalize upd (upd H3 rl (.lst [])) dl (.lst []) = H4 at I0 ⊢
    have hz := zer_len (t.length + 1)
    have hzg := zer_good (t.length + 1)
    have gd : ∀ rs : List Rcd, (∀ r ∈ rs, r.Ok (t.length + 1)) → (rowsOf (zer (t.length + 1)) rs).length = t.length + 1 ∧ Good7 (rowsOf (zer (t.length + 1)) rs) := fun rs h => rowsOf_good rs hz h hzg
    refine ⟨_, rfl, _, rfl, _, rfl, Nat.zero_le _, fun e1 he1 => ⟨Nat.zero_le _, fun e2 he2 => ⟨e1, e2, [], [], t, [], rfl, (same_upd he2) _ _ upd_same, upd_same, .nil, .nil, by decide, by omega, (fun r hr => by cases hr), fun H6 rp rqs s6 hrp hrq hM => ?_⟩⟩⟩
    have I1 := I0.1.same (((same_upd (o := .lst []) he1).trans (same_upd (o := .lst []) he2)).trans s6)
    have sH6 := I0.2.2.2.trans (((same_upd (o := .lst []) he1).trans (same_upd (o := .lst []) he2)).trans s6)
    refine ⟨a1, d1, p1, rp, qs1, rqs, t, _, rfl, I1.A, hM, hz, hzg, by omega, dt, fun H7 s7 => ⟨true, rfl, iteF ?_⟩⟩
    have I2 : LI34 C H t a1 d1 p1 a2 d2 p2 rl dl qs1 qs2 0 H7 [] [] [] := ⟨I1.same s7, rfl, I0.2.2.1, sH6.trans s7⟩
    refine ⟨_, rfl, a, ns, 14, rfl, I2.2.2.2.seq hsq, fun x14 => ?_⟩
    have g0 := Int.emod_nonneg x14 (show (12 : Int) ≠ 0 by decide)
    have g1 := Int.emod_lt_of_pos x14 (show (0 : Int) < 12 by decide)
    refine ⟨x14, 12, rfl, rfl, (show (0 : Int) < 12 by decide), 1, _, rfl, rfl, _, rfl, by omega, by omega, ?_⟩
    obtain ⟨n, hn, hn12⟩ : ∃ n : Nat, (1 + x14 % 12).toNat = n ∧ n ≤ 12 := ⟨_, rfl, by omega⟩
    rw [hn]
    refine for_range (lo := 0) (n := n) (fun i σ H' => ∃ (xs ys : List V) (rs : List Rcd), LI34 C H t a1 d1 p1 a2 d2 p2 rl dl qs1 qs2 i H' xs ys rs ∧ ∃ v7 v8 v9 v10 v11 v12 v13 v14 v15 v16 : Option V, σ = [some (.ref a), some (.int x0), some (.str (T t)), some (.ref a1), some (.ref a2), some (.ref rl), some (.ref dl), v7, v8, v9, v10, v11, v12, v13, v14, v15, v16, none]) ⟨[], [], [], I2, none, none, none, none, none, none, none, none, none, none, rfl⟩ ?_ ?_
    · rintro i σ H8 hi ⟨xs, ys, rs, I8, v7, v8, v9, v10, v11, v12, v13, v14, v15, v16, rfl⟩
      obtain ⟨h8, hrl8, hok8, sH8⟩ := I8
      subst hrl8
      have iB : rs.length < 12 := by omega
      -- the record is laid out
      refine ⟨_, rfl, _, rfl, _, rfl, 2, _, rfl, rfl, a, ns, 2 + rs.length, cell_arg6 a 2 rs.length, sH8.seq hsq, fun xc => ⟨_, rfl, t, xc, _, rfl, dt, by omega, fun H9 pt sd b e c l s9 hpt0 hpt hsd hl1 hl20 hc20 hdl9 hpc hok => ⟨pt, _, rfl, .inl (.inl hpt), rfl, _, _, rfl, _, _, rfl, _, _, rfl, _, _, rfl, _, _, rfl, _, _, rfl, rfl, ?_⟩⟩⟩
      have h9 := h8.same s9
      have sH9 := sH8.trans s9
      have hel := eff_len sd l
      have hzl : (T (eff sd l)).length ≤ sizeLine := line_ok6 (by rw [T_len, hel]; omega)
      -- the marks
      refine ⟨_, rfl, _, rfl, 2, _, rfl, rfl, a, ns, 2 + rs.length, cell_arg6 a 2 rs.length, sH9.seq hsq, fun xd => ⟨_, 1, rfl, rfl, _, rfl, T (eff sd l), rfl, hzl, by show 2 ≤ sizeLine; decide, fun pb hpb => ?_⟩⟩
      have sb := same_upd (o := .lst [V.int 4, V.int 41]) hpb
      refine ⟨_, rfl, a, ns, 15, rfl, (sH9.trans sb).seq hsq, fun xe => ?_⟩
      obtain ⟨bd, hbd, bd1, bd2⟩ := at2b (z := xe) (Int.emod_nonneg xe (by decide)) (Int.emod_lt_of_pos xe (by decide))
      refine ⟨xe, 2, rfl, rfl, (show (0 : Int) < 2 by decide), pb, _, _, .int bd, rfl, rfl, .inl (.inl upd_same), hbd, xd + 1, ((T (eff sd l)).length : Int), bd, rfl, by omega, by rw [T_len, hel]; omega, bd1, by omega, fun H10 pm ms s10 hpm0 hpm hml hms => ?_⟩
      rw [T_len, hel, Int.toNat_natCast] at hml
      have h10 := (h9.same sb).same s10
      have sH10 := (sH9.trans sb).trans s10
      have hpmM : pm ∉ qs1 ++ (qs2 ++ [rl, dl]) := fun z => by
        obtain ⟨l, hl⟩ := (h9.same sb).lists z
        rw [hpm0] at hl
        cases hl
      have hRo : Rcd.Ok (t.length + 1) ⟨sd, b, c, eff sd l, ms⟩ := ⟨eff_dna hdl9, by show (eff sd l).length ≤ 1000; rw [hel]; omega, by show ms.length = (eff sd l).length; rw [hel, hml], hpc, by show c.length ≤ 1000; omega, by show okp (eff sd l).length (t.length + 1) c b 0; rw [hel]; exact hok, fun y hy => (hms y hy).1⟩
      have hidx : (0 : Int) + ((rs.length : Nat) : Int) = ((rs.length : Nat) : Int) := Int.zero_add _
      have nq : (Str.ofString "q").length + (T (TL.numL rs.length)).length ≤ sizeLine := num_short (by omega)
      have nl9 : rs.length < 10 ^ 9 := Nat.lt_of_lt_of_le iB (by decide)
      -- the record
      refine ⟨_, rfl, rs.length, by rw [hidx], nl9, _, _, rfl, rfl, nq, _, rfl, _, rfl, _, rfl, _, rfl, c, rfl, by omega, by show 8 ≤ sizeLine; decide, fun pr hpr => ?_⟩
      generalize hnm : (Str.ofString "q" ++ T (TL.numL rs.length)) = nm
      have sr11 := same_upd (o := .tup [V.str nm, V.int 0, V.int (sd : Int), V.int (b : Int), V.int (e : Int), V.int 3, V.int 5, V.str (T (flat (rns c)))]) hpr
      have hprv : (upd H10 pr (.tup [V.str nm, V.int 0, V.int (sd : Int), V.int (b : Int), V.int (e : Int), V.int 3, V.int 5, V.str (T (flat (rns c)))])) pr = some (.tup [V.str nm, V.int 0, V.int (sd : Int), V.int (b : Int), V.int (e : Int), V.int 3, V.int 5, V.str (T (flat (rns c)))]) := upd_same
      generalize upd H10 pr (.tup [V.str nm, V.int 0, V.int (sd : Int), V.int (b : Int), V.int (e : Int), V.int 3, V.int 5, V.str (T (flat (rns c)))]) = H11 at sr11 hprv ⊢
      have h11 := h10.same sr11
      have hxl : xs.length = rs.length := paired_len h11.rc
      have hyl : ys.length = rs.length := paired_len h11.rd
      refine ⟨_, rfl, .inl ⟨rfl, _, .inl (.inl h11.r)⟩, _, rfl, rl, xs, _, rfl, rfl, h11.r, line_ok6 (by omega), ?_⟩
      have hrd : rl ≠ dl := hdr.symm
      have h12r : (upd H11 rl (.lst (xs ++ [V.ref pr]))) rl = some (.lst (xs ++ [V.ref pr])) := upd_same
      have o12 : ∀ b o, b ≠ rl → H11 b = some o → (upd H11 rl (.lst (xs ++ [V.ref pr]))) b = some o := fun b o nb e => by
        rw [upd_ne nb]
        exact e
      generalize upd H11 rl (.lst (xs ++ [V.ref pr])) = H12 at h12r o12 ⊢
      have h12d := o12 dl _ hrd.symm h11.d
      refine ⟨_, rfl, .inl ⟨rfl, _, .inl (.inl h12d)⟩, _, rfl, rs.length, by rw [hidx], nl9, _, _, rfl, rfl, nq, _, rfl, _, rfl, by show 3 ≤ sizeLine; decide, fun pq hpq => ?_⟩
      rw [hnm]
      have sq := same_upd (o := .tup [V.str nm, V.str (T (eff sd l)), V.ref pm]) hpq
      refine ⟨dl, ys, _, rfl, rfl, sq _ _ h12d, line_ok6 (by omega), ?_⟩
      have hqn : pq ≠ dl := fun z => by
        rw [z, h12d] at hpq
        cases hpq
      have hqv : (upd (upd H12 pq (.tup [V.str nm, V.str (T (eff sd l)), V.ref pm])) dl (.lst (ys ++ [V.ref pq]))) pq = some (.tup [V.str nm, V.str (T (eff sd l)), V.ref pm]) := by
        rw [upd_ne hqn, upd_same]
      have h13d : (upd (upd H12 pq (.tup [V.str nm, V.str (T (eff sd l)), V.ref pm])) dl (.lst (ys ++ [V.ref pq]))) dl = some (.lst (ys ++ [V.ref pq])) := upd_same
      have o13 : ∀ b o, b ≠ dl → H12 b = some o → (upd (upd H12 pq (.tup [V.str nm, V.str (T (eff sd l)), V.ref pm])) dl (.lst (ys ++ [V.ref pq]))) b = some o := fun b o nb e => by
        rw [upd_ne nb]
        exact sq _ _ e
      generalize upd (upd H12 pq (.tup [V.str nm, V.str (T (eff sd l)), V.ref pm])) dl (.lst (ys ++ [V.ref pq])) = H13 at hqv h13d o13 ⊢
      have hMr : rl ∈ qs1 ++ (qs2 ++ [rl, dl]) := List.mem_append_right _ (List.mem_append_right _ List.mem_cons_self)
      have hMd : dl ∈ qs1 ++ (qs2 ++ [rl, dl]) := List.mem_append_right _ (List.mem_append_right _ (List.mem_cons_of_mem _ (List.mem_singleton.mpr rfl)))
      have oo : ∀ b o, b ≠ rl → b ≠ dl → H11 b = some o → H13 b = some o := fun b o n1 n2 e => o13 b o n2 (o12 b o n1 e)
      have pm11 := sr11 _ _ hpm
      have prn : pr ≠ rl ∧ pr ≠ dl := ⟨fun z => h11.off hprv (fun l z => nomatch z) (z ▸ hMr), fun z => h11.off hprv (fun l z => nomatch z) (z ▸ hMd)⟩
      have pmn : pm ≠ rl ∧ pm ≠ dl := ⟨fun z => hpmM (z ▸ hMr), fun z => hpmM (z ▸ hMd)⟩
      have pm13 := oo pm _ pmn.1 pmn.2 pm11
      have h13 := h11.snoc (r := ⟨sd, b, c, eff sd l, ms⟩) (qa := pr) (qd := pq) (m := pm) oo (o13 rl _ hrd h12r) h13d (oo pr _ prn.1 prn.2 hprv) hqv pm13 hpmM
      have sH13 : Same H H13 := fun z o e => oo z o (fun y => by rw [y, hfr rl hMr] at e; cases e) (fun y => by rw [y, hfr dl hMd] at e; cases e) ((sH10.trans sr11) _ _ e)
      -- the handed marks
      refine ⟨_, rfl, pm, _, rfl, .inl (.inl (.inl pm13)), fun ph hph => ?_⟩
      have hphM : ph ∉ qs1 ++ (qs2 ++ [rl, dl]) := fun z => by
        obtain ⟨l, hl⟩ := h13.lists z
        rw [hph] at hl
        cases hl
      have sp := same_upd (o := .lst (ms.map V.int)) hph
      have hphv : (upd H13 ph (.lst (ms.map V.int))) ph = some (LI ms) := upd_same
      have h14 := h13.keep (H' := upd H13 ph (.lst (ms.map V.int))) (N' := fun m => m ∉ qs1 ++ (qs2 ++ [rl, dl]) ∧ m ≠ ph) (fun b o _ e => sp b o e) (fun m o n e => ⟨n, ne_of_none e hph⟩) fun m n => n.1
      have sH14 := sH13.trans sp
      have pm14 := sp _ _ pm13
      have pr14 := sp _ _ (oo pr _ prn.1 prn.2 hprv)
      have npm : pm ≠ ph := ne_of_none pm13 hph
      generalize upd H13 ph (.lst (ms.map V.int)) = H14 at hphv h14 sH14 pm14 pr14 ⊢
      have hG := gd rs hok8
      have hok1 : okp (eff sd l).length (rowsOf (zer (t.length + 1)) rs).length c b 0 := by
        rw [hG.1]
        exact hRo.ok
      have hG2 := gd (sel rs.length rs) fun r hr => by
        obtain ⟨k, hk, e⟩ := List.mem_filterMap.mp hr
        exact hok8 r (List.mem_of_getElem? e)
      have hok2 : okp (eff sd l).length (rowsOf (zer (t.length + 1)) (sel rs.length rs)).length c b 0 := by
        rw [hG2.1]
        exact hRo.ok
      refine ⟨_, rfl, a1, d1, _, rfl, h14.A.ob, rfl, _, rfl, _, rfl, rs.length, by rw [hidx], nl9, _, _, rfl, rfl, nq, _, rfl, _, rfl, by show 3 ≤ sizeLine; decide, fun pz hpz => ?_⟩
      have sz := same_upd (o := .tup [V.str (Str.ofString "q" ++ T (TL.numL rs.length)), V.str (T (eff sd l)), V.ref ph]) hpz
      refine ⟨a1, d1, p1, pr, pz, ph, qs1, t, _, _, _, _, _, _, _, sd, b, c, eff sd l, ms, rfl, h14.A.same sz, sz _ _ pr14, upd_same, sz _ _ hphv, fun z => hphM (List.mem_append_left _ z), hRo.dna, by rw [hel]; omega, hRo.ml, hpc, by omega, hok1, hG.2, hRo.pos, fun H15 fr15 P15 => ?_⟩
      have h15 := (h14.same sz).add1 fr15 P15
      have nq1 : ∀ {z : Addr}, z ∉ qs1 ++ (qs2 ++ [rl, dl]) → z ∉ qs1 := fun n z => n (List.mem_append_left _ z)
      have ph15 := fr15 _ _ (nq1 hphM) (sz _ _ hphv)
      have pm15 := fr15 _ _ (nq1 hpmM) (sz _ _ pm14)
      have pr15 := fr15 _ _ (nq1 (h14.off pr14 fun l z => nomatch z)) (sz _ _ pr14)
      have sH15 : Same H H15 := fun z o e => fr15 z o (fun y => by rw [hfr z (List.mem_append_left _ y)] at e; cases e) ((sH14.trans sz) _ _ e)
      refine ⟨_, rfl, iteNS rfl ⟨_, rfl, _, rfl, dI ms, dI ms, dp_dI (.inl (.inl ph15)), dp_dI (.inl (.inl pm15)), shaped_dI _, shaped_dI _, _, rfl, ?_⟩⟩
      rw [eqv_ints]
      refine iteF ?_
      have hS1 : (prun (eff sd (eff sd l)) (effM sd ms) c ⟨rowsOf (zer (t.length + 1)) rs, b, 0⟩).S = rowsOf (zer (t.length + 1)) (rs ++ [⟨sd, b, c, eff sd l, ms⟩]) := (rowsOf_snoc _ rs ⟨sd, b, c, eff sd l, ms⟩).symm
      rw [hS1] at h15
      have hsl := sel_snoc rs (⟨sd, b, c, eff sd l, ms⟩ : Rcd)
      have hp1n : p1 ≠ ph := ne_of_none h13.A.mx.top hph
      have hp2n : p2 ≠ ph := ne_of_none h13.B.mx.top hph
      refine ⟨fun σ H' => St2 C (fun m => m ∉ qs1 ++ (qs2 ++ [rl, dl]) ∧ m ≠ ph) H' t (rs ++ [⟨sd, b, c, eff sd l, ms⟩]) (rowsOf (zer (t.length + 1)) (rs ++ [⟨sd, b, c, eff sd l, ms⟩])) (rowsOf (zer (t.length + 1)) (sel (rs.length + 1) (rs ++ [⟨sd, b, c, eff sd l, ms⟩]))) a1 d1 p1 a2 d2 p2 rl dl qs1 qs2 (xs ++ [.ref pr]) (ys ++ [.ref pq]) ∧ Same H H' ∧ H' ph = some (LI ms) ∧
        ∃ v8 v9 v10 v11 v12 v13 v14 v15 : Option V, σ = [some (.ref a), some (.int x0), some (.str (T t)), some (.ref a1), some (.ref a2), some (.ref rl), some (.ref dl), some (.int (0 + (rs.length : Nat))), v8, v9, v10, v11, v12, v13, v14, v15, some (.ref ph), none], ?_, ?_⟩
      · refine ⟨_, rfl, _, 3, rfl, rfl, (show (0 : Int) < 3 by decide), rfl, _, rfl, ite2 (fun e3 => ?_) (fun e3 => ?_)⟩
        · have e4 : rs.length % 3 = 1 := by
            have := V.int.inj (of_decide_eq_true e3)
            omega
          refine ⟨_, rfl, a2, d2, _, rfl, h15.B.ob, rfl, _, rfl, _, rfl, rs.length, by rw [hidx], nl9, _, _, rfl, rfl, nq, _, rfl, _, rfl, pm, _, rfl, .inl (.inl (.inl pm15)), fun pw hpw => ⟨by show 3 ≤ sizeLine; decide, fun py hpy => ?_⟩⟩
          have sw := same_upd (o := .lst (ms.map V.int)) hpw
          have hpwv : (upd H15 pw (.lst (ms.map V.int))) pw = some (LI ms) := upd_same
          have hpwM : pw ∉ qs2 := fun z => by
            obtain ⟨l, hl⟩ := h15.B.lists z
            rw [hpw] at hl
            cases hl
          generalize upd H15 pw (.lst (ms.map V.int)) = Hw at sw hpwv hpy ⊢
          have sy := same_upd (o := .tup [V.str (Str.ofString "q" ++ T (TL.numL rs.length)), V.str (T (eff sd l)), V.ref pw]) hpy
          refine ⟨a2, d2, p2, pr, py, pw, qs2, t, _, _, _, _, _, _, _, sd, b, c, eff sd l, ms, rfl, (h15.B.same sw).same sy, sy _ _ (sw _ _ pr15), upd_same, sy _ _ hpwv, hpwM, hRo.dna, by rw [hel]; omega, hRo.ml, hpc, by omega, hok2, hG2.2, hRo.pos, fun H16 fr16 P16 => ?_⟩
          have h16 := ((h15.same sw).same sy).add2 fr16 P16
          have hS2 : (prun (eff sd (eff sd l)) (effM sd ms) c ⟨rowsOf (zer (t.length + 1)) (sel rs.length rs), b, 0⟩).S = rowsOf (zer (t.length + 1)) (sel (rs.length + 1) (rs ++ [⟨sd, b, c, eff sd l, ms⟩])) := by
            rw [hsl, if_pos e4]
            exact (rowsOf_snoc _ (sel rs.length rs) ⟨sd, b, c, eff sd l, ms⟩).symm
          rw [hS2] at h16
          have nq2 : ∀ {z : Addr}, z ∉ qs1 ++ (qs2 ++ [rl, dl]) → z ∉ qs2 := fun n z => n (List.mem_append_right _ (List.mem_append_left _ z))
          exact ⟨h16, fun z o e => fr16 z o (fun y => by rw [hfr z (List.mem_append_right _ (List.mem_append_left _ y))] at e; cases e) (((sH15.trans sw).trans sy) _ _ e), fr16 _ _ (nq2 hphM) (sy _ _ (sw _ _ ph15)), _, _, _, _, _, _, _, _, rfl⟩
        · have e4 : ¬ rs.length % 3 = 1 := fun z => e3 (decide_eq_true (by
            show V.int ((0 + ((rs.length : Nat) : Int)) % 3) = V.int 1
            congr 1
            omega))
          rw [hsl, if_neg e4]
          exact ⟨h15, sH15, ph15, _, _, _, _, _, _, _, _, rfl⟩
      rintro σ H17 ⟨h17, sH17, ph17, v8, v9, v10, v11, v12, v13, v14, v15, rfl⟩
      have hm0 : 0 < ms.length := by omega
      refine ⟨_, rfl, ph, _, _, .int ms[0], rfl, rfl, .inl (.inl ph17), atI_nat (j := 0) (map_int_at hm0), 40, _, rfl, rfl, _, rfl, ph, _, 0, 0, rfl, rfl, ph17, ix_set rfl (by rw [List.length_map]; exact hm0), ?_⟩
      refine ⟨_, rfl, .inl ⟨rfl, _, .inl (.inl upd_same)⟩, ph, _, _, rfl, rfl, upd_same, line_ok6 (by rw [List.length_set, List.length_map]; omega), ?_⟩
      have o18 : ∀ b o, b ≠ ph → H17 b = some o → (upd (upd H17 ph (.lst ((ms.map V.int).set 0 (V.int (40 - ms[0]))))) ph (.lst ((ms.map V.int).set 0 (V.int (40 - ms[0])) ++ [V.int 40]))) b = some o := fun b o n e => by
        rw [upd_ne n, upd_ne n]
        exact e
      generalize upd (upd H17 ph (.lst ((ms.map V.int).set 0 (V.int (40 - ms[0]))))) ph (.lst ((ms.map V.int).set 0 (V.int (40 - ms[0])) ++ [V.int 40])) = H18 at o18 ⊢
      have h18 := h17.keep (H' := H18) (N' := fun m => m ∉ qs1 ++ (qs2 ++ [rl, dl])) (fun z o hz e => o18 z o (fun y => by
        rcases hz with w | w | w | w | w
        · exact hp1n (w.symm.trans y)
        · exact hp2n (w.symm.trans y)
        · exact hphM (y ▸ w)
        · rw [y, ph17] at e
          exact w _ (Option.some.inj e).symm
        · exact w.2 y) e) (fun m o n e => n.1) fun m n => n
      have hphH : H ph = none := sH13.free hph
      have sH18 : Same H H18 := fun z o e => o18 z o (ne_of_none e hphH) (sH17 _ _ e)
      have hokS : ∀ r ∈ rs ++ [(⟨sd, b, c, eff sd l, ms⟩ : Rcd)], r.Ok (t.length + 1) := fun r hr => by
        rcases List.mem_append.mp hr with z | z
        · exact hok8 r z
        · rw [List.mem_singleton.mp z]
          exact hRo
      have hGS := gd _ hokS
      have hlS : (rs ++ [(⟨sd, b, c, eff sd l, ms⟩ : Rcd)]).length = rs.length + 1 := by rw [List.length_append]; rfl
      refine ⟨_, rfl, _, rfl, _, rfl, _, rfl, _, rfl, rl, dl, _, _, t, _, rfl, h18.r, h18.d, h18.rc, h18.rd.rds, by omega, by omega, hokS, fun H19 rp rqs s19 hrp hrq hM => ?_⟩
      have h19 := h18.same s19
      refine ⟨a1, d1, p1, rp, qs1, rqs, t, _, rfl, h19.A, hM, hGS.1, hGS.2, by omega, dt, fun H20 s20 => ⟨true, rfl, iteF ?_⟩⟩
      refine ⟨xs ++ [.ref pr], ys ++ [.ref pq], _, ⟨?_, hlS, hokS, (sH18.trans s19).trans s20⟩, _, _, _, _, _, _, _, _, _, _, rfl⟩
      rw [hlS]
      exact h19.same s20
    · rintro σ H8 ⟨xs, ys, rs, I8, v7, v8, v9, v10, v11, v12, v13, v14, v15, v16, rfl⟩
      obtain ⟨h8, hrl8, hok8, sH8⟩ := I8
      have hxl : xs.length = rs.length := paired_len h8.rc
      have hyl : ys.length = rs.length := paired_len h8.rd
      have hG := gd (sel rs.length rs) fun r hr => by
        obtain ⟨k, hk, e⟩ := List.mem_filterMap.mp hr
        exact hok8 r (List.mem_of_getElem? e)
      refine ⟨_, rfl, rl, _, rfl, .inl (.inl (.inl h8.r)), _, rfl, by omega, by omega, fun D hD => ?_⟩
      rw [Int.toNat_natCast, hxl]
      refine lc_gen (n := rs.length) (fun j H' => Same H8 H' ∧ H' D = some (.lst ((kp j).map fun k : Nat => V.int (k : Int)))) ⟨same_upd hD, upd_same⟩ (fun j H' hj _ => hj) (fun H' _ => Nat.le_refl _) ?_ ?_
      · rintro j H' v H'' hj ⟨sj, hdj⟩ ⟨rfl, rfl⟩
        refine ⟨rfl, ?_⟩
        have hkl : ((kp j).map fun k : Nat => V.int (k : Int)).length ≤ j := by
          rw [List.length_map]
          exact Nat.le_trans (List.length_filter_le _ _) (by rw [List.length_range]; exact Nat.le_refl _)
        refine ⟨_, rfl, .inl ⟨_, rfl, _, 3, rfl, rfl, (show (0 : Int) < 3 by decide), rfl, _, rfl, ite2 (fun e3 => ?_) (fun e3 => ?_)⟩⟩
        · have e4 : j % 3 = 1 := by
            have := V.int.inj (of_decide_eq_true e3)
            omega
          refine ⟨_, rfl, _, hdj, line_lt (by omega), fun b o e => ?_, ?_⟩
          · rw [upd_ne (ne_of_none e hD)]
            exact sj b o e
          · rw [upd_same, kp_succ, if_pos e4, List.map_append, Int.zero_add]
            rfl
        · have e4 : ¬ j % 3 = 1 := fun z => e3 (decide_eq_true (by
            show V.int ((0 + ((j : Nat) : Int)) % 3) = V.int 1
            congr 1
            omega))
          refine ⟨sj, ?_⟩
          rw [kp_succ, if_neg e4, List.append_nil]
          exact hdj
      rintro H9 ⟨s9, hd9⟩
      have h9 := h8.same s9
      have hkl : (kp rs.length).length ≤ rs.length := Nat.le_trans (List.length_filter_le _ _) (by rw [List.length_range]; exact Nat.le_refl _)
      refine ⟨_, rfl, _, rfl, _, rfl, _, rfl, D, rfl, ⟨_, .inl (.inl hd9)⟩, fun D1 hD1 => ?_⟩
      have pick : ∀ (zs : List V) (ro : Addr), zs.length = rs.length → ∀ (H' : Hp) (D1 : Addr), H' D1 = none → True := fun _ _ _ _ _ _ => trivial
      refine lc_list (K := K) (xs := (kp rs.length).map fun k : Nat => V.int (k : Int)) (fun j H' => Same H9 H' ∧ H' D1 = some (.lst (((kp rs.length).take j).filterMap fun k => xs[k]?))) ⟨same_upd hD1, by rw [List.take_zero]; exact upd_same⟩ (fun j H' _ h => .inl (.inl (h.1 _ _ hd9))) ?_ ?_
      · rintro j y H' hjy ⟨sj, hdj⟩
        rw [List.getElem?_map] at hjy
        obtain ⟨k, hk, rfl⟩ := Option.map_eq_some_iff.mp hjy
        have hkn := kp_lt (List.mem_of_getElem? hk)
        have hxk : xs[k]? = some xs[k] := List.getElem?_eq_getElem (by omega)
        refine ⟨rfl, ?_⟩
        dsimp only [tYes]
        rw [if_pos rfl]
        have hll : (((kp rs.length).take j).filterMap fun k => xs[k]?).length ≤ 100 := by
          have h1 := List.length_filterMap_le (fun k => xs[k]?) ((kp rs.length).take j)
          rw [List.length_take] at h1
          omega
        refine ⟨_, rfl, _, rfl, rl, _, _, xs[k], rfl, rfl, .inl (.inl (sj _ _ h9.r)), atI_nat hxk, _, hdj, line_lt (by omega), fun b o e => ?_, ?_⟩
        · rw [upd_ne (ne_of_none e hD1)]
          exact sj b o e
        · rw [upd_same, List.take_add_one, hk, fm_one _ _ hxk]
      rintro H10 ⟨s10, hd10⟩
      rw [List.take_of_length_le (by rw [List.length_map]; exact Nat.le_refl _)] at hd10
      have h10 := h9.same s10
      have hd9' := s10 _ _ hd9
      refine ⟨_, rfl, D, rfl, ⟨_, .inl (.inl hd9')⟩, fun D2 hD2 => ?_⟩
      refine lc_list (K := K) (xs := (kp rs.length).map fun k : Nat => V.int (k : Int)) (fun j H' => Same H10 H' ∧ H' D2 = some (.lst (((kp rs.length).take j).filterMap fun k => ys[k]?))) ⟨same_upd hD2, by rw [List.take_zero]; exact upd_same⟩ (fun j H' _ h => .inl (.inl (h.1 _ _ hd9'))) ?_ ?_
      · rintro j y H' hjy ⟨sj, hdj⟩
        rw [List.getElem?_map] at hjy
        obtain ⟨k, hk, rfl⟩ := Option.map_eq_some_iff.mp hjy
        have hkn := kp_lt (List.mem_of_getElem? hk)
        have hxk : ys[k]? = some ys[k] := List.getElem?_eq_getElem (by omega)
        refine ⟨rfl, ?_⟩
        dsimp only [tYes]
        rw [if_pos rfl]
        have hll : (((kp rs.length).take j).filterMap fun k => ys[k]?).length ≤ 100 := by
          have h1 := List.length_filterMap_le (fun k => ys[k]?) ((kp rs.length).take j)
          rw [List.length_take] at h1
          omega
        refine ⟨_, rfl, _, rfl, dl, _, _, ys[k], rfl, rfl, .inl (.inl (sj _ _ h10.d)), atI_nat hxk, _, hdj, line_lt (by omega), fun b o e => ?_, ?_⟩
        · rw [upd_ne (ne_of_none e hD2)]
          exact sj b o e
        · rw [upd_same, List.take_add_one, hk, fm_one _ _ hxk]
      rintro H11 ⟨s11, hd11⟩
      rw [List.take_of_length_le (by rw [List.length_map]; exact Nat.le_refl _)] at hd11
      have h11 := h10.same s11
      have hsl : (sel rs.length rs).length ≤ 100 := by
        have h1 := List.length_filterMap_le (fun k => rs[k]?) (kp rs.length)
        show ((kp rs.length).filterMap fun k => rs[k]?).length ≤ 100
        omega
      refine ⟨D1, D2, _, _, t, sel rs.length rs, rfl, s11 _ _ hd10, hd11, paired_sel h11.rc _ fun k hk => kp_lt hk, paired_sel h11.rd.rds _ fun k hk => kp_lt hk, hsl, by omega, fun r hr => ?_, fun H12 rp rqs s12 hrp hrq hM => ?_⟩
      · obtain ⟨k, hk, e⟩ := List.mem_filterMap.mp hr
        exact hok8 r (List.mem_of_getElem? e)
      exact ⟨a2, d2, p2, rp, qs2, rqs, t, _, rfl, (h11.same s12).B, hM, hG.1, hG.2, by omega, dt, fun H13 s13 => q _⟩
end
theorem all_mk {l : PySem.W.OpenLaw} {w : World} {K : PySem.W.Frag} {h : Heap} {mg : Str → Option Value} {fa fAG fTU fJP fC fR fT fLT fUC fRW fLA fSH fTO fRI fL fMN fMA fMS fMT fMD fMM C q0 : Addr} (X : K.In h) (G : h.Ns mainGlobals mg) (hfa : mg "law" = some (.ref fa))
    {odAG anAG : Option Addr} {slAG : Array (Option Value)} {ocAG kVAG dcAG pmAG cdAG ctAG : Value}
    {odTU anTU : Option Addr} {slTU : Array (Option Value)} {ocTU kVTU dcTU pmTU cdTU ctTU : Value}
    {odJP anJP : Option Addr} {slJP : Array (Option Value)} {ocJP kVJP dcJP pmJP cdJP ctJP : Value}
    {odC anC : Option Addr} {slC : Array (Option Value)} {ocC kVC dcC pmC cdC ctC : Value}
    {odR anR : Option Addr} {slR : Array (Option Value)} {ocR kVR dcR pmR cdR ctR : Value}
    {odT anT : Option Addr} {slT : Array (Option Value)} {ocT kVT dcT pmT cdT ctT : Value}
    {odLT anLT : Option Addr} {slLT : Array (Option Value)} {ocLT kVLT dcLT pmLT cdLT ctLT : Value}
    {odUC anUC : Option Addr} {slUC : Array (Option Value)} {ocUC kVUC dcUC pmUC cdUC ctUC : Value}
    {odRW anRW : Option Addr} {slRW : Array (Option Value)} {ocRW kVRW dcRW pmRW cdRW ctRW : Value}
    {odLA anLA : Option Addr} {slLA : Array (Option Value)} {ocLA kVLA dcLA pmLA cdLA ctLA : Value}
    {odSH anSH : Option Addr} {slSH : Array (Option Value)} {ocSH kVSH dcSH pmSH cdSH ctSH : Value}
    {odTO anTO : Option Addr} {slTO : Array (Option Value)} {ocTO kVTO dcTO pmTO cdTO ctTO : Value}
    {odRI anRI : Option Addr} {slRI : Array (Option Value)} {ocRI kVRI dcRI pmRI cdRI ctRI : Value}
    {odL anL : Option Addr} {slL : Array (Option Value)} {ocL kVL dcL pmL cdL ctL : Value}
    {odMN anMN : Option Addr} {slMN : Array (Option Value)} {ocMN kVMN dcMN pmMN cdMN ctMN : Value}
    {odMA anMA : Option Addr} {slMA : Array (Option Value)} {ocMA kVMA dcMA pmMA cdMA ctMA : Value}
    {odMS anMS : Option Addr} {slMS : Array (Option Value)} {ocMS kVMS dcMS pmMS cdMS ctMS : Value}
    {odMT anMT : Option Addr} {slMT : Array (Option Value)} {ocMT kVMT dcMT pmMT cdMT ctMT : Value}
    {odMD anMD : Option Addr} {slMD : Array (Option Value)} {ocMD kVMD dcMD pmMD cdMD ctMD : Value}
    {odMM anMM : Option Addr} {slMM : Array (Option Value)} {ocMM kVMM dcMM pmMM cdMM ctMM : Value}
    (aAG : PySem.W.nsIn K mainGlobals "agree" = some (some (.ref fAG))) (lAG : K.lookup fAG = some ⟨ocAG, odAG, .func (PySem.W.fnOf "agree" "agree" (defArgs sAgree) (defBody sAgree) (defScope sAgree) .none kVAG dcAG pmAG anAG cdAG ctAG), slAG⟩) (cAG : PySem.W.codeIn K cdAG "agree" = true) (kAG : PySem.W.keepIn K (.ref fAG) = true)
    (aTU : PySem.W.nsIn K mainGlobals "turned" = some (some (.ref fTU))) (lTU : K.lookup fTU = some ⟨ocTU, odTU, .func (PySem.W.fnOf "turned" "turned" (defArgs sTurned) (defBody sTurned) (defScope sTurned) .none kVTU dcTU pmTU anTU cdTU ctTU), slTU⟩) (cTU : PySem.W.codeIn K cdTU "turned" = true) (kTU : PySem.W.keepIn K (.ref fTU) = true)
    (aJP : PySem.W.nsIn K mainGlobals "joined_path" = some (some (.ref fJP))) (lJP : K.lookup fJP = some ⟨ocJP, odJP, .func (PySem.W.fnOf "joined_path" "joined_path" (defArgs sJPath) (defBody sJPath) (defScope sJPath) .none kVJP dcJP pmJP anJP cdJP ctJP), slJP⟩) (cJP : PySem.W.codeIn K cdJP "joined_path" = true) (kJP : PySem.W.keepIn K (.ref fJP) = true)
    (aC : PySem.W.nsIn K mainGlobals "_law_cell" = some (some (.ref fC))) (lC : K.lookup fC = some ⟨ocC, odC, .func (PySem.W.fnOf "_law_cell" "_law_cell" (defArgs sCell) (defBody sCell) (defScope sCell) .none kVC dcC pmC anC cdC ctC), slC⟩) (cC : PySem.W.codeIn K cdC "_law_cell" = true) (kC : PySem.W.keepIn K (.ref fC) = true)
    (aR : PySem.W.nsIn K mainGlobals "_law_row" = some (some (.ref fR))) (lR : K.lookup fR = some ⟨ocR, odR, .func (PySem.W.fnOf "_law_row" "_law_row" (defArgs sRow) (defBody sRow) (defScope sRow) .none kVR dcR pmR anR cdR ctR), slR⟩) (cR : PySem.W.codeIn K cdR "_law_row" = true) (kR : PySem.W.keepIn K (.ref fR) = true)
    (aT : PySem.W.nsIn K mainGlobals "_law_text" = some (some (.ref fT))) (lT : K.lookup fT = some ⟨ocT, odT, .func (PySem.W.fnOf "_law_text" "_law_text" (defArgs sText) (defBody sText) (defScope sText) .none kVT dcT pmT anT cdT ctT), slT⟩) (cT : PySem.W.codeIn K cdT "_law_text" = true) (kT : PySem.W.keepIn K (.ref fT) = true)
    (aLT : PySem.W.nsIn K mainGlobals "_law_turned" = some (some (.ref fLT))) (lLT : K.lookup fLT = some ⟨ocLT, odLT, .func (PySem.W.fnOf "_law_turned" "_law_turned" (defArgs sLTurned) (defBody sLTurned) (defScope sLTurned) .none kVLT dcLT pmLT anLT cdLT ctLT), slLT⟩) (cLT : PySem.W.codeIn K cdLT "_law_turned" = true) (kLT : PySem.W.keepIn K (.ref fLT) = true)
    (aUC : PySem.W.nsIn K mainGlobals "_law_uncut" = some (some (.ref fUC))) (lUC : K.lookup fUC = some ⟨ocUC, odUC, .func (PySem.W.fnOf "_law_uncut" "_law_uncut" (defArgs sUncut) (defBody sUncut) (defScope sUncut) .none kVUC dcUC pmUC anUC cdUC ctUC), slUC⟩) (cUC : PySem.W.codeIn K cdUC "_law_uncut" = true) (kUC : PySem.W.keepIn K (.ref fUC) = true)
    (aRW : PySem.W.nsIn K mainGlobals "_law_rows" = some (some (.ref fRW))) (lRW : K.lookup fRW = some ⟨ocRW, odRW, .func (PySem.W.fnOf "_law_rows" "_law_rows" (defArgs sRows) (defBody sRows) (defScope sRows) .none kVRW dcRW pmRW anRW cdRW ctRW), slRW⟩) (cRW : PySem.W.codeIn K cdRW "_law_rows" = true) (kRW : PySem.W.keepIn K (.ref fRW) = true)
    (aLA : PySem.W.nsIn K mainGlobals "_law_laid" = some (some (.ref fLA))) (lLA : K.lookup fLA = some ⟨ocLA, odLA, .func (PySem.W.fnOf "_law_laid" "_law_laid" (defArgs sLaid) (defBody sLaid) (defScope sLaid) .none kVLA dcLA pmLA anLA cdLA ctLA), slLA⟩) (cLA : PySem.W.codeIn K cdLA "_law_laid" = true) (kLA : PySem.W.keepIn K (.ref fLA) = true)
    (aSH : PySem.W.nsIn K mainGlobals "_law_short" = some (some (.ref fSH))) (lSH : K.lookup fSH = some ⟨ocSH, odSH, .func (PySem.W.fnOf "_law_short" "_law_short" (defArgs sLCut) (defBody sLCut) (defScope sLCut) .none kVSH dcSH pmSH anSH cdSH ctSH), slSH⟩) (cSH : PySem.W.codeIn K cdSH "_law_short" = true) (kSH : PySem.W.keepIn K (.ref fSH) = true)
    (aTO : PySem.W.nsIn K mainGlobals "_law_told" = some (some (.ref fTO))) (lTO : K.lookup fTO = some ⟨ocTO, odTO, .func (PySem.W.fnOf "_law_told" "_law_told" (defArgs sTold) (defBody sTold) (defScope sTold) .none kVTO dcTO pmTO anTO cdTO ctTO), slTO⟩) (cTO : PySem.W.codeIn K cdTO "_law_told" = true) (kTO : PySem.W.keepIn K (.ref fTO) = true)
    (aRI : PySem.W.nsIn K mainGlobals "_law_right" = some (some (.ref fRI))) (lRI : K.lookup fRI = some ⟨ocRI, odRI, .func (PySem.W.fnOf "_law_right" "_law_right" (defArgs sRight) (defBody sRight) (defScope sRight) .none kVRI dcRI pmRI anRI cdRI ctRI), slRI⟩) (cRI : PySem.W.codeIn K cdRI "_law_right" = true) (kRI : PySem.W.keepIn K (.ref fRI) = true)
    (aL : PySem.W.nsIn K mainGlobals "law" = some (some (.ref fL))) (lL : K.lookup fL = some ⟨ocL, odL, .func (PySem.W.fnOf "law" "law" (defArgs sLaw) (defBody sLaw) (defScope sLaw) .none kVL dcL pmL anL cdL ctL), slL⟩) (cL : PySem.W.codeIn K cdL "law" = true) (kL : PySem.W.keepIn K (.ref fL) = true)
    (aMN : PySem.W.findIn K (.ref C) "__init__" = some (some (.ref fMN))) (iMN : PySem.W.isFn K (.ref fMN) = true) (lMN : K.lookup fMN = some ⟨ocMN, odMN, .func (PySem.W.fnOf "__init__" "Pile.__init__" (defArgs mInit) (defBody mInit) (defScope mInit) .none kVMN dcMN pmMN anMN cdMN ctMN), slMN⟩) (cMN : PySem.W.codeIn K cdMN "Pile.__init__" = true) (kMN : PySem.W.keepIn K (.ref fMN) = true)
    (aMA : PySem.W.findIn K (.ref C) "add" = some (some (.ref fMA))) (iMA : PySem.W.isFn K (.ref fMA) = true) (lMA : K.lookup fMA = some ⟨ocMA, odMA, .func (PySem.W.fnOf "add" "Pile.add" (defArgs mAdd) (defBody mAdd) (defScope mAdd) .none kVMA dcMA pmMA anMA cdMA ctMA), slMA⟩) (cMA : PySem.W.codeIn K cdMA "Pile.add" = true) (kMA : PySem.W.keepIn K (.ref fMA) = true)
    (aMS : PySem.W.findIn K (.ref C) "sums" = some (some (.ref fMS))) (iMS : PySem.W.isFn K (.ref fMS) = true) (lMS : K.lookup fMS = some ⟨ocMS, odMS, .func (PySem.W.fnOf "sums" "Pile.sums" (defArgs mSums) (defBody mSums) (defScope mSums) .none kVMS dcMS pmMS anMS cdMS ctMS), slMS⟩) (cMS : PySem.W.codeIn K cdMS "Pile.sums" = true) (kMS : PySem.W.keepIn K (.ref fMS) = true)
    (aMT : PySem.W.findIn K (.ref C) "told" = some (some (.ref fMT))) (iMT : PySem.W.isFn K (.ref fMT) = true) (lMT : K.lookup fMT = some ⟨ocMT, odMT, .func (PySem.W.fnOf "told" "Pile.told" (defArgs mTold) (defBody mTold) (defScope mTold) .none kVMT dcMT pmMT anMT cdMT ctMT), slMT⟩) (cMT : PySem.W.codeIn K cdMT "Pile.told" = true) (kMT : PySem.W.keepIn K (.ref fMT) = true)
    (aMD : PySem.W.findIn K (.ref C) "differences" = some (some (.ref fMD))) (iMD : PySem.W.isFn K (.ref fMD) = true) (lMD : K.lookup fMD = some ⟨ocMD, odMD, .func (PySem.W.fnOf "differences" "Pile.differences" (defArgs mDiffs) (defBody mDiffs) (defScope mDiffs) .none kVMD dcMD pmMD anMD cdMD ctMD), slMD⟩) (cMD : PySem.W.codeIn K cdMD "Pile.differences" = true) (kMD : PySem.W.keepIn K (.ref fMD) = true)
    (aMM : PySem.W.findIn K (.ref C) "mended" = some (some (.ref fMM))) (iMM : PySem.W.isFn K (.ref fMM) = true) (lMM : K.lookup fMM = some ⟨ocMM, odMM, .func (PySem.W.fnOf "mended" "Pile.mended" (defArgs mMended) (defBody mMended) (defScope mMended) .none kVMM dcMM pmMM anMM cdMM ctMM), slMM⟩) (cMM : PySem.W.codeIn K cdMM "Pile.mended" = true) (kMM : PySem.W.keepIn K (.ref fMM) = true)
    {tEX : Tok} (nEX : PySem.W.nsIn K mainGlobals "_EXTRAS" = some (some (.int 6 tEX)))
    {tGA : Tok} (nGA : PySem.W.nsIn K mainGlobals "_GAPS" = some (some (.int 5 tGA)))
    {tLE : Tok} (nLE : PySem.W.nsIn K mainGlobals "LETTERS" = some (some (.str (Str.ofString "ACGTN") tLE)))
    {esY : Array DictEntry} {nY : Nat} {tY0 tY1 tY2 tY3 tY4 : Tok}
    (gC : PySem.W.nsIn K mainGlobals "Pile" = some (some (.ref C)))
    (pg : PySem.W.plainGet K C Str.empty = true)
    (hd : PySem.W.hasDictIn K C = true)
    (po : PySem.W.plainOver K C = true)
    (sa : PySem.W.findIn K (.ref C) "__setattr__" = some (some (.builtin "object.__setattr__")))
    (mk : PySem.W.makesIn K C = true)
    (kc : PySem.W.keepIn K (.ref C) = true)
    (u0 : PySem.W.findIn K (.ref C) "_text" = some none)
    (u1 : PySem.W.findIn K (.ref C) "_sums" = some none)
    (dY : PySem.W.nsIn K mainGlobals "_TURNED" = some (some (.ref q0)))
    (eY : K.lookup q0 = some ⟨.type "dict", none, .dict esY nY, #[]⟩)
    (yY : PySem.W.KeysLit w.params esY.toList)
    (vY0 : PySem.W.nsIn K q0 "A" = some (some (.str (Str.ofString "T") tY0)))
    (vY1 : PySem.W.nsIn K q0 "C" = some (some (.str (Str.ofString "G") tY1)))
    (vY2 : PySem.W.nsIn K q0 "G" = some (some (.str (Str.ofString "C") tY2)))
    (vY3 : PySem.W.nsIn K q0 "T" = some (some (.str (Str.ofString "A") tY3)))
    (vY4 : PySem.W.nsIn K q0 "N" = some (some (.str (Str.ofString "N") tY4)))
    (zlen : PySem.W.nsIn K mainGlobals "len" = some none) (zint : PySem.W.nsIn K mainGlobals "int" = some none) (zabs : PySem.W.nsIn K mainGlobals "abs" = some none) (zrange : PySem.W.nsIn K mainGlobals "range" = some none) (zisinstance : PySem.W.nsIn K mainGlobals "isinstance" = some none) (zbool : PySem.W.nsIn K mainGlobals "bool" = some none) (zstr : PySem.W.nsIn K mainGlobals "str" = some none) (zlist : PySem.W.nsIn K mainGlobals "list" = some none) (ztuple : PySem.W.nsIn K mainGlobals "tuple" = some none) (zenumerate : PySem.W.nsIn K mainGlobals "enumerate" = some none) (zsum : PySem.W.nsIn K mainGlobals "sum" = some none) (zmax : PySem.W.nsIn K mainGlobals "max" = some none) (zreversed : PySem.W.nsIn K mainGlobals "reversed" = some none) :
    ∃ fd : FuncData, (∀ (s : Shared) (v : Value), BindsTo s fd ⟨[v], []⟩ [("script", v)]) ∧ ∀ base : Heap, K.In base → base.Ns mainGlobals mg → FnOk l.prog w K mg base CX0 6 fa fd ["script"] (spLaw K) := by
  have e := hfa.symm.trans (PySem.W.mg_of X G aL)
  cases e
  have FAG := fun_mk (st := sAgree) lAG cAG kAG
  have FTU := fun_mk (st := sTurned) lTU cTU kTU
  have FJP := fun_mk (st := sJPath) lJP cJP kJP
  have FC := fun_mk (st := sCell) lC cC kC
  have FR := fun_mk (st := sRow) lR cR kR
  have FT := fun_mk (st := sText) lT cT kT
  have FLT := fun_mk (st := sLTurned) lLT cLT kLT
  have FUC := fun_mk (st := sUncut) lUC cUC kUC
  have FRW := fun_mk (st := sRows) lRW cRW kRW
  have FLA := fun_mk (st := sLaid) lLA cLA kLA
  have FSH := fun_mk (st := sLCut) lSH cSH kSH
  have FTO := fun_mk (st := sTold) lTO cTO kTO
  have FRI := fun_mk (st := sRight) lRI cRI kRI
  have FL := fun_mk (st := sLaw) lL cL kL
  have FMN := fun_mk (st := mInit) lMN cMN kMN
  have FMA := fun_mk (st := mAdd) lMA cMA kMA
  have FMS := fun_mk (st := mSums) lMS cMS kMS
  have FMT := fun_mk (st := mTold) lMT cMT kMT
  have FMD := fun_mk (st := mDiffs) lMD cMD kMD
  have FMM := fun_mk (st := mMended) lMM cMM kMM
  have B : Bl mg := ⟨PySem.W.mg_none_of X G zlen, PySem.W.mg_none_of X G zint, PySem.W.mg_none_of X G zabs, PySem.W.mg_none_of X G zrange, PySem.W.mg_none_of X G zisinstance, PySem.W.mg_none_of X G zbool, PySem.W.mg_none_of X G zstr⟩
  have bAG := FAG.binds (ps := ["first", "second"]) fun _ _ _ _ _ _ us hl => match us, hl with | [_, _], _ => rfl
  have bTU := FTU.binds (ps := ["text"]) fun _ _ _ _ _ _ us hl => match us, hl with | [_], _ => rfl
  have bJP := FJP.binds (ps := ["cut_path"]) fun _ _ _ _ _ _ us hl => match us, hl with | [_], _ => rfl
  have bC := FC.binds (ps := ["script", "k"]) fun _ _ _ _ _ _ us hl => match us, hl with | [_, _], _ => rfl
  have bR := FR.binds (ps := ["cell", "count", "bound"]) fun _ _ _ _ _ _ us hl => match us, hl with | [_, _, _], _ => rfl
  have bT := FT.binds (ps := ["cell", "size"]) fun _ _ _ _ _ _ us hl => match us, hl with | [_, _], _ => rfl
  have bLT := FLT.binds (ps := ["text"]) fun _ _ _ _ _ _ us hl => match us, hl with | [_], _ => rfl
  have bUC := FUC.binds (ps := ["text"]) fun _ _ _ _ _ _ us hl => match us, hl with | [_], _ => rfl
  have bRW := FRW.binds (ps := ["text", "records", "reads"]) fun _ _ _ _ _ _ us hl => match us, hl with | [_, _, _], _ => rfl
  have bLA := FLA.binds (ps := ["text", "cell", "number"]) fun _ _ _ _ _ _ us hl => match us, hl with | [_, _, _], _ => rfl
  have bSH := FSH.binds (ps := ["path"]) fun _ _ _ _ _ _ us hl => match us, hl with | [_], _ => rfl
  have bTO := FTO.binds (ps := ["row"]) fun _ _ _ _ _ _ us hl => match us, hl with | [_], _ => rfl
  have bRI := FRI.binds (ps := ["pile", "text", "rows"]) fun _ _ _ _ _ _ us hl => match us, hl with | [_, _, _], _ => rfl
  have bMN := FMN.binds (ps := ["self", "text"]) fun _ _ _ _ _ _ us hl => match us, hl with | [_, _], _ => rfl
  have bMA := FMA.binds (ps := ["self", "record", "read"]) fun _ _ _ _ _ _ us hl => match us, hl with | [_, _, _], _ => rfl
  have bMS := FMS.binds (ps := ["self", "position"]) fun _ _ _ _ _ _ us hl => match us, hl with | [_, _], _ => rfl
  have bMT := FMT.binds (ps := ["self", "position"]) fun _ _ _ _ _ _ us hl => match us, hl with | [_, _], _ => rfl
  have bMD := FMD.binds (ps := ["self"]) fun _ _ _ _ _ _ us hl => match us, hl with | [_], _ => rfl
  have bMM := FMM.binds (ps := ["self"]) fun _ _ _ _ _ _ us hl => match us, hl with | [_], _ => rfl
  refine ⟨PySem.W.fnOf "law" "law" (defArgs sLaw) (defBody sLaw) (defScope sLaw) .none kVL dcL pmL anL cdL ctL, fun s v => .of_eq rfl, fun base KX GX => ?_⟩
  have XT : PlT K mg C := ⟨⟨pg, hd, po, sa⟩, u0, u1, PySem.W.mg_of X G gC, ⟨_, PySem.W.mg_of X G nEX⟩, ⟨_, PySem.W.mg_of X G nGA⟩, ⟨_, PySem.W.mg_of X G nLE⟩⟩
  have DY : KD K w q0 fun c => .str (T [opp c]) := fun c hc => by
    rcases hc with e | e | e | e | e <;> subst e
    · exact ⟨_, _, _, eY, yY, vY0, ⟨_, rfl⟩⟩
    · exact ⟨_, _, _, eY, yY, vY1, ⟨_, rfl⟩⟩
    · exact ⟨_, _, _, eY, yY, vY2, ⟨_, rfl⟩⟩
    · exact ⟨_, _, _, eY, yY, vY3, ⟨_, rfl⟩⟩
    · exact ⟨_, _, _, eY, yY, vY4, ⟨_, rfl⟩⟩
  have zE := PySem.W.mg_none_of X G zenumerate
  have zL := PySem.W.mg_none_of X G zlist
  have zS := PySem.W.mg_none_of X G zsum
  have zT := PySem.W.mg_none_of X G ztuple
  have fin : ∀ base : Heap, FnOk l.prog w K mg base CX0 6 fa _ ["script"] (spLaw K) := fun base =>
    have hAg : Has l.prog w K mg base 1 "agree" ["first", "second"] (spAg) := ⟨fAG, _, ok_agree (k := 0) FAG, PySem.W.mg_of X G aAG, kAG, bAG⟩
    have hTu : Has l.prog w K mg base 3 "turned" ["text"] (spTurned) := ⟨fTU, _, ok_turned (k := 2) FTU (PySem.W.mg_none_of X G zreversed) (PySem.W.mg_of X G dY) DY, PySem.W.mg_of X G aTU, kTU, bTU⟩
    have hJp : Has l.prog w K mg base 3 "joined_path" ["cut_path"] (spJPath) := ⟨fJP, _, ok_jpath (k := 2) FJP zE B.int, PySem.W.mg_of X G aJP, kJP, bJP⟩
    have hR3 : Has l.prog w K mg base 4 "_law_row" ["cell", "count", "bound"] (spRow K) := ⟨fR, _, ok_row (k := 3) FR B, PySem.W.mg_of X G aR, kR, bR⟩
    have hLT : Has l.prog w K mg base 4 "_law_turned" ["text"] (spLTurned) := ⟨fLT, _, ok_lturned (k := 3) FLT, PySem.W.mg_of X G aLT, kLT, bLT⟩
    have hUC : Has l.prog w K mg base 4 "_law_uncut" ["text"] (spUncut) := ⟨fUC, _, ok_uncut (k := 3) FUC B, PySem.W.mg_of X G aUC, kUC, bUC⟩
    have hTO : Has l.prog w K mg base 4 "_law_told" ["row"] (spLTold K) := ⟨fTO, _, ok_ltold (k := 3) FTO B zS, PySem.W.mg_of X G aTO, kTO, bTO⟩
    have hS : HasM l.prog w K mg base C 4 "sums" ["self", "position"] (spPSums C) := ⟨fMS, _, ok_psums (k := 3) FMS XT zT, ⟨aMS, iMS, kMS⟩, bMS⟩
    have hT1 : HasM l.prog w K mg base C 1 "told" ["self", "position"] (spPTold C) := ⟨fMT, _, ok_ptold (k := 0) FMT XT (PySem.W.mg_none_of X G zmax) zS, ⟨aMT, iMT, kMT⟩, bMT⟩
    have hT4 : HasM l.prog w K mg base C 4 "told" ["self", "position"] (spPTold C) := ⟨fMT, _, ok_ptold (k := 3) FMT XT (PySem.W.mg_none_of X G zmax) zS, ⟨aMT, iMT, kMT⟩, bMT⟩
    have hD2 : HasM l.prog w K mg base C 2 "differences" ["self"] (spPDiffs C) := ⟨fMD, _, ok_pdiffs (k := 0) FMD XT zE hAg hT1, ⟨aMD, iMD, kMD⟩, bMD⟩
    have hAg3 : Has l.prog w K mg base 3 "agree" ["first", "second"] (spAg) := ⟨fAG, _, ok_agree (k := 2) FAG, PySem.W.mg_of X G aAG, kAG, bAG⟩
    have hT3 : HasM l.prog w K mg base C 3 "told" ["self", "position"] (spPTold C) := ⟨fMT, _, ok_ptold (k := 2) FMT XT (PySem.W.mg_none_of X G zmax) zS, ⟨aMT, iMT, kMT⟩, bMT⟩
    have hD4 : HasM l.prog w K mg base C 4 "differences" ["self"] (spPDiffs C) := ⟨fMD, _, ok_pdiffs (k := 2) FMD XT zE hAg3 hT3, ⟨aMD, iMD, kMD⟩, bMD⟩
    have hD3 : HasM l.prog w K mg base C 3 "differences" ["self"] (spPDiffs C) := ⟨fMD, _, ok_pdiffs (k := 1) FMD XT zE ⟨fAG, _, ok_agree (k := 1) FAG, PySem.W.mg_of X G aAG, kAG, bAG⟩ ⟨fMT, _, ok_ptold (k := 1) FMT XT (PySem.W.mg_none_of X G zmax) zS, ⟨aMT, iMT, kMT⟩, bMT⟩, ⟨aMD, iMD, kMD⟩, bMD⟩
    have hM4 : HasM l.prog w K mg base C 4 "mended" ["self"] (spPMended C) := ⟨fMM, _, ok_pmended (k := 2) FMM XT zL hD3, ⟨aMM, iMM, kMM⟩, bMM⟩
    have hA5 : HasM l.prog w K mg base C 4 "add" ["self", "record", "read"] (spPAdd C) := ⟨fMA, _, ok_padd (k := 2) FMA XT hTu hJp, ⟨aMA, iMA, kMA⟩, bMA⟩
    ok_law FL B XT zL ⟨fC, _, ok_cell (k := 4) FC B, PySem.W.mg_of X G aC, kC, bC⟩ ⟨fT, _, ok_text (k := 3) FT B (ok_row FR B) (PySem.W.mg_of X G aR) kR bR, PySem.W.mg_of X G aT, kT, bT⟩ ⟨fR, _, ok_row (k := 4) FR B, PySem.W.mg_of X G aR, kR, bR⟩
      ⟨fRI, _, ok_right (k := 1) FRI XT B zL zT hTO hS hT4 hD4 hM4, PySem.W.mg_of X G aRI, kRI, bRI⟩ ⟨fRW, _, ok_rows (k := 3) FRW B zL hLT hUC, PySem.W.mg_of X G aRW, kRW, bRW⟩ ⟨fLA, _, ok_laid (k := 3) FLA B hR3 hLT, PySem.W.mg_of X G aLA, kLA, bLA⟩ ⟨fSH, _, ok_lcut (k := 4) FSH B, PySem.W.mg_of X G aSH, kSH, bSH⟩
      ⟨fMA, _, ok_padd (k := 3) FMA XT ⟨fTU, _, ok_turned (k := 3) FTU (PySem.W.mg_none_of X G zreversed) (PySem.W.mg_of X G dY) DY, PySem.W.mg_of X G aTU, kTU, bTU⟩ ⟨fJP, _, ok_jpath (k := 3) FJP zE B.int, PySem.W.mg_of X G aJP, kJP, bJP⟩, ⟨aMA, iMA, kMA⟩, bMA⟩ ⟨fMN, _, ⟨mk, aMN, iMN, kc⟩, ok_pinit (k := 3) FMN XT B, bMN⟩
  exact fin base
end Hr
open PySem PySem.W PyProof.Rows
set_option maxHeartbeats 0 in
theorem PySem.Challenge.cw_homereads_k34_piles_and_mended_texts_holds : PySem.Challenge.rw_homereads_k34_piles_and_mended_texts.Holds := by
  w_on; o_law; k_head; (case hw => w_witness2)
  k_fill
  refine L2.walk_of (l := PySem.Challenge.rw_homereads_k34_piles_and_mended_texts) (n := 63) (k := 6) (x := "script") (CX := fun _ => L2.CX0) (sp := fun w => Hr.spLaw _) rfl (by decide) rfl ⟨rfl, by decide, by decide⟩ (fun w h Y => PySem.W.kIn_of Y) ?F (fun _ _ a ns hl _ hS => ⟨a, ns, rfl, hS, fun _ => rfl⟩) (fun _ _ _ _ _ h => h)
  case F =>
    intro w mg fa h KX G hmg
    refine' Hr.all_mk KX G hmg ?aAG ?lAG ?cAG ?kAG ?aTU ?lTU ?cTU ?kTU ?aJP ?lJP ?cJP ?kJP ?aC ?lC ?cC ?kC ?aR ?lR ?cR ?kR ?aT ?lT ?cT ?kT ?aLT ?lLT ?cLT ?kLT ?aUC ?lUC ?cUC ?kUC ?aRW ?lRW ?cRW ?kRW ?aLA ?lLA ?cLA ?kLA ?aSH ?lSH ?cSH ?kSH ?aTO ?lTO ?cTO ?kTO ?aRI ?lRI ?cRI ?kRI ?aL ?lL ?cL ?kL ?aMN ?iMN ?lMN ?cMN ?kMN ?aMA ?iMA ?lMA ?cMA ?kMA ?aMS ?iMS ?lMS ?cMS ?kMS ?aMT ?iMT ?lMT ?cMT ?kMT ?aMD ?iMD ?lMD ?cMD ?kMD ?aMM ?iMM ?lMM ?cMM ?kMM ?nEX ?nGA ?nLE ?gC ?pg ?hd ?po ?sa ?mk ?kc ?u0 ?u1 ?dY ?eY ?yY ?vY0 ?vY1 ?vY2 ?vY3 ?vY4 ?zlen ?zint ?zabs ?zrange ?zisinstance ?zbool ?zstr ?zlist ?ztuple ?zenumerate ?zsum ?zmax ?zreversed
    (case gC => k_is)
    (case aAG => k_is)
    (case lAG => k_is)
    (case cAG => k_is)
    (case kAG => k_is)
    (case aTU => k_is)
    (case lTU => k_is)
    (case cTU => k_is)
    (case kTU => k_is)
    (case aJP => k_is)
    (case lJP => k_is)
    (case cJP => k_is)
    (case kJP => k_is)
    (case aC => k_is)
    (case lC => k_is)
    (case cC => k_is)
    (case kC => k_is)
    (case aR => k_is)
    (case lR => k_is)
    (case cR => k_is)
    (case kR => k_is)
    (case aT => k_is)
    (case lT => k_is)
    (case cT => k_is)
    (case kT => k_is)
    (case aLT => k_is)
    (case lLT => k_is)
    (case cLT => k_is)
    (case kLT => k_is)
    (case aUC => k_is)
    (case lUC => k_is)
    (case cUC => k_is)
    (case kUC => k_is)
    (case aRW => k_is)
    (case lRW => k_is)
    (case cRW => k_is)
    (case kRW => k_is)
    (case aLA => k_is)
    (case lLA => k_is)
    (case cLA => k_is)
    (case kLA => k_is)
    (case aSH => k_is)
    (case lSH => k_is)
    (case cSH => k_is)
    (case kSH => k_is)
    (case aTO => k_is)
    (case lTO => k_is)
    (case cTO => k_is)
    (case kTO => k_is)
    (case aRI => k_is)
    (case lRI => k_is)
    (case cRI => k_is)
    (case kRI => k_is)
    (case aL => k_is)
    (case lL => k_is)
    (case cL => k_is)
    (case kL => k_is)
    (case aMN => k_is)
    (case iMN => k_is)
    (case lMN => k_is)
    (case cMN => k_is)
    (case kMN => k_is)
    (case aMA => k_is)
    (case iMA => k_is)
    (case lMA => k_is)
    (case cMA => k_is)
    (case kMA => k_is)
    (case aMS => k_is)
    (case iMS => k_is)
    (case lMS => k_is)
    (case cMS => k_is)
    (case kMS => k_is)
    (case aMT => k_is)
    (case iMT => k_is)
    (case lMT => k_is)
    (case cMT => k_is)
    (case kMT => k_is)
    (case aMD => k_is)
    (case iMD => k_is)
    (case lMD => k_is)
    (case cMD => k_is)
    (case kMD => k_is)
    (case aMM => k_is)
    (case iMM => k_is)
    (case lMM => k_is)
    (case cMM => k_is)
    (case kMM => k_is)
    (case nEX => k_is)
    (case nGA => k_is)
    (case nLE => k_is)
    (case pg => k_is)
    (case hd => k_is)
    (case po => k_is)
    (case sa => k_is)
    (case mk => k_is)
    (case kc => k_is)
    (case u0 => k_is)
    (case u1 => k_is)
    (case dY => k_is)
    (case eY => k_is)
    (case yY => k_keys)
    (case vY0 => k_is)
    (case vY1 => k_is)
    (case vY2 => k_is)
    (case vY3 => k_is)
    (case vY4 => k_is)
    (case zlen => k_is)
    (case zint => k_is)
    (case zabs => k_is)
    (case zrange => k_is)
    (case zisinstance => k_is)
    (case zbool => k_is)
    (case zstr => k_is)
    (case zlist => k_is)
    (case ztuple => k_is)
    (case zenumerate => k_is)
    (case zsum => k_is)
    (case zmax => k_is)
    (case zreversed => k_is)
