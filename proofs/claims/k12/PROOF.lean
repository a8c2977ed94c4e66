import PyProof.Rows.All
import Wide.All
import OpenK.AllK
import Wide.FinOn
import HandS.Base
import HandS.Call
import HandS.List
import HandS.Comp
import HandS.Ends
import HandS.Dict
import HandS.Iter
import HandS.Text
import HandS.Words
import HandS.WordsList
import HandS.More
import HandS.Codes
import HandS.Replace
import HandS.IsInst
import HandS.ExcInit
import HandS.WordsExc
import HandS.Exc
import HandS.TryOnly
import HandS.ExcOwn
import KE.SortKeyHeap
import HandS.Lambda
import HandS.Nested
import HandS.SortKw
import HandS.EndTab
import HandS.SetFor
import HandS.Strs
import HandS.SortInts
import HandS.Zip
import HandS.DictComp
import KE.GoesEnumKw
import KE.OsSetLaws
import PySem.Challenge.RW_homereads_k12_suffix_rows
set_option Elab.async false
set_option linter.all false
set_option maxRecDepth 100000
set_option maxHeartbeats 4000000
namespace Hr
open PySem PySem.Spec PyProof.Rows L2
section
open PySem PySem.W PySem.Calls PyProof.Rows
/-! ### sorted by keys that are new lists -/
/-- a call that keeps what was there and gives a key; the lists in it are new -/
def KeyNew (k : PyData) (s1 : Shared) (v : Value) (s2 : Shared) : Prop :=
  ∃ (g : Heap) (t : Nat), s2 = { s1 with heap := g, toks := t } ∧ (∀ c x, s1.heap.get? c = some x → g.get? c = some x) ∧ ∃ ls, Reads g v k ls ∧ ∀ c ∈ ls, s1.heap.get? c = none
/-- what the keys that are there read as, off lists other than the store's -/
def KeysIn (kS : Addr) (g : Heap) (us : List Value) (ds : List PyData) : Prop := EachIs (fun u d => (∃ ls, Reads g u d ls ∧ kS ∉ ls) ∧ alike d d = true) us ds
section
variable {pr : Program} {wo : World} {Ar : Around} {Ex : Value → Shared → Prop} {st : Shared}
theorem fresh_rest {a kS : Addr} {e1 : Nat} {rv : Bool} {vs : List Value} {kz : List PyData} {P : PySem.Fin → Shared → Prop} {f : Value} {h0 : Heap} (kp : KeepsBut a h0 st.heap) (hkS : h0.get? kS = none) (nk : st.heap.get? kS = some (seqObj "list" #[] 0))
    (na : st.heap.get? a = some (seqObj "list" #[] e1)) (ne : kS ≠ a) (hl : kz.length = vs.length) (hz : vs.length ≤ sizeLine) (hal : AllAlike kz) (hsk : Sortable kz) (hu : ∀ d, d ∈ kz → Ar.units + d.depth < cLine)
    (turn : ∀ (i : Nat) (v : Value) (k : PyData), vs[i]? = some v → kz[i]? = some k → ∀ (g : Heap) (t : Nat), KeepsBut a h0 g → wpAny (model pr wo) Ar (call f [v]) (KeyNew k { st with heap := g, toks := t }) (fun _ _ => False) { st with heap := g, toks := t })
    (fin : ∀ g t out c, KeepsBut a h0 g → g.get? a = some (seqObj "list" (List.toArray out) c) → KeyedOut rv kz vs out → P (.done (.ret .none)) { st with heap := g, toks := t }) :
    wpAny (model pr wo) Ar (ksk_rest a f rv vs.toArray e1 (.ref kS)) P Ex st := by
  unfold ksk_rest
  refine wpAny_bind (wpAny_rule ?_)
  first
    | rw [List.forIn_toArray]
    | (rw [← Array.forIn_toList]; simp only [List.toList_toArray])
    | rw [← Array.forIn_toList]
  refine wpAny_bind (ksk_fold (fun i s1 => ∃ (g : Heap) (t : Nat) (ka : Array Value) (e : Nat), s1 = { st with heap := g, toks := t } ∧ KeepsBut a h0 g ∧ g.get? kS = some (seqObj "list" ka e) ∧ g.get? a = some (seqObj "list" #[] e1) ∧ KeysIn kS g ka.toList (kz.take i))
    vs 0 st ⟨st.heap, st.toks, #[], 0, rfl, kp, nk, na, by rw [List.take_zero]; exact EachIs.nil⟩ ?turnK ?endK)
  case turnK =>
    rintro j x s1 hx ⟨g, t, ka, e, rfl, kg, nkg, nag, hk⟩
    simp only [Nat.zero_add] at hk ⊢
    have hj : j < vs.length := (List.getElem?_eq_some_iff.mp hx).1
    have hjk : j < kz.length := by omega
    have hkj : kz[j]? = some kz[j] := List.getElem?_eq_getElem hjk
    have hkk : alike kz[j] kz[j] = true := hal _ (List.getElem_mem hjk) _ (List.getElem_mem hjk)
    have hn : ka.size ≤ vs.length := by
      have q := EachIs.length hk
      rw [Array.length_toList, List.length_take] at q
      omega
    refine wpAny_bind (wpAny_attempt (wpAny_mono (turn j x kz[j] hx hkj g t kg) (fun v s2 q => ?_) fun _ _ z => z.elim))
    obtain ⟨g2, t2, rfl, kg2, ls, rd, fr⟩ := q
    try dsimp only
    have nk2 := kg2 _ _ nkg
    have na2 := kg2 _ _ nag
    have sb := Heap.SameBut.update g2 kS (Obj.mapSeq (·.push v))
    obtain ⟨c2, at2⟩ : ∃ c2, (g2.update kS (Obj.mapSeq (·.push v))).get? kS = some (seqObj "list" (ka.push v) c2) := ⟨_, get?_update_seq nk2 (·.push v)⟩
    have ek : kz.take (j + 1) = kz.take j ++ [kz[j]] := by rw [List.take_add_one, hkj]; rfl
    have ea : (ka.push v).toList = ka.toList ++ [v] := by simp
    refine wpAny_bind (listUpdate_at nk2 rfl ?_ (Nat.le_trans hn hz) (Nat.le_trans (Nat.le_of_eq (Array.size_push ..)) (Nat.succ_le_succ (Nat.le_trans hn hz))))
    have stay : ∀ (u : Value) (d : PyData), ((∃ ls, Reads g2 u d ls ∧ kS ∉ ls) ∧ alike d d = true) → (∃ ls, Reads (g2.update kS (Obj.mapSeq (·.push v))) u d ls ∧ kS ∉ ls) ∧ alike d d = true := fun u d q => by
      obtain ⟨⟨l2, r2, n2⟩, al⟩ := q
      exact ⟨⟨l2, Reads.keepBut (a := kS) (fun c o hc z => (sb.2 c hc).trans z) (fun o z => by rw [nk2] at z; rw [← Option.some.inj z]) d u l2 al r2 n2, n2⟩, al⟩
    have nls : kS ∉ ls := fun z => by
      have q := fr kS z
      rw [show ({ st with heap := g, toks := t } : Shared).heap.get? kS = some (seqObj "list" ka e) from nkg] at q
      cases q
    refine wpAny_pure ⟨rfl, _, _, ka.push v, c2, rfl, (kg.trans_all kg2).same sb (.inr hkS), at2, (sb.2 a ne.symm).trans na2, ?_⟩
    rw [ea, ek]
    refine each_snoc (R := fun (u : Value) (d : PyData) => (∃ ls, Reads (g2.update kS (Obj.mapSeq (·.push v))) u d ls ∧ kS ∉ ls) ∧ alike d d = true) (stay v kz[j] ⟨⟨ls, rd, nls⟩, hkk⟩) ?_
    exact EachIs.mono (fun u d q => by
      obtain ⟨⟨l2, r2, n2⟩, al⟩ := q
      exact stay u d ⟨⟨l2, PyProof.Rows.Reads.keeps kg2 r2, n2⟩, al⟩) hk
  case endK =>
    rintro s1 ⟨g, t, ka, e, rfl, kg, nkg, nag, hk⟩
    have hk2 : EachIs (fun v k => ∃ ls, Reads g v k ls) ka.toList kz := by
      have q : kz.take (0 + vs.length) = kz := List.take_of_length_le (by omega)
      rw [q] at hk
      exact EachIs.mono (fun v k y => by
        obtain ⟨⟨ls, r, _⟩, _⟩ := y
        exact ⟨ls, r⟩) hk
    have hn : ka.size = vs.length := by
      have q := hk2.length
      rw [Array.length_toList] at q
      omega
    try dsimp only
    refine wpAny_bind (listItems_at nkg rfl ?_)
    exact keyH_end (κ := dataKind g kz) (h₁ := h0) kg hkS nkg nag ne (SortsAt.data (s := { st with heap := g, toks := t }) hk2 hal hsk hu) hn hz fun h3 t3 c k3 n3 => fin h3 t3 _ c k3 n3 ⟨g, ka.toList, hal, rfl, hk2⟩
theorem fresh_tree {a : Addr} {rv : Bool} {vs : List Value} {kz : List PyData} {P : PySem.Fin → Shared → Prop} {f : Value} {n : Nat} (at0 : st.heap.get? a = some (seqObj "list" vs.toArray n)) (hl : kz.length = vs.length) (hz : vs.length ≤ sizeLine) (hal : AllAlike kz) (hsk : Sortable kz)
    (hu : ∀ d, d ∈ kz → Ar.units + d.depth < cLine) (turn : ∀ (i : Nat) (v : Value) (k : PyData), vs[i]? = some v → kz[i]? = some k → ∀ (g : Heap) (t : Nat), KeepsBut a st.heap g → wpAny (model pr wo) Ar (call f [v]) (KeyNew k { st with heap := g, toks := t }) (fun _ _ => False) { st with heap := g, toks := t })
    (fin : ∀ g t out c, KeepsBut a st.heap g → g.get? a = some (seqObj "list" (List.toArray out) c) → KeyedOut rv kz vs out → P (.done (.ret .none)) { st with heap := g, toks := t }) :
    wpAny (model pr wo) Ar (ksk_tree a f rv) P Ex st := by
  have la : a < st.heap.objs.size := Heap.lt_size at0
  obtain ⟨e1, at1⟩ : ∃ e1, (st.heap.update a (Obj.mapSeq fun _ => (#[] : Array Value))).get? a = some (seqObj "list" #[] e1) := ⟨_, get?_update_seq at0 fun _ => #[]⟩
  have sz : ((st.heap.update a (Obj.mapSeq fun _ => (#[] : Array Value))).push (seqObj "tuple" vs.toArray 0)).objs.size = st.heap.objs.size + 1 := by rw [size_push', Heap.size_update]
  unfold ksk_tree
  refine wpAny_bind (listItems_at at0 rfl (wpAny_bind (listUpdate_at at0 rfl ?_ (by rw [List.size_toArray]; exact hz) (Nat.zero_le _))))
  refine wpAny_bind (seqEpoch_at at1 rfl (wpAny_bind (wpAny_newTuple ?_ (by show vs.length ≤ _; exact hz))))
  refine wpAny_bind (wpAny_newList (wpAny_holding ?_) (Nat.zero_le _))
  exact fresh_rest (kz := kz) (h0 := st.heap) (st := { st with heap := ((st.heap.update a (Obj.mapSeq fun _ => (#[] : Array Value))).push (seqObj "tuple" vs.toArray 0)).push (seqObj "list" #[] 0) }) (kS := ((st.heap.update a (Obj.mapSeq fun _ => (#[] : Array Value))).push (seqObj "tuple" vs.toArray 0)).objs.size)
    (fun c o hc q => sortingHeap_old hc q) (Heap.get?_none_of_le (by rw [sz]; exact Nat.le_succ _)) (Heap.get?_push_size _ rfl) (Heap.get?_push_of_some _ (Heap.get?_push_of_some _ at1)) (by rw [sz]; exact Nat.ne_of_gt (Nat.lt_succ_of_lt la)) hl hz hal hsk hu turn fin
/-- sorted(xs, key=f): f's keys hold new lists -/
theorem sorted_fresh {β : Type} {bs : List β} {vs : List Value} {R : Value → β → Prop} {l : Addr} {f : Addr} {Q : Value → Shared → Prop} (k : β → PyData) (hls : st.heap.IsList l vs.toArray) (e : EachIs R vs bs) (hal : AllAlike (bs.map k)) (hsk : Sortable (bs.map k)) (hz : bs.length ≤ sizeLine)
    (hu : ∀ x, x ∈ bs → Ar.units + 2 + (k x).depth < cLine)
    (turn : ∀ (v : Value) (x : β), R v x → x ∈ bs → ∀ (g : Heap) (t : Nat), (∀ c o, st.heap.get? c = some o → g.get? c = some o) → wpAny (model pr wo) Ar.in1.in1 (call (.ref f) [v]) (KeyNew (k x) { st with heap := g, toks := t }) (fun _ _ => False) { st with heap := g, toks := t })
    (fin : ∀ out c g t, (∀ b o, st.heap.get? b = some o → g.get? b = some o) → st.heap.get? (st.heap.objs.size + 1) = none → g.get? (st.heap.objs.size + 1) = some (seqObj "list" (List.toArray out) c) → out.length = bs.length → EachIs R out (bs.mergeSort (dataLe false k)) → Q (.ref (st.heap.objs.size + 1)) { st with heap := g, toks := t }) :
    wpAny (model pr wo) Ar (call (.builtin "sorted") [.ref l] [(Str.ofString "key", .ref f)]) Q Ex st := by
  have none1 : st.heap.get? (st.heap.objs.size + 1) = none := Heap.get?_none_of_le (Nat.le_succ _)
  have up : ∀ {g : Heap}, KeepsBut (st.heap.objs.size + 1) (copyHeap st.heap vs) g → ∀ c o, st.heap.get? c = some o → g.get? c = some o := fun {g} kp c o q => kp c o (Nat.ne_of_lt (Nat.lt_succ_of_lt (Heap.lt_size q))) (copyHeap_old q)
  have hlen : (bs.map k).length = vs.length := by rw [List.length_map]; exact e.length.symm
  refine sorted_of_sort hls (by rw [e.length]; exact hz) (ksk_s1 _ _) (fun _ => ksk_l1 _ _) fun E' => ?_
  rw [ksk_t1]
  refine fresh_tree (kz := bs.map k) (st := { st with heap := copyHeap st.heap vs }) (copyHeap_at st.heap vs) hlen (by rw [e.length]; exact hz) hal hsk (bound_map (A := Ar.in1.in1) hu) (fun i v d hv hd g t kp => ?_) fun g t out c kp hD ko => ⟨rfl, ?_⟩
  · rw [List.getElem?_map] at hd
    cases q : bs[i]? with
    | none =>
      rw [q] at hd
      cases hd
    | some x =>
      rw [q] at hd
      cases hd
      have hm : (v, x) ∈ vs.zip bs := List.mem_of_getElem? (i := i) (by rw [List.getElem?_zip_eq_some]; exact ⟨hv, q⟩)
      exact turn v x (e.zip _ hm) (List.mem_of_getElem? q) g t (up kp)
  · exact fin out c g t (up kp) none1 hD ((ko.length hlen).trans e.length) (keyedOut_each k ko e)
end
end
section
open PySem PySem.Spec PyProof.Rows L2 PySem.W
/-- xs[start:] of a list of ints, start within it, as data -/
abbrev tailD (ns : List Int) (k : Nat) : PyData := .list ((ns.drop k).map .int)
theorem readsAll_ints {h : Heap} : ∀ {us : List Value} {ns : List Int}, IntsAre us ns → ReadsAll h us (ns.map .int) []
  | _, _, .nil => .nil
  | _, _, .cons n t r => .cons (as := []) (.int n t) (readsAll_ints r)
theorem intsAre_drop : ∀ {us : List Value} {ns : List Int} (k : Nat), IntsAre us ns → IntsAre (us.drop k) (ns.drop k)
  | _, _, 0, h => h
  | _, _, _ + 1, .nil => .nil
  | _, _, k + 1, .cons _ _ r => intsAre_drop k r
section
variable {pr : Program} {wo : World} {Ar : Around} {st : Shared}
/-- the key's call: lambda start: numbers[start:] -/
theorem tail_call {f c' b cc : Addr} {q : Str} {params : Arguments} {scope : Scope} {cl : List (Str × Addr)} {pm ctv : Value} {p1 p2 p3 p4 : Pos} {xs y : Str} {us : List Value} {ns : List Int} {k : Nat} {t : Tok}
    (hf : st.heap.get? f = some (kla_obj "<lambda>" q params (.Subscript (.Name xs p1) (.Slice (some (.Name y p2)) none none p3) p4) scope cl pm c' ctv)) (hcd : st.heap.CodeRec (.ref c') q) (lim : st.heap.NoLimit) (hroom : Ar.depth < recursionLimit)
    (kd : scope.kind = .function) (co : scope.isCoroutine = false) (gn : scope.isGenerator = false) (ky : scope.names.lookup y = some .local) (kx : scope.names.lookup xs = some .free) (nc : ∀ z ∈ scope.names, z.2 ≠ .cell)
    (hb : ∀ (cl : List (Str × Addr)) (pm cv ctv : Value), bindArgs (kla_fn "<lambda>" q params (.Subscript (.Name xs p1) (.Slice (some (.Name y p2)) none none p3) p4) scope cl pm cv ctv) ⟨[.int (k : Int) t], []⟩ = pure [(y, .int (k : Int) t)])
    (hcl : cl.lookup xs = some cc) (hcell : st.heap.IsCell cc (some (.ref b))) (hls : st.heap.IsList b us.toArray) (hi : IntsAre us ns) (hz : ns.length ≤ sizeLine) (hk : k ≤ ns.length)
    (dx : (xs == ("__debug__" : Str)) = false := by decide) (cx : (xs == ("__classdict__" : Str)) = false := by decide) (dy : (y == ("__debug__" : Str)) = false := by decide) :
    wpAny (model pr wo) Ar (call (.ref f) [.int (k : Int) t]) (KeyNew (tailD ns k) st) (fun _ _ => False) st := by
  have rc : codeAny (model pr wo) Ar (.call (.ref f) ⟨[.int (k : Int) t], []⟩) (fun r s' => ∃ u, r = .ok (.ret u) ∧ KeyNew (tailD ns k) st u s') st := by
    refine kla_callFunE hroom hf rfl co gn rfl hcd ?_
    rw [hb]
    refine wpAny_pure (wpAny_newFunctionEnv nc (fun z hz => ?_) (fun h1 hns hsb => ⟨lim.fresh _ hsb, ?_⟩) kd)
    · have e : z = (y, .int (k : Int) t) := List.mem_singleton.mp hz
      rw [e]
      exact ky
    have kp : ∀ c o, st.heap.get? c = some o → h1.get? c = some o := fun c o e => hsb.extBut c o (Nat.ne_of_lt (Heap.lt_size e)) (Heap.get?_push_of_some _ e)
    show codeAny _ _ (.expr _ (envX q scope st.heap.objs.size f (.ref c') cl)) _ _
    refine kla_codeExpr ?_
    refine Subscript_ (wpAny_Name (wpAny_loadName_free kd kx hcl (v := .ref b) (let ⟨o, ho, hd⟩ := hcell; ⟨o, kp _ _ ho, hd⟩) ?_ cx) dx)
    refine wpAny_Slice ?_
    rw [evalPart_some]
    refine wpAny_Name ?_ dy
    refine wpAny_loadName_local (v := .int (k : Int) t) kd ky hns (by simp [List.lookup]) ?_
    rw [evalPart_none]
    refine wpAny_pure ?_
    refine wpAny_pure ?_
    have hl2 : ∀ (o : Obj), (h1.push o).IsList b us.toArray := fun o => by
      obtain ⟨x, h, r⟩ := hls
      exact ⟨x, Heap.get?_push_of_some _ (kp _ _ h), r⟩
    have hlen := hi.length
    show wpAny (model pr wo) _ (subscriptTail _ _ (.ref b) (.ref h1.objs.size)) _ _ { st with heap := h1.push { cls := .type "slice", data := .fields #[.int (k : Int) t, .none, .none] }, toks := _ }
    refine tail_any (ops := [.ref h1.objs.size, .ref b]) (T := "list") ?_ slot_list_getitem.lookup ?_ (by with_unfolding_all rfl)
    · exact (hl2 _).typeIs
    · refine wpAny_getItem_list_slice (hl2 _) (Heap.IsSliceOf.new ..) (.int (k : Int) t) .none .none (by simp) ?_ (by rw [List.size_toArray] <;> omega)
      have e1 : slicePick us.toArray (some (k : Int)) none none = (us.drop k).toArray := by
        rw [slicePick_cut, HT.sIx_nat, HT.sIx_none, Nat.min_eq_left (by omega), List.take_of_length_le (by rw [List.length_drop]; omega)]
      rw [e1]
      have big : st.heap.objs.size ≤ (h1.push { cls := .type "slice", data := .fields #[.int (k : Int) t, .none, .none] }).objs.size := by
        rw [Heap.size_push]
        have q : st.heap.objs.size < h1.objs.size := hns.lt
        omega
      refine ⟨_, rfl, _, _, rfl, fun c o e => Heap.get?_push_of_some _ (Heap.get?_push_of_some _ (kp c o e)), [(h1.push { cls := .type "slice", data := .fields #[.int (k : Int) t, .none, .none] }).objs.size], ?_, fun c hc => ?_⟩
      · refine .list (as := []) (Heap.get?_push_size _ rfl) rfl rfl ?_
        rw [List.toList_toArray]
        exact readsAll_ints (intsAre_drop k hi)
      · have e := List.mem_singleton.mp hc
        rw [e]
        exact Heap.get?_none_of_le big
  refine wpAny_call (codeAny_mono rc fun r s' hq => ?_)
  obtain ⟨u, rfl, q⟩ := hq
  exact q
end
end
section
open PySem PySem.Spec PyProof.Rows L2 LamX PySem.W
theorem sql_ext {K : PySem.W.Frag} {H H' : Hp} {a : Addr} {xs : List V} (h : SqL K H a xs) (e : ExtN H H') : SqL K H' a xs := by
  rcases h with (h | ⟨o, h⟩) | h
  · exact .inl (.inl (e _ _ h fun ps z => by cases z))
  · exact .inl (.inr ⟨o, e _ _ h fun ps z => by cases z⟩)
  · exact .inr h
theorem nats_of : ∀ {us : List Value} {ks : List Nat}, Vals (ks.map fun k => V.int (k : Nat)) us → EachIs (fun (v : Value) (k : Nat) => ∃ t, v = .int (k : Int) t) us ks
  | us, [], h => by
    cases h
    exact .nil
  | us, k :: ks, h => by
    rw [List.map_cons] at h
    cases h with
    | cons r1 r2 => exact .cons r1 (nats_of r2)
theorem vals_nats : ∀ {us : List Value} {ks : List Nat}, EachIs (fun (v : Value) (k : Nat) => ∃ t, v = .int (k : Int) t) us ks → Vals (ks.map fun k => V.int (k : Nat)) us
  | _, _, .nil => .nil
  | _, _, .cons r1 r2 => .cons r1 (vals_nats r2)
/-- sorted(.., key=lambda y: xs[y:]), xs in slot j -/
def tTails (K : PySem.W.Frag) (T : List (Addr × Str)) (j : Nat) (te : TE) : TE := fun σ H Q => te σ H fun v H1 => Tabs T H1 ∧ ∃ (a b : Addr) (ks : List Nat) (ns : List Int), v = .ref a ∧ σ[j]? = some (some (.ref b)) ∧ SqL K H1 a (ks.map fun k => V.int (k : Nat)) ∧
  SqL K H1 b (ns.map V.int) ∧ (∀ k ∈ ks, k ≤ ns.length) ∧ ∀ (H2 : Hp) (p : Addr), ExtN H1 H2 → Tabs T H2 → H2 p = none → Q (.ref p) (upd H2 p (.lst ((ks.mergeSort fun x y => decide (ns.drop x ≤ ns.drop y)).map fun k => V.int (k : Nat))))
theorem pe_tails {X : Cx} {T : List (Addr × Str)} {c P : Addr} {j : Nat} {e : Expr} {te : TE} {xs y : Str} {params : Arguments} {scope : Scope} {p pos lpos kpos p1 p2 p3 p4 : Pos} (hg : Gl X "sorted") (hm : X.mg "sorted" = none) (ha : PA X [e] (tCons te tNil)) (TB : TabB X.base X.mg c P) (hcode : X.env.code = .ref c)
    (hmT : (P, X.env.qual ++ "<lambda>") ∈ T) (hu : ∀ p ∈ T, p.1 = P → p.2 = X.env.qual ++ "<lambda>") (hr : Room 3 X.A) (hN : X.N[j]? = some xs) (hcx : X.env.scope.names.lookup xs = some .cell)
    (hfree : ∀ z ∈ scope.names, z.2 = .free → z.1 = xs) (kd : scope.kind = .function) (co : scope.isCoroutine = false) (gn : scope.isGenerator = false) (ky : scope.names.lookup y = some .local) (kx : scope.names.lookup xs = some .free) (nc : ∀ z ∈ scope.names, z.2 ≠ .cell)
    (hdef : defaultsOf params X.env = ([], []))
    (hb : ∀ (q : Str) (cl : List (Str × Addr)) (pm cv ctv u : Value), bindArgs (PySem.W.kla_fn "<lambda>" q params (.Subscript (.Name xs p1) (.Slice (some (.Name y p2)) none none p3) p4) scope cl pm cv ctv) ⟨[u], []⟩ = pure [(y, u)])
    (dx : (xs == ("__debug__" : Str)) = false := by decide) (cx : (xs == ("__classdict__" : Str)) = false := by decide) (dy : (y == ("__debug__" : Str)) = false := by decide)
    (he1 : backTo pos (starEach [e] X.env) = (false, eval e X.env) :: backTo pos (starEach [] X.env) := by rfl) (hpl : (backTo pos (starEach [e] X.env)).any (·.1) = false := by rfl) :
    PE X (.Call (.Name "sorted" p) [e] [⟨some "key", .Lambda params (.Subscript (.Name xs p1) (.Slice (some (.Name y p2)) none none p3) p4) scope lpos, kpos⟩] pos) (tTails X.K T j te) := by
  refine ⟨fun pins s σ H Q I h => ?_⟩
  refine wpAny_Call_Name_kw (ld_blt I hg hm (by rfl) ?_)
  have h2 : tCons te tNil σ H fun vs H1 => match vs with
      | [v] => Tabs T H1 ∧ ∃ (a b : Addr) (ks : List Nat) (ns : List Int), v = .ref a ∧ σ[j]? = some (some (.ref b)) ∧ SqL X.K H1 a (ks.map fun k => V.int (k : Nat)) ∧
        SqL X.K H1 b (ns.map V.int) ∧ (∀ k ∈ ks, k ≤ ns.length) ∧ ∀ (H2 : Hp) (p : Addr), ExtN H1 H2 → Tabs T H2 → H2 p = none → Q (.ref p) (upd H2 p (.lst ((ks.mergeSort fun x y => decide (ns.drop x ≤ ns.drop y)).map fun k => V.int (k : Nat))))
      | _ => False := h
  refine PyProof.Rows.callWith_kw (thn (ha.run pos pins s σ H _ I h2) fun us s1 ⟨vs, H1, I1, r1, hq⟩ => ?_) he1 hpl (by rfl) (by rfl)
  obtain ⟨v, rfl⟩ : ∃ v, vs = [v] := by
    match vs, hq with
    | [v], _ => exact ⟨v, rfl⟩
  obtain ⟨hT, a, b, ks, ns, ea, hσ, hA, hB, hk, q⟩ := hq
  subst ea
  obtain ⟨u, rfl, ru⟩ := vals1 r1
  obtain rfl : u = Value.ref a := ru
  have hf1 : ∀ z ∈ scope.names, z.2 = .free → X.env.scope.names.lookup z.1 = some .cell := fun z hz e => by
    rw [hfree z hz e]
    exact hcx
  have hf2 : ∀ z ∈ scope.names, z.2 = .free → ∃ c, X.env.cells.lookup z.1 = some c := fun z hz e => I1.ok.has _ (.inl (hf1 z hz e))
  show wpAny _ _ (evalAll [(do let v ← eval (.Lambda params (.Subscript (.Name xs p1) (.Slice (some (.Name y p2)) none none p3) p4) scope lpos) X.env; standAt pos; pure v)]) _ _ s1
  refine wpAny_evalAll_cons (wpAny_bind (lam_make2 I1 TB hcode hmT hu hT hdef hf2 fun f c' pm' ctv H2 s2 I2 eN T2 hf hfn hfr hco => wpAny_bind (wpAny_standAt (wpAny_pure (wpAny_evalAll_nil ?_)))))
  show wpAny _ _ (call (.builtin "sorted") [.ref a] [(Str.ofString "key", .ref f)]) _ _ s2
  have hA2 := sql_ext hA eN
  have hB2 := sql_ext hB eN
  obtain ⟨itA, rvA, lA, zA⟩ := I2.list hA2
  obtain ⟨itB, rvB, lB, zB⟩ := I2.list hB2
  obtain ⟨m, hns, hl⟩ := I2.loc
  obtain ⟨w, rw1, lk⟩ := hl j xs (.ref b) hN hσ (.inr (.inl hcx))
  obtain rfl : w = Value.ref b := rw1
  obtain ⟨cc, hcc, hcell⟩ : ∃ cc, X.env.cells.lookup xs = some cc ∧ s2.heap.IsCell cc (some (.ref b)) := by
    rcases lk with ⟨z, _⟩ | ⟨_, z⟩
    · have z2 : X.env.scope.names.lookup xs = some .local := z
      rw [hcx] at z2
      cases z2
    · exact z
  have hmem : (xs, NameKind.free) ∈ scope.names := PySem.mem_of_lookup kx
  have hclo := NdefX.clo_has hf2 hmem hcc
  obtain ⟨⟨oc, fvs, tq, c1, c2, c3⟩, _, _⟩ := I2.hok c' _ hco
  have hiB : IntsAre itB ns := intsAre_of rvB
  have hlB := hiB.length
  have zB2 : ns.length ≤ sizeLine := by rw [List.length_map] at zB; exact zB
  have lenA := rvA.length
  rw [List.length_map] at lenA
  have eA := nats_of rvA
  refine sorted_fresh (R := fun (v : Value) (k : Nat) => ∃ t, v = .int (k : Int) t) (tailD ns) lA.isList eA (AllAlike.of fun _ _ => by simp only [alike]; exact alike_ints _ _) (Sortable.others fun k => ⟨(fun z => by cases z), (fun z1 z => by cases z)⟩) (by rw [List.length_map] at zA; exact zA) (fun x _ => ?_) (fun v x hv hx g t kg => ?_) fun out cN g t kg none1 hD ho eo => ?_
  · have e : (tailD ns x).depth = 1 := by
      show PyData.depthAll _ + 1 = 1
      rw [PySem.W.depth_ints]
    have := hr.un
    omega
  · obtain ⟨tt, rfl⟩ := hv
    refine tail_call (st := { s2 with heap := g, toks := t }) (kg _ _ hf) ⟨c', oc, fvs, tq, rfl, kg _ _ c1, c2, c3⟩ (I2.mod.nolimit.keeps fun b o e => kg _ _ (I2.bk _ _ e)) (by have := hr.dp; show X.A.depth < recursionLimit; omega) kd co gn ky kx nc (fun cl pm cv ctv => hb _ cl pm cv ctv _) hclo
      (let ⟨o, ho, hd⟩ := hcell; ⟨o, kg _ _ ho, hd⟩) (b := b) (us := itB) (let ⟨o, ho, hd⟩ := lB.isList; ⟨o, kg _ _ ho, hd⟩) hiB zB2 (hk x hx) dx cx dy
  · rw [dataLe_rows (fun k => ns.drop k)] at eo
    obtain ⟨ep, ho1⟩ : ∃ ep, g.get? (s2.heap.objs.size + 1) = some (seqObj "list" out.toArray ep) := ⟨_, hD⟩
    have rvO : Vals ((ks.mergeSort fun x y => decide (ns.drop x ≤ ns.drop y)).map fun k => V.int (k : Nat)) out := vals_nats eo
    have nN : H2 (s2.heap.objs.size + 1) = none := I2.hok.fresh (Nat.le_succ _)
    have I3 := I2.laid (t' := t) (o := .lst ((ks.mergeSort fun x y => decide (ns.drop x ≤ ns.drop y)).map fun k => V.int (k : Nat))) kg (Nat.le_succ _) ⟨by rw [rvO.length, ho]; rw [List.length_map] at zA; exact zA, out, ep, rvO, ho1⟩
    exact ⟨.ref _, _, I3, rfl, q _ _ eN T2 nN⟩
end
/-! ### the text -/
def topS (i : Nat) : Stmt := PySem.Challenge.pw_homereads_k12_suffix_rows.main.body.getD i (.Pass ⟨0, 0, 0, 0⟩)
abbrev sSuffix : Stmt := topS 1
abbrev sRanks : Stmt := topS 2
abbrev sKeys : Stmt := topS 3
abbrev sCell : Stmt := topS 5
abbrev sRow : Stmt := topS 6
abbrev sInteger : Stmt := topS 7
abbrev sIntegers : Stmt := topS 8
abbrev sNumbers : Stmt := topS 9
abbrev sLaw : Stmt := topS 10
theorem scCell : FnScope ["script", "k"] ["script", "k"] (defScope sCell) := ⟨rfl, rfl, rfl, by decide +kernel, rfl, by decide +kernel, by decide +kernel⟩
theorem scRow : FnScope ["cell", "count", "bound", "rest", "mixed", "row", "k"] ["cell", "count", "bound"] (defScope sRow) := ⟨rfl, rfl, rfl, by decide +kernel, rfl, by decide +kernel, by decide +kernel⟩
theorem scInteger : FnScope ["value"] ["value"] (defScope sInteger) := ⟨rfl, rfl, rfl, by decide +kernel, rfl, by decide +kernel, by decide +kernel⟩
/-! ### walks of a known number of turns -/
theorem for_gen {J : It} {n : Nat} {g : TG} {tb : TS} {D : Ends} {σ : L2.St} {H : Hp} (Pv : Nat → L2.St → Hp → Prop) (h0 : Pv 0 σ H) (hgo : ∀ i σ H, i < n → Pv i σ H → J.go i H) (hstop : ∀ σ H, Pv n σ H → J.stop n H)
    (hs : ∀ i σ H x H', i < n → Pv i σ H → J.yld i H x H' → g x σ H' fun σ2 H2 => tb { D with nx := Pv (i + 1), ct := Pv (i + 1), bk := D.nx } σ2 H2) (hd : ∀ σ H, Pv n σ H → D.nx σ H) :
    ∃ W : Nat → Nat → L2.St → Hp → Prop, (∃ m, W 0 m σ H) ∧ ∀ i m σ H, W i m σ H →
      (J.stop i H ∧ D.nx σ H) ∨ (J.go i H ∧ ∃ N : L2.St → Hp → Prop, (∀ σ' H', N σ' H' → ∃ m', m' < m ∧ W (i + 1) m' σ' H') ∧ ∀ x H', J.yld i H x H' → g x σ H' fun σ2 H2 => tb { D with nx := N, ct := N, bk := D.nx } σ2 H2) := by
  refine ⟨fun i m σ H => i + m = n ∧ Pv i σ H, ⟨n, Nat.zero_add n, h0⟩, fun i m σ H hw => ?_⟩
  obtain ⟨em, p⟩ := hw
  cases m with
  | zero =>
    obtain rfl : i = n := em
    exact .inl ⟨hstop σ H p, hd σ H p⟩
  | succ m =>
    have lt : i < n := by omega
    exact .inr ⟨hgo i σ H lt p, Pv (i + 1), fun σ' H' p' => ⟨m, Nat.lt_succ_self m, by omega, p'⟩, fun x H' y => hs i σ H x H' lt p y⟩
theorem lc_gen {J : It} {n : Nat} {g : TG} {tt : TT} {te : TE} {vs : List Nat} {σ : L2.St} {H1 : Hp} {D : Addr} {Qd : Hp → Prop} (Pv : Nat → Hp → Prop) (h0 : Pv 0 (upd H1 D (.lst []))) (hgo : ∀ i H, i < n → Pv i H → J.go i H) (hstop : ∀ H, Pv n H → J.stop n H)
    (hs : ∀ i H x H', i < n → Pv i H → J.yld i H x H' → g x (wipe σ vs) H' fun σ2 H2 => wipe σ2 vs = wipe σ vs ∧ tt σ2 H2 fun b H3 =>
      if b = true then te σ2 H3 fun y H4 => ∃ acc, H4 D = some (.lst acc) ∧ acc.length < sizeLine ∧ Pv (i + 1) (upd H4 D (.lst (acc ++ [y]))) else Pv (i + 1) H3) (hd : ∀ H, Pv n H → Qd H) :
    ∃ W : Nat → Nat → Hp → Prop, (∃ m, W 0 m (upd H1 D (.lst []))) ∧ ∀ i m H, W i m H →
      (J.stop i H ∧ Qd H) ∨ (J.go i H ∧ ∃ Nx : Hp → Prop, (∀ H', Nx H' → ∃ m', m' < m ∧ W (i + 1) m' H') ∧ ∀ x H', J.yld i H x H' → g x (wipe σ vs) H' fun σ2 H2 => wipe σ2 vs = wipe σ vs ∧ tt σ2 H2 fun b H3 =>
        if b = true then te σ2 H3 fun y H4 => ∃ acc, H4 D = some (.lst acc) ∧ acc.length < sizeLine ∧ Nx (upd H4 D (.lst (acc ++ [y]))) else Nx H3) := by
  refine ⟨fun i m H => i + m = n ∧ Pv i H, ⟨n, Nat.zero_add n, h0⟩, fun i m H hw => ?_⟩
  obtain ⟨em, p⟩ := hw
  cases m with
  | zero =>
    obtain rfl : i = n := em
    exact .inl ⟨hstop H p, hd H p⟩
  | succ m =>
    have lt : i < n := by omega
    exact .inr ⟨hgo i H lt p, Pv (i + 1), fun H' p' => ⟨m, Nat.lt_succ_self m, by omega, p'⟩, fun x H' y => hs i H x H' lt p y⟩
/-- a loop over a text's signs -/
theorem for_str {z : Str} {g : TG} {tb : TS} {D : Ends} {σ : L2.St} {H : Hp} (Pv : Nat → L2.St → Hp → Prop) (h0 : Pv 0 σ H)
    (hs : ∀ i c σ H, z.cps[i]? = some c → Pv i σ H → g (.str ⟨#[c]⟩) σ H fun σ2 H2 => tb { D with nx := Pv (i + 1), ct := Pv (i + 1), bk := D.nx } σ2 H2) (hd : ∀ σ H, Pv z.cps.size σ H → D.nx σ H) :
    ∃ W : Nat → Nat → L2.St → Hp → Prop, (∃ m, W 0 m σ H) ∧ ∀ i m σ H, W i m σ H →
      ((Its z).stop i H ∧ D.nx σ H) ∨ ((Its z).go i H ∧ ∃ N : L2.St → Hp → Prop, (∀ σ' H', N σ' H' → ∃ m', m' < m ∧ W (i + 1) m' σ' H') ∧ ∀ x H', (Its z).yld i H x H' → g x σ H' fun σ2 H2 => tb { D with nx := N, ct := N, bk := D.nx } σ2 H2) :=
  for_gen (J := Its z) (n := z.cps.size) Pv h0 (fun i σ H hi _ => hi) (fun σ H _ => Nat.le_refl _) (fun i σ H x H' hi p y => by
    obtain ⟨e, c, hc, ex⟩ := y
    subst e
    subst ex
    exact hs i c σ _ hc p) hd
/-! ### texts by lists -/
def T (l : List Nat) : Str := ⟨l.toArray⟩
theorem T_len (l : List Nat) : (T l).length = l.length := by
  show l.toArray.size = l.length
  simp
theorem T_size (l : List Nat) : (T l).cps.size = l.length := by
  show l.toArray.size = l.length
  simp
theorem T_list (l : List Nat) : (T l).cps.toList = l := rfl
theorem T_at (l : List Nat) (i : Nat) : (T l).cps[i]? = l[i]? := by
  show l.toArray[i]? = l[i]?
  simp
theorem T_app (a b : List Nat) : T a ++ T b = T (a ++ b) := by
  show Str.mk (a.toArray ++ b.toArray) = Str.mk (a ++ b).toArray
  simp
theorem T_inj {a b : List Nat} (h : T a = T b) : a = b := by
  have e : (T a).cps.toList = (T b).cps.toList := by rw [h]
  exact e
theorem T_nil : (Str.ofString "" : Str) = T [] := by decide +kernel
def Sg (c : Nat) : Prop := c = 65 ∨ c = 67 ∨ c = 71 ∨ c = 84 ∨ c = 78
def Dna (l : List Nat) : Prop := ∀ c ∈ l, Sg c
theorem Dna.app {a b : List Nat} (h : Dna a) (k : Dna b) : Dna (a ++ b) := fun c hc => by
  rcases List.mem_append.mp hc with q | q
  · exact h c q
  · exact k c q
theorem Dna.one {c : Nat} (h : Sg c) : Dna [c] := fun d hd => by
  obtain rfl : d = c := by simpa using hd
  exact h
theorem line_ok {n : Nat} (h : n ≤ 100000) : n ≤ sizeLine := by
  rw [sizeLine_eq]
  omega
theorem line_lt {n : Nat} (h : n ≤ 100000) : n < sizeLine := by
  rw [sizeLine_eq]
  omega
theorem same_upd {H : Hp} {p : Addr} {o : HO} (h : H p = none) : Same H (upd H p o) := fun b x e => by
  rw [upd_ne (ne_of_none e h)]
  exact e
theorem upd_upd {H : Hp} {p : Addr} {o o' : HO} : upd (upd H p o) p o' = upd H p o' := by
  funext b
  by_cases e : b = p
  · rw [e, upd_same, upd_same]
  · rw [upd_ne e, upd_ne e, upd_ne e]
/-! ### names that are still the built-in ones -/
structure Bl (mg : Str → Option Value) : Prop where
  len : mg "len" = none
  int : mg "int" = none
  abs : mg "abs" = none
  range : mg "range" = none
  isin : mg "isinstance" = none
  bool : mg "bool" = none
  str : mg "str" = none
section
variable {P : Program} {w : World} {K : PySem.W.Frag} {mg : Str → Option Value} {base : Heap}
/-! ### _law_cell -/
def spCell (K : PySem.W.Frag) : Sp := fun vs H Q _ => ∃ (a : Addr) (ns : List Int) (k : Nat), vs = [.ref a, .int (k : Int)] ∧ SqL K H a (ns.map V.int) ∧ ∀ x : Int, Q (.int x) H
theorem ok_cell {f : Addr} {fd : FuncData} {k : Nat} (F : Fun K "_law_cell" "_law_cell" sCell f fd) (B : Bl mg) : FnOk P w K mg base CX0 (k + 1) f fd ["script", "k"] (spCell K) := by
  refine F.ok scCell (fun vs H Q E h => ?_) (fun cdv A outer s H vs Q E hr h => ?_)
  · obtain ⟨a, ns, j, rfl, _⟩ := h
    rfl
  · obtain ⟨a, ns, j, rfl, hS, q⟩ := h
    refine ⟨_, pss_cons (ps_if (pt_cmpR op_lt (pv 1) (pe_callB call_len_seq (by rfl) B.len PySem.boot_len (pa_cons (pv 0) pa_nil)) (nomark _))
        (pss_one (ps_ret (pe_callTy call_int1 (by rfl) B.int (by decide +kernel) (pa_cons (pe_ix ix_list (pv 0) (pv 1) (fun _ _ => rfl)) pa_nil)))) pss_nil)
      (pss_one (ps_ret pe_int)), ?_⟩
    refine ⟨.int j, rfl, .ref a, rfl, a, ns.map V.int, rfl, .inl hS, j, _, rfl, rfl, _, rfl, ite2 (fun e => ?_) (fun e => q 0)⟩
    have h1 : (j : Int) < ((ns.map V.int).length : Int) := of_decide_eq_true e
    have h2 : j < ns.length := by
      rw [List.length_map] at h1
      omega
    have g1 : (ns.map V.int)[j]? = some (.int ns[j]) := by
      rw [List.getElem?_map, List.getElem?_eq_getElem h2]
      rfl
    exact ⟨.ref a, rfl, .int j, rfl, a, _, j, .int ns[j], rfl, rfl, hS, atI_nat g1, .inl ⟨_, rfl, q _⟩⟩
/-! ### _law_row -/
def spRow (K : PySem.W.Frag) : Sp := fun vs H Q _ => ∃ (c n b : Int), vs = [.int c, .int n, .int b] ∧ 0 ≤ n ∧ n ≤ 100000 ∧ 1 < b ∧ b ≤ 1000000001 ∧
  ∀ (H' : Hp) (p : Addr) (xs : List Int), Same H H' → H p = none → H' p = some (.lst (xs.map V.int)) → xs.length = n.toNat → (∀ x ∈ xs, 0 ≤ x ∧ x < b) → Q (.ref p) H'
theorem ok_row {f : Addr} {fd : FuncData} {k : Nat} (F : Fun K "_law_row" "_law_row" sRow f fd) (B : Bl mg) : FnOk P w K mg base CX0 (k + 1) f fd ["cell", "count", "bound"] (spRow K) := by
  refine F.ok scRow (fun vs H Q E h => ?_) (fun cdv A outer s H vs Q E hr h => ?_)
  · obtain ⟨c, n, b, rfl, _⟩ := h
    rfl
  · obtain ⟨c, n, b, rfl, hn0, hn, hb1, hb2, q⟩ := h
    refine ⟨_, pss_cons (ps_set (i := 3) scRow.nd rfl (.inl rfl) (pe_callB call_abs (by rfl) B.abs (by decide +kernel) (pa_cons (pe_callTy call_int1 (by rfl) B.int (by decide +kernel) (pa_cons (pv 0) pa_nil)) pa_nil)))
      (pss_cons (ps_set (i := 4) scRow.nd rfl (.inl rfl) (pe_op op_add (pe_op op_mod (pe_callTy call_int1 (by rfl) B.int (by decide +kernel) (pa_cons (pv 0) pa_nil)) pe_int) pe_int))
      (pss_cons (ps_set (i := 5) scRow.nd rfl (.inl rfl) (pe_lst pa_nil))
      (pss_cons (ps_for PassesOwn.never rfl (pi_range1 rfl B.range (pa_cons (pv 1) pa_nil)) (pg_name (i := 6) scRow.nd rfl (.inl rfl))
        (pss_one (ps_if (pt_cmpR op_ge (pv 3) (pv 2) (nomark _))
          (pss_cons (ps_expr (pe_bm PySem.F.plainAttrs_list PySem.F.slot_list_append PySem.F.type_list_append mt_append (pv 5) (pa_cons (pe_op op_mod (pe_callTy call_int1 (by rfl) B.int (by decide +kernel) (pa_cons (pv 3) pa_nil)) (pv 2)) pa_nil)))
            (pss_one (ps_set (i := 3) scRow.nd rfl (.inl rfl) (pe_op op_fdiv (pv 3) (pv 2)))))
          (pss_cons (ps_set (i := 4) scRow.nd rfl (.inl rfl) (pe_op op_mod (pe_callTy call_int1 (by rfl) B.int (by decide +kernel) (pa_cons (pe_op op_add (pe_op op_add (pe_op op_mul (pv 4) pe_int) (pe_op op_mul pe_int (pv 6))) pe_int) pa_nil)) pe_int))
            (pss_one (ps_expr (pe_bm PySem.F.plainAttrs_list PySem.F.slot_list_append PySem.F.type_list_append mt_append (pv 5) (pa_cons (pe_op op_mod (pe_callTy call_int1 (by rfl) B.int (by decide +kernel) (pa_cons (pe_op op_fdiv (pe_op op_mul (pv 4) pe_int) pe_int) pa_nil)) (pv 2)) pa_nil))))))))
      (pss_one (ps_ret (pv 5)))))), ?_⟩
    refine ⟨.int c, rfl, .inl ⟨c, rfl, c, rfl, ?_⟩⟩
    refine ⟨.int c, rfl, .inl ⟨c, rfl, c, 1000003, rfl, rfl, (show (0 : Int) < 1000003 by decide), _, _, rfl, rfl, ?_⟩⟩
    refine ⟨Nat.zero_le _, fun p hp => ?_⟩
    refine ⟨.int n, rfl, n, rfl, by omega, by omega, ?_⟩
    refine for_range (lo := 0) (n := n.toNat) (fun i σ H' => ∃ (r m : Int) (kv : Option V) (xs : List Int), σ = [some (.int c), some (.int n), some (.int b), some (.int r), some (.int m), some (.ref p), kv] ∧ 0 ≤ m ∧ m < 4294967296 ∧ Same H H' ∧
      H' p = some (.lst (xs.map V.int)) ∧ xs.length = i ∧ ∀ x ∈ xs, 0 ≤ x ∧ x < b) ?_ ?_ ?_
    · refine ⟨_, _, none, [], rfl, ?_, ?_, same_upd hp, upd_same, rfl, fun x hx => by cases hx⟩
      · have := Int.emod_nonneg c (show (1000003 : Int) ≠ 0 by decide)
        omega
      · have := Int.emod_lt_of_pos c (show (0 : Int) < 1000003 by decide)
        omega
    · rintro i σ H' hi ⟨r, m, kv, xs, rfl, hm0, hm1, sm, hx, hl, hall⟩
      have grow : ∀ (y : Int) (τ : L2.St) (r' m' : Int), 0 ≤ y → y < b → 0 ≤ m' → m' < 4294967296 → τ = [some (.int c), some (.int n), some (.int b), some (.int r'), some (.int m'), some (.ref p), some (.int (0 + (i : Nat)))] →
          ∃ (r m : Int) (kv : Option V) (zs : List Int), τ = [some (.int c), some (.int n), some (.int b), some (.int r), some (.int m), some (.ref p), kv] ∧ 0 ≤ m ∧ m < 4294967296 ∧ Same H (upd H' p (.lst (xs.map V.int ++ [.int y]))) ∧
          (upd H' p (.lst (xs.map V.int ++ [.int y]))) p = some (.lst (zs.map V.int)) ∧ zs.length = i + 1 ∧ ∀ x ∈ zs, 0 ≤ x ∧ x < b := by
        intro y τ r' m' y0 y1 h0 h1 e
        refine ⟨r', m', _, xs ++ [y], e, h0, h1, fun q o k => ?_, ?_, ?_, ?_⟩
        · rw [upd_ne (ne_of_none k hp)]
          exact sm q o k
        · rw [upd_same, List.map_append]
          rfl
        · rw [List.length_append, hl]
          rfl
        · intro x hxm
          rcases List.mem_append.mp hxm with z | z
          · exact hall x z
          · obtain rfl : x = y := by simpa using z
            exact ⟨y0, y1⟩
      have hsz : (xs.map V.int).length < sizeLine := line_lt (by rw [List.length_map]; omega)
      refine ⟨.int r, rfl, .int b, rfl, r, b, rfl, rfl, _, rfl, ite2 (fun e => ?_) (fun e => ?_)⟩
      · refine ⟨.ref p, rfl, .inl ⟨rfl, _, .inl (.inl hx)⟩, .int r, rfl, .inl ⟨r, rfl, .int b, rfl, r, b, rfl, rfl, (show 0 < b by omega), p, _, _, rfl, rfl, hx, hsz, ?_⟩⟩
        refine ⟨.int r, rfl, .int b, rfl, r, b, rfl, rfl, ⟨by omega, by omega⟩, ?_⟩
        exact grow _ _ (r / b) m (Int.emod_nonneg r (by omega)) (Int.emod_lt_of_pos r (by omega)) hm0 hm1 rfl
      · refine ⟨.int m, rfl, m, 48271, rfl, rfl, .inl ⟨by omega, by omega⟩, .int (0 + (i : Nat)), rfl, 11, _, rfl, rfl, .inl ⟨by decide, by decide⟩, _, _, rfl, rfl, _, _, rfl, rfl, .inl ⟨_, rfl, _, 2147483647, rfl, rfl, (show (0 : Int) < 2147483647 by decide), ?_⟩⟩
        have b0 : 0 ≤ (m * 48271 + 11 * (0 + ((i : Nat) : Int)) + 7) % 2147483647 := Int.emod_nonneg _ (by decide)
        have b1 : (m * 48271 + 11 * (0 + ((i : Nat) : Int)) + 7) % 2147483647 < 2147483647 := Int.emod_lt_of_pos _ (by decide)
        refine ⟨.ref p, rfl, .inl ⟨rfl, _, .inl (.inl hx)⟩, _, rfl, (m * 48271 + 11 * (0 + ((i : Nat) : Int)) + 7) % 2147483647, 2862933555777941757, rfl, rfl, .inl ⟨by omega, by omega⟩, _, 1024, rfl, rfl, ⟨by decide, by decide⟩, .inl ⟨_, rfl, .int b, rfl, _, b, rfl, rfl, (show 0 < b by omega), p, _, _, rfl, rfl, hx, hsz, ?_⟩⟩
        exact grow _ _ r ((m * 48271 + 11 * (0 + ((i : Nat) : Int)) + 7) % 2147483647) (Int.emod_nonneg _ (by omega)) (Int.emod_lt_of_pos _ (by omega)) b0 (by omega) rfl
    · rintro σ H' ⟨r, m, kv, xs, rfl, hm0, hm1, sm, hx, hl, hall⟩
      exact ⟨.ref p, rfl, q H' p xs sm hp hx hl hall⟩
/-! ### _law_integer -/
def spInteger : Sp := fun vs H Q _ => ∃ i : Int, vs = [.int i] ∧ Q (.bl true) H
theorem ok_integer {f : Addr} {fd : FuncData} {k : Nat} (F : Fun K "_law_integer" "_law_integer" sInteger f fd) (B : Bl mg) : FnOk P w K mg base CX0 (k + 1) f fd ["value"] spInteger := by
  refine F.ok scInteger (fun vs H Q E h => ?_) (fun cdv A outer s H vs Q E hr h => ?_)
  · obtain ⟨i, rfl, _⟩ := h
    rfl
  · obtain ⟨i, rfl, q⟩ := h
    refine ⟨_, pss_one (ps_ret (pe_and (pe_callB call_isi (by rfl) B.isin (by decide +kernel) (pa_cons (pv 0) (pa_cons (pe_bltn (v := .ty "int") (by rfl) B.int (by decide +kernel) rfl) pa_nil)))
      (pe_one (pe_not (pe_callB call_isi (by rfl) B.isin (by decide +kernel) (pa_cons (pv 0) (pa_cons (pe_bltn (v := .ty "bool") (by rfl) B.bool (by decide +kernel) rfl) pa_nil))))))), ?_⟩
    refine ⟨.int i, rfl, .int i, .ty "int", _, _, true, rfl, .ty _, .base (.int i), kit_ty (by decide +kernel), true, rfl, iteT ?_⟩
    exact ⟨.int i, rfl, .int i, .ty "bool", _, _, false, rfl, .ty _, .base (.int i), kit_ty (by decide +kernel), false, rfl, q⟩
end
theorem line_ok6 {n : Nat} (h : n ≤ 1000000) : n ≤ sizeLine := by
  rw [sizeLine_eq]
  omega
theorem line_ok7 {n : Nat} (h : n ≤ 10000000) : n ≤ sizeLine := by
  rw [sizeLine_eq]
  omega
theorem new_ne {H : Hp} {p q : Addr} {o : HO} (h : upd H p o q = none) : q ≠ p := fun e => by
  rw [e, upd_same] at h
  cases h
theorem new_old {H : Hp} {p q : Addr} {o : HO} (h : upd H p o q = none) : H q = none := by
  rw [upd_ne (new_ne h)] at h
  exact h
theorem cell_arg2 (a : Addr) (c d i : Nat) : [V.ref a, V.int ((c : Int) + (d : Int) * (0 + ((i : Nat) : Int)))] = [V.ref a, V.int ((c + d * i : Nat) : Int)] := by
  congr 2
  rw [Int.zero_add]
  simp
theorem cell_arg3 (a : Addr) (d i : Nat) : [V.ref a, V.int ((d : Int) * (0 + ((i : Nat) : Int)))] = [V.ref a, V.int ((d * i : Nat) : Int)] := by
  congr 2
  rw [Int.zero_add]
  simp
theorem cell_arg4 (a : Addr) (c d i : Nat) : [V.ref a, V.int ((d : Int) * (0 + ((i : Nat) : Int)) + (c : Int))] = [V.ref a, V.int ((d * i + c : Nat) : Int)] := by
  congr 2
  rw [Int.zero_add]
  simp
theorem map_int_at {ns : List Int} {i : Nat} (h : i < ns.length) : (ns.map V.int)[i]? = some (.int ns[i]) := by
  rw [List.getElem?_map, List.getElem?_eq_getElem h]
  rfl
def rFind : V → List V → Hp → VK → Prop := fun x xs H Q => ∃ a b, x = .str a ∧ xs = [.str b] ∧ Q (.int (Txt.find a b)) H
def rMaxP : List V → Hp → VK → Prop := fun xs H Q => ∃ i j, xs = [.int i, .int j] ∧ Q (.int (if j > i then j else i)) H
/-! ### lists of ints as data -/
abbrev LI (ns : List Int) : HO := .lst (ns.map V.int)
theorem LI_snoc (l : List Int) (x : Int) : LI (l ++ [x]) = .lst (l.map V.int ++ [.int x]) := by
  show HO.lst ((l ++ [x]).map V.int) = _
  rw [List.map_append]
  rfl
def dI (ns : List Int) : PyData := .list (ns.map .int)
theorem can_ints (ns : List Int) : PyData.canLayAll0 (ns.map .int) = true := by
  induction ns with
  | nil => rfl
  | cons n r ih => exact ih
theorem depth_intsD (ns : List Int) : PyData.depthAll (ns.map .int) = 0 := by
  induction ns with
  | nil => rfl
  | cons n r ih =>
    show max 0 (PyData.depthAll (r.map .int)) = 0
    rw [ih]
    rfl
theorem shaped_dI (ns : List Int) : SeqAt.shaped (dI ns) = true := by
  unfold SeqAt.shaped
  have e1 : (dI ns).canLay0 = true := can_ints ns
  have e2 : PyData.depth (dI ns) ≤ 64 := by
    show PyData.depthAll (ns.map .int) + 1 ≤ 64
    rw [depth_intsD]
    decide
  rw [e1, decide_eq_true e2]
  rfl
theorem dp_ints {K : PySem.W.Frag} {H : Hp} : ∀ ns : List Int, DpAll K H (ns.map V.int) (ns.map .int)
  | [] => .nil
  | n :: r => .cons (.int n) (dp_ints r)
theorem dp_dI {K : PySem.W.Frag} {H : Hp} {a : Addr} {ns : List Int} (h : SqL K H a (ns.map V.int)) : Dp K H (.ref a) (dI ns) := .lst h (dp_ints ns)
theorem eqv_ints (ns : List Int) : PyData.eqv (dI ns) (dI ns) = true := SeqAt.eqv_refl _ (can_ints ns)
theorem cutV_to (xs : List V) (k : Nat) : L2.cutV xs none (some (k : Int)) = xs.take k := by
  unfold L2.cutV
  rw [HT.sIx_none, HT.sIx_nat, List.drop_zero, Nat.sub_zero]
  by_cases h : k ≤ xs.length
  · rw [Nat.min_eq_left h]
  · rw [Nat.min_eq_right (by omega), List.take_of_length_le (Nat.le_refl _), List.take_of_length_le (by omega)]
theorem cutV_from (xs : List V) (k : Nat) : L2.cutV xs (some (k : Int)) none = xs.drop k := by
  unfold L2.cutV
  rw [HT.sIx_none, HT.sIx_nat]
  by_cases h : k ≤ xs.length
  · rw [Nat.min_eq_left h, List.take_of_length_le (by rw [List.length_drop]; omega)]
  · rw [Nat.min_eq_right (by omega), List.drop_of_length_le (Nat.le_refl _), List.drop_of_length_le (by omega), List.take_nil]
theorem ix_set {xs : List V} {i : Int} {j : Nat} (e : i = (j : Int)) (h : j < xs.length) : ixN xs.length i = some j := by
  rw [e]
  unfold ixN
  rw [if_pos (by omega), if_pos (by omega)]
  rfl
/-- a def of the module that keeps a promise -/
def Has (P : Program) (w : World) (K : PySem.W.Frag) (mg : Str → Option Value) (base : Heap) (k : Nat) (x : Str) (ps : List Str) (sp : Sp) : Prop :=
  ∃ f fd, FnOk P w K mg base CX0 k f fd ps sp ∧ mg x = some (.ref f) ∧ PySem.W.keepIn K (.ref f) = true ∧ Binds K fd ps []
/-- lists of bytes -/
def Byt (l : List Int) : Prop := ∀ x ∈ l, 0 ≤ x ∧ x < 256
theorem Byt.app {a b : List Int} (h : Byt a) (k : Byt b) : Byt (a ++ b) := fun x hx => by
  rcases List.mem_append.mp hx with z | z
  · exact h x z
  · exact k x z
theorem Byt.take {a : List Int} (h : Byt a) (n : Nat) : Byt (a.take n) := fun x hx => h x (List.mem_of_mem_take hx)
theorem Byt.rep {a : List Int} (h : Byt a) (n : Nat) : Byt (List.replicate n a).flatten := fun x hx => by
  obtain ⟨z, hz1, hz2⟩ := List.mem_flatten.mp hx
  rw [List.eq_of_mem_replicate hz1] at hz2
  exact h x hz2
theorem rep_map {α β : Type} (f : α → β) (n : Nat) (l : List α) : (List.replicate n (l.map f)).flatten = (List.replicate n l).flatten.map f := by
  rw [List.map_flatten, List.map_replicate]
theorem rep_len {α : Type} (n : Nat) (l : List α) : (List.replicate n l).flatten.length = n * l.length := by simp
theorem scIntegers : FnScope ["values", "value"] ["values"] (defScope sIntegers) := ⟨rfl, rfl, rfl, by decide +kernel, rfl, by decide +kernel, by decide +kernel⟩
theorem scNumbers : FnScope ["shape", "cell", "size", "kind", "k", "x"] ["shape", "cell", "size"] (defScope sNumbers) := ⟨rfl, rfl, rfl, by decide +kernel, rfl, by decide +kernel, by decide +kernel⟩
section
variable {P : Program} {w : World} {K : PySem.W.Frag} {mg : Str → Option Value} {base : Heap}
def spIntegers : Sp := fun vs H Q _ => ∃ (a : Addr) (ns : List Int), vs = [.ref a] ∧ H a = some (LI ns) ∧ ns.length ≤ 10000000 ∧ ∀ H', Same H H' → Q (.bl true) H'
theorem ok_integers {f : Addr} {fd : FuncData} (F : Fun K "_law_integers" "_law_integers" sIntegers f fd) (B : Bl mg) (mlist : mg "list" = none) (mall : mg "all" = none) (hI : Has P w K mg base 2 "_law_integer" ["value"] spInteger) : FnOk P w K mg base CX0 3 f fd ["values"] spIntegers := by
  obtain ⟨fI, dI', GI, gI, kI, bI⟩ := hI
  refine F.ok scIntegers (fun vs H Q E h => ?_) (fun cdv A outer s H vs Q E hr h => ?_)
  · obtain ⟨a, ns, rfl, _⟩ := h
    rfl
  · obtain ⟨a, ns, rfl, hS, hl, q⟩ := h
    refine ⟨_, pss_one (ps_ret (pe_and (pe_callB call_isi (by rfl) B.isin (by decide +kernel) (pa_cons (pv 0) (pa_cons (pe_bltn (v := .ty "list") (by rfl) mlist (by decide +kernel) rfl) pa_nil)))
      (pe_one (pe_callB (cr_all rfl) (by rfl) mall (by decide +kernel) (pa_cons (pe_lc (own := [("value", 1)]) (g := gName 1) (tt := tYes) (te := tCall spInteger [] E0 (tCons (tVar 1) tNil)) rfl scIntegers.nd (pi_list (pv 0))
        (blkOk_by (own := [("value", 1)]) (N := ["values", "value"]) (sc := defScope sIntegers) (by decide +kernel))
        (fun _ _ _ _ _ => pg_name (i := 1) scIntegers.nd rfl (Or.inl rfl)) (fun _ _ _ _ _ => pts_nil) (fun _ _ _ _ _ => pe_call GI hr (by rfl) gI kI bI .nil pass0 (pa_cons (pv 1) pa_nil))) pa_nil))))), ?_⟩
    refine ⟨.ref a, rfl, _, .ty "list", _, _, true, rfl, .ty _, .base (.lst hS), kit_ty (by decide +kernel), true, rfl, iteT ?_⟩
    refine ⟨.ref a, rfl, a, rfl, ⟨_, .inl (.inl hS)⟩, fun D hD => ?_⟩
    refine lc_list (K := K) (xs := ns.map V.int) (fun j H1 => Same H H1 ∧ j ≤ ns.length ∧ H1 D = some (.lst ((List.replicate j true).map V.bl))) ⟨same_upd hD, Nat.zero_le _, upd_same⟩ (fun j H1 _ h => h.1.seq (.inl (.inl hS))) ?_ ?_
    · rintro j y H1 hjy ⟨s1, _, hd⟩
      rw [List.getElem?_map] at hjy
      obtain ⟨n1, hn1, rfl⟩ := Option.map_eq_some_iff.mp hjy
      have hj : j < ns.length := (List.getElem?_eq_some_iff.mp hn1).1
      refine ⟨rfl, ?_⟩
      dsimp only [tYes]
      rw [if_pos rfl]
      refine ⟨.int n1, rfl, n1, rfl, _, hd, line_ok7 (by rw [List.length_map, List.length_replicate]; omega), fun b o e => ?_, hj, ?_⟩
      · rw [upd_ne (ne_of_none e hD)]
        exact s1 b o e
      · rw [upd_same, List.replicate_succ', List.map_append]
        rfl
    · rintro H1 ⟨s1, _, hd⟩
      rw [List.length_map] at hd
      refine ⟨D, _, rfl, .inl (.inl hd), ?_⟩
      rw [List.all_replicate]
      have e : (if ns.length = 0 then true else id true) = true := by split <;> rfl
      rw [e]
      exact q _ s1
end
/-! ### starts -/
/-- the starts in the order of their suffixes -/
def starts (ns : List Int) : List Nat := (List.range ns.length).mergeSort fun x y => decide (ns.drop x ≤ ns.drop y)
theorem starts_perm (ns : List Int) : (starts ns).Perm (List.range ns.length) := List.mergeSort_perm _ _
theorem starts_len (ns : List Int) : (starts ns).length = ns.length := by
  rw [(starts_perm ns).length_eq, List.length_range]
theorem starts_lt {ns : List Int} {k : Nat} (h : k ∈ starts ns) : k < ns.length := List.mem_range.mp ((starts_perm ns).mem_iff.mp h)
abbrev LN (ks : List Nat) : HO := .lst (ks.map fun k => V.int (k : Nat))
/-- a def of the text whose code object stands at c -/
structure FunC (K : PySem.W.Frag) (x qual : Str) (st : Stmt) (f c : Addr) (fd : FuncData) : Prop where
  ex : ∃ (oc : Value) (od : Option Addr) (kV doc pm : Value) (an : Option Addr) (ct : Value) (osl : Array (Option Value)), fd = PySem.W.fnOf x qual (defArgs st) (defBody st) (defScope st) .none kV doc pm an (.ref c) ct ∧ K.lookup f = some ⟨oc, od, .func fd, osl⟩ ∧ PySem.W.codeIn K (.ref c) qual = true
section
variable {P : Program} {w : World} {K : PySem.W.Frag} {mg : Str → Option Value} {base : Heap}
theorem FunC.ok {x qual : Str} {st : Stmt} {f c : Addr} {fd : FuncData} {N ps : List Str} {k : Nat} {sp : Sp} (F : FunC K x qual st f c fd) (S : FnScope N ps (defScope st)) (len : ∀ vs H Q E, sp vs H Q E → vs.length = ps.length)
    (body : ∀ (A : Around) (outer : List Env) (s : Shared) (H : Hp) (vs : List V) (Q : VK) (E : XK), Room k (A.deeper (envOfC qual (defScope st) s.heap.objs.size f (.ref c))) → sp vs H Q E →
      ∃ t, PSs (cxOf CX0 P w K mg base N qual (defScope st) f (.ref c) A outer s H E).nox (defBody st) t ∧ t { nx := fun _ H' => Q .non H', rt := Q } (L2.start N vs) H) : FnOk P w K mg base CX0 (k + 1) f fd ps sp := by
  obtain ⟨oc, od, kV, doc, pm, an, ct, osl, rfl, lk, hcd⟩ := F.ex
  refine fn_of lk hcd S len fun A outer s H vs Q E hr hsp => ?_
  obtain ⟨t, h, q⟩ := body A outer s H vs Q E hr hsp
  exact ⟨t, h.nox, q⟩
open LamX in
/-- the heap grew, all but the tables are as they were, the tables are good -/
structure Grow (T : List (Addr × Str)) (H H' : Hp) : Prop where
  ext : ExtN H H'
  tab : Tabs T H'
open LamX in
def spStarts (K : PySem.W.Frag) (T : List (Addr × Str)) : Sp := fun vs H Q _ => ∃ (a : Addr) (ns : List Int), vs = [.ref a] ∧ SqL K H a (ns.map V.int) ∧ Tabs T H ∧ ns.length ≤ 1000000 ∧
  ∀ (H1 : Hp) (p : Addr), Grow T H H1 → H1 p = none → Q (.ref p) (upd H1 p (LN (starts ns)))
theorem sql_hit {H H1 : Hp} {a : Addr} {xs : List V} (h : SqL K H a xs) (s : Same H H1) : SqL K H1 a xs := s.seq h
open LamX in
theorem tabs_same {T : List (Addr × Str)} {H H1 : Hp} (t : Tabs T H) (s : Same H H1) : Tabs T H1 := t.ext fun b o e => s b o e
end
/-! ### lists of numbers -/
def Num (l : List Int) : Prop := ∀ x ∈ l, 0 ≤ x ∧ x ≤ 1000000000
theorem push_num {H H1 : Hp} {D : Addr} {l : List Int} {j : Nat} {y : Int} (hD : H D = none) (s : Same H H1) (hl : l.length = j) (hn : Num l) (y0 : 0 ≤ y) (y1 : y ≤ 1000000000) :
    Same H (upd H1 D (.lst (l.map V.int ++ [.int y]))) ∧ ∃ l' : List Int, upd H1 D (.lst (l.map V.int ++ [.int y])) D = some (LI l') ∧ l'.length = j + 1 ∧ Num l' := by
  refine ⟨fun b o e => ?_, l ++ [y], ?_, by rw [List.length_append, hl]; rfl, fun x hx => ?_⟩
  · rw [upd_ne (ne_of_none e hD)]
    exact s b o e
  · rw [upd_same]
    exact congrArg some (LI_snoc _ _).symm
  · rcases List.mem_append.mp hx with z | z
    · exact hn x z
    · obtain rfl : x = y := by simpa using z
      exact ⟨y0, y1⟩
section
variable {P : Program} {w : World} {K : PySem.W.Frag} {mg : Str → Option Value} {base : Heap}
def spNumbers (K : PySem.W.Frag) : Sp := fun vs H Q _ => ∃ (s c : Int) (n : Nat), vs = [.int s, .int c, .int (n : Int)] ∧ n ≤ 500 ∧ ∀ (H' : Hp) (p : Addr) (l : List Int), Same H H' → H p = none → H' p = some (LI l) → Num l → l.length ≤ 600 → Q (.ref p) H'
theorem ok_numbers {f : Addr} {fd : FuncData} (F : Fun K "_law_numbers" "_law_numbers" sNumbers f fd) (B : Bl mg) (hO : Has P w K mg base 2 "_law_row" ["cell", "count", "bound"] (spRow K)) : FnOk P w K mg base CX0 3 f fd ["shape", "cell", "size"] (spNumbers K) := by
  obtain ⟨fO, dO, GO, gO, kO, bO⟩ := hO
  refine F.ok scNumbers (fun vs H Q E h => ?_) (fun cdv A outer s H vs Q E hr h => ?_)
  · obtain ⟨x, c, n, rfl, _⟩ := h
    rfl
  · obtain ⟨x, c, n, rfl, hn, q⟩ := h
    refine ⟨_, C8.pss_cut (ps_set (i := 3) scNumbers.nd rfl (.inl rfl) (pe_op op_mod (pv 0) pe_int))
      (pss_cons (ps_if (pt_cmpR op_eq (pv 3) pe_int (nomark _)) (pss_one (ps_ret (pe_call GO hr (by rfl) gO kO bO .nil pass0 (pa_cons (pv 1) (pa_cons (pv 2) (pa_cons pe_int pa_nil)))))) pss_nil)
      (pss_cons (ps_if (pt_cmpR op_lt (pv 3) pe_int (nomark _)) (pss_one (ps_ret (pe_call GO hr (by rfl) gO kO bO .nil pass0 (pa_cons (pv 1) (pa_cons (pv 2) (pa_cons (pe_op op_add (pv 3) pe_int) pa_nil)))))) pss_nil)
      (pss_cons (ps_if (pt_cmpR op_eq (pv 3) pe_int (nomark _)) (pss_one (ps_ret (pe_op op_cat (pe_slice sl_list (pe_op op_rep (pe_call GO hr (by rfl) gO kO bO .nil pass0 (pa_cons (pv 1) (pa_cons (pe_op op_add pe_int (pe_op op_mod (pe_op op_fdiv (pv 0) pe_int) pe_int)) (pa_cons pe_int pa_nil)))) (pv 2)) po_none (po_some (pv 2))) (pe_lst (pa_cons pe_int pa_nil))))) pss_nil)
      (pss_cons (ps_if (pt_cmpR op_eq (pv 3) pe_int (nomark _)) (pss_one (ps_ret (pe_lc (own := [("k", 4)]) (g := gName 4) (tt := tYes) (te := tOp (rI (fun x j => 0 < j) fun i j => V.int (i % j)) (tOp (rI CDiv fun i j => V.int (i / j)) (tVar 0) (tC (.int 8))) (tC (.int 9))) rfl scNumbers.nd (pi_range1 rfl B.range (pa_cons (pv 2) pa_nil))
          (blkOk_by (own := [("k", 4)]) (N := ["shape", "cell", "size", "kind", "k", "x"]) (sc := defScope sNumbers) (by decide +kernel))
          (fun _ _ _ _ _ => pg_name (i := 4) scNumbers.nd rfl (Or.inl rfl)) (fun _ _ _ _ _ => pts_nil) (fun _ _ _ _ _ => pe_op op_mod (pe_op op_fdiv (pv 0) pe_int) pe_int)))) pss_nil)
      (pss_cons (ps_if (pt_cmpR op_eq (pv 3) pe_int (nomark _)) (pss_one (ps_ret (pe_lc (own := [("k", 4)]) (g := gName 4) (tt := tYes) (te := tOp (rI CDiv fun i j => V.int (i / j)) (tOp (rI CMul fun i j => V.int (i * j)) (tOp (rI0 fun i j => V.int (i - j)) (tVar 2) (tVar 4)) (tOp (rI0 fun i j => V.int (i + j)) (tC (.int 1)) (tOp (rI (fun x j => 0 < j) fun i j => V.int (i % j)) (tOp (rI CDiv fun i j => V.int (i / j)) (tVar 0) (tC (.int 8))) (tC (.int 3))))) (tC (.int 3))) rfl scNumbers.nd (pi_range1 rfl B.range (pa_cons (pv 2) pa_nil))
          (blkOk_by (own := [("k", 4)]) (N := ["shape", "cell", "size", "kind", "k", "x"]) (sc := defScope sNumbers) (by decide +kernel))
          (fun _ _ _ _ _ => pg_name (i := 4) scNumbers.nd rfl (Or.inl rfl)) (fun _ _ _ _ _ => pts_nil) (fun _ _ _ _ _ => pe_op op_fdiv (pe_op op_mul (pe_op op_sub (pv 2) (pv 4)) (pe_op op_add pe_int (pe_op op_mod (pe_op op_fdiv (pv 0) pe_int) pe_int))) pe_int)))) pss_nil)
      (pss_cons (ps_if (pt_cmpR op_eq (pv 3) pe_int (nomark _)) (pss_one (ps_ret (pe_op op_cat (pe_lc (own := [("k", 4)]) (g := gName 4) (tt := tYes) (te := tOp (rI CDiv fun i j => V.int (i / j)) (tVar 4) (tOp (rI0 fun i j => V.int (i + j)) (tC (.int 1)) (tOp (rI (fun x j => 0 < j) fun i j => V.int (i % j)) (tOp (rI CDiv fun i j => V.int (i / j)) (tVar 0) (tC (.int 8))) (tC (.int 5))))) rfl scNumbers.nd (pi_range1 rfl B.range (pa_cons (pv 2) pa_nil))
          (blkOk_by (own := [("k", 4)]) (N := ["shape", "cell", "size", "kind", "k", "x"]) (sc := defScope sNumbers) (by decide +kernel))
          (fun _ _ _ _ _ => pg_name (i := 4) scNumbers.nd rfl (Or.inl rfl)) (fun _ _ _ _ _ => pts_nil) (fun _ _ _ _ _ => pe_op op_fdiv (pv 4) (pe_op op_add pe_int (pe_op op_mod (pe_op op_fdiv (pv 0) pe_int) pe_int))))
          (pe_call GO hr (by rfl) gO kO bO .nil pass0 (pa_cons (pv 1) (pa_cons pe_int (pa_cons pe_int pa_nil))))))) pss_nil)
      (pss_one (ps_ret (pe_op op_cat (pe_lc (own := [("x", 5)]) (g := gName 5) (tt := tYes) rfl scNumbers.nd (pi_list (pe_call GO hr (by rfl) gO kO bO .nil pass0 (pa_cons (pv 1) (pa_cons (pv 2) (pa_cons pe_int pa_nil)))))
          (blkOk_by (own := [("x", 5)]) (N := ["shape", "cell", "size", "kind", "k", "x"]) (sc := defScope sNumbers) (by decide +kernel))
          (fun _ _ _ _ _ => pg_name (i := 5) scNumbers.nd rfl (Or.inl rfl)) (fun _ _ _ _ _ => pts_nil) (fun _ _ _ _ _ => pe_op op_add pe_int (pv 5))) (pe_lst (pa_cons pe_int pa_nil))))))))))), ?_⟩
    refine ⟨fun σ H' => H' = H ∧ ∃ kd : Int, 0 ≤ kd ∧ kd < 8 ∧ σ = [some (.int x), some (.int c), some (.int (n : Int)), some (.int kd), none, none], ⟨.int x, rfl, x, 8, rfl, rfl, (show (0 : Int) < 8 by decide), rfl, _, Int.emod_nonneg _ (by decide), Int.emod_lt_of_pos _ (by decide), rfl⟩, ?_⟩
    rintro σ H' ⟨rfl, kd, kd0, kd1, rfl⟩
    refine ⟨.int kd, rfl, rfl, _, rfl, ite2 (fun e => ?_) (fun e => ?_)⟩
    · exact ⟨.int c, rfl, .int n, rfl, c, n, 1000000001, rfl, by omega, by omega, by decide, by decide, fun H1 p l s1 hp hx hl hb => q H1 p l s1 hp hx (fun z hz => by have := hb z hz; omega) (by omega)⟩
    have nk0 : ¬ kd = 0 := fun z => e (decide_eq_true (by rw [z]))
    refine ⟨.int kd, rfl, _, 3, rfl, rfl, _, rfl, ite2 (fun e3 => ?_) (fun _ => ?_)⟩
    · have k3 : kd < 3 := of_decide_eq_true e3
      exact ⟨.int c, rfl, .int n, rfl, .int kd, rfl, _, 1, rfl, rfl, c, n, kd + 1, rfl, by omega, by omega, by omega, by omega, fun H1 p l s1 hp hx hl hb => q H1 p l s1 hp hx (fun z hz => by have := hb z hz; omega) (by omega)⟩
    refine ⟨.int kd, rfl, rfl, _, rfl, ite2 (fun _ => ?_) (fun _ => ?_)⟩
    · have m0 := Int.emod_nonneg (x / 8) (show (7 : Int) ≠ 0 by decide)
      have m1 := Int.emod_lt_of_pos (x / 8) (show (0 : Int) < 7 by decide)
      refine ⟨.int c, rfl, .int x, rfl, x, 8, rfl, rfl, ⟨by decide, by decide⟩, _, 7, rfl, rfl, (show (0 : Int) < 7 by decide), 1, _, rfl, rfl, c, 1 + x / 8 % 7, 3, rfl, by omega, by omega, by decide, by decide, fun H1 p l s1 hp hx hl hb => ?_⟩
      have hll : l.length ≤ 7 := by omega
      refine ⟨.int n, rfl, p, n, _, rfl, rfl, hx, by omega, by omega, line_ok7 (by rw [List.length_map, Int.toNat_natCast]; have : l.length * n ≤ 7 * 500 := Nat.mul_le_mul hll hn; omega), fun p1 hp1 => ?_⟩
      refine ⟨.int n, rfl, _, rfl, p1, _, rfl, .inl (.inl upd_same), fun p2 hp2 => ⟨by show 1 ≤ sizeLine; decide, fun p3 hp3 => ?_⟩⟩
      have hcut : L2.cutV (List.replicate (n : Int).toNat (l.map V.int)).flatten none (some (n : Int)) = ((List.replicate n l).flatten.take n).map V.int := by rw [cutV_to, Int.toNat_natCast, rep_map, ← List.map_take]
      have n23 := new_ne hp3
      have lt : ((List.replicate n l).flatten.take n).length ≤ 500 := by rw [List.length_take]; omega
      refine ⟨p2, p3, _, _, rfl, rfl, by rw [upd_ne n23.symm, upd_same], upd_same, line_ok7 (by rw [hcut, List.length_map]; show _ + 1 ≤ 10000000; omega), fun p4 hp4 => ?_⟩
      refine q _ p4 ((List.replicate n l).flatten.take n ++ [0]) ((((s1.trans (same_upd hp1)).trans (same_upd hp2)).trans (same_upd hp3)).trans (same_upd hp4)) (s1.free (new_old (new_old (new_old hp4)))) ?_ (fun z hz => ?_) (by rw [List.length_append]; show _ + 1 ≤ 600; omega)
      · rw [upd_same, hcut]
        exact congrArg some (LI_snoc _ _).symm
      · rcases List.mem_append.mp hz with y | y
        · obtain ⟨u, hu1, hu2⟩ := List.mem_flatten.mp (List.mem_of_mem_take y)
          rw [List.eq_of_mem_replicate hu1] at hu2
          have := hb z hu2
          omega
        · obtain rfl : z = 0 := by simpa using y
          exact ⟨by decide, by decide⟩
    refine ⟨.int kd, rfl, rfl, _, rfl, ite2 (fun _ => ?_) (fun _ => ?_)⟩
    · refine ⟨.int n, rfl, n, rfl, by omega, by omega, fun D hD => ?_⟩
      refine lc_gen (n := (n : Int).toNat) (fun j H1 => Same H' H1 ∧ ∃ l : List Int, H1 D = some (LI l) ∧ l.length = j ∧ Num l) ⟨same_upd hD, [], upd_same, rfl, (fun z hz => by cases hz)⟩ (fun j H1 hj _ => hj) (fun H1 _ => Nat.le_refl _) ?_ ?_
      · rintro j H1 v H2 hj ⟨s1, l, hd, hl, hnum⟩ ⟨rfl, rfl⟩
        refine ⟨rfl, ?_⟩
        dsimp only [tYes]
        rw [if_pos rfl]
        have m0 := Int.emod_nonneg (x / 8) (show (9 : Int) ≠ 0 by decide)
        have m1 := Int.emod_lt_of_pos (x / 8) (show (0 : Int) < 9 by decide)
        exact ⟨.int x, rfl, x, 8, rfl, rfl, ⟨by decide, by decide⟩, _, 9, rfl, rfl, (show (0 : Int) < 9 by decide), _, hd, line_ok7 (by rw [List.length_map]; omega), push_num hD s1 hl hnum m0 (by omega)⟩
      · rintro H1 ⟨s1, l, hd, hl, hnum⟩
        exact q H1 D l s1 hD hd hnum (by omega)
    refine ⟨.int kd, rfl, rfl, _, rfl, ite2 (fun _ => ?_) (fun _ => ?_)⟩
    · refine ⟨.int n, rfl, n, rfl, by omega, by omega, fun D hD => ?_⟩
      refine lc_gen (n := (n : Int).toNat) (fun j H1 => Same H' H1 ∧ ∃ l : List Int, H1 D = some (LI l) ∧ l.length = j ∧ Num l) ⟨same_upd hD, [], upd_same, rfl, (fun z hz => by cases hz)⟩ (fun j H1 hj _ => hj) (fun H1 _ => Nat.le_refl _) ?_ ?_
      · rintro j H1 v H2 hj ⟨s1, l, hd, hl, hnum⟩ ⟨rfl, rfl⟩
        refine ⟨rfl, ?_⟩
        dsimp only [tYes]
        rw [if_pos rfl]
        have m0 := Int.emod_nonneg (x / 8) (show (3 : Int) ≠ 0 by decide)
        have m1 := Int.emod_lt_of_pos (x / 8) (show (0 : Int) < 3 by decide)
        have b0 : 0 ≤ ((n : Int) - (0 + ((j : Nat) : Int))) * (1 + x / 8 % 3) := Int.mul_nonneg (by omega) (by omega)
        have b1 : ((n : Int) - (0 + ((j : Nat) : Int))) * (1 + x / 8 % 3) ≤ 500 * 3 := Int.mul_le_mul (by omega) (by omega) (by omega) (by decide)
        exact ⟨.int n, rfl, .int (0 + (j : Nat)), rfl, _, _, rfl, rfl, .int x, rfl, x, 8, rfl, rfl, ⟨by decide, by decide⟩, _, 3, rfl, rfl, (show (0 : Int) < 3 by decide), 1, _, rfl, rfl, _, _, rfl, rfl, .inl ⟨by omega, by omega⟩, _, 3, rfl, rfl, ⟨by decide, by decide⟩, _, hd, line_ok7 (by rw [List.length_map]; omega), push_num hD s1 hl hnum (by omega) (by omega)⟩
      · rintro H1 ⟨s1, l, hd, hl, hnum⟩
        exact q H1 D l s1 hD hd hnum (by omega)
    refine ⟨.int kd, rfl, rfl, _, rfl, ite2 (fun _ => ?_) (fun _ => ?_)⟩
    · refine ⟨.int n, rfl, n, rfl, by omega, by omega, fun D hD => ?_⟩
      refine lc_gen (n := (n : Int).toNat) (fun j H1 => Same H' H1 ∧ ∃ l : List Int, H1 D = some (LI l) ∧ l.length = j ∧ Num l) ⟨same_upd hD, [], upd_same, rfl, (fun z hz => by cases hz)⟩ (fun j H1 hj _ => hj) (fun H1 _ => Nat.le_refl _) ?_ ?_
      · rintro j H1 v H2 hj ⟨s1, l, hd, hl, hnum⟩ ⟨rfl, rfl⟩
        refine ⟨rfl, ?_⟩
        dsimp only [tYes]
        rw [if_pos rfl]
        have m0 := Int.emod_nonneg (x / 8) (show (5 : Int) ≠ 0 by decide)
        have m1 := Int.emod_lt_of_pos (x / 8) (show (0 : Int) < 5 by decide)
        have b0 : 0 ≤ (0 + ((j : Nat) : Int)) / (1 + x / 8 % 5) := Int.ediv_nonneg (by omega) (by omega)
        have b1 : (0 + ((j : Nat) : Int)) / (1 + x / 8 % 5) ≤ 0 + ((j : Nat) : Int) := Int.ediv_le_self _ (by omega)
        exact ⟨.int (0 + (j : Nat)), rfl, .int x, rfl, x, 8, rfl, rfl, ⟨by decide, by decide⟩, _, 5, rfl, rfl, (show (0 : Int) < 5 by decide), 1, _, rfl, rfl, _, _, rfl, rfl, ⟨by omega, by omega⟩, _, hd, line_ok7 (by rw [List.length_map]; omega), push_num hD s1 hl hnum b0 (by omega)⟩
      · rintro H1 ⟨s1, l, hd, hl, hnum⟩
        refine ⟨.int c, rfl, c, 4, 9, rfl, by decide, by decide, by decide, by decide, fun H2 p2 l2 s2 hp2 hx2 hl2 hb2 => ?_⟩
        have hl4 : l2.length ≤ 4 := by
          rw [hl2]
          decide
        refine ⟨D, p2, _, _, rfl, rfl, s2 _ _ hd, hx2, line_ok7 (by rw [List.length_map, List.length_map]; omega), fun p4 hp4 => ?_⟩
        refine q _ p4 (l ++ l2) ((s1.trans s2).trans (same_upd hp4)) ((s1.trans s2).free hp4) ?_ (fun z hz => ?_) (by rw [List.length_append]; omega)
        · rw [upd_same]
          show some (HO.lst _) = some (HO.lst _)
          rw [List.map_append]
        · rcases List.mem_append.mp hz with y | y
          · exact hnum z y
          · have := hb2 z y
            omega
    · refine ⟨.int c, rfl, .int n, rfl, c, n, 4, rfl, by omega, by omega, by decide, by decide, fun H1 p l0 s1 hp hx hl0 hb => ?_⟩
      refine ⟨p, rfl, ⟨_, .inl (.inl hx)⟩, fun D hD => ?_⟩
      refine lc_list (K := K) (xs := l0.map V.int) (fun j H2 => Same H1 H2 ∧ ∃ l : List Int, H2 D = some (LI l) ∧ l.length = j ∧ Num l) ⟨same_upd hD, [], upd_same, rfl, (fun z hz => by cases hz)⟩ (fun j H2 _ h => h.1.seq (.inl (.inl hx))) ?_ ?_
      · rintro j v H2 hjv ⟨s2, l, hd, hl, hnum⟩
        rw [List.getElem?_map] at hjv
        obtain ⟨z, hz, rfl⟩ := Option.map_eq_some_iff.mp hjv
        have hzb := hb z (List.mem_of_getElem? hz)
        have hj : j < l0.length := (List.getElem?_eq_some_iff.mp hz).1
        refine ⟨rfl, ?_⟩
        dsimp only [tYes]
        rw [if_pos rfl]
        exact ⟨.int z, rfl, 2, _, rfl, rfl, _, hd, line_ok7 (by rw [List.length_map]; omega), push_num hD s2 hl hnum (by omega) (by omega)⟩
      · rintro H2 ⟨s2, l, hd, hl, hnum⟩
        rw [List.length_map] at hl
        refine ⟨by show 1 ≤ sizeLine; decide, fun p3 hp3 => ?_⟩
        refine ⟨D, p3, _, _, rfl, rfl, by rw [upd_ne (ne_of_none hd hp3)]; exact hd, upd_same, line_ok7 (by rw [List.length_map]; show l.length + 1 ≤ 10000000; omega), fun p4 hp4 => ?_⟩
        refine q _ p4 (l ++ [0]) (((s1.trans s2).trans (same_upd hp3)).trans (same_upd hp4)) ((s1.trans s2).free (new_old hp4)) ?_ (fun z hz => ?_) (by rw [List.length_append]; show l.length + 1 ≤ 600; omega)
        · rw [upd_same]
          exact congrArg some (LI_snoc _ _).symm
        · rcases List.mem_append.mp hz with y | y
          · exact hnum z y
          · obtain rfl : z = 0 := by simpa using y
            exact ⟨by decide, by decide⟩
end
theorem paired_len {α β : Type} {F : α → β → Prop} : ∀ {xs : List α} {ys : List β}, Paired F xs ys → xs.length = ys.length
  | _, _, .nil => rfl
  | _, _, .cons _ t => congrArg (· + 1) (paired_len t)
theorem paired_get {α β : Type} {F : α → β → Prop} : ∀ {xs : List α} {ys : List β} {i : Nat} {x : α}, Paired F xs ys → xs[i]? = some x → ∃ y, ys[i]? = some y ∧ F x y
  | _, _, 0, _, .cons r _, e => ⟨_, rfl, by cases e; exact r⟩
  | _, _, i + 1, _, .cons _ t, e => paired_get (i := i) t e
/-- lists of bytes in the list at pl -/
def Bys (pl : Addr) (H : Hp) : List V → List (List Int) → Prop := Paired fun v l => ∃ q, v = .ref q ∧ q ≠ pl ∧ H q = some (LI l)
theorem Bys.mono {pl : Addr} {H H' : Hp} {xs : List V} {rs : List (List Int)} (h : Bys pl H xs rs) (k : ∀ q l, q ≠ pl → H q = some (LI l) → H' q = some (LI l)) : Bys pl H' xs rs := Paired.mapP h fun _ _ ⟨q, e, n, t⟩ => ⟨q, e, n, k q _ n t⟩
/-! ### ranks and suffixes -/
section
open PySem.W
/-- the number at i, with 0 behind the end -/
def pad (ns : List Int) (i : Nat) : Int := match ns[i]? with
  | some x => x + 1
  | none => 0
theorem pad_at {ns : List Int} {i : Nat} {x : Int} (h : ns[i]? = some x) : pad ns i = x + 1 := by
  unfold pad
  rw [h]
theorem pad_end {ns : List Int} {i : Nat} (h : ns.length ≤ i) : pad ns i = 0 := by
  unfold pad
  rw [List.getElem?_eq_none h]
theorem pad_pos {ns : List Int} {i : Nat} (hn : ∀ x ∈ ns, 0 ≤ x) (h : i < ns.length) : 1 ≤ pad ns i := by
  rw [pad_at (List.getElem?_eq_getElem h)]
  have := hn _ (List.getElem_mem h)
  omega
theorem pad_nonneg {ns : List Int} (hn : ∀ x ∈ ns, 0 ≤ x) (i : Nat) : 0 ≤ pad ns i := by
  by_cases h : i < ns.length
  · have := pad_pos hn h
    omega
  · rw [pad_end (by omega)]
    decide
def LtW (ns : List Int) (w i j : Nat) : Prop := ∃ k, k < w ∧ (∀ t, t < k → pad ns (i + t) = pad ns (j + t)) ∧ pad ns (i + k) < pad ns (j + k)
def EqW (ns : List Int) (w i j : Nat) : Prop := ∀ t, t < w → pad ns (i + t) = pad ns (j + t)
theorem tri (ns : List Int) (i j : Nat) : ∀ w, LtW ns w i j ∨ EqW ns w i j ∨ LtW ns w j i
  | 0 => .inr (.inl fun t h => absurd h (Nat.not_lt_zero t))
  | w + 1 => by
    rcases tri ns i j w with ⟨k, hk, h1, h2⟩ | h | ⟨k, hk, h1, h2⟩
    · exact .inl ⟨k, by omega, h1, h2⟩
    · rcases Int.lt_trichotomy (pad ns (i + w)) (pad ns (j + w)) with c | c | c
      · exact .inl ⟨w, by omega, h, c⟩
      · refine .inr (.inl fun t ht => ?_)
        by_cases e : t = w
        · rw [e]
          exact c
        · exact h t (by omega)
      · exact .inr (.inr ⟨w, by omega, fun t ht => (h t ht).symm, c⟩)
    · exact .inr (.inr ⟨k, by omega, h1, h2⟩)
theorem EqW.not {ns : List Int} {w i j : Nat} (h : EqW ns w i j) : ¬ LtW ns w i j := fun ⟨k, hk, _, h2⟩ => by
  have := h k hk
  omega
theorem EqW.symm {ns : List Int} {w i j : Nat} (h : EqW ns w i j) : EqW ns w j i := fun t ht => (h t ht).symm
theorem LtW.asymm {ns : List Int} {w i j : Nat} (h : LtW ns w i j) : ¬ LtW ns w j i := fun ⟨k, hk, h1, h2⟩ => by
  obtain ⟨k', hk', h1', h2'⟩ := h
  rcases Nat.lt_trichotomy k k' with c | c | c
  · have := h1' k c
    omega
  · subst c
    omega
  · have := h1 k' c
    omega
theorem ltw_double {ns : List Int} {w i j : Nat} : LtW ns (w + w) i j ↔ LtW ns w i j ∨ (EqW ns w i j ∧ LtW ns w (i + w) (j + w)) := by
  constructor
  · rintro ⟨k, hk, h1, h2⟩
    by_cases c : k < w
    · exact .inl ⟨k, c, h1, h2⟩
    · refine .inr ⟨fun t ht => h1 t (by omega), k - w, by omega, fun t ht => ?_, ?_⟩
      · have := h1 (w + t) (by omega)
        rw [← Nat.add_assoc, ← Nat.add_assoc] at this
        exact this
      · rw [Nat.add_assoc, Nat.add_assoc, show w + (k - w) = k by omega]
        exact h2
  · rintro (⟨k, hk, h1, h2⟩ | ⟨h, k, hk, h1, h2⟩)
    · exact ⟨k, by omega, h1, h2⟩
    · refine ⟨w + k, by omega, fun t ht => ?_, ?_⟩
      · by_cases c : t < w
        · exact h t c
        · have := h1 (t - w) (by omega)
          rw [Nat.add_assoc, Nat.add_assoc, show w + (t - w) = t by omega] at this
          exact this
      · rw [← Nat.add_assoc, ← Nat.add_assoc]
        exact h2
theorem pad_drop : ∀ (k : Nat) {ns : List Int} {i j : Nat}, (∀ x ∈ ns, 0 ≤ x) → (∀ t, t < k → pad ns (i + t) = pad ns (j + t)) → pad ns (i + k) < pad ns (j + k) → ns.drop i < ns.drop j
  | 0, ns, i, j, hn, _, h2 => by
    have hj : j < ns.length := by
      by_cases c : j < ns.length
      · exact c
      · rw [Nat.add_zero, Nat.add_zero, pad_end (i := j) (by omega)] at h2
        have := pad_nonneg hn i
        omega
    rw [List.drop_eq_getElem_cons hj]
    by_cases c : i < ns.length
    · rw [Nat.add_zero, Nat.add_zero, pad_at (List.getElem?_eq_getElem c), pad_at (List.getElem?_eq_getElem hj)] at h2
      rw [List.drop_eq_getElem_cons c]
      exact List.Lex.rel (by omega)
    · rw [List.drop_eq_nil_of_le (by omega)]
      exact List.Lex.nil
  | k + 1, ns, i, j, hn, h1, h2 => by
    have h0 := h1 0 (Nat.succ_pos k)
    rw [Nat.add_zero, Nat.add_zero] at h0
    have nx := pad_drop k (ns := ns) (i := i + 1) (j := j + 1) hn (fun t ht => by
      have := h1 (t + 1) (by omega)
      rw [show i + 1 + t = i + (t + 1) by omega, show j + 1 + t = j + (t + 1) by omega]
      exact this) (by
      rw [show i + 1 + k = i + (k + 1) by omega, show j + 1 + k = j + (k + 1) by omega]
      exact h2)
    by_cases c : i < ns.length
    · have a := pad_pos hn c
      have hj : j < ns.length := by
        by_cases d : j < ns.length
        · exact d
        · rw [pad_end (i := j) (by omega)] at h0
          omega
      rw [pad_at (List.getElem?_eq_getElem c), pad_at (List.getElem?_eq_getElem hj)] at h0
      rw [List.drop_eq_getElem_cons c, List.drop_eq_getElem_cons hj, show ns[i] = ns[j] by omega]
      exact List.Lex.cons nx
    · rw [pad_end (i := i) (by omega)] at h0
      have hj : ¬ j < ns.length := fun d => by
        have := pad_pos hn d
        omega
      rw [pad_end (i := i + (k + 1)) (by omega), pad_end (i := j + (k + 1)) (by omega)] at h2
      omega
theorem LtW.drop {ns : List Int} {w i j : Nat} (hn : ∀ x ∈ ns, 0 ≤ x) (h : LtW ns w i j) : ns.drop i < ns.drop j := by
  obtain ⟨k, _, h1, h2⟩ := h
  exact pad_drop k hn h1 h2
/-- rs are the ranks of ks: in their order, from 1 on -/
structure IsRank (ks rs : List Int) : Prop where
  len : rs.length = ks.length
  lo : ∀ x ∈ rs, 1 ≤ x ∧ x ≤ (ks.length : Int)
  lt : ∀ (i j : Nat) (a b x y : Int), ks[i]? = some a → ks[j]? = some b → rs[i]? = some x → rs[j]? = some y → (x < y ↔ a < b)
/-- rs are the ranks of the suffixes as far as their first w numbers -/
structure RankW (ns : List Int) (w : Nat) (rs : List Int) : Prop where
  len : rs.length = ns.length
  lo : ∀ x ∈ rs, 1 ≤ x ∧ x ≤ (ns.length : Int)
  lt : ∀ (i j : Nat) (x y : Int), rs[i]? = some x → rs[j]? = some y → (x < y ↔ LtW ns w i j)
theorem IsRank.one {ns rs : List Int} (h : IsRank ns rs) : RankW ns 1 rs := by
  refine ⟨h.len, h.lo, fun i j x y hi hj => ?_⟩
  have li : i < ns.length := by
    rw [← h.len]
    exact (List.getElem?_eq_some_iff.mp hi).1
  have lj : j < ns.length := by
    rw [← h.len]
    exact (List.getElem?_eq_some_iff.mp hj).1
  rw [h.lt i j _ _ x y (List.getElem?_eq_getElem li) (List.getElem?_eq_getElem lj) hi hj]
  constructor
  · intro c
    refine ⟨0, Nat.one_pos, fun t ht => absurd ht (Nat.not_lt_zero t), ?_⟩
    rw [Nat.add_zero, Nat.add_zero, pad_at (List.getElem?_eq_getElem li), pad_at (List.getElem?_eq_getElem lj)]
    omega
  · rintro ⟨k, hk, _, h2⟩
    obtain rfl : k = 0 := by omega
    rw [Nat.add_zero, Nat.add_zero, pad_at (List.getElem?_eq_getElem li), pad_at (List.getElem?_eq_getElem lj)] at h2
    omega
theorem RankW.eq {ns rs : List Int} {w i j : Nat} {x y : Int} (h : RankW ns w rs) (hi : rs[i]? = some x) (hj : rs[j]? = some y) : x = y ↔ EqW ns w i j := by
  have a := h.lt i j x y hi hj
  have b := h.lt j i y x hj hi
  constructor
  · intro e
    rcases tri ns i j w with c | c | c
    · have := a.mpr c
      omega
    · exact c
    · have := b.mpr c
      omega
  · intro e
    have c := mt a.mp e.not
    have d := mt b.mp e.symm.not
    omega
/-- what stands w behind i -/
def beh (rs : List Int) (w i : Nat) : Int := (rs[i + w]?).getD 0
theorem beh_lt {ns rs : List Int} {w i j : Nat} (hn : ∀ x ∈ ns, 0 ≤ x) (hw : 0 < w) (h : RankW ns w rs) : beh rs w i < beh rs w j ↔ LtW ns w (i + w) (j + w) := by
  unfold beh
  by_cases ci : i + w < rs.length
  · by_cases cj : j + w < rs.length
    · rw [List.getElem?_eq_getElem ci, List.getElem?_eq_getElem cj]
      exact h.lt _ _ _ _ (List.getElem?_eq_getElem ci) (List.getElem?_eq_getElem cj)
    · rw [List.getElem?_eq_getElem ci, List.getElem?_eq_none (by omega)]
      have a := h.lo _ (List.getElem_mem ci)
      refine ⟨fun z => ?_, fun z => ?_⟩
      · have z' : rs[i + w] < 0 := z
        omega
      · obtain ⟨k, _, h1, h2⟩ := z
        rw [h.len] at ci cj
        rw [pad_end (i := j + w + k) (by omega)] at h2
        have := pad_nonneg hn (i + w + k)
        omega
  · by_cases cj : j + w < rs.length
    · rw [List.getElem?_eq_none (by omega), List.getElem?_eq_getElem cj]
      have a := h.lo _ (List.getElem_mem cj)
      refine ⟨fun _ => ⟨0, hw, fun t ht => absurd ht (Nat.not_lt_zero t), ?_⟩, fun _ => ?_⟩
      · rw [h.len] at ci cj
        rw [Nat.add_zero, Nat.add_zero, pad_end (by omega)]
        have := pad_pos hn cj
        omega
      · show (0 : Int) < rs[j + w]
        omega
    · rw [List.getElem?_eq_none (by omega), List.getElem?_eq_none (by omega)]
      refine ⟨fun z => absurd z (Int.lt_irrefl _), fun z => ?_⟩
      obtain ⟨k, _, h1, h2⟩ := z
      rw [h.len] at ci cj
      rw [pad_end (i := j + w + k) (by omega), pad_end (i := i + w + k) (by omega)] at h2
      exact absurd h2 (Int.lt_irrefl _)
theorem beh_lo {ns rs : List Int} {w : Nat} (h : RankW ns w rs) (i : Nat) : 0 ≤ beh rs w i ∧ beh rs w i ≤ (ns.length : Int) := by
  unfold beh
  by_cases ci : i + w < rs.length
  · rw [List.getElem?_eq_getElem ci]
    have a := h.lo _ (List.getElem_mem ci)
    show 0 ≤ rs[i + w] ∧ rs[i + w] ≤ _
    omega
  · rw [List.getElem?_eq_none (by omega)]
    show (0 : Int) ≤ 0 ∧ (0 : Int) ≤ _
    omega
theorem key_lt {n x y b d : Int} (b0 : 0 ≤ b) (b1 : b ≤ n) (d0 : 0 ≤ d) (d1 : d ≤ n) : (n + 1) * x + b < (n + 1) * y + d ↔ x < y ∨ (x = y ∧ b < d) := by
  have up : ∀ {u v : Int}, u < v → (n + 1) * u + (n + 1) ≤ (n + 1) * v := fun {u v} h => by
    have e : v = u + 1 + (v - u - 1) := by omega
    have p : 0 ≤ (n + 1) * (v - u - 1) := Int.mul_nonneg (by omega) (by omega)
    rw [e, Int.mul_add, Int.mul_add, Int.mul_one]
    omega
  rcases Int.lt_trichotomy x y with c | c | c
  · have := up c
    constructor
    · intro _
      exact .inl c
    · intro _
      omega
  · subst c
    omega
  · have := up c
    omega
/-- the keys of the next ranks -/
def keysOf (rs : List Int) (w : Nat) : List Int := (List.range rs.length).map fun i => ((rs.length : Int) + 1) * rs.getD i 0 + beh rs w i
theorem keysOf_len (rs : List Int) (w : Nat) : (keysOf rs w).length = rs.length := by
  unfold keysOf
  rw [List.length_map, List.length_range]
theorem keysOf_at {rs : List Int} {w i : Nat} {x : Int} (h : rs[i]? = some x) : (keysOf rs w)[i]? = some (((rs.length : Int) + 1) * x + beh rs w i) := by
  unfold keysOf
  rw [List.getElem?_map, List.getElem?_range (List.getElem?_eq_some_iff.mp h).1]
  have e : rs.getD i 0 = x := by
    rw [List.getD_eq_getElem?_getD, h]
    rfl
  show some (((rs.length : Int) + 1) * rs.getD i 0 + beh rs w i) = _
  rw [e]
theorem RankW.next {ns rs qs : List Int} {w : Nat} (hn : ∀ x ∈ ns, 0 ≤ x) (hw : 0 < w) (h : RankW ns w rs) (q : IsRank (keysOf rs w) qs) : RankW ns (w + w) qs := by
  have hl : qs.length = ns.length := by rw [q.len, keysOf_len, h.len]
  refine ⟨hl, fun x hx => ?_, fun i j a b hi hj => ?_⟩
  · have := q.lo x hx
    rw [keysOf_len, h.len] at this
    exact this
  · have li : i < rs.length := by
      rw [h.len, ← hl]
      exact (List.getElem?_eq_some_iff.mp hi).1
    have lj : j < rs.length := by
      rw [h.len, ← hl]
      exact (List.getElem?_eq_some_iff.mp hj).1
    have ei := List.getElem?_eq_getElem li
    have ej := List.getElem?_eq_getElem lj
    have bi := beh_lo h i
    have bj := beh_lo h j
    rw [← h.len] at bi bj
    rw [q.lt i j _ _ a b (keysOf_at ei) (keysOf_at ej) hi hj, key_lt bi.1 bi.2 bj.1 bj.2, ltw_double, h.lt i j _ _ ei ej, h.eq ei ej, beh_lt hn hw h]
theorem snocI {α : Type} {p : List α → Prop} (h0 : p []) (h1 : ∀ l k, p l → p (l ++ [k])) (l : List α) : p l := by
  have h : ∀ r : List α, p r.reverse := fun r => by
    induction r with
    | nil => exact h0
    | cons a r ih =>
      rw [List.reverse_cons]
      exact h1 _ _ ih
  have := h l.reverse
  rwa [List.reverse_reverse] at this
theorem oss_nodup : ∀ (l : List Int), l.Nodup → (ossOf l).length = l.length := by
  refine snocI (fun _ => rfl) fun l k ih => ?_
  · intro h
    have hp := (List.perm_append_singleton k l).nodup_iff.mp h
    obtain ⟨h1, h2⟩ := List.nodup_cons.mp hp
    rw [oss_next, if_neg (fun z => h1 (oss_has.mp z)), List.length_append, List.length_append, ih h2]
theorem nodup_oss : ∀ (l : List Int), l.length ≤ (ossOf l).length → l.Nodup := by
  refine snocI (fun _ => List.nodup_nil) fun l k ih => ?_
  · intro h
    have ol := oss_len l
    rw [oss_next, List.length_append] at h
    by_cases m : k ∈ ossOf l
    · rw [if_pos m] at h
      simp at h
      omega
    · rw [if_neg m, List.length_append] at h
      simp only [List.length_singleton] at h
      exact (List.perm_append_singleton k l).nodup_iff.mpr (List.nodup_cons.mpr ⟨fun z => m (oss_has.mpr z), ih (by omega)⟩)
theorem RankW.all {ns rs : List Int} {w : Nat} (hn : ∀ x ∈ ns, 0 ≤ x) (hw : ns.length ≤ w) (h : RankW ns w rs) : rs.Nodup := by
  rw [List.nodup_iff_pairwise_ne, List.pairwise_iff_getElem]
  intro i j hi hj hij e
  have q := (h.eq (List.getElem?_eq_getElem hi) (List.getElem?_eq_getElem hj)).mp e
  rw [h.len] at hj
  have := q (ns.length - j) (by omega)
  rw [pad_end (i := j + (ns.length - j)) (by omega)] at this
  have := pad_pos hn (show i + (ns.length - j) < ns.length by omega)
  omega
theorem inc_exact : ∀ (l : List Int) (a : Int), l.Pairwise (· < ·) → (∀ x ∈ l, a < x ∧ x ≤ a + l.length) → ∀ i x, l[i]? = some x → x = a + 1 + (i : Nat)
  | [], _, _, _, i, x, h => by simp at h
  | d :: r, a, p, b, i, x, h => by
    obtain ⟨p1, p2⟩ := List.pairwise_cons.mp p
    have bd := b d List.mem_cons_self
    have ih := inc_exact r (a + 1) p2 fun y hy => by
      have := b y (List.mem_cons_of_mem _ hy)
      have := p1 y hy
      rw [List.length_cons] at *
      omega
    cases i with
    | zero =>
      obtain rfl : d = x := by simpa using h
      cases r with
      | nil =>
        simp at bd
        simp
        omega
      | cons e r' =>
        have := ih 0 e rfl
        have := p1 e List.mem_cons_self
        simp at *
        omega
    | succ i =>
      have := ih i x (by simpa using h)
      omega
theorem starts_pw (ns : List Int) : (starts ns).Pairwise fun x y => ns.drop x ≤ ns.drop y := by
  have h := List.pairwise_mergeSort (le := fun x y : Nat => decide (ns.drop x ≤ ns.drop y)) (fun a b c h1 h2 => decide_eq_true (List.le_trans (of_decide_eq_true h1) (of_decide_eq_true h2)))
    (fun a b => by
      rcases List.le_total (ns.drop a) (ns.drop b) with c | c
      · rw [decide_eq_true c]
        rfl
      · rw [decide_eq_true c, Bool.or_true]) (List.range ns.length)
  exact h.imp fun h => of_decide_eq_true h
theorem starts_nodup (ns : List Int) : (starts ns).Nodup := (starts_perm ns).nodup_iff.mpr List.nodup_range
/-- where the ranks differ all, they tell the places in the sorted list -/
theorem RankW.place {ns rs : List Int} {w : Nat} (hn : ∀ x ∈ ns, 0 ≤ x) (h : RankW ns w rs) (nd : rs.Nodup) {p s : Nat} (hp : (starts ns)[p]? = some s) : rs[s]? = some ((p : Int) + 1) := by
  have mem : ∀ x ∈ starts ns, x < rs.length := fun x hx => by
    rw [h.len]
    exact starts_lt hx
  have pw : ((starts ns).map fun x => rs.getD x 0).Pairwise (· < ·) := by
    rw [List.pairwise_map]
    have both := (starts_pw ns).and (List.nodup_iff_pairwise_ne.mp (starts_nodup ns))
    refine both.imp_of_mem fun {x y} hx hy c => ?_
    have ex := List.getElem?_eq_getElem (mem x hx)
    have ey := List.getElem?_eq_getElem (mem y hy)
    rw [List.getD_eq_getElem?_getD, List.getD_eq_getElem?_getD, ex, ey]
    show rs[x]'(mem x hx) < rs[y]'(mem y hy)
    rcases Int.lt_trichotomy (rs[x]'(mem x hx)) (rs[y]'(mem y hy)) with z | z | z
    · exact z
    · exact absurd ((List.getElem_inj nd).mp z) c.2
    · have l := ((h.lt y x _ _ ey ex).mp z).drop hn
      exact absurd l (List.not_lt.mpr c.1)
  have bd : ∀ x ∈ (starts ns).map fun x => rs.getD x 0, 0 < x ∧ x ≤ 0 + (((starts ns).map fun x => rs.getD x 0).length : Int) := fun x hx => by
    obtain ⟨t, ht, rfl⟩ := List.mem_map.mp hx
    rw [List.getD_eq_getElem?_getD, List.getElem?_eq_getElem (mem t ht), List.length_map, starts_len]
    have := h.lo _ (List.getElem_mem (mem t ht))
    show 0 < rs[t]'(mem t ht) ∧ rs[t]'(mem t ht) ≤ _
    omega
  have e := inc_exact _ 0 pw bd p (rs.getD s 0) (by rw [List.getElem?_map, hp]; rfl)
  have hs := mem s (List.mem_of_getElem? hp)
  rw [List.getD_eq_getElem?_getD, List.getElem?_eq_getElem hs] at e
  rw [List.getElem?_eq_getElem hs]
  refine congrArg some ?_
  have e' : rs[s] = 0 + 1 + (p : Int) := e
  omega
end
/-! ### set(xs) and sorted(set(xs)) of a list of ints, any number below the scan's bound -/
section
open PySem PySem.Spec PyProof.Rows L2 PySem.W
section
variable {P : Program} {w : World} {A : Around} {E : Value → Shared → Prop} {s : Shared}
abbrev nSet (w : World) : Obj := { cls := .type "set", dict := none, data := .set #[] 0 (.fresh 0 0 (!w.params.followText "set-order")) }
set_option maxHeartbeats 3200000 in
theorem call_set_lst {l : Addr} {items : Array Value} (ns : List Int) {Q : Value → Shared → Prop} (hh : A.handled = none) (hl : s.heap.IsList l items) (hit : IntsAre items.toList ns) (hb : ns.length + 1 < scanBound)
    (h : ∀ (h' : Heap) (tk c : Nat), SetR w h' s.heap.objs.size (fun j => decide (j ∈ ns)) c → c ≤ ns.length → (∀ b o, s.heap.get? b = some o → h'.get? b = some o) → Q (.ref s.heap.objs.size) { s with heap := h', toks := tk }) :
    wpAny (model P w) A (call (.type "set") [.ref l]) Q E s := by
  have hisz : items.size = ns.length := by rw [← Array.length_toList]; exact IntsAre.length hit
  obtain ⟨c, tl, hmro⟩ := F.called_set.mro
  have hmade := F.called_set.made
  have hsub := F.called_set.sub
  have h1 := F.called_set.notType
  have h2 := F.called_set.canCreate
  have hct := F.typeCall_set_1 (.ref l)
  refine wpAny_call (codeAny_of_tree (show wpAny _ _ (callAny (.type "set") _) _ _ _ from wpAny_pure ⟨Code.quiet_builtin _ (by decide +kernel), codeAny_builtin F.entry_type_call ?_⟩))
  rw [Around.under_plain (weight_type_call_type "set" [.ref l] []) rfl]
  repeat (any_goals (first | assumption | wp_step))
  refine codeAny_mono (code_set_led1 (.ref l) (E := E) (Q₁ := fun ob s₁ => ob = .ref s.heap.objs.size ∧ s₁ = { s with heap := s.heap.push (nSet w) }) ⟨rfl, rfl⟩) fun r s₁ hr => ?_
  cases r with
  | error e => exact hr
  | ok fl =>
    cases fl with
    | ret ob =>
      obtain ⟨rfl, rfl⟩ := hr
      have hS : (s.heap.push (nSet w)).get? s.heap.objs.size = some (nSet w) := Heap.get?_push_size _ rfl
      have hT : Shared.TypeIs { s with heap := s.heap.push (nSet w) } (.ref s.heap.objs.size) "set" := ⟨_, hS, rfl⟩
      have hli := F.called_set.init.lookup
      have hbi := F.called_set.init.bind (.ref s.heap.objs.size)
      repeat (any_goals (first | assumption | wp_step))
      refine codeAny_mono (codeAny_call_builtin (R := wants (fun r s₂ => r = .none ∧ ∃ h' tk c, s₂ = { s with heap := h', toks := tk } ∧ SetR w h' s.heap.objs.size (fun j => decide (j ∈ ns)) c ∧ c ≤ ns.length ∧ ∀ b o, s.heap.get? b = some o → h'.get? b = some o) E)
        F.called_set.init.plain F.entry_set_init (check_set_init_1 hT ?_)) fun r₂ s₂ hr₂ => ?_
      · obtain ⟨⟨ocls, odict, odata, oslots⟩, hol, hcl, nl, hdl⟩ := hl
        simp only at hcl hdl
        subst hcl; subst hdl
        have hlS : l < s.heap.objs.size := Heap.lt_size hol
        have hol' : (s.heap.push (nSet w)).get? l = some { cls := .type "list", dict := odict, data := .seq items nl, slots := oslots } := Heap.get?_push_of_some _ hol
        have hsls := F.sub_list_set
        have hslf := F.sub_list_frozenset
        have hne : (Value.type "list" == Value.type "dict") = false := by decide
        have hl1 : (s.heap.push (nSet w)).IsList l items := ⟨_, hol', rfl, nl, rfl⟩
        have hh3 : A.in1.in1.in1.handled = none := by simp [hh]
        have hz1 : (s.heap.push (nSet w)).objs.size = s.heap.objs.size + 1 := Heap.size_push ..
        have hneI : l ≠ (s.heap.push (nSet w)).objs.size := by rw [hz1]; exact Nat.ne_of_lt (Nat.lt_succ_of_lt hlS)
        have hSf : s.heap.objs.size ∉ [(s.heap.push (nSet w)).objs.size, l] := by
          rw [hz1]
          simp only [List.mem_cons, List.not_mem_nil, or_false, not_or]
          exact ⟨Nat.ne_of_lt (Nat.lt_succ_self _), Nat.ne_of_gt hlS⟩
        have hval : ∀ (i : Nat) (v : Value), items[i]? = some v → ∃ k t, ns[i]? = some k ∧ v = .int k t := fun i v hv => by
          have hi : i < ns.length := by rw [← hisz]; exact (Array.getElem?_eq_some_iff.mp hv).1
          obtain ⟨t, e⟩ := PyProof.Rows.IntsAre.int_at hit i v (by rw [Array.getElem?_toList]; exact hv)
          refine ⟨ns[i], t, List.getElem?_eq_getElem hi, ?_⟩
          rw [e, List.getD_eq_getElem?_getD, List.getElem?_eq_getElem hi] <;> rfl
        unfold Builtin.«set.__init__» noKeywords Builtin.Frozenset.updateFrom
        generalize hPI : pyIter = PI
        wp_walk
        subst hPI
        refine wpAny_pyIter_list hl1 (wpAny_bind (wpAny_runValue ?_))
        refine set_update_ints ((Walks.list hh3 _ l hneI items).toS) s.heap.objs.size hSf ns hisz hb hval (items.size - 0) 0 _ (by omega) (Nat.zero_le _) ⟨⟨_, Heap.get?_push_size _ rfl, rfl, rfl⟩, (hl1.push _)⟩ ?hS0 ?hR
        case hS0 => exact ⟨0, Nat.le_refl 0, setR_new_at (Heap.get?_push_of_some _ hS)⟩
        case hR =>
          rintro ⟨h', g2, d', tk', os'⟩ c' hm hc' hS'
          obtain rfl : g2 = s.gens := hm.gens
          obtain rfl : d' = s.drawn := hm.drawn
          obtain rfl : os' = s.os := hm.os
          show wpAny _ _ _ _ _ _
          refine wpAny_pure ?_
          show wpAny _ _ (ret Value.none) _ _ _
          refine wpAny_pure ⟨rfl, h', tk', c', rfl, hS', by omega, fun b o e => ?_⟩
          have hb0 : b < s.heap.objs.size := Heap.lt_size e
          refine hm.heap b o ?_ (Heap.get?_push_of_some _ (Heap.get?_push_of_some _ e))
          rw [hz1]
          simp only [List.mem_cons, List.not_mem_nil, or_false, not_or]
          exact ⟨Nat.ne_of_lt hb0, Nat.ne_of_lt (Nat.lt_succ_of_lt hb0)⟩
      · cases r₂ with
        | error e => exact hr₂
        | ok fl₂ =>
          cases fl₂ with
          | ret r =>
            obtain ⟨rfl, h', tk, c', rfl, hS', hc', hk'⟩ := hr₂
            repeat (any_goals (first | assumption | wp_step))
            exact h _ _ _ hS' hc' hk'
          | _ => exact hr₂.elim
    | _ => exact hr.elim
theorem sorted_setAll {a : Addr} {S : Int → Bool} {n : Nat} {Q : Value → Shared → Prop} (R : SetR w s.heap a S n) (hh : A.handled = none)
    (hQ : ∀ s' p (out : Array Value) (c : Nat) (ns : List Int), (∀ b o, s.heap.get? b = some o → s'.heap.get? b = some o) → s'.gens = s.gens → s'.os = s.os → s.heap.objs.size ≤ p →
      s'.heap.get? p = some (seqObj "list" out c) → IntsAre out.toList ns → ns.Pairwise (· < ·) → (∀ k, k ∈ ns ↔ S k = true) → ns.length = n → Q (.ref p) s') : wpAny (model P w) A (call (.builtin "sorted") [.ref a]) Q E s := by
  obtain ⟨o, es, ep, t, ho, hex, hd, g, nd, hm, hb, hf, hn, hr, hl⟩ := R
  refine Calls.call_function_entry kind_sorted plain_sorted entry_sorted (args_sorted1 _) ?_
  unfold Builtin.«sorted»
  refine wpAny_bind (m := checkCount "sorted" 1 1 _) (wpAny_pure (wpAny_bind (collect_set (A := A.in1) hh ⟨o, ho, hex.1, hd⟩ hf hb hr hl fun s1 vs k1 hz g1 o1 pm => ?_)))
  have hvl : vs.length = n := by rw [pm.length_eq, List.length_map, Array.length_toList]; exact hn
  have hvz : vs.length ≤ sizeLine := by
    rw [pm.length_eq, List.length_map, Array.length_toList]
    exact fits_of_scanBound hb
  have hI : IntsAre vs (vs.map Builtin.Re.reRawOf) := ints_of vs fun v hv => by
    obtain ⟨e, he, q⟩ := List.mem_map.mp (pm.mem_iff.mp hv)
    obtain ⟨k, tk, h1, _⟩ := g e he
    exact ⟨k, tk, by rw [← q]; exact h1⟩
  have pk : (vs.map Builtin.Re.reRawOf).Perm (es.toList.map keyOf) := by
    have q := pm.map Builtin.Re.reRawOf
    rw [List.map_map] at q
    exact q
  refine wpAny_bind (wpAny_newList ?_ hvz)
  have hoL : (s1.heap.push (seqObj "list" vs.toArray 0)).get? s1.heap.objs.size = some (seqObj "list" vs.toArray 0) := Heap.get?_push_size _ rfl
  refine wpAny_bind (wpAny_holding (wpAny_call_entry slot_list_sort ⟨_, hoL, rfl⟩ entry_list_sort (SrtO.list_sort_ord SrtO.swo_int hoL hvz (fun h2 => SrtO.ints_sortable hI h2) fun out a1 a2 => ⟨_, rfl, ?_⟩) (args_list_sort _)))
  obtain ⟨k1', k2', k3'⟩ := SrtO.ints_out hI a1 a2
  obtain ⟨c, hc⟩ := sortedHeap_at (vs := vs) (out := out.toArray) hoL
  have pn : (out.map SrtO.iv).Perm (es.toList.map keyOf) := k2'.trans pk
  refine wpAny_pure ⟨_, rfl, hQ _ s1.heap.objs.size out.toArray c (out.map SrtO.iv) (fun b u e => ?_) g1 o1 hz hc (by simpa using k1') (lt_of_le_nodup _ k3' (pn.nodup_iff.mpr nd)) (fun k => by rw [pn.mem_iff, ← hm k]) ?_⟩
  · have q := k1 b u e
    have hlt := Heap.lt_size q
    show (sortedHeap (s1.heap.push (seqObj "list" vs.toArray 0)) s1.heap.objs.size vs out.toArray).get? b = some u
    rw [sortedHeap_old (Nat.ne_of_lt hlt) (by rw [size_push']; exact Nat.lt_succ_of_lt hlt)]
    exact Heap.get?_push_of_some _ q
  · rw [pn.length_eq, List.length_map, Array.length_toList]
    exact hn
end
variable {X : Cx}
/-- set(xs) of a list of ints -/
def rSetL (K : PySem.W.Frag) (w : World) : List V → Hp → VK → Prop := fun xs H Q => ∃ (l : Addr) (ns : List Int), xs = [V.ref l] ∧ SqL K H l (ns.map V.int) ∧ ns.length ≤ 4000 ∧ ∀ (p : Addr) (c : Nat), c ≤ ns.length → H p = none → Q (.ref p) (upd H p (SetO w p (fun j => decide (j ∈ ns)) c))
theorem cr_setL (hc : X.calm = true) : CallR X (.type "set") (rSetL X.K X.w) := by
  intro pins s σ H xs us Q I r h
  obtain ⟨l, ns, rfl, hq, hz, q⟩ := h
  obtain ⟨its, rv, pl, hz'⟩ := I.list hq
  rw [Vals.ref1 r]
  refine call_set_lst ns (I.ok.hd hc) pl.isList (by simpa using rv.ints) (by unfold scanBound; omega) fun h' tk c hS hcl hk => ?_
  exact ⟨.ref _, upd H s.heap.objs.size (SetO X.w s.heap.objs.size (fun j => decide (j ∈ ns)) c), I.laid (t' := tk) hk (Nat.le_refl _) (setO_new hS), rfl, q _ c hcl (I.hok.fresh (Nat.le_refl _))⟩
/-- sorted(found) of a set of ints, any number of them -/
def rSortedSetAll (w : World) : List V → Hp → VK → Prop := fun vs H Q => ∃ (a : Addr) (S : Int → Bool) (n : Nat), vs = [V.ref a] ∧ H a = some (SetO w a S n) ∧ n ≤ 4000 ∧
  ∀ (ns : List Int) (p : Addr), ns.Pairwise (· < ·) → (∀ k : Int, k ∈ ns ↔ S k = true) → ns.length = n → H p = none → Q (.ref p) (upd H p (.lst (ns.map V.int)))
theorem cr_sortedSetAll (hc : X.calm = true) : CallR X (.builtin "sorted") (rSortedSetAll X.w) := by
  intro pins s σ H vs us Q I r h
  obtain ⟨a, S, n, rfl, ha, hn4, q⟩ := h
  rw [Vals.ref1 r]
  refine sorted_setAll (setO_get I ha) (I.ok.hd hc) fun s' p out c ns k g o hp hg hi hs hm hl => ?_
  have hlen : (ns.map V.int).length ≤ sizeLine := line_ok6 (by rw [List.length_map]; omega)
  have hn : H p = none := I.hok.fresh hp
  have J : Inv X pins σ (upd H p (.lst (ns.map V.int))) { s with heap := s'.heap, gens := s'.gens, drawn := s'.drawn, toks := s'.toks } :=
    I.call (ch := []) (Un.laid k hp hn) (I.hok.laid k hp ⟨hlen, out.toList, c, vals_of_ints hi, hg⟩) (by rw [g]; exact I.bare) (fun _ z => nomatch z)
  have e : s' = { s with heap := s'.heap, gens := s'.gens, drawn := s'.drawn, toks := s'.toks } := by
    cases s'
    cases s
    cases o
    rfl
  rw [e]
  exact ⟨.ref p, _, J, rfl, q ns p hs hm hl hn⟩
/-- len(set(xs)) of a list of ints -/
def tLenSetAll (K : PySem.W.Frag) (ta : TE) : TE := fun σ H Q => ta σ H fun x H1 => ∃ (l : Addr) (ns : List Int), x = .ref l ∧ SqL K H1 l (ns.map V.int) ∧ ns.length ≤ 4000 ∧ Q (.int ((ossOf ns).length : Nat)) H1
theorem pe_lenSetAll {a : Expr} {ta : TE} {p p2 q pos : Pos} (hg : Gl X "len") (hm : X.mg "len" = none) (hg2 : Gl X "set") (hm2 : X.mg "set" = none) (ha : PE X a ta) (hc : X.calm = true := by rfl)
    (na : starEach [a] X.env = (false, eval a X.env) :: starEach [] X.env := by rfl) : PE X (.Call (.Name "len" p) [.Call (.Name "set" p2) [a] [] q] [] pos) (tLenSetAll X.K ta) := by
  constructor
  intro pins s σ H Q I h
  refine Call_ (ld_blt I hg hm boot_len (PyProof.Rows.callWith_builtin1 (PyProof.Rows.args_cons (Call_ (ld_blt I hg2 hm2 boot_set ?_)) rfl) rfl rfl))
  refine PyProof.Rows.callWith_type1 (PyProof.Rows.args_cons (thn (ha.run pins s σ H _ I h) fun v s1 ⟨x, H1, I1, r1, q1⟩ => PyProof.Rows.args_nil ?_) na) na rfl
  obtain ⟨l, ns, rfl, hq, hl, q1⟩ := q1
  cases r1
  obtain ⟨its, r, pl, hz⟩ := I1.list hq
  have hlen : its.toArray.size = ns.length := by rw [List.size_toArray, ← r.length, List.length_map]
  refine call_set_list (I1.ok.hd hc) pl.isList (by simpa using r.ints) (by rw [hlen]; unfold scanBound; omega) fun h' tk hS hk => PyProof.Rows.args_nil ?_
  rw [hlen, oss_met] at hS
  obtain ⟨o, es, ep, t, ho, hex, hd, _, _, _, hf, hn⟩ := hS
  have I2 : Inv X pins σ H1 { s1 with heap := h', toks := tk } := I1.kept fun b o e => hk b o (Heap.lt_size e) e
  have ol := oss_len ns
  exact call_len_set ho hex hd hf (by rw [hn] <;> omega) ⟨.int (ossOf ns).length, H1, I2.tok _, ⟨_, by rw [hn]⟩, q1⟩
end
/-! ### enumerate(xs, start=k) -/
section
open PySem PySem.Spec PyProof.Rows L2 PySem.W
theorem callWith_kwT {M : Model} {A : Around} {E : Value → Shared → Prop} {s : Shared} {env : Env} {pos : Pos} {U : String} {e : Expr} {rest : List Expr} {kws : List Keyword} {Q : Value → Shared → Prop}
    (h : wpAny M A (spliced (backTo pos (starEach (e :: rest) env))) (fun vs s₁ => wpAny M A (evalAll ((backToKw pos (keywordEach kws env)).map (·.2))) (fun kvs s₂ => wpAny M A (call (.type U) vs (((backToKw pos (keywordEach kws env)).filterMap (·.1)).zip kvs)) Q E s₂) E s₁) E s)
    (he : backTo pos (starEach (e :: rest) env) = (false, eval e env) :: backTo pos (starEach rest env)) (hplain : (backTo pos (starEach (e :: rest) env)).any (·.1) = false)
    (hall : (backToKw pos (keywordEach kws env)).all (·.1.isSome) = true) (hkw : (backToKw pos (keywordEach kws env)).any (·.1.isNone) = false) :
    wpAny M A (callWith pos (.type U) [] (backTo pos (starEach (e :: rest) env)) (backToKw pos (keywordEach kws env))) Q E s := by
  have h2 : wpAny M A (evalArgs (.type U) true (backTo pos (starEach (e :: rest) env)) (backToKw pos (keywordEach kws env))) (fun a s₁ => wpAny M A (call (.type U) ([] ++ a.pos) a.kw) Q E s₁) E s := by
    rw [he] at h ⊢
    exact evalArgs_kwB hall h
  unfold callWith
  refine wpAny_bind (wpAny_holding (wpAny_mono h2 (fun a s₁ h₁ => wpAny_bind (wpAny_standAt ?_)) fun _ _ x => x))
  simp only [hplain, hkw, Bool.or_false]
  refine wpAny_bind (wpAny_pure ?_)
  exact wpAny_bind (wpAny_mono h₁ (fun r s₂ hr => wpAny_bind (wpAny_holding (wpAny_point (wpAny_pure hr)))) fun _ _ x => x)
/-- the list at a as it stands at each turn, each item in a new pair with its number from k on -/
def ItS (K : PySem.W.Frag) (k : Int) (a : Addr) : It :=
  ⟨fun i H => ∃ (xs : List V) (x : V), SqL K H a xs ∧ xs[i]? = some x, fun i H v H' => ∃ T x, v = .ref T ∧ H T = none ∧ H' = upd H T (.tup [.int (k + (i : Nat)), x]) ∧ ∀ xs, SqL K H a xs → xs[i]? = some x, fun i H => ∃ xs : List V, SqL K H a xs ∧ xs.length = i⟩
theorem turn_enumS {P : Program} {w : World} {K : PySem.W.Frag} {elts : List Expr} {kk : Nat} {tpos : Pos} (k : Int) (a e it : Addr) (hea : e ≠ a) (hai : a ≠ it) (hne : e ≠ it) :
    Turn P w K (.Tuple elts kk tpos) (ItS K k a) [e, it] e (fun i h => (∃ old, IsEnum h e it (k + ((i : Nat) : Int)) old) ∧ h.IsListIter it a i) where
  mem := by simp
  obj := fun i h st b hb => by
    obtain ⟨⟨old, he⟩, ⟨o, ho, hc, hd⟩⟩ := st
    rcases (show b = e ∨ b = it by simpa using hb) with z | z
    · rw [z]
      exact ⟨_, he, fun v q => nomatch q⟩
    · rw [z]
      exact ⟨o, ho, fun v q => by rw [hd] at q; cases q⟩
  keep := fun i h h' st k => let ⟨⟨old, he⟩, hi⟩ := st; ⟨⟨old, k e (by simp) _ he⟩, hi.at fun o q => k it (by simp) o q⟩
  item := by
    intro X hP hw hK hc i pins s σ H E I hf st hg
    subst hP hw hK
    obtain ⟨⟨old, he⟩, hit⟩ := st
    obtain ⟨xs, x, hq, hx⟩ := hg
    obtain ⟨its, rv, p, hz⟩ := I.list hq
    obtain ⟨u, hu, ru⟩ := rv.get hx
    have hel : e < s.heap.objs.size := Heap.lt_size he
    have hil : it < s.heap.objs.size := by obtain ⟨_, q, _⟩ := hit; exact Heap.lt_size q
    have hin : i < its.toArray.size := by
      rw [List.size_toArray]
      exact (List.getElem?_eq_some_iff.mp hu).1
    have hef : e ∉ [it, a] := by
      simp only [List.mem_cons, List.not_mem_nil, or_false, not_or]
      exact ⟨hne, hea⟩
    refine wpAny_pyNext_enum_itemC (Draws.list (by simpa using I.ok.hd hc) it a hai its.toArray) he ⟨hit, p.isList⟩ hin hne hef fun x1 h' tk hx1 ho hst' hT hsz hk => ?_
    obtain rfl : x1 = u := by
      rw [List.getElem?_toArray, hu] at hx1
      exact (Option.some.inj hx1).symm
    refine ⟨_, rfl, wpAny_letOwnedTupleGo_enum (s := { s with heap := h', toks := tk + 1 }) ho fun h'' he' sb => ?_⟩
    have hT2 : h''.get? s.heap.objs.size = some { cls := .type "tuple", data := .seq #[.int (k + (i : Int)) tk, x1] } := (sb.2 _ (Nat.ne_of_gt hel)).trans hT
    have new : ObjOk X.prog X.w (upd H s.heap.objs.size (.tup [.int (k + (i : Nat)), x])) h'' s.heap.objs.size (.tup [.int (k + (i : Nat)), x]) :=
      ⟨by show 2 ≤ sizeLine; decide, [.int (k + (i : Int)) tk, x1], .cons ⟨_, rfl⟩ (.cons ru .nil), ⟨_, hT2, rfl, _, rfl⟩⟩
    have I1 : Inv X pins σ (upd H s.heap.objs.size (.tup [.int (k + (i : Nat)), x])) { s with heap := h'', toks := tk + 1 } :=
      I.turnedNew (ch := [e, it]) (fun b ob hb q => (sb.2 b (fun z => hb (by simp [z]))).trans (hk b ob (fun z => hb (by simp [z])) (fun z => hb (by simp [z])) q)) hf (Nat.le_refl _) new
    refine ⟨.ref s.heap.objs.size, _, I1, rfl, ⟨_, x, rfl, I.hok.fresh (Nat.le_refl _), rfl, fun ys hy => by rw [I.list_inj hy hq]; exact hx⟩, ⟨⟨x1, ?_⟩, hst'.1.at fun o q => (sb.2 it (Ne.symm hne)).trans q⟩, fun b hb => ?_⟩
    · rw [show k + ((i + 1 : Nat) : Int) = k + (i : Int) + 1 by omega]
      exact he'
    · have hb' : b < s.heap.objs.size := by
        rcases (show b = e ∨ b = it by simpa using hb) with z | z
        · rw [z]; exact hel
        · rw [z]; exact hil
      rw [upd_ne (Nat.ne_of_lt hb')]
      exact (hf b hb).1
  done := by
    intro X hP hw hK hc i pins s σ H E I hf st hg
    subst hP hw hK
    obtain ⟨⟨old, he⟩, hit⟩ := st
    obtain ⟨xs, hq, hx⟩ := hg
    obtain ⟨its, rv, p, hz⟩ := I.list hq
    obtain ⟨f0, f1, f2, f3, f4, f5⟩ := hf it (by simp)
    have hl := rv.length
    have hin : i = its.toArray.size := by
      rw [List.size_toArray]
      omega
    refine wpAny_pyNext_enum_endD (Draws.list (by simpa using I.ok.hd hc) it a hai its.toArray) he ⟨?_, p.isList⟩ fun h' eb => ⟨rfl, I.turned (t' := s.toks) (fun b o hb q => eb b o hb q) f0 f1 f3 f4 f5⟩
    rw [← hin]
    exact hit
  self := fun A i s Q E st h => let ⟨⟨_, he⟩, _⟩ := st; wpAny_pyIter_enum he h
def iEnumS (K : PySem.W.Frag) (k : Int) (ta : TA) : TI := fun σ H R => ta σ H fun vs H1 => ∃ a xs, vs = [.ref a] ∧ SqL K H1 a xs ∧ R (ItS K k a) H1
theorem pi_enumS {X : Cx} {e : Expr} {ta : TA} {k : Int} {j : Nat} {p pos tpos cp kp : Pos} {elts : List Expr} {kk : Nat} (hg : Gl X "enumerate") (hm : X.mg "enumerate" = none) (ha : PA X [e] ta) (hk0 : -(2 ^ 63) ≤ k) (hk1 : k < 2 ^ 63)
    (he1 : backTo pos (starEach [e] X.env) = (false, eval e X.env) :: backTo pos (starEach [] X.env) := by rfl) (hpl : (backTo pos (starEach [e] X.env)).any (·.1) = false := by rfl) :
    PI X (.Tuple elts kk tpos) (.Call (.Name "enumerate" p) [e] [⟨some "start", .Constant (.int k) j cp, kp⟩] pos) (iEnumS X.K k ta) := by
  constructor
  intro pins s σ H R I h
  refine wpAny_Call_Name_kw (ld_blt I hg hm boot_enumerate ?_)
  refine callWith_kwT (thn (ha.run pos pins s σ H _ I h) fun us s1 ⟨vs, H1, I1, r1, q1⟩ => ?_) he1 hpl (by rfl) (by rfl)
  obtain ⟨a, xs, ex, hq, q⟩ := q1
  subst ex
  refine kws_cons (thn ((pe_int (X := X) (i := k) (j := j) (pos := cp)).run pins s1 σ H1 (fun x H2 => x = .int k ∧ H2 = H1) I1 ⟨rfl, rfl⟩) fun v s2 ⟨x, H2, I2, r2, ex, eh⟩ => kws_nil ?_)
  subst ex eh
  obtain ⟨t, rfl⟩ := r2
  obtain ⟨u, rfl, ru⟩ := vals1 r1
  obtain rfl : u = Value.ref a := ru
  obtain ⟨its, rv, p', hz⟩ := I2.list hq
  show wpAny _ _ (call (.type "enumerate") [.ref a] [(Str.ofString "start", .int k t)]) _ _ s2
  refine enum_begins_start (begins_list a its.toArray) p'.isList hk0 hk1 fun h' he hit hsz hk => wpAny_pyIter_enum he ?_
  have I3 : Inv X pins σ H2 { s2 with heap := h' } := I2.kept (t' := s2.toks) hk
  have hal : a < s2.heap.objs.size := by
    obtain ⟨o, ho, _⟩ := p'.isList
    exact Heap.lt_size ho
  refine ⟨s2.heap.objs.size + 1, [s2.heap.objs.size + 1, s2.heap.objs.size], _, _, H2, rfl, I3, turn_enumS k a (s2.heap.objs.size + 1) s2.heap.objs.size (Nat.ne_of_gt (Nat.lt_succ_of_lt hal)) (Nat.ne_of_lt hal) (Nat.succ_ne_self _), ⟨⟨.none, ?_⟩, ⟨_, hit, rfl, rfl⟩⟩, fun b hb => ?_, q⟩
  · rw [show k + ((0 : Nat) : Int) = k by omega]
    exact he
  · have hle : s2.heap.objs.size ≤ b := by
      rcases (show b = s2.heap.objs.size + 1 ∨ b = s2.heap.objs.size by simpa using hb) with z | z
      · rw [z]; exact Nat.le_add_right _ _
      · rw [z]; exact Nat.le_refl _
    exact I2.fpOk hle (I2.hok.fresh hle)
end
/-! ### the ranks, the keys, the rows -/
def NR : List Str := ["keys", "rank_of", "rank", "key"]
def NK : List Str := ["ranks", "width", "behind", "base", "first", "second"]
def NS : List Str := ["numbers", "ranks", "width", "rows", "start", "rank"]
theorem scRanks : FnScope NR ["keys"] (defScope sRanks) := ⟨rfl, rfl, rfl, by decide +kernel, rfl, by decide +kernel, by decide +kernel⟩
theorem scKeys : FnScope NK ["ranks", "width"] (defScope sKeys) := ⟨rfl, rfl, rfl, by decide +kernel, rfl, by decide +kernel, by decide +kernel⟩
theorem scSuffix : FnScope NS ["numbers"] (defScope sSuffix) := ⟨rfl, rfl, rfl, by decide +kernel, rfl, by decide +kernel, by decide +kernel⟩
theorem dc_gen {J : It} {n : Nat} {g : TG} {tt : TT} {tk tv : TE} {vs : List Nat} {σ : L2.St} {H1 : Hp} {D : Addr} {Qd : Hp → Prop} (Pv : Nat → Hp → Prop) (h0 : Pv 0 (upd H1 D (.dK []))) (hgo : ∀ i H, i < n → Pv i H → J.go i H) (hstop : ∀ H, Pv n H → J.stop n H)
    (hs : ∀ i H x H', i < n → Pv i H → J.yld i H x H' → g x (wipe σ vs) H' fun σ2 H2 => wipe σ2 vs = wipe σ vs ∧ tt σ2 H2 fun b H3 =>
      if b = true then tk σ2 H3 fun y H4 => tv σ2 H4 fun z H5 => ∃ kvs k, y = kV k ∧ H5 D = some (.dK kvs) ∧ kvs.length < sizeLine ∧ Pv (i + 1) (upd H5 D (.dK (putK kvs k z))) else Pv (i + 1) H3) (hd : ∀ H, Pv n H → Qd H) :
    ∃ W : Nat → Nat → Hp → Prop, (∃ m, W 0 m (upd H1 D (.dK []))) ∧ ∀ i m H, W i m H →
      (J.stop i H ∧ Qd H) ∨ (J.go i H ∧ ∃ Nx : Hp → Prop, (∀ H', Nx H' → ∃ m', m' < m ∧ W (i + 1) m' H') ∧ ∀ x H', J.yld i H x H' → g x (wipe σ vs) H' fun σ2 H2 => wipe σ2 vs = wipe σ vs ∧ tt σ2 H2 fun b H3 =>
        if b = true then tk σ2 H3 fun y H4 => tv σ2 H4 fun z H5 => ∃ kvs k, y = kV k ∧ H5 D = some (.dK kvs) ∧ kvs.length < sizeLine ∧ Nx (upd H5 D (.dK (putK kvs k z))) else Nx H3) := by
  refine ⟨fun i m H => i + m = n ∧ Pv i H, ⟨n, Nat.zero_add n, h0⟩, fun i m H hw => ?_⟩
  obtain ⟨em, p⟩ := hw
  cases m with
  | zero =>
    obtain rfl : i = n := em
    exact .inl ⟨hstop H p, hd H p⟩
  | succ m =>
    have lt : i < n := by omega
    exact .inr ⟨hgo i H lt p, Pv (i + 1), fun H' p' => ⟨m, Nat.lt_succ_self m, by omega, p'⟩, fun x H' y => hs i H x H' lt p y⟩
/-- ys in order, with the members of ks: the places in ys, from 1 on, are the ranks of ks -/
theorem rank_places {ks ys rs : List Int} (hy : ys.Pairwise (· < ·)) (hl : ys.length ≤ ks.length) (hlen : rs.length = ks.length) (h : ∀ (i : Nat) (k : Int), ks[i]? = some k → ∃ t : Nat, ys[t]? = some k ∧ rs[i]? = some (1 + (t : Int))) : IsRank ks rs := by
  refine ⟨hlen, fun x hx => ?_, fun i j a b x y ha hb hi hj => ?_⟩
  · obtain ⟨i, hi⟩ := List.mem_iff_getElem?.mp hx
    have li : i < ks.length := by
      rw [← hlen]
      exact (List.getElem?_eq_some_iff.mp hi).1
    obtain ⟨t, h1, h2⟩ := h i _ (List.getElem?_eq_getElem li)
    have lt := (List.getElem?_eq_some_iff.mp h1).1
    rw [h2] at hi
    have e := Option.some.inj hi
    omega
  · obtain ⟨t, h1, h2⟩ := h i a ha
    obtain ⟨u, h3, h4⟩ := h j b hb
    rw [h2] at hi
    rw [h4] at hj
    have ex := Option.some.inj hi
    have ey := Option.some.inj hj
    obtain ⟨lt, e1⟩ := List.getElem?_eq_some_iff.mp h1
    obtain ⟨lu, e2⟩ := List.getElem?_eq_some_iff.mp h3
    have pw := List.pairwise_iff_getElem.mp hy
    rcases Nat.lt_trichotomy t u with c | c | c
    · have := pw t u lt lu c
      omega
    · subst c
      omega
    · have := pw u t lu lt c
      omega
theorem beh_list {rs : List Int} {w j : Nat} (hw : w ≤ rs.length) (hj : j < rs.length) : (rs.drop w ++ List.replicate w 0)[j]? = some (beh rs w j) := by
  unfold beh
  by_cases c : j + w < rs.length
  · rw [List.getElem?_append_left (by rw [List.length_drop]; omega), List.getElem?_drop, show w + j = j + w by omega, List.getElem?_eq_getElem c]
    rfl
  · rw [List.getElem?_append_right (by rw [List.length_drop]; omega), List.length_drop, List.getElem?_replicate, if_pos (by omega), List.getElem?_eq_none (by omega)]
    rfl
theorem rep_one {α : Type} (x : α) : ∀ n : Nat, (List.replicate n [x]).flatten = List.replicate n x
  | 0 => rfl
  | n + 1 => by
    rw [List.replicate_succ, List.flatten_cons, rep_one x n]
    rfl
def spRanks (K : PySem.W.Frag) : Sp := fun vs H Q _ => ∃ (a : Addr) (ks : List Int), vs = [.ref a] ∧ SqL K H a (ks.map V.int) ∧ ks.length ≤ 4000 ∧ ∀ (H' : Hp) (p : Addr) (rs : List Int), Same H H' → H p = none → H' p = some (LI rs) → IsRank ks rs → Q (.ref p) H'
def spKeys (K : PySem.W.Frag) : Sp := fun vs H Q _ => ∃ (a : Addr) (rs : List Int) (w : Nat), vs = [.ref a, .int (w : Int)] ∧ SqL K H a (rs.map V.int) ∧ rs.length ≤ 4000 ∧ w ≤ rs.length ∧ ∀ (H' : Hp) (p : Addr), Same H H' → H p = none → H' p = some (LI (keysOf rs w)) → Q (.ref p) H'
section
variable {P : Program} {w : World} {K : PySem.W.Frag} {mg : Str → Option Value} {base : Heap}
theorem ok_ranks {f : Addr} {fd : FuncData} {k : Nat} (F : Fun K "_ranks" "_ranks" sRanks f fd) (menum : mg "enumerate" = none) (msorted : mg "sorted" = none) (mset : mg "set" = none) : FnOk P w K mg base CX0 (k + 1) f fd ["keys"] (spRanks K) := by
  refine F.ok scRanks (fun vs H Q E h => ?_) (fun cdv A outer s H vs Q E hr h => ?_)
  · obtain ⟨a, ks, rfl, _⟩ := h
    rfl
  · obtain ⟨a, ks, rfl, hS, hn, q⟩ := h
    refine ⟨_, pss_cons (ps_set (i := 1) scRanks.nd rfl (.inr rfl) (pe_dc (own := [("rank", 2), ("key", 3)]) (g := gTup K 2 (gCons (gName 2) (gCons (gName 3) gNil))) (tt := tYes) (tk := tVar 3) (tv := tVar 2) (by rfl) scRanks.nd
        (pi_enumS (k := 1) (by rfl) menum (pa_cons (pe_callB (cr_sortedSetAll rfl) (by rfl) msorted (by decide +kernel) (pa_cons (pe_callTy (cr_setL rfl) (by rfl) mset (by decide +kernel) (pa_cons (pv 0) pa_nil)) pa_nil)) pa_nil) (by decide) (by decide))
        (blkOk_by (own := [("rank", 2), ("key", 3)]) (N := NR) (sc := defScope sRanks) (by decide +kernel))
        (fun _ _ _ _ _ => pg_tup rfl (pgs_cons (pg_name (i := 2) scRanks.nd rfl (Or.inl rfl)) (pgs_cons (pg_name (i := 3) scRanks.nd rfl (Or.inl rfl)) pgs_nil))) (fun _ _ _ _ _ => pts_nil) (fun _ _ _ _ _ => pv 3) (fun _ _ _ _ _ => pv 2)))
      (pss_one (ps_ret (pe_lc (own := [("key", 3)]) (g := gName 3) (tt := tYes) (te := tDGet (tVar 1) (tVar 3)) (by rfl) scRanks.nd (pi_list (pv 0))
        (blkOk_by (own := [("key", 3)]) (N := NR) (sc := defScope sRanks) (by decide +kernel))
        (fun _ _ _ _ _ => pg_name (i := 3) scRanks.nd rfl (Or.inl rfl)) (fun _ _ _ _ _ => pts_nil) (fun _ _ _ _ _ => pe_dget (hu_of hr) (pv 1) (pv 3) (fun _ _ => rfl))))), ?_⟩
    refine ⟨.ref a, rfl, a, ks, rfl, hS, hn, fun p c hc hp => ?_⟩
    refine ⟨p, _, c, rfl, upd_same, by omega, fun ys p2 hys hmem hlen hp2 => ?_⟩
    refine ⟨p2, ys.map V.int, rfl, .inl (.inl upd_same), fun D hD => ?_⟩
    have nDp2 := new_ne hD
    refine dc_gen (n := ys.length) (fun i H' => Same H H' ∧ H' p2 = some (LI ys) ∧ ∃ kvs : List (Key × V), H' D = some (.dK kvs) ∧ kvs.length ≤ i ∧ ∀ (t : Nat) (y : Int), t < i → ys[t]? = some y → valV kvs (.inl y) = some (.int (1 + (t : Int)))) ?_ ?_ ?_ ?_ ?_
    · refine ⟨((same_upd hp).trans (same_upd hp2)).trans (same_upd hD), ?_, [], upd_same, Nat.le_refl _, fun t y ht => absurd ht (Nat.not_lt_zero t)⟩
      rw [upd_ne nDp2.symm, upd_same]
    · rintro i H' hi ⟨sm, h2, _⟩
      exact ⟨ys.map V.int, _, .inl (.inl h2), map_int_at hi⟩
    · rintro H' ⟨sm, h2, _⟩
      exact ⟨ys.map V.int, .inl (.inl h2), List.length_map _⟩
    · rintro i H' v H2 hi ⟨sm, h2, kvs, hk, hkl, hv⟩ ⟨U, x, rfl, hU, rfl, hx⟩
      have ex := hx _ (.inl (.inl h2))
      rw [map_int_at hi] at ex
      obtain rfl : V.int ys[i] = x := Option.some.inj ex
      have nUD : D ≠ U := ne_of_none hk hU
      have nU2 : p2 ≠ U := ne_of_none h2 hU
      refine ⟨U, _, rfl, .inl (.inl upd_same), rfl, _, _, rfl, _, _, rfl, rfl, rfl, ?_⟩
      dsimp only [tYes]
      rw [if_pos rfl]
      refine ⟨_, rfl, _, rfl, kvs, .inl ys[i], rfl, by rw [upd_ne nUD]; exact hk, line_lt (by omega), ?_, ?_, _, upd_same, ?_, fun t y ht hty => ?_⟩
      · intro b o e
        rw [upd_ne (ne_of_none e (((same_upd hp).trans (same_upd hp2)).free hD)), upd_ne (ne_of_none (sm b o e) hU)]
        exact sm b o e
      · rw [upd_ne nDp2.symm, upd_ne nU2]
        exact h2
      · have := length_putK kvs (.inl ys[i]) (V.int (1 + (i : Nat)))
        omega
      · rw [valV_put]
        by_cases c : t = i
        · subst c
          rw [List.getElem?_eq_getElem hi] at hty
          rw [if_pos (by rw [Option.some.inj hty])]
        · have lt : t < i := by omega
          rw [if_neg, hv t y lt hty]
          intro z
          have z2 : y = ys[i] := by cases z; rfl
          obtain ⟨l1, e1⟩ := List.getElem?_eq_some_iff.mp hty
          have := List.pairwise_iff_getElem.mp hys t i l1 hi lt
          omega
    · rintro H' ⟨sm, h2, kvs, hk, hkl, hv⟩
      refine ⟨.ref a, rfl, a, rfl, ⟨_, sm.seq hS⟩, fun D2 hD2 => ?_⟩
      have nD2 : D ≠ D2 := ne_of_none hk hD2
      refine lc_list (K := K) (xs := ks.map V.int) (fun j H2 => Same H' H2 ∧ ∃ rs : List Int, H2 D2 = some (LI rs) ∧ rs.length = j ∧ ∀ (i : Nat) (k : Int), i < j → ks[i]? = some k → ∃ t : Nat, ys[t]? = some k ∧ rs[i]? = some (1 + (t : Int))) ?_ (fun j H2 _ h => h.1.seq (sm.seq hS)) ?_ ?_
      · exact ⟨same_upd hD2, [], upd_same, rfl, fun i k hi => absurd hi (Nat.not_lt_zero i)⟩
      · rintro j y H2 hjy ⟨s2, rs, hr2, hl2, hall⟩
        rw [List.getElem?_map] at hjy
        obtain ⟨n, hn1, rfl⟩ := Option.map_eq_some_iff.mp hjy
        refine ⟨rfl, ?_⟩
        dsimp only [tYes]
        rw [if_pos rfl]
        have hj : j < ks.length := (List.getElem?_eq_some_iff.mp hn1).1
        obtain ⟨t, ht⟩ := List.mem_iff_getElem?.mp ((hmem n).mpr (decide_eq_true (List.mem_of_getElem? hn1)))
        refine ⟨.ref D, rfl, .int n, rfl, D, .int (1 + (t : Int)), rfl, ?_, rs.map V.int, hr2, line_lt (by rw [List.length_map]; omega), ?_, rs ++ [1 + (t : Int)], ?_, by rw [List.length_append, hl2]; rfl, fun i k hi hik => ?_⟩
        · rw [← hv t n (List.getElem?_eq_some_iff.mp ht).1 ht]
          exact DGet.k (k := Sum.inl n) (s2 _ _ hk)
        · intro b o e
          rw [upd_ne (ne_of_none e hD2)]
          exact s2 b o e
        · rw [upd_same]
          exact congrArg some (LI_snoc _ _).symm
        · by_cases c : i < j
          · obtain ⟨t2, h3, h4⟩ := hall i k c hik
            refine ⟨t2, h3, ?_⟩
            rw [List.getElem?_append_left (by omega)]
            exact h4
          · obtain rfl : i = j := by omega
            rw [hn1] at hik
            obtain rfl := Option.some.inj hik
            refine ⟨t, ht, ?_⟩
            rw [List.getElem?_append_right (by omega), hl2, Nat.sub_self]
            rfl
      · rintro H2 ⟨s2, rs, hr2, hl2, hall⟩
        rw [List.length_map] at hl2 hall
        have nf : H D2 = none := sm.free hD2
        refine q H2 D2 rs (sm.trans s2) nf hr2 (rank_places hys (by omega) hl2 fun i k hik => hall i k ?_ hik)
        exact (List.getElem?_eq_some_iff.mp hik).1
theorem ok_keys {f : Addr} {fd : FuncData} {k : Nat} (F : Fun K "_joined_keys" "_joined_keys" sKeys f fd) (B : Bl mg) (mzip : mg "zip" = none) : FnOk P w K mg base CX0 (k + 1) f fd ["ranks", "width"] (spKeys K) := by
  refine F.ok scKeys (fun vs H Q E h => ?_) (fun cdv A outer s H vs Q E hr h => ?_)
  · obtain ⟨a, rs, j, rfl, _⟩ := h
    rfl
  · obtain ⟨a, rs, j, rfl, hS, hn, hj, q⟩ := h
    refine ⟨_, pss_cons (ps_set (i := 2) scKeys.nd rfl (.inl rfl) (pe_op op_cat (pe_slice sl_list (pv 0) (po_some (pv 1)) po_none) (pe_op op_rep (pe_lst (pa_cons pe_int pa_nil)) (pv 1))))
      (pss_cons (ps_set (i := 3) scKeys.nd rfl (.inr rfl) (pe_op op_add (pe_callB call_len_seq (by rfl) B.len PySem.boot_len (pa_cons (pv 0) pa_nil)) pe_int))
      (pss_one (ps_ret (pe_lc (own := [("first", 4), ("second", 5)]) (g := gTup K 2 (gCons (gName 4) (gCons (gName 5) gNil))) (tt := tYes) (te := tOp (rI0 fun i j => V.int (i + j)) (tOp (rI CMul fun i j => V.int (i * j)) (tVar 3) (tVar 4)) (tVar 5)) (by rfl) scKeys.nd
        (pi_zip (by rfl) mzip (pa_cons (pv 0) (pa_cons (pv 2) pa_nil))) (blkOk_by (own := [("first", 4), ("second", 5)]) (N := NK) (sc := defScope sKeys) (by decide +kernel))
        (fun _ _ _ _ _ => pg_tup rfl (pgs_cons (pg_name (i := 4) scKeys.nd rfl (Or.inl rfl)) (pgs_cons (pg_name (i := 5) scKeys.nd rfl (Or.inl rfl)) pgs_nil))) (fun _ _ _ _ _ => pts_nil)
        (fun _ _ _ _ _ => pe_op op_add (pe_op op_mul (pv 3) (pv 4)) (pv 5)))))), ?_⟩
    refine ⟨.ref a, rfl, .int j, rfl, _, rfl, a, _, rfl, hS, fun p1 hp1 => ?_⟩
    refine ⟨by show 1 ≤ sizeLine; decide, fun p2 hp2 => ?_⟩
    have n12 := new_ne hp2
    refine ⟨.int j, rfl, p2, _, _, rfl, rfl, upd_same, by omega, by omega, line_ok7 (by show 1 * (j : Int).toNat ≤ _; omega), fun p3 hp3 => ?_⟩
    have n13 := new_ne hp3
    have hcut : L2.cutV (rs.map V.int) (some (j : Int)) none = (rs.drop j).map V.int := by rw [cutV_from, ← List.map_drop]
    have hrep : (List.replicate (j : Int).toNat [V.int 0]).flatten = (List.replicate j (0 : Int)).map V.int := by rw [Int.toNat_natCast, rep_one, List.map_replicate]
    have n23 : p1 ≠ p3 := fun z => by
      rw [← z, upd_ne n12.symm, upd_same] at hp3
      cases hp3
    refine ⟨p1, p3, (rs.drop j).map V.int, (List.replicate j (0 : Int)).map V.int, rfl, rfl, ?_, ?_, line_ok7 (by rw [List.length_map, List.length_map, List.length_drop, List.length_replicate]; omega), fun p4 hp4 => ?_⟩
    · rw [upd_ne n23, upd_ne n12.symm, upd_same, hcut]
    · rw [upd_same, hrep]
    have s4 := (((same_upd hp1).trans (same_upd hp2)).trans (same_upd hp3)).trans (same_upd (o := .lst ((rs.drop j).map V.int ++ (List.replicate j (0 : Int)).map V.int)) hp4)
    refine ⟨.ref a, rfl, a, _, rfl, .inl (s4.seq hS), _, 1, rfl, rfl, ?_⟩
    have hlm : (rs.map V.int).length = rs.length := List.length_map _
    refine ⟨.ref a, rfl, .ref p4, rfl, a, p4, rs.map V.int, (rs.drop j ++ List.replicate j 0).map V.int, rfl, s4.seq hS, .inl (.inl (by rw [upd_same, List.map_append])), fun D hD => ?_⟩
    have nD4 : p4 ≠ D := (new_ne hD).symm
    refine lc_gen (n := rs.length) (fun i H' => Same H H' ∧ H' p4 = some (LI (rs.drop j ++ List.replicate j 0)) ∧ H' D = some (LI ((keysOf rs j).take i))) ?_ ?_ ?_ ?_ ?_
    · refine ⟨s4.trans (same_upd hD), ?_, upd_same⟩
      rw [upd_ne nD4, upd_same]
      exact congrArg some (congrArg HO.lst (List.map_append ..).symm)
    · rintro i H' hi ⟨sm, h4, hd⟩
      exact ⟨_, _, _, _, sm.seq hS, .inl (.inl h4), map_int_at hi, by rw [List.getElem?_map, beh_list hj hi]; rfl⟩
    · rintro H' ⟨sm, h4, hd⟩
      exact ⟨_, _, sm.seq hS, .inl (.inl h4), .inl (by rw [hlm]; exact Nat.le_refl _)⟩
    · rintro i H' v H2 hi ⟨sm, h4, hd⟩ ⟨U, x, y, rfl, hU, rfl, hx, hy⟩
      have ex := hx _ (sm.seq hS)
      have ey := hy _ (.inl (.inl h4))
      rw [map_int_at hi] at ex
      rw [List.getElem?_map, beh_list hj hi] at ey
      obtain rfl : V.int rs[i] = x := Option.some.inj ex
      obtain rfl : V.int (beh rs j i) = y := Option.some.inj ey
      have nUD : D ≠ U := ne_of_none hd hU
      have nU4 : p4 ≠ U := ne_of_none h4 hU
      refine ⟨U, _, rfl, .inl (.inl upd_same), rfl, _, _, rfl, _, _, rfl, rfl, rfl, ?_⟩
      dsimp only [tYes]
      rw [if_pos rfl]
      refine ⟨_, rfl, _, rfl, _, _, rfl, rfl, .inl ⟨by omega, by omega⟩, _, rfl, _, _, rfl, rfl, _, by rw [upd_ne nUD]; exact hd, line_lt (by rw [List.length_map, List.length_take]; omega), ?_, ?_, ?_⟩
      · intro b o e
        rw [upd_ne (ne_of_none e (s4.free hD)), upd_ne (ne_of_none (sm b o e) hU)]
        exact sm b o e
      · rw [upd_ne nD4, upd_ne nU4]
        exact h4
      · rw [upd_same, List.take_add_one, keysOf_at (List.getElem?_eq_getElem hi), hlm]
        exact congrArg some (LI_snoc _ _).symm
    · rintro H' ⟨sm, h4, hd⟩
      refine q H' D sm (s4.free hD) ?_
      rw [hd, List.take_of_length_le (by rw [keysOf_len]; exact Nat.le_refl _)]
end
def spRows (K : PySem.W.Frag) : Sp := fun vs H Q _ => ∃ (a : Addr) (ns : List Int), vs = [.ref a] ∧ SqL K H a (ns.map V.int) ∧ Num ns ∧ ns.length ≤ 4000 ∧ ∀ (H' : Hp) (p : Addr), Same H H' → H p = none → H' p = some (LN (starts ns)) → Q (.ref p) H'
theorem LN_LI (ks : List Nat) : LN ks = LI (ks.map fun k : Nat => (k : Int)) := by
  show HO.lst _ = HO.lst _
  rw [List.map_map]
  rfl
section
variable {P : Program} {w : World} {K : PySem.W.Frag} {mg : Str → Option Value} {base : Heap}
open PySem.W in
theorem ok_suffix {f : Addr} {fd : FuncData} {k : Nat} (F : Fun K "suffix_rows" "suffix_rows" sSuffix f fd) (B : Bl mg) (menum : mg "enumerate" = none) (mset : mg "set" = none) (hR : Has P w K mg base k "_ranks" ["keys"] (spRanks K)) (hK : Has P w K mg base k "_joined_keys" ["ranks", "width"] (spKeys K)) :
    FnOk P w K mg base CX0 (k + 1) f fd ["numbers"] (spRows K) := by
  obtain ⟨fR, dR, GR, gR, kR, bR⟩ := hR
  obtain ⟨fK, dK, GK, gK, kK, bK⟩ := hK
  refine F.ok scSuffix (fun vs H Q E h => ?_) (fun cdv A outer s H vs Q E hr h => ?_)
  · obtain ⟨a, ks, rfl, _⟩ := h
    rfl
  · obtain ⟨a, ns, rfl, hS, hnum, hn, q⟩ := h
    have hnn : ∀ x ∈ ns, 0 ≤ x := fun x hx => (hnum x hx).1
    have hlm : (ns.map V.int).length = ns.length := List.length_map _
    refine ⟨_, pss_cons (ps_set (i := 1) scSuffix.nd rfl (.inl rfl) (pe_call GR hr (by rfl) gR kR bR .nil pass0 (pa_cons (pv 0) pa_nil)))
      (pss_cons (ps_set (i := 2) scSuffix.nd rfl (.inl rfl) pe_int)
      (C8.pss_cut (ps_while PassesOwn.never (pt_cmpR op_lt (pe_lenSetAll (by rfl) B.len (by rfl) mset (pv 1)) (pe_callB call_len_seq (by rfl) B.len PySem.boot_len (pa_cons (pv 0) pa_nil)) (nomark _))
        (pss_cons (ps_set (i := 1) scSuffix.nd rfl (.inl rfl) (pe_call GR hr (by rfl) gR kR bR .nil pass0 (pa_cons (pe_call GK hr (by rfl) gK kK bK .nil pass0 (pa_cons (pv 1) (pa_cons (pv 2) pa_nil))) pa_nil)))
        (pss_one (ps_aug (i := 2) scSuffix.nd rfl (.inl rfl) pe_int iop_mul))))
      (pss_cons (ps_set (i := 3) scSuffix.nd rfl (.inl rfl) (pe_op op_rep (pe_lst (pa_cons pe_int pa_nil)) (pe_callB call_len_seq (by rfl) B.len PySem.boot_len (pa_cons (pv 0) pa_nil))))
      (pss_cons (ps_for PassesOwn.never rfl (pi_enum (by rfl) menum (pa_cons (pv 1) pa_nil)) (pg_tup rfl (pgs_cons (pg_name (i := 4) scSuffix.nd rfl (.inl rfl)) (pgs_cons (pg_name (i := 5) scSuffix.nd rfl (.inl rfl)) pgs_nil)))
        (pss_one (ps_asg (pv 4) (pg_sub (pv 3) (pe_op op_sub (pv 5) pe_int) set_list))))
      (pss_one (ps_ret (pv 3))))))), ?_⟩
    refine ⟨.ref a, rfl, a, ns, rfl, hS, hn, fun H1 p1 rs1 s1 hp1 hr1 ir1 => ?_⟩
    refine ⟨fun σ H' => Same H H' ∧ ∃ (p : Addr) (rs : List Int) (wd : Nat), H' p = some (LI rs) ∧ RankW ns wd rs ∧ rs.Nodup ∧ σ = [some (.ref a), some (.ref p), some (.int (wd : Int)), none, none, none], ?_, ?_⟩
    · refine while_by (fun σ H' => Same H H' ∧ ∃ (p : Addr) (rs : List Int) (wd : Nat), H' p = some (LI rs) ∧ RankW ns wd rs ∧ 0 < wd ∧ σ = [some (.ref a), some (.ref p), some (.int (wd : Int)), none, none, none])
        (fun (σ : L2.St) (_ : Hp) => match σ[2]? with | some (some (V.int x)) => ns.length - x.toNat | _ => 0) ⟨s1, p1, rs1, 1, hr1, ir1.one, by decide, rfl⟩ ?_ ?_
      · rintro σ H' ⟨sm, p, rs, wd, hp, rk, hw, rfl⟩
        refine ⟨.ref p, rfl, p, rs, rfl, .inl (.inl hp), by rw [rk.len]; exact hn, .ref a, rfl, a, _, rfl, .inl (sm.seq hS), _, _, rfl, rfl, _, rfl, ite2 (fun e => ?_) (fun e => ?_)⟩
        · have lt := of_decide_eq_true e
          rw [hlm] at lt
          have hwn : wd < ns.length := by
            by_cases c : wd < ns.length
            · exact c
            · have nd := oss_nodup rs (rk.all hnn (by omega))
              rw [rk.len] at nd
              omega
          refine ⟨.ref p, rfl, .int wd, rfl, p, rs, wd, rfl, .inl (.inl hp), by rw [rk.len]; exact hn, by rw [rk.len]; omega, fun H2 p2 s2 hp2 hk2 => ?_⟩
          refine ⟨p2, keysOf rs wd, rfl, .inl (.inl hk2), by rw [keysOf_len, rk.len]; exact hn, fun H3 p3 qs s3 hp3 hr3 ir3 => ?_⟩
          refine ⟨.int wd, rfl, _, 2, rfl, rfl, .inl ⟨by omega, by omega⟩, ⟨(sm.trans s2).trans s3, p3, qs, wd + wd, hr3, rk.next hnn hw ir3, by omega, ?_⟩, ?_⟩
          · rw [show ((wd + wd : Nat) : Int) = (wd : Int) * 2 by omega]
            rfl
          · show ns.length - ((wd : Int) * 2).toNat < ns.length - (wd : Int).toNat
            omega
        · refine ⟨sm, p, rs, wd, hp, rk, nodup_oss rs ?_, rfl⟩
          have ge : ¬ ((ossOf rs).length : Int) < ((ns.map V.int).length : Nat) := fun z => e (decide_eq_true z)
          rw [hlm] at ge
          rw [rk.len]
          omega
      · rintro σ H' Q1 Q2 m ⟨v, e1, l, xs, rfl, h1, h2, v2, e2, p, ys, e3, h3, i, j, e4, e5, b, e6, h6⟩
        exact ⟨_, e1, l, xs, rfl, h1, h2, v2, e2, p, ys, e3, h3, i, j, e4, e5, b, e6, m _ _ h6⟩
    · rintro σ H' ⟨sm, p, rs, wd, hp, rk, nd, rfl⟩
      refine ⟨by show 1 ≤ sizeLine; decide, fun pz hpz => ?_⟩
      have npz : p ≠ pz := ne_of_none hp hpz
      refine ⟨.ref a, rfl, a, _, rfl, .inl ((sm.trans (same_upd hpz)).seq hS), pz, _, _, rfl, rfl, upd_same, by omega, by omega, line_ok7 (by rw [hlm]; show 1 * (ns.length : Int).toNat ≤ _; omega), fun pr hpr => ?_⟩
      have nzr := new_ne hpr
      have hrep : (List.replicate (((ns.map V.int).length : Nat) : Int).toNat [V.int 0]).flatten = (List.replicate ns.length (0 : Int)).map V.int := by rw [Int.toNat_natCast, rep_one, List.map_replicate, hlm]
      have npr : p ≠ pr := fun z => by
        rw [← z, upd_ne npz] at hpr
        rw [hp] at hpr
        cases hpr
      have s2 : Same H' (upd (upd H' pz (.lst [V.int 0])) pr (.lst (List.replicate (((ns.map V.int).length : Nat) : Int).toNat [V.int 0]).flatten)) := (same_upd hpz).trans (same_upd hpr)
      have nfr : H pr = none := (sm.trans (same_upd hpz)).free hpr
      have hp2 := s2 _ _ hp
      refine ⟨.ref p, rfl, p, rs.map V.int, rfl, .inl (.inl hp2), ?_⟩
      refine for_gen (n := rs.length) (fun i σ H2 => (∀ b o, H b = some o → H2 b = some o) ∧ H2 p = some (LI rs) ∧ ∃ (ls : List Int) (v4 v5 : Option V), H2 pr = some (LI ls) ∧ ls.length = ns.length ∧
        (∀ (t : Nat) (x : Int), t < i → rs[t]? = some x → ls[(x - 1).toNat]? = some (t : Int)) ∧ σ = [some (.ref a), some (.ref p), some (.int (wd : Int)), some (.ref pr), v4, v5]) ?_ ?_ ?_ ?_ ?_
      · refine ⟨(sm.trans s2), hp2, List.replicate ns.length 0, none, none, ?_, List.length_replicate, fun t x ht => absurd ht (Nat.not_lt_zero t), rfl⟩
        rw [upd_same, hrep]
      · rintro i σ H2 hi ⟨s3, h3, _⟩
        exact ⟨_, _, .inl (.inl h3), map_int_at hi⟩
      · rintro σ H2 ⟨s3, h3, _⟩
        exact ⟨_, .inl (.inl h3), by rw [List.length_map]; exact Nat.le_refl _⟩
      · rintro i σ H2 v H3 hi ⟨s3, h3, ls, v4, v5, hls, hll, hall, rfl⟩ ⟨U, x, rfl, hU, rfl, hx⟩
        have ex := hx _ (.inl (.inl h3))
        rw [map_int_at hi] at ex
        obtain rfl : V.int rs[i] = x := Option.some.inj ex
        have nUp : p ≠ U := ne_of_none h3 hU
        have nUr : pr ≠ U := ne_of_none hls hU
        have bd := rk.lo _ (List.getElem_mem hi)
        refine ⟨U, _, rfl, .inl (.inl upd_same), rfl, _, _, rfl, _, _, rfl, rfl, ?_⟩
        refine ⟨_, rfl, .ref pr, rfl, _, rfl, _, 1, rfl, rfl, pr, _, _, (rs[i] - 1).toNat, rfl, rfl, by rw [upd_ne nUr]; exact hls, ix_set (by omega) (by rw [List.length_map]; omega), ?_⟩
        refine ⟨fun b o e => ?_, ?_, ls.set (rs[i] - 1).toNat (i : Int), _, _, ?_, by rw [List.length_set]; exact hll, fun t x ht hxt => ?_, rfl⟩
        · rw [upd_ne (ne_of_none e nfr), upd_ne (ne_of_none (s3 b o e) hU)]
          exact s3 b o e
        · rw [upd_ne npr, upd_ne nUp]
          exact h3
        · rw [upd_same]
          show some (HO.lst ((ls.map V.int).set (rs[i] - 1).toNat (V.int (i : Nat)))) = _
          rw [← List.map_set]
        · by_cases c : t = i
          · subst c
            rw [List.getElem?_eq_getElem hi] at hxt
            obtain rfl := Option.some.inj hxt
            rw [List.getElem?_set, if_pos rfl, if_pos (by omega)]
          · have lt : t < i := by omega
            have bx := rk.lo x (List.mem_of_getElem? hxt)
            have ne : rs[i] ≠ x := fun z => by
              obtain ⟨lt2, e2⟩ := List.getElem?_eq_some_iff.mp hxt
              rw [← e2] at z
              exact c ((List.getElem_inj nd).mp z).symm
            rw [List.getElem?_set_ne (by omega)]
            exact hall t x lt hxt
      · rintro σ H2 ⟨s3, h3, ls, v4, v5, hls, hll, hall, rfl⟩
        refine ⟨.ref pr, rfl, q H2 pr s3 nfr ?_⟩
        rw [hls, LN_LI]
        refine congrArg (fun z => some (LI z)) (List.ext_getElem? fun i => ?_)
        rw [List.getElem?_map]
        by_cases c : i < (starts ns).length
        · have e := List.getElem?_eq_getElem c
          have pl := rk.place hnn nd e
          have lt : (starts ns)[i] < rs.length := (List.getElem?_eq_some_iff.mp pl).1
          have := hall _ _ lt pl
          rw [show ((i : Int) + 1 - 1).toNat = i by omega] at this
          rw [this, e]
          rfl
        · have sl := starts_len ns
          rw [List.getElem?_eq_none (by omega), List.getElem?_eq_none (by omega)]
          rfl
end
def NL : List Str := ["script", "lists", "k", "shape", "numbers", "expected", "handed", "actual", "at", "start"]
theorem scLaw : FnScope NL ["script"] (defScope sLaw) := ⟨rfl, rfl, rfl, by decide +kernel, rfl, by decide +kernel, by decide +kernel⟩
open LamX in
theorem Bys.ext {T : List (Addr × Str)} {pl : Addr} {H H' : Hp} {xs : List V} {rs : List (List Int)} (h : Bys pl H xs rs) (g : Grow T H H') : Bys pl H' xs rs := h.mono fun q l _ e => g.ext _ _ e fun ps z => by cases z
open LamX in
theorem Grow.same {T : List (Addr × Str)} {H H1 H2 : Hp} (g : Grow T H H1) (s : Same H1 H2) : Grow T H H2 := ⟨fun b o e n => s _ _ (g.ext b o e n), tabs_same g.tab s⟩
open LamX in
theorem Grow.trans {T : List (Addr × Str)} {H H1 H2 : Hp} (g : Grow T H H1) (g2 : Grow T H1 H2) : Grow T H H2 := ⟨fun b o e n => g2.ext _ _ (g.ext b o e n) n, g2.tab⟩
open LamX in
theorem Grow.start {T : List (Addr × Str)} {H : Hp} (t : Tabs T H) : Grow T H H := ⟨fun _ _ e _ => e, t⟩
open LamX in
theorem Grow.lst {T : List (Addr × Str)} {H H1 : Hp} (g : Grow T H H1) {a : Addr} {xs : List V} (e : H a = some (.lst xs)) : H1 a = some (.lst xs) := g.ext _ _ e fun ps z => by cases z
section
variable {P : Program} {w : World} {K : PySem.W.Frag} {mg : Str → Option Value} {base : Heap}
def LInv (H0 : Hp) (a : Addr) (i : Nat) (σ : L2.St) (H' : Hp) : Prop := ∃ (pl : Addr) (xs : List V) (rs : List (List Int)) (kv sv : Option V), σ = [some (.ref a), some (.ref pl), kv, sv, none, none, none, none, none, none] ∧ Same H0 H' ∧ H0 pl = none ∧ H' pl = some (.lst xs) ∧ Bys pl H' xs rs ∧ rs.length = i ∧ ∀ r ∈ rs, Num r ∧ r.length ≤ 600
open LamX in
def spLaw (K : PySem.W.Frag) (T : List (Addr × Str)) : Sp := fun vs H Q _ => ∃ (a : Addr) (ns : List Int), vs = [.ref a] ∧ SqL K H a (ns.map V.int) ∧ Tabs T H ∧ ∀ H', Q (.bl true) H'
abbrev lamQ : Str := Str.ofString "law.<locals>." ++ Str.ofString "<lambda>"
open LamX in
theorem ok_law {f c Pt : Addr} {fd : FuncData} {T : List (Addr × Str)} {m : Nat} (F : FunC K "law" "law" sLaw f c fd) (B : Bl mg) (mlist : mg "list" = none) (msort : mg "sorted" = none) (TB : TabB base mg c Pt) (hmT : (Pt, lamQ) ∈ T) (hu : ∀ p ∈ T, p.1 = Pt → p.2 = lamQ) (hm : 3 ≤ m) (hC : Has P w K mg base 2 "_law_cell" ["script", "k"] (spCell K))
    (hN : Has P w K mg base 3 "_law_numbers" ["shape", "cell", "size"] (spNumbers K)) (hI : Has P w K mg base 3 "_law_integers" ["values"] spIntegers) (hS : Has P w K mg base m "suffix_rows" ["numbers"] (spRows K)) : FnOk P w K mg base CX0 (m + 1) f fd ["script"] (spLaw K T) := by
  obtain ⟨fC, dC, GC, gC, kC, bC⟩ := hC
  obtain ⟨fN, dN, GN, gN, kN, bN⟩ := hN
  obtain ⟨fI, dI', GI, gI, kI, bI⟩ := hI
  obtain ⟨fS, dS', GS, gS, kS, bS⟩ := hS
  refine F.ok scLaw (fun vs H Q E h => ?_) (fun A outer s H vs Q E hr h => ?_)
  · obtain ⟨c, ns, rfl, _⟩ := h
    rfl
  · obtain ⟨a, ns, rfl, hsq, hT, q⟩ := h
    have hr3 : Room 3 _ := hr.mono hm
    have hr2 : Room 2 _ := hr3.mono (by decide)
    refine ⟨_, pss_cons (ps_set (i := 1) scLaw.nd rfl (.inl rfl) (pe_lst pa_nil))
      (pss_cons (ps_for PassesOwn.never rfl (pi_range1 rfl B.range (pa_cons pe_int pa_nil)) (pg_name (i := 2) scLaw.nd rfl (.inl rfl))
        (pss_cons (ps_set (i := 3) scLaw.nd rfl (.inl rfl) (pe_call GC hr2 (by rfl) gC kC bC .nil pass0 (pa_cons (pv 0) (pa_cons (pe_op op_mul pe_int (pv 2)) pa_nil))))
        (pss_one (ps_expr (pe_bm PySem.F.plainAttrs_list PySem.F.slot_list_append PySem.F.type_list_append mt_append (pv 1) (pa_cons (pe_call GN hr3 (by rfl) gN kN bN .nil pass0
          (pa_cons (pe_op op_fdiv (pv 3) pe_int) (pa_cons (pe_call GC hr2 (by rfl) gC kC bC .nil pass0 (pa_cons (pv 0) (pa_cons (pe_op op_add (pe_op op_mul pe_int (pv 2)) pe_int) pa_nil))) (pa_cons (pe_op op_mod (pv 3) pe_int) pa_nil)))) pa_nil))))))
      (C8.pss_cut (ps_set (i := 3) scLaw.nd rfl (.inl rfl) (pe_call GC hr2 (by rfl) gC kC bC .nil pass0 (pa_cons (pv 0) (pa_cons pe_int pa_nil))))
      (C8.pss_cut (ps_if (pt_cmpR op_eq (pe_op op_mod (pv 3) pe_int) pe_int (nomark _))
        (pss_one (ps_expr (pe_bm PySem.F.plainAttrs_list PySem.F.slot_list_append PySem.F.type_list_append mt_append (pv 1) (pa_cons (pe_call GN hr3 (by rfl) gN kN bN .nil pass0
          (pa_cons (pe_op op_fdiv (pv 3) pe_int) (pa_cons (pe_call GC hr2 (by rfl) gC kC bC .nil pass0 (pa_cons (pv 0) (pa_cons pe_int pa_nil))) (pa_cons (pe_op op_add pe_int (pe_op op_mod (pe_op op_fdiv (pv 3) pe_int) pe_int)) pa_nil)))) pa_nil)))) pss_nil)
      (pss_cons (ps_for PassesOwn.never rfl (pi_list (pv 1)) (pg_name (i := 4) scLaw.nd rfl (.inr rfl))
        (pss_cons (ps_set (i := 5) scLaw.nd rfl (.inl rfl) (pe_tails (j := 4) (by rfl) msort (pa_cons (pe_lc (own := [("at", 8)]) (g := gName 8) (tt := tYes) rfl scLaw.nd (pi_range1 rfl B.range (pa_cons (pe_callB call_len_seq (by rfl) B.len PySem.boot_len (pa_cons (pv 4) pa_nil)) pa_nil))
            (blkOk_by (own := [("at", 8)]) (N := NL) (sc := defScope sLaw) (by decide +kernel))
            (fun _ _ _ _ _ => pg_name (i := 8) scLaw.nd rfl (Or.inl rfl)) (fun _ _ _ _ _ => pts_nil) (fun _ _ _ _ _ => pv 8)) pa_nil) TB rfl hmT hu hr3 rfl rfl
            (by decide +kernel) rfl rfl rfl rfl rfl (by decide +kernel) rfl (fun _ _ _ _ _ _ => rfl)))
        (pss_cons (ps_set (i := 6) scLaw.nd rfl (.inl rfl) (pe_callTy call_list_of (by rfl) mlist (by decide +kernel) (pa_cons (pv 4) pa_nil)))
        (pss_cons (ps_set (i := 7) scLaw.nd rfl (.inl rfl) (pe_call GS hr (by rfl) gS kS bS .nil pass0 (pa_cons (pv 6) pa_nil)))
        (pss_cons (ps_if (PW.pt (pw_or (pt_not (pt_val (pe_call GI hr3 (by rfl) gI kI bI .nil pass0 (pa_cons (pv 7) pa_nil)))) (pw_or (pt_cmpR (op_neD hr.units) (pv 7) (pv 5) (nomark _)) (pw_or1 (pt_cmpR (op_neD hr.units) (pv 6) (pv 4) (nomark _))))))
          (pss_one (ps_ret pe_bl)) pss_nil)
        (pss_cons (ps_expr (pe_bm PySem.F.plainAttrs_list PySem.F.slot_list_append PySem.F.type_list_append mt_append (pv 7) (pa_cons pe_int pa_nil)))
        (pss_one (ps_if (pt_cmpR (op_neD hr.units) (pe_call GS hr (by rfl) gS kS bS .nil pass0 (pa_cons (pv 6) pa_nil)) (pv 5) (nomark _)) (pss_one (ps_ret pe_bl)) pss_nil))))))))
      (pss_one (ps_ret pe_bl)))))), ?_⟩
    refine ⟨Nat.zero_le _, fun pl hpl => ?_⟩
    refine ⟨6, rfl, by decide, by decide, ?_⟩
    refine for_range (lo := 0) (n := 6) (LInv H a) ?_ ?_ ?_
    · exact ⟨pl, [], [], none, none, rfl, same_upd hpl, hpl, upd_same, .nil, rfl, fun r hr => by cases hr⟩
    · rintro i σ H1 hi ⟨pl, xs, rs, kv, sv, rfl, sm, hpl, hx, ht, hl, hg⟩
      refine ⟨.ref a, rfl, .int (0 + (i : Nat)), rfl, 2, _, rfl, rfl, .inl ⟨by decide, by decide⟩, a, ns, 2 * i, cell_arg3 a 2 i, sm.seq hsq, fun x => ?_⟩
      have m0 := Int.emod_nonneg x (show (71 : Int) ≠ 0 by decide)
      have m1 := Int.emod_lt_of_pos x (show (0 : Int) < 71 by decide)
      refine ⟨.ref pl, rfl, .inl ⟨rfl, _, .inl (.inl hx)⟩, .int x, rfl, x, 71, rfl, rfl, ⟨by decide, by decide⟩, .ref a, rfl, .int (0 + (i : Nat)), rfl, 2, _, rfl, rfl, .inl ⟨by decide, by decide⟩, _, 1, rfl, rfl, a, ns, 2 * i + 1, cell_arg4 a 1 2 i, sm.seq hsq, fun y => ?_⟩
      refine ⟨.int x, rfl, x, 71, rfl, rfl, (show (0 : Int) < 71 by decide), x / 71, y, (x % 71).toNat, by rw [Int.toNat_of_nonneg m0]; rfl, by omega, fun H2 p l s2 hp hlp hnum hll => ?_⟩
      have hxl : xs.length = i := (paired_len ht).trans hl
      have hx2 := s2 _ _ hx
      have npl : pl ≠ p := ne_of_none hx hp
      refine ⟨pl, xs, _, rfl, rfl, hx2, line_ok7 (by omega), ?_⟩
      refine ⟨pl, xs ++ [.ref p], rs ++ [l], _, _, rfl, fun b o hb => ?_, hpl, upd_same, ?_, by rw [List.length_append, hl]; rfl, fun r hr => ?_⟩
      · rw [upd_ne (ne_of_none hb hpl)]
        exact s2 _ _ (sm _ _ hb)
      · refine Paired.snoc (ht.mono fun b l n1 hb => ?_) ⟨p, rfl, npl.symm, ?_⟩
        · rw [upd_ne n1]
          exact s2 _ _ hb
        · rw [upd_ne npl.symm]
          exact hlp
      · rcases List.mem_append.mp hr with z | z
        · exact hg r z
        · obtain rfl : r = l := by simpa using z
          exact ⟨hnum, hll⟩
    · rintro σ H1 ⟨pl, xs, rs, kv, sv, rfl, sm, hpl, hx, ht, hl, hg⟩
      have hxl : xs.length = 6 := (paired_len ht).trans hl
      refine ⟨fun σ H' => H' = H1 ∧ ∃ x : Int, σ = [some (.ref a), some (.ref pl), kv, some (.int x), none, none, none, none, none, none], ⟨.ref a, rfl, a, ns, 12, rfl, sm.seq hsq, fun x => ⟨rfl, x, rfl⟩⟩, ?_⟩
      rintro σ H2 ⟨rfl, x, rfl⟩
      refine ⟨fun σ H3 => ∃ (xs : List V) (rs : List (List Int)), Same H H3 ∧ H3 pl = some (.lst xs) ∧ Bys pl H3 xs rs ∧ (∀ r ∈ rs, Num r ∧ r.length ≤ 600) ∧ σ = [some (.ref a), some (.ref pl), kv, some (.int x), none, none, none, none, none, none], ?_, ?_⟩
      · refine ⟨.int x, rfl, x, 8, rfl, rfl, (show (0 : Int) < 8 by decide), rfl, _, rfl, ite2 (fun _ => ?_) (fun _ => ⟨xs, rs, sm, hx, ht, hg, rfl⟩)⟩
        have m0 := Int.emod_nonneg (x / 64) (show (197 : Int) ≠ 0 by decide)
        have m1 := Int.emod_lt_of_pos (x / 64) (show (0 : Int) < 197 by decide)
        refine ⟨.ref pl, rfl, .inl ⟨rfl, _, .inl (.inl hx)⟩, .int x, rfl, x, 8, rfl, rfl, ⟨by decide, by decide⟩, .ref a, rfl, a, ns, 13, rfl, sm.seq hsq, fun y => ⟨.int x, rfl, x, 64, rfl, rfl, ⟨by decide, by decide⟩, _, 197, rfl, rfl, (show (0 : Int) < 197 by decide), 200, _, rfl, rfl, x / 8, y, (200 + x / 64 % 197).toNat, by rw [Int.toNat_of_nonneg (by omega)]; rfl, by omega, fun H3 p l s2 hp hlp hnum hll => ?_⟩⟩
        have hx2 := s2 _ _ hx
        have npl : pl ≠ p := ne_of_none hx hp
        refine ⟨pl, xs, _, rfl, rfl, hx2, line_ok7 (by omega), ?_⟩
        refine ⟨xs ++ [.ref p], rs ++ [l], fun b o hb => ?_, upd_same, ?_, fun r hr => ?_, rfl⟩
        · rw [upd_ne (ne_of_none hb hpl)]
          exact s2 _ _ (sm _ _ hb)
        · refine Paired.snoc (ht.mono fun b l n1 hb => ?_) ⟨p, rfl, npl.symm, ?_⟩
          · rw [upd_ne n1]
            exact s2 _ _ hb
          · rw [upd_ne npl.symm]
            exact hlp
        · rcases List.mem_append.mp hr with z | z
          · exact hg r z
          · obtain rfl : r = l := by simpa using z
            exact ⟨hnum, hll⟩
      rintro σ H5 ⟨xs, rs, s05, hx, ht, hg, rfl⟩
      have hT5 := tabs_same hT s05
      refine ⟨.ref pl, rfl, pl, rfl, ⟨xs, .inl (.inl hx)⟩, ?_⟩
      refine for_list (K := K) (xs := xs) (fun i σ H' => Grow T H5 H' ∧ ∃ v4 v5 v6 v7 : Option V, σ = [some (.ref a), some (.ref pl), kv, some (.int x), v4, v5, v6, v7, none, none]) ⟨Grow.start hT5, none, none, none, none, rfl⟩ (fun i σ H' _ h => .inl (.inl (h.1.lst hx))) ?_ ?_
      · rintro i v σ H6 hv ⟨g56, v4, v5, v6, v7, rfl⟩
        obtain ⟨l, hl0, q0, rfl, nq0, hq0⟩ := paired_get ht hv
        obtain ⟨bl, ll⟩ := hg l (List.mem_of_getElem? hl0)
        have hq6 := g56.lst hq0
        have hlm : (l.map V.int).length = l.length := List.length_map _
        obtain ⟨st, hst⟩ : ∃ st : List Int, st = (starts l).map fun k : Nat => (k : Int) := ⟨_, rfl⟩
        have hLN : LN (starts l) = LI st := by rw [hst, LN_LI]
        have lst : st.length = l.length := by rw [hst, List.length_map, starts_len]
        refine ⟨.ref q0, rfl, q0, _, rfl, .inl (.inl (.inl hq6)), _, rfl, by omega, by omega, fun D hD => ?_⟩
        refine lc_gen (n := (((l.map V.int).length : Nat) : Int).toNat) (fun j H7 => Same H6 H7 ∧ H7 D = some (LN (List.range j))) ⟨same_upd hD, upd_same⟩ (fun j H7 hj _ => hj) (fun H7 _ => Nat.le_refl _) ?_ ?_
        · rintro j H7 v H8 hj ⟨s7, hd⟩ ⟨rfl, rfl⟩
          refine ⟨rfl, ?_⟩
          dsimp only [tYes]
          rw [if_pos rfl]
          refine ⟨.int (0 + (j : Nat)), rfl, _, hd, line_ok7 (by rw [List.length_map, List.length_range]; omega), fun b o e => ?_, ?_⟩
          · rw [upd_ne (ne_of_none e hD)]
            exact s7 b o e
          · rw [upd_same, Int.zero_add]
            show some (HO.lst _) = some (HO.lst _)
            rw [List.range_succ, List.map_append]
            rfl
        rintro H7 ⟨s7, hd⟩
        rw [Int.toNat_natCast, hlm] at hd
        refine ⟨tabs_same g56.tab s7, D, q0, List.range l.length, l, rfl, rfl, .inl (.inl hd), s7.seq (.inl (.inl hq6)), fun k hk => Nat.le_of_lt (List.mem_range.mp hk), fun H8 p eN T8 hp => ?_⟩
        have g68 : Grow T H6 H8 := ⟨fun b o e n => eN b o (s7 _ _ e) n, T8⟩
        have g1 : Grow T H6 (upd H8 p (LN (starts l))) := g68.same (same_upd hp)
        have hp1 : upd H8 p (LN (starts l)) p = some (LI st) := by rw [upd_same, hLN]
        have hq1 := g1.lst hq6
        refine ⟨.ref q0, rfl, q0, _, rfl, .inl (.inl (.inl hq1)), fun ph hph => ?_⟩
        have s12 := same_upd (o := LI l) hph
        have hph2 : upd (upd H8 p (LN (starts l))) ph (LI l) ph = some (LI l) := upd_same
        refine ⟨.ref ph, rfl, ph, l, rfl, .inl (.inl hph2), bl, by omega, fun E3 pa s3 hpa hpa3 => ?_⟩
        rw [hLN] at hpa3
        refine ⟨.ref pa, rfl, pa, st, rfl, hpa3, by omega, fun E4 s4 => ⟨true, rfl, iteF ?_⟩⟩
        have hpa4 := s4 _ _ hpa3
        have s24 := s3.trans s4
        have hp4 := s24 _ _ (s12 _ _ hp1)
        have hq4 := s24 _ _ (s12 _ _ hq1)
        have hph4 := s24 _ _ hph2
        refine ⟨.ref pa, rfl, .ref p, rfl, dI st, dI st, dp_dI (.inl (.inl hpa4)), dp_dI (.inl (.inl hp4)), shaped_dI st, shaped_dI st, _, rfl, ?_⟩
        rw [eqv_ints]
        refine iteF ⟨.ref ph, rfl, .ref q0, rfl, dI l, dI l, dp_dI (.inl (.inl hph4)), dp_dI (.inl (.inl hq4)), shaped_dI l, shaped_dI l, _, rfl, ?_⟩
        rw [eqv_ints]
        refine iteF ⟨.ref pa, rfl, .inl ⟨rfl, _, .inl (.inl hpa4)⟩, pa, _, _, rfl, rfl, hpa4, line_ok7 (by rw [List.length_map]; omega), ?_⟩
        have s25 : Same (upd (upd H8 p (LN (starts l))) ph (LI l)) (upd E4 pa (.lst (st.map V.int ++ [.int 0]))) := fun b o e => by
          rw [upd_ne (ne_of_none e hpa)]
          exact s24 b o e
        refine ⟨.ref ph, rfl, ph, l, rfl, .inl (.inl (s25 _ _ hph2)), bl, by omega, fun E6 pb s6 hpb hpb6 => ?_⟩
        rw [hLN] at hpb6
        refine ⟨.ref p, rfl, dI st, dI st, dp_dI (.inl (.inl hpb6)), dp_dI (.inl (.inl (s6 _ _ (s25 _ _ (s12 _ _ hp1))))), shaped_dI st, shaped_dI st, _, rfl, ?_⟩
        rw [eqv_ints]
        exact iteF ⟨(((g56.trans g1).same s12).same s25).same s6, _, _, _, _, rfl⟩
      · rintro σ H6 ⟨g56, v4, v5, v6, v7, rfl⟩
        exact q _
end
/-- where a code object's own table stands -/
def tabAt (o : Obj) : Option Value := match o.data with
  | .fields vs => vs[11]?
  | _ => none
theorem code_in {K : PySem.W.Frag} {c P : Addr} {o : Obj} (h : K.lookup c = some o) (e : PySem.W.codeHdIn [(c, o)] c P = true) : PySem.W.codeHdIn K c P = true := by
  unfold PySem.W.codeHdIn at e ⊢
  rw [h]
  have q : List.lookup c [(c, o)] = some o := by simp [List.lookup]
  rw [q] at e
  exact e
theorem all_mk {l : PySem.W.OpenLaw} {w : World} {K : PySem.W.Frag} {h : Heap} {mg : Str → Option Value} {fa fSR fRK fJK fC fO fI fIS fN fL cc Pt : Addr} (X : K.In h) (G : h.Ns mainGlobals mg) (hfa : mg "law" = some (.ref fa)) {ts : List Addr} (tt : ∀ P ∈ ts, h.get? P = some { cls := .none, data := .fields #[] })
    {odSR anSR : Option Addr} {slSR : Array (Option Value)} {ocSR kVSR dcSR pmSR cdSR ctSR : Value}
    {odRK anRK : Option Addr} {slRK : Array (Option Value)} {ocRK kVRK dcRK pmRK cdRK ctRK : Value}
    {odJK anJK : Option Addr} {slJK : Array (Option Value)} {ocJK kVJK dcJK pmJK cdJK ctJK : Value}
    {odC anC : Option Addr} {slC : Array (Option Value)} {ocC kVC dcC pmC cdC ctC : Value}
    {odO anO : Option Addr} {slO : Array (Option Value)} {ocO kVO dcO pmO cdO ctO : Value}
    {odI anI : Option Addr} {slI : Array (Option Value)} {ocI kVI dcI pmI cdI ctI : Value}
    {odIS anIS : Option Addr} {slIS : Array (Option Value)} {ocIS kVIS dcIS pmIS cdIS ctIS : Value}
    {odN anN : Option Addr} {slN : Array (Option Value)} {ocN kVN dcN pmN cdN ctN : Value}
    {odL anL : Option Addr} {slL : Array (Option Value)} {ocL kVL dcL pmL ctL : Value}
    (aSR : PySem.W.nsIn K mainGlobals "suffix_rows" = some (some (.ref fSR))) (lSR : K.lookup fSR = some ⟨ocSR, odSR, .func (PySem.W.fnOf "suffix_rows" "suffix_rows" (defArgs sSuffix) (defBody sSuffix) (defScope sSuffix) .none kVSR dcSR pmSR anSR cdSR ctSR), slSR⟩) (cSR : PySem.W.codeIn K cdSR "suffix_rows" = true) (kSR : PySem.W.keepIn K (.ref fSR) = true)
    (aRK : PySem.W.nsIn K mainGlobals "_ranks" = some (some (.ref fRK))) (lRK : K.lookup fRK = some ⟨ocRK, odRK, .func (PySem.W.fnOf "_ranks" "_ranks" (defArgs sRanks) (defBody sRanks) (defScope sRanks) .none kVRK dcRK pmRK anRK cdRK ctRK), slRK⟩) (cRK : PySem.W.codeIn K cdRK "_ranks" = true) (kRK : PySem.W.keepIn K (.ref fRK) = true)
    (aJK : PySem.W.nsIn K mainGlobals "_joined_keys" = some (some (.ref fJK))) (lJK : K.lookup fJK = some ⟨ocJK, odJK, .func (PySem.W.fnOf "_joined_keys" "_joined_keys" (defArgs sKeys) (defBody sKeys) (defScope sKeys) .none kVJK dcJK pmJK anJK cdJK ctJK), slJK⟩) (cJK : PySem.W.codeIn K cdJK "_joined_keys" = true) (kJK : PySem.W.keepIn K (.ref fJK) = true)
    (aC : PySem.W.nsIn K mainGlobals "_law_cell" = some (some (.ref fC))) (lC : K.lookup fC = some ⟨ocC, odC, .func (PySem.W.fnOf "_law_cell" "_law_cell" (defArgs sCell) (defBody sCell) (defScope sCell) .none kVC dcC pmC anC cdC ctC), slC⟩) (cC : PySem.W.codeIn K cdC "_law_cell" = true) (kC : PySem.W.keepIn K (.ref fC) = true)
    (aO : PySem.W.nsIn K mainGlobals "_law_row" = some (some (.ref fO))) (lO : K.lookup fO = some ⟨ocO, odO, .func (PySem.W.fnOf "_law_row" "_law_row" (defArgs sRow) (defBody sRow) (defScope sRow) .none kVO dcO pmO anO cdO ctO), slO⟩) (cO : PySem.W.codeIn K cdO "_law_row" = true) (kO : PySem.W.keepIn K (.ref fO) = true)
    (aI : PySem.W.nsIn K mainGlobals "_law_integer" = some (some (.ref fI))) (lI : K.lookup fI = some ⟨ocI, odI, .func (PySem.W.fnOf "_law_integer" "_law_integer" (defArgs sInteger) (defBody sInteger) (defScope sInteger) .none kVI dcI pmI anI cdI ctI), slI⟩) (cI : PySem.W.codeIn K cdI "_law_integer" = true) (kI : PySem.W.keepIn K (.ref fI) = true)
    (aIS : PySem.W.nsIn K mainGlobals "_law_integers" = some (some (.ref fIS))) (lIS : K.lookup fIS = some ⟨ocIS, odIS, .func (PySem.W.fnOf "_law_integers" "_law_integers" (defArgs sIntegers) (defBody sIntegers) (defScope sIntegers) .none kVIS dcIS pmIS anIS cdIS ctIS), slIS⟩) (cIS : PySem.W.codeIn K cdIS "_law_integers" = true) (kIS : PySem.W.keepIn K (.ref fIS) = true)
    (aN : PySem.W.nsIn K mainGlobals "_law_numbers" = some (some (.ref fN))) (lN : K.lookup fN = some ⟨ocN, odN, .func (PySem.W.fnOf "_law_numbers" "_law_numbers" (defArgs sNumbers) (defBody sNumbers) (defScope sNumbers) .none kVN dcN pmN anN cdN ctN), slN⟩) (cN : PySem.W.codeIn K cdN "_law_numbers" = true) (kN : PySem.W.keepIn K (.ref fN) = true)
    (aL : PySem.W.nsIn K mainGlobals "law" = some (some (.ref fL))) (lL : K.lookup fL = some ⟨ocL, odL, .func (PySem.W.fnOf "law" "law" (defArgs sLaw) (defBody sLaw) (defScope sLaw) .none kVL dcL pmL anL (.ref cc) ctL), slL⟩) (cL : PySem.W.codeIn K (.ref cc) "law" = true)
    {oC : Obj} (lc : K.lookup cc = some oC) (eP : tabAt oC = some (.ref Pt)) (nP : K.lookup Pt = none) (hcP : PySem.W.codeHdIn [(cc, oC)] cc Pt = true) (mP : Pt ∈ ts)
    (zlen : PySem.W.nsIn K mainGlobals "len" = some none) (zint : PySem.W.nsIn K mainGlobals "int" = some none) (zabs : PySem.W.nsIn K mainGlobals "abs" = some none) (zrange : PySem.W.nsIn K mainGlobals "range" = some none) (zisinstance : PySem.W.nsIn K mainGlobals "isinstance" = some none) (zbool : PySem.W.nsIn K mainGlobals "bool" = some none) (zstr : PySem.W.nsIn K mainGlobals "str" = some none) (zlist : PySem.W.nsIn K mainGlobals "list" = some none) (zall : PySem.W.nsIn K mainGlobals "all" = some none) (zsorted : PySem.W.nsIn K mainGlobals "sorted" = some none) (zenumerate : PySem.W.nsIn K mainGlobals "enumerate" = some none) (zset : PySem.W.nsIn K mainGlobals "set" = some none) (zzip : PySem.W.nsIn K mainGlobals "zip" = some none) :
    LamX.LawAtS l w K L2.CX0 5 63 "script" mg fa h := by
  have e := hfa.symm.trans (PySem.W.mg_of X G aL)
  cases e
  have FSR := fun_mk (st := sSuffix) lSR cSR kSR
  have FRK := fun_mk (st := sRanks) lRK cRK kRK
  have FJK := fun_mk (st := sKeys) lJK cJK kJK
  have FC := fun_mk (st := sCell) lC cC kC
  have FO := fun_mk (st := sRow) lO cO kO
  have FI := fun_mk (st := sInteger) lI cI kI
  have FIS := fun_mk (st := sIntegers) lIS cIS kIS
  have FN := fun_mk (st := sNumbers) lN cN kN
  have FL : FunC K "law" "law" sLaw fa cc _ := ⟨⟨_, _, _, _, _, _, _, _, rfl, lL, cL⟩⟩
  have B : Bl mg := ⟨PySem.W.mg_none_of X G zlen, PySem.W.mg_none_of X G zint, PySem.W.mg_none_of X G zabs, PySem.W.mg_none_of X G zrange, PySem.W.mg_none_of X G zisinstance, PySem.W.mg_none_of X G zbool, PySem.W.mg_none_of X G zstr⟩
  have bSR := FSR.binds (ps := ["numbers"]) fun _ _ _ _ _ _ us hl => match us, hl with | [_], _ => rfl
  have bRK := FRK.binds (ps := ["keys"]) fun _ _ _ _ _ _ us hl => match us, hl with | [_], _ => rfl
  have bJK := FJK.binds (ps := ["ranks", "width"]) fun _ _ _ _ _ _ us hl => match us, hl with | [_, _], _ => rfl
  have bC := FC.binds (ps := ["script", "k"]) fun _ _ _ _ _ _ us hl => match us, hl with | [_, _], _ => rfl
  have bO := FO.binds (ps := ["cell", "count", "bound"]) fun _ _ _ _ _ _ us hl => match us, hl with | [_, _, _], _ => rfl
  have bI := FI.binds (ps := ["value"]) fun _ _ _ _ _ _ us hl => match us, hl with | [_], _ => rfl
  have bIS := FIS.binds (ps := ["values"]) fun _ _ _ _ _ _ us hl => match us, hl with | [_], _ => rfl
  have bN := FN.binds (ps := ["shape", "cell", "size"]) fun _ _ _ _ _ _ us hl => match us, hl with | [_, _, _], _ => rfl
  have t1 := PySem.W.codeHd_of_K X (code_in lc hcP)
  have t2 := tt Pt mP
  refine ⟨PySem.W.fnOf "law" "law" (defArgs sLaw) (defBody sLaw) (defScope sLaw) .none kVL dcL pmL anL (.ref cc) ctL, [(cc, Pt)], spLaw K [(Pt, lamQ)], (fun p hp => ?_), (fun p hp => ?_), (fun p hp => ?_), (fun s v => .of_eq rfl), (fun H a ns _ _ hT hS => ⟨a, ns, rfl, hS, (fun p hp => ?_), fun _ => rfl⟩), fun base KX GX TB => ?_⟩
  · obtain rfl : p = (cc, Pt) := by simpa using hp
    exact t2
  · obtain rfl : p = (cc, Pt) := by simpa using hp
    exact nP
  · obtain rfl : p = (cc, Pt) := by simpa using hp
    exact t1
  · obtain rfl : p = (Pt, lamQ) := by simpa using hp
    exact LamX.TabS.nil (hT (cc, Pt) (by simp))
  · have hC : Has l.prog w K mg base 2 "_law_cell" ["script", "k"] (spCell K) := ⟨_, _, ok_cell (k := 1) FC B, PySem.W.mg_of X G aC, kC, bC⟩
    have hO : Has l.prog w K mg base 2 "_law_row" ["cell", "count", "bound"] (spRow K) := ⟨_, _, ok_row (k := 1) FO B, PySem.W.mg_of X G aO, kO, bO⟩
    have hI : Has l.prog w K mg base 2 "_law_integer" ["value"] spInteger := ⟨_, _, ok_integer (k := 1) FI B, PySem.W.mg_of X G aI, kI, bI⟩
    have hIS : Has l.prog w K mg base 3 "_law_integers" ["values"] spIntegers := ⟨_, _, ok_integers FIS B (PySem.W.mg_none_of X G zlist) (PySem.W.mg_none_of X G zall) hI, PySem.W.mg_of X G aIS, kIS, bIS⟩
    have hN : Has l.prog w K mg base 3 "_law_numbers" ["shape", "cell", "size"] (spNumbers K) := ⟨_, _, ok_numbers FN B hO, PySem.W.mg_of X G aN, kN, bN⟩
    have hRK : Has l.prog w K mg base 3 "_ranks" ["keys"] (spRanks K) := ⟨_, _, ok_ranks (k := 2) FRK (PySem.W.mg_none_of X G zenumerate) (PySem.W.mg_none_of X G zsorted) (PySem.W.mg_none_of X G zset), PySem.W.mg_of X G aRK, kRK, bRK⟩
    have hJK : Has l.prog w K mg base 3 "_joined_keys" ["ranks", "width"] (spKeys K) := ⟨_, _, ok_keys (k := 2) FJK B (PySem.W.mg_none_of X G zzip), PySem.W.mg_of X G aJK, kJK, bJK⟩
    have hSR : Has l.prog w K mg base 4 "suffix_rows" ["numbers"] (spRows K) := ⟨_, _, ok_suffix FSR B (PySem.W.mg_none_of X G zenumerate) (PySem.W.mg_none_of X G zset) hRK hJK, PySem.W.mg_of X G aSR, kSR, bSR⟩
    exact ok_law (m := 4) FL B (PySem.W.mg_none_of X G zlist) (PySem.W.mg_none_of X G zsorted) (TB (cc, Pt) (by simp)) (by simp) (fun p hp _ => by obtain rfl : p = (Pt, lamQ) := (by simpa using hp); rfl) (by decide) hC hN hIS hSR
end Hr
open PySem PySem.W PyProof.Rows
set_option maxHeartbeats 0 in
theorem PySem.Challenge.cw_homereads_k12_suffix_rows_holds : PySem.Challenge.rw_homereads_k12_suffix_rows.Holds := by
  w_on; o_law; k_head; (case hw => w_witness2)
  k_fill
  refine LamX.walk_ofTs (l := PySem.Challenge.rw_homereads_k12_suffix_rows) (n := 63) (k := 5) (x := "script") (CX := fun _ => L2.CX0) rfl (by decide) rfl ⟨rfl, by decide, by decide⟩ (fun w h Y => PySem.W.km_in_of Y) ?F (fun _ _ _ _ _ h => h)
  case F =>
    intro w mg fa h Y KX G hmg
    refine' Hr.all_mk KX G hmg (PySem.W.km_tabs_of Y) ?aSR ?lSR ?cSR ?kSR ?aRK ?lRK ?cRK ?kRK ?aJK ?lJK ?cJK ?kJK ?aC ?lC ?cC ?kC ?aO ?lO ?cO ?kO ?aI ?lI ?cI ?kI ?aIS ?lIS ?cIS ?kIS ?aN ?lN ?cN ?kN ?aL ?lL ?cL ?lc ?eP ?nP ?hcP ?mP ?zlen ?zint ?zabs ?zrange ?zisinstance ?zbool ?zstr ?zlist ?zall ?zsorted ?zenumerate ?zset ?zzip
    (case aSR => k_is)
    (case lSR => k_is)
    (case cSR => k_is)
    (case kSR => k_is)
    (case aRK => k_is)
    (case lRK => k_is)
    (case cRK => k_is)
    (case kRK => k_is)
    (case aJK => k_is)
    (case lJK => k_is)
    (case cJK => k_is)
    (case kJK => k_is)
    (case aC => k_is)
    (case lC => k_is)
    (case cC => k_is)
    (case kC => k_is)
    (case aO => k_is)
    (case lO => k_is)
    (case cO => k_is)
    (case kO => k_is)
    (case aI => k_is)
    (case lI => k_is)
    (case cI => k_is)
    (case kI => k_is)
    (case aIS => k_is)
    (case lIS => k_is)
    (case cIS => k_is)
    (case kIS => k_is)
    (case aN => k_is)
    (case lN => k_is)
    (case cN => k_is)
    (case kN => k_is)
    (case aL => k_is)
    (case lL => k_is)
    (case cL => k_is)
    (case lc => k_is)
    (case eP => rfl)
    (case nP => first | rfl | decide +kernel)
    (case hcP => first | rfl | decide +kernel)
    (case mP => decide)
    (case zlen => k_is)
    (case zint => k_is)
    (case zabs => k_is)
    (case zrange => k_is)
    (case zisinstance => k_is)
    (case zbool => k_is)
    (case zstr => k_is)
    (case zlist => k_is)
    (case zall => k_is)
    (case zsorted => k_is)
    (case zenumerate => k_is)
    (case zset => k_is)
    (case zzip => k_is)
