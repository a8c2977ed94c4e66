import PyProof.Rows.All
import HandS.Base
import HandS.Call
import HandS.Codes
import HandS.Comp
import HandS.Conv
import HandS.Deep
import HandS.Defaults
import HandS.Dict
import HandS.DictComp
import HandS.EndTab
import HandS.Ends
import HandS.Exc
import HandS.ExcInit
import HandS.ExcOwn
import HandS.FStr
import HandS.Flt
import HandS.IsInst
import HandS.Iter
import HandS.Lambda
import HandS.List
import HandS.MakeKwOnly
import HandS.More
import HandS.Nested
import HandS.RaiseMore
import HandS.Replace
import HandS.ReplaceLit
import HandS.Rev
import HandS.RevRange
import HandS.RevTup
import HandS.SetFor
import HandS.SetKeys
import HandS.Sort
import HandS.SortInts
import HandS.SortKw
import HandS.SortRule
import HandS.Strs
import HandS.Style
import HandS.Text
import HandS.TryOnly
import HandS.WideBits
import HandS.Words
import HandS.WordsExc
import HandS.WordsList
import HandS.Zip
import KE.DataMinMax
import KE.GoesEnumKw
import KE.GoesMore
import KE.KDictList
import KE.KDictWalk
import KE.OsSetLaws
import KE.SortData
import KE.SortKeyHeap
import OpenK.AllK
import PyProof.DictMoreH
import PyProof.ListStr
import Wide.All
import Wide.FinOn
import PySem.Challenge.RW_homereads_k33_whole_best_pairs
set_option Elab.async false
set_option linter.all false
set_option maxRecDepth 100000
set_option maxHeartbeats 4000000
namespace Hr
open PySem PySem.Spec PyProof.Rows L2
section
open PySem PySem.W PySem.Calls PyProof.Rows
/-! ### sorted by keys that are new lists -/
/-- a call that keeps what was there and gives a key; the lists in it are new -/
def KeyNew (k : PyData) (s1 : Shared) (v : Value) (s2 : Shared) : Prop :=
  ∃ (g : Heap) (t : Nat), s2 = { s1 with heap := g, toks := t } ∧ (∀ c x, s1.heap.get? c = some x → g.get? c = some x) ∧ ∃ ls, Reads g v k ls ∧ ∀ c ∈ ls, s1.heap.get? c = none
/-- what the keys that are there read as, off lists other than the store's -/
def KeysIn (kS : Addr) (g : Heap) (us : List Value) (ds : List PyData) : Prop := EachIs (fun u d => (∃ ls, Reads g u d ls ∧ kS ∉ ls) ∧ alike d d = true) us ds
section
variable {pr : Program} {wo : World} {Ar : Around} {Ex : Value → Shared → Prop} {st : Shared}
theorem fresh_rest {a kS : Addr} {e1 : Nat} {rv : Bool} {vs : List Value} {kz : List PyData} {P : PySem.Fin → Shared → Prop} {f : Value} {h0 : Heap} (kp : KeepsBut a h0 st.heap) (hkS : h0.get? kS = none) (nk : st.heap.get? kS = some (seqObj "list" #[] 0))
    (na : st.heap.get? a = some (seqObj "list" #[] e1)) (ne : kS ≠ a) (hl : kz.length = vs.length) (hz : vs.length ≤ sizeLine) (hal : AllAlike kz) (hsk : Sortable kz) (hu : ∀ d, d ∈ kz → Ar.units + d.depth < cLine)
    (turn : ∀ (i : Nat) (v : Value) (k : PyData), vs[i]? = some v → kz[i]? = some k → ∀ (g : Heap) (t : Nat), KeepsBut a h0 g → wpAny (model pr wo) Ar (call f [v]) (KeyNew k { st with heap := g, toks := t }) (fun _ _ => False) { st with heap := g, toks := t })
    (fin : ∀ g t out c, KeepsBut a h0 g → g.get? a = some (seqObj "list" (List.toArray out) c) → KeyedOut rv kz vs out → P (.done (.ret .none)) { st with heap := g, toks := t }) :
    wpAny (model pr wo) Ar (ksk_rest a f rv vs.toArray e1 (.ref kS)) P Ex st := by
  unfold ksk_rest
  refine wpAny_bind (wpAny_rule ?_)
  first
    | rw [List.forIn_toArray]
    | (rw [← Array.forIn_toList]; simp only [List.toList_toArray])
    | rw [← Array.forIn_toList]
  refine wpAny_bind (ksk_fold (fun i s1 => ∃ (g : Heap) (t : Nat) (ka : Array Value) (e : Nat), s1 = { st with heap := g, toks := t } ∧ KeepsBut a h0 g ∧ g.get? kS = some (seqObj "list" ka e) ∧ g.get? a = some (seqObj "list" #[] e1) ∧ KeysIn kS g ka.toList (kz.take i))
    vs 0 st ⟨st.heap, st.toks, #[], 0, rfl, kp, nk, na, by rw [List.take_zero]; exact EachIs.nil⟩ ?turnK ?endK)
  case turnK =>
    rintro j x s1 hx ⟨g, t, ka, e, rfl, kg, nkg, nag, hk⟩
    simp only [Nat.zero_add] at hk ⊢
    have hj : j < vs.length := (List.getElem?_eq_some_iff.mp hx).1
    have hjk : j < kz.length := by omega
    have hkj : kz[j]? = some kz[j] := List.getElem?_eq_getElem hjk
    have hkk : alike kz[j] kz[j] = true := hal _ (List.getElem_mem hjk) _ (List.getElem_mem hjk)
    have hn : ka.size ≤ vs.length := by
      have q := EachIs.length hk
      rw [Array.length_toList, List.length_take] at q
      omega
    refine wpAny_bind (wpAny_attempt (wpAny_mono (turn j x kz[j] hx hkj g t kg) (fun v s2 q => ?_) fun _ _ z => z.elim))
    obtain ⟨g2, t2, rfl, kg2, ls, rd, fr⟩ := q
    try dsimp only
    have nk2 := kg2 _ _ nkg
    have na2 := kg2 _ _ nag
    have sb := Heap.SameBut.update g2 kS (Obj.mapSeq (·.push v))
    obtain ⟨c2, at2⟩ : ∃ c2, (g2.update kS (Obj.mapSeq (·.push v))).get? kS = some (seqObj "list" (ka.push v) c2) := ⟨_, get?_update_seq nk2 (·.push v)⟩
    have ek : kz.take (j + 1) = kz.take j ++ [kz[j]] := by rw [List.take_add_one, hkj]; rfl
    have ea : (ka.push v).toList = ka.toList ++ [v] := by simp
    refine wpAny_bind (listUpdate_at nk2 rfl ?_ (Nat.le_trans hn hz) (Nat.le_trans (Nat.le_of_eq (Array.size_push ..)) (Nat.succ_le_succ (Nat.le_trans hn hz))))
    have stay : ∀ (u : Value) (d : PyData), ((∃ ls, Reads g2 u d ls ∧ kS ∉ ls) ∧ alike d d = true) → (∃ ls, Reads (g2.update kS (Obj.mapSeq (·.push v))) u d ls ∧ kS ∉ ls) ∧ alike d d = true := fun u d q => by
      obtain ⟨⟨l2, r2, n2⟩, al⟩ := q
      exact ⟨⟨l2, Reads.keepBut (a := kS) (fun c o hc z => (sb.2 c hc).trans z) (fun o z => by rw [nk2] at z; rw [← Option.some.inj z]) d u l2 al r2 n2, n2⟩, al⟩
    have nls : kS ∉ ls := fun z => by
      have q := fr kS z
      rw [show ({ st with heap := g, toks := t } : Shared).heap.get? kS = some (seqObj "list" ka e) from nkg] at q
      cases q
    refine wpAny_pure ⟨rfl, _, _, ka.push v, c2, rfl, (kg.trans_all kg2).same sb (.inr hkS), at2, (sb.2 a ne.symm).trans na2, ?_⟩
    rw [ea, ek]
    refine each_snoc (R := fun (u : Value) (d : PyData) => (∃ ls, Reads (g2.update kS (Obj.mapSeq (·.push v))) u d ls ∧ kS ∉ ls) ∧ alike d d = true) (stay v kz[j] ⟨⟨ls, rd, nls⟩, hkk⟩) ?_
    exact EachIs.mono (fun u d q => by
      obtain ⟨⟨l2, r2, n2⟩, al⟩ := q
      exact stay u d ⟨⟨l2, PyProof.Rows.Reads.keeps kg2 r2, n2⟩, al⟩) hk
  case endK =>
    rintro s1 ⟨g, t, ka, e, rfl, kg, nkg, nag, hk⟩
    have hk2 : EachIs (fun v k => ∃ ls, Reads g v k ls) ka.toList kz := by
      have q : kz.take (0 + vs.length) = kz := List.take_of_length_le (by omega)
      rw [q] at hk
      exact EachIs.mono (fun v k y => by
        obtain ⟨⟨ls, r, _⟩, _⟩ := y
        exact ⟨ls, r⟩) hk
    have hn : ka.size = vs.length := by
      have q := hk2.length
      rw [Array.length_toList] at q
      omega
    try dsimp only
    refine wpAny_bind (listItems_at nkg rfl ?_)
    exact keyH_end (κ := dataKind g kz) (h₁ := h0) kg hkS nkg nag ne (SortsAt.data (s := { st with heap := g, toks := t }) hk2 hal hsk hu) hn hz fun h3 t3 c k3 n3 => fin h3 t3 _ c k3 n3 ⟨g, ka.toList, hal, rfl, hk2⟩
theorem fresh_tree {a : Addr} {rv : Bool} {vs : List Value} {kz : List PyData} {P : PySem.Fin → Shared → Prop} {f : Value} {n : Nat} (at0 : st.heap.get? a = some (seqObj "list" vs.toArray n)) (hl : kz.length = vs.length) (hz : vs.length ≤ sizeLine) (hal : AllAlike kz) (hsk : Sortable kz)
    (hu : ∀ d, d ∈ kz → Ar.units + d.depth < cLine) (turn : ∀ (i : Nat) (v : Value) (k : PyData), vs[i]? = some v → kz[i]? = some k → ∀ (g : Heap) (t : Nat), KeepsBut a st.heap g → wpAny (model pr wo) Ar (call f [v]) (KeyNew k { st with heap := g, toks := t }) (fun _ _ => False) { st with heap := g, toks := t })
    (fin : ∀ g t out c, KeepsBut a st.heap g → g.get? a = some (seqObj "list" (List.toArray out) c) → KeyedOut rv kz vs out → P (.done (.ret .none)) { st with heap := g, toks := t }) :
    wpAny (model pr wo) Ar (ksk_tree a f rv) P Ex st := by
  have la : a < st.heap.objs.size := Heap.lt_size at0
  obtain ⟨e1, at1⟩ : ∃ e1, (st.heap.update a (Obj.mapSeq fun _ => (#[] : Array Value))).get? a = some (seqObj "list" #[] e1) := ⟨_, get?_update_seq at0 fun _ => #[]⟩
  have sz : ((st.heap.update a (Obj.mapSeq fun _ => (#[] : Array Value))).push (seqObj "tuple" vs.toArray 0)).objs.size = st.heap.objs.size + 1 := by rw [size_push', Heap.size_update]
  unfold ksk_tree
  refine wpAny_bind (listItems_at at0 rfl (wpAny_bind (listUpdate_at at0 rfl ?_ (by rw [List.size_toArray]; exact hz) (Nat.zero_le _))))
  refine wpAny_bind (seqEpoch_at at1 rfl (wpAny_bind (wpAny_newTuple ?_ (by show vs.length ≤ _; exact hz))))
  refine wpAny_bind (wpAny_newList (wpAny_holding ?_) (Nat.zero_le _))
  exact fresh_rest (kz := kz) (h0 := st.heap) (st := { st with heap := ((st.heap.update a (Obj.mapSeq fun _ => (#[] : Array Value))).push (seqObj "tuple" vs.toArray 0)).push (seqObj "list" #[] 0) }) (kS := ((st.heap.update a (Obj.mapSeq fun _ => (#[] : Array Value))).push (seqObj "tuple" vs.toArray 0)).objs.size)
    (fun c o hc q => sortingHeap_old hc q) (Heap.get?_none_of_le (by rw [sz]; exact Nat.le_succ _)) (Heap.get?_push_size _ rfl) (Heap.get?_push_of_some _ (Heap.get?_push_of_some _ at1)) (by rw [sz]; exact Nat.ne_of_gt (Nat.lt_succ_of_lt la)) hl hz hal hsk hu turn fin
/-- sorted(xs, key=f): f's keys hold new lists -/
theorem sorted_fresh {β : Type} {bs : List β} {vs : List Value} {R : Value → β → Prop} {l : Addr} {f : Addr} {Q : Value → Shared → Prop} (k : β → PyData) (hls : st.heap.IsList l vs.toArray) (e : EachIs R vs bs) (hal : AllAlike (bs.map k)) (hsk : Sortable (bs.map k)) (hz : bs.length ≤ sizeLine)
    (hu : ∀ x, x ∈ bs → Ar.units + 2 + (k x).depth < cLine)
    (turn : ∀ (v : Value) (x : β), R v x → x ∈ bs → ∀ (g : Heap) (t : Nat), (∀ c o, st.heap.get? c = some o → g.get? c = some o) → wpAny (model pr wo) Ar.in1.in1 (call (.ref f) [v]) (KeyNew (k x) { st with heap := g, toks := t }) (fun _ _ => False) { st with heap := g, toks := t })
    (fin : ∀ out c g t, (∀ b o, st.heap.get? b = some o → g.get? b = some o) → st.heap.get? (st.heap.objs.size + 1) = none → g.get? (st.heap.objs.size + 1) = some (seqObj "list" (List.toArray out) c) → out.length = bs.length → EachIs R out (bs.mergeSort (dataLe false k)) → Q (.ref (st.heap.objs.size + 1)) { st with heap := g, toks := t }) :
    wpAny (model pr wo) Ar (call (.builtin "sorted") [.ref l] [(Str.ofString "key", .ref f)]) Q Ex st := by
  have none1 : st.heap.get? (st.heap.objs.size + 1) = none := Heap.get?_none_of_le (Nat.le_succ _)
  have up : ∀ {g : Heap}, KeepsBut (st.heap.objs.size + 1) (copyHeap st.heap vs) g → ∀ c o, st.heap.get? c = some o → g.get? c = some o := fun {g} kp c o q => kp c o (Nat.ne_of_lt (Nat.lt_succ_of_lt (Heap.lt_size q))) (copyHeap_old q)
  have hlen : (bs.map k).length = vs.length := by rw [List.length_map]; exact e.length.symm
  refine sorted_of_sort hls (by rw [e.length]; exact hz) (ksk_s1 _ _) (fun _ => ksk_l1 _ _) fun E' => ?_
  rw [ksk_t1]
  refine fresh_tree (kz := bs.map k) (st := { st with heap := copyHeap st.heap vs }) (copyHeap_at st.heap vs) hlen (by rw [e.length]; exact hz) hal hsk (bound_map (A := Ar.in1.in1) hu) (fun i v d hv hd g t kp => ?_) fun g t out c kp hD ko => ⟨rfl, ?_⟩
  · rw [List.getElem?_map] at hd
    cases q : bs[i]? with
    | none =>
      rw [q] at hd
      cases hd
    | some x =>
      rw [q] at hd
      cases hd
      have hm : (v, x) ∈ vs.zip bs := List.mem_of_getElem? (i := i) (by rw [List.getElem?_zip_eq_some]; exact ⟨hv, q⟩)
      exact turn v x (e.zip _ hm) (List.mem_of_getElem? q) g t (up kp)
  · exact fin out c g t (up kp) none1 hD ((ko.length hlen).trans e.length) (keyedOut_each k ko e)
end
end
section
open PySem PySem.Spec PyProof.Rows L2 PySem.W
/-- xs[start:] of a list of ints, start within it, as data -/
abbrev tailD (ns : List Int) (k : Nat) : PyData := .list ((ns.drop k).map .int)
theorem readsAll_ints {h : Heap} : ∀ {us : List Value} {ns : List Int}, IntsAre us ns → ReadsAll h us (ns.map .int) []
  | _, _, .nil => .nil
  | _, _, .cons n t r => .cons (as := []) (.int n t) (readsAll_ints r)
theorem intsAre_drop : ∀ {us : List Value} {ns : List Int} (k : Nat), IntsAre us ns → IntsAre (us.drop k) (ns.drop k)
  | _, _, 0, h => h
  | _, _, _ + 1, .nil => .nil
  | _, _, k + 1, .cons _ _ r => intsAre_drop k r
section
variable {pr : Program} {wo : World} {Ar : Around} {st : Shared}
/-- the key's call: lambda start: numbers[start:] -/
theorem tail_call {f c' b cc : Addr} {q : Str} {params : Arguments} {scope : Scope} {cl : List (Str × Addr)} {pm ctv : Value} {p1 p2 p3 p4 : Pos} {xs y : Str} {us : List Value} {ns : List Int} {k : Nat} {t : Tok}
    (hf : st.heap.get? f = some (kla_obj "<lambda>" q params (.Subscript (.Name xs p1) (.Slice (some (.Name y p2)) none none p3) p4) scope cl pm c' ctv)) (hcd : st.heap.CodeRec (.ref c') q) (lim : st.heap.NoLimit) (hroom : Ar.depth < recursionLimit)
    (kd : scope.kind = .function) (co : scope.isCoroutine = false) (gn : scope.isGenerator = false) (ky : scope.names.lookup y = some .local) (kx : scope.names.lookup xs = some .free) (nc : ∀ z ∈ scope.names, z.2 ≠ .cell)
    (hb : ∀ (cl : List (Str × Addr)) (pm cv ctv : Value), bindArgs (kla_fn "<lambda>" q params (.Subscript (.Name xs p1) (.Slice (some (.Name y p2)) none none p3) p4) scope cl pm cv ctv) ⟨[.int (k : Int) t], []⟩ = pure [(y, .int (k : Int) t)])
    (hcl : cl.lookup xs = some cc) (hcell : st.heap.IsCell cc (some (.ref b))) (hls : st.heap.IsList b us.toArray) (hi : IntsAre us ns) (hz : ns.length ≤ sizeLine) (hk : k ≤ ns.length)
    (dx : (xs == ("__debug__" : Str)) = false := by decide) (cx : (xs == ("__classdict__" : Str)) = false := by decide) (dy : (y == ("__debug__" : Str)) = false := by decide) :
    wpAny (model pr wo) Ar (call (.ref f) [.int (k : Int) t]) (KeyNew (tailD ns k) st) (fun _ _ => False) st := by
  have rc : codeAny (model pr wo) Ar (.call (.ref f) ⟨[.int (k : Int) t], []⟩) (fun r s' => ∃ u, r = .ok (.ret u) ∧ KeyNew (tailD ns k) st u s') st := by
    refine kla_callFunE hroom hf rfl co gn rfl hcd ?_
    rw [hb]
    refine wpAny_pure (wpAny_newFunctionEnv nc (fun z hz => ?_) (fun h1 hns hsb => ⟨lim.fresh _ hsb, ?_⟩) kd)
    · have e : z = (y, .int (k : Int) t) := List.mem_singleton.mp hz
      rw [e]
      exact ky
    have kp : ∀ c o, st.heap.get? c = some o → h1.get? c = some o := fun c o e => hsb.extBut c o (Nat.ne_of_lt (Heap.lt_size e)) (Heap.get?_push_of_some _ e)
    show codeAny _ _ (.expr _ (envX q scope st.heap.objs.size f (.ref c') cl)) _ _
    refine kla_codeExpr ?_
    refine Subscript_ (wpAny_Name (wpAny_loadName_free kd kx hcl (v := .ref b) (let ⟨o, ho, hd⟩ := hcell; ⟨o, kp _ _ ho, hd⟩) ?_ cx) dx)
    refine wpAny_Slice ?_
    rw [evalPart_some]
    refine wpAny_Name ?_ dy
    refine wpAny_loadName_local (v := .int (k : Int) t) kd ky hns (by simp [List.lookup]) ?_
    rw [evalPart_none]
    refine wpAny_pure ?_
    refine wpAny_pure ?_
    have hl2 : ∀ (o : Obj), (h1.push o).IsList b us.toArray := fun o => by
      obtain ⟨x, h, r⟩ := hls
      exact ⟨x, Heap.get?_push_of_some _ (kp _ _ h), r⟩
    have hlen := hi.length
    show wpAny (model pr wo) _ (subscriptTail _ _ (.ref b) (.ref h1.objs.size)) _ _ { st with heap := h1.push { cls := .type "slice", data := .fields #[.int (k : Int) t, .none, .none] }, toks := _ }
    refine tail_any (ops := [.ref h1.objs.size, .ref b]) (T := "list") ?_ slot_list_getitem.lookup ?_ (by with_unfolding_all rfl)
    · exact (hl2 _).typeIs
    · refine wpAny_getItem_list_slice (hl2 _) (Heap.IsSliceOf.new ..) (.int (k : Int) t) .none .none (by simp) ?_ (by rw [List.size_toArray] <;> omega)
      have e1 : slicePick us.toArray (some (k : Int)) none none = (us.drop k).toArray := by
        rw [slicePick_cut, HT.sIx_nat, HT.sIx_none, Nat.min_eq_left (by omega), List.take_of_length_le (by rw [List.length_drop]; omega)]
      rw [e1]
      have big : st.heap.objs.size ≤ (h1.push { cls := .type "slice", data := .fields #[.int (k : Int) t, .none, .none] }).objs.size := by
        rw [Heap.size_push]
        have q : st.heap.objs.size < h1.objs.size := hns.lt
        omega
      refine ⟨_, rfl, _, _, rfl, fun c o e => Heap.get?_push_of_some _ (Heap.get?_push_of_some _ (kp c o e)), [(h1.push { cls := .type "slice", data := .fields #[.int (k : Int) t, .none, .none] }).objs.size], ?_, fun c hc => ?_⟩
      · refine .list (as := []) (Heap.get?_push_size _ rfl) rfl rfl ?_
        rw [List.toList_toArray]
        exact readsAll_ints (intsAre_drop k hi)
      · have e := List.mem_singleton.mp hc
        rw [e]
        exact Heap.get?_none_of_le big
  refine wpAny_call (codeAny_mono rc fun r s' hq => ?_)
  obtain ⟨u, rfl, q⟩ := hq
  exact q
end
end
section
open PySem PySem.Spec PyProof.Rows L2 LamX PySem.W
theorem sql_ext {K : PySem.W.Frag} {H H' : Hp} {a : Addr} {xs : List V} (h : SqL K H a xs) (e : ExtN H H') : SqL K H' a xs := by
  rcases h with (h | ⟨o, h⟩) | h
  · exact .inl (.inl (e _ _ h fun ps z => by cases z))
  · exact .inl (.inr ⟨o, e _ _ h fun ps z => by cases z⟩)
  · exact .inr h
theorem nats_of : ∀ {us : List Value} {ks : List Nat}, Vals (ks.map fun k => V.int (k : Nat)) us → EachIs (fun (v : Value) (k : Nat) => ∃ t, v = .int (k : Int) t) us ks
  | us, [], h => by
    cases h
    exact .nil
  | us, k :: ks, h => by
    rw [List.map_cons] at h
    cases h with
    | cons r1 r2 => exact .cons r1 (nats_of r2)
theorem vals_nats : ∀ {us : List Value} {ks : List Nat}, EachIs (fun (v : Value) (k : Nat) => ∃ t, v = .int (k : Int) t) us ks → Vals (ks.map fun k => V.int (k : Nat)) us
  | _, _, .nil => .nil
  | _, _, .cons r1 r2 => .cons r1 (vals_nats r2)
/-- sorted(.., key=lambda y: xs[y:]), xs in slot j -/
def tTails (K : PySem.W.Frag) (T : List (Addr × Str)) (j : Nat) (te : TE) : TE := fun σ H Q => te σ H fun v H1 => Tabs T H1 ∧ ∃ (a b : Addr) (ks : List Nat) (ns : List Int), v = .ref a ∧ σ[j]? = some (some (.ref b)) ∧ SqL K H1 a (ks.map fun k => V.int (k : Nat)) ∧
  SqL K H1 b (ns.map V.int) ∧ (∀ k ∈ ks, k ≤ ns.length) ∧ ∀ (H2 : Hp) (p : Addr), ExtN H1 H2 → Tabs T H2 → H2 p = none → Q (.ref p) (upd H2 p (.lst ((ks.mergeSort fun x y => decide (ns.drop x ≤ ns.drop y)).map fun k => V.int (k : Nat))))
theorem pe_tails {X : Cx} {T : List (Addr × Str)} {c P : Addr} {j : Nat} {e : Expr} {te : TE} {xs y : Str} {params : Arguments} {scope : Scope} {p pos lpos kpos p1 p2 p3 p4 : Pos} (hg : Gl X "sorted") (hm : X.mg "sorted" = none) (ha : PA X [e] (tCons te tNil)) (TB : TabB X.base X.mg c P) (hcode : X.env.code = .ref c)
    (hmT : (P, X.env.qual ++ "<lambda>") ∈ T) (hu : ∀ p ∈ T, p.1 = P → p.2 = X.env.qual ++ "<lambda>") (hr : Room 3 X.A) (hN : X.N[j]? = some xs) (hcx : X.env.scope.names.lookup xs = some .cell)
    (hfree : ∀ z ∈ scope.names, z.2 = .free → z.1 = xs) (kd : scope.kind = .function) (co : scope.isCoroutine = false) (gn : scope.isGenerator = false) (ky : scope.names.lookup y = some .local) (kx : scope.names.lookup xs = some .free) (nc : ∀ z ∈ scope.names, z.2 ≠ .cell)
    (hdef : defaultsOf params X.env = ([], []))
    (hb : ∀ (q : Str) (cl : List (Str × Addr)) (pm cv ctv u : Value), bindArgs (PySem.W.kla_fn "<lambda>" q params (.Subscript (.Name xs p1) (.Slice (some (.Name y p2)) none none p3) p4) scope cl pm cv ctv) ⟨[u], []⟩ = pure [(y, u)])
    (dx : (xs == ("__debug__" : Str)) = false := by decide) (cx : (xs == ("__classdict__" : Str)) = false := by decide) (dy : (y == ("__debug__" : Str)) = false := by decide)
    (he1 : backTo pos (starEach [e] X.env) = (false, eval e X.env) :: backTo pos (starEach [] X.env) := by rfl) (hpl : (backTo pos (starEach [e] X.env)).any (·.1) = false := by rfl) :
    PE X (.Call (.Name "sorted" p) [e] [⟨some "key", .Lambda params (.Subscript (.Name xs p1) (.Slice (some (.Name y p2)) none none p3) p4) scope lpos, kpos⟩] pos) (tTails X.K T j te) := by
  refine ⟨fun pins s σ H Q I h => ?_⟩
  refine wpAny_Call_Name_kw (ld_blt I hg hm (by rfl) ?_)
  have h2 : tCons te tNil σ H fun vs H1 => match vs with
      | [v] => Tabs T H1 ∧ ∃ (a b : Addr) (ks : List Nat) (ns : List Int), v = .ref a ∧ σ[j]? = some (some (.ref b)) ∧ SqL X.K H1 a (ks.map fun k => V.int (k : Nat)) ∧
        SqL X.K H1 b (ns.map V.int) ∧ (∀ k ∈ ks, k ≤ ns.length) ∧ ∀ (H2 : Hp) (p : Addr), ExtN H1 H2 → Tabs T H2 → H2 p = none → Q (.ref p) (upd H2 p (.lst ((ks.mergeSort fun x y => decide (ns.drop x ≤ ns.drop y)).map fun k => V.int (k : Nat))))
      | _ => False := h
  refine PyProof.Rows.callWith_kw (thn (ha.run pos pins s σ H _ I h2) fun us s1 ⟨vs, H1, I1, r1, hq⟩ => ?_) he1 hpl (by rfl) (by rfl)
  obtain ⟨v, rfl⟩ : ∃ v, vs = [v] := by
    match vs, hq with
    | [v], _ => exact ⟨v, rfl⟩
  obtain ⟨hT, a, b, ks, ns, ea, hσ, hA, hB, hk, q⟩ := hq
  subst ea
  obtain ⟨u, rfl, ru⟩ := vals1 r1
  obtain rfl : u = Value.ref a := ru
  have hf1 : ∀ z ∈ scope.names, z.2 = .free → X.env.scope.names.lookup z.1 = some .cell := fun z hz e => by
    rw [hfree z hz e]
    exact hcx
  have hf2 : ∀ z ∈ scope.names, z.2 = .free → ∃ c, X.env.cells.lookup z.1 = some c := fun z hz e => I1.ok.has _ (.inl (hf1 z hz e))
  show wpAny _ _ (evalAll [(do let v ← eval (.Lambda params (.Subscript (.Name xs p1) (.Slice (some (.Name y p2)) none none p3) p4) scope lpos) X.env; standAt pos; pure v)]) _ _ s1
  refine wpAny_evalAll_cons (wpAny_bind (lam_make2 I1 TB hcode hmT hu hT hdef hf2 fun f c' pm' ctv H2 s2 I2 eN T2 hf hfn hfr hco => wpAny_bind (wpAny_standAt (wpAny_pure (wpAny_evalAll_nil ?_)))))
  show wpAny _ _ (call (.builtin "sorted") [.ref a] [(Str.ofString "key", .ref f)]) _ _ s2
  have hA2 := sql_ext hA eN
  have hB2 := sql_ext hB eN
  obtain ⟨itA, rvA, lA, zA⟩ := I2.list hA2
  obtain ⟨itB, rvB, lB, zB⟩ := I2.list hB2
  obtain ⟨m, hns, hl⟩ := I2.loc
  obtain ⟨w, rw1, lk⟩ := hl j xs (.ref b) hN hσ (.inr (.inl hcx))
  obtain rfl : w = Value.ref b := rw1
  obtain ⟨cc, hcc, hcell⟩ : ∃ cc, X.env.cells.lookup xs = some cc ∧ s2.heap.IsCell cc (some (.ref b)) := by
    rcases lk with ⟨z, _⟩ | ⟨_, z⟩
    · have z2 : X.env.scope.names.lookup xs = some .local := z
      rw [hcx] at z2
      cases z2
    · exact z
  have hmem : (xs, NameKind.free) ∈ scope.names := PySem.mem_of_lookup kx
  have hclo := NdefX.clo_has hf2 hmem hcc
  obtain ⟨⟨oc, fvs, tq, c1, c2, c3⟩, _, _⟩ := I2.hok c' _ hco
  have hiB : IntsAre itB ns := intsAre_of rvB
  have hlB := hiB.length
  have zB2 : ns.length ≤ sizeLine := by rw [List.length_map] at zB; exact zB
  have lenA := rvA.length
  rw [List.length_map] at lenA
  have eA := nats_of rvA
  refine sorted_fresh (R := fun (v : Value) (k : Nat) => ∃ t, v = .int (k : Int) t) (tailD ns) lA.isList eA (AllAlike.of fun _ _ => by simp only [alike]; exact alike_ints _ _) (Sortable.others fun k => ⟨(fun z => by cases z), (fun z1 z => by cases z)⟩) (by rw [List.length_map] at zA; exact zA) (fun x _ => ?_) (fun v x hv hx g t kg => ?_) fun out cN g t kg none1 hD ho eo => ?_
  · have e : (tailD ns x).depth = 1 := by
      show PyData.depthAll _ + 1 = 1
      rw [PySem.W.depth_ints]
    have := hr.un
    omega
  · obtain ⟨tt, rfl⟩ := hv
    refine tail_call (st := { s2 with heap := g, toks := t }) (kg _ _ hf) ⟨c', oc, fvs, tq, rfl, kg _ _ c1, c2, c3⟩ (I2.mod.nolimit.keeps fun b o e => kg _ _ (I2.bk _ _ e)) (by have := hr.dp; show X.A.depth < recursionLimit; omega) kd co gn ky kx nc (fun cl pm cv ctv => hb _ cl pm cv ctv _) hclo
      (let ⟨o, ho, hd⟩ := hcell; ⟨o, kg _ _ ho, hd⟩) (b := b) (us := itB) (let ⟨o, ho, hd⟩ := lB.isList; ⟨o, kg _ _ ho, hd⟩) hiB zB2 (hk x hx) dx cx dy
  · rw [dataLe_rows (fun k => ns.drop k)] at eo
    obtain ⟨ep, ho1⟩ : ∃ ep, g.get? (s2.heap.objs.size + 1) = some (seqObj "list" out.toArray ep) := ⟨_, hD⟩
    have rvO : Vals ((ks.mergeSort fun x y => decide (ns.drop x ≤ ns.drop y)).map fun k => V.int (k : Nat)) out := vals_nats eo
    have nN : H2 (s2.heap.objs.size + 1) = none := I2.hok.fresh (Nat.le_succ _)
    have I3 := I2.laid (t' := t) (o := .lst ((ks.mergeSort fun x y => decide (ns.drop x ≤ ns.drop y)).map fun k => V.int (k : Nat))) kg (Nat.le_succ _) ⟨by rw [rvO.length, ho]; rw [List.length_map] at zA; exact zA, out, ep, rvO, ho1⟩
    exact ⟨.ref _, _, I3, rfl, q _ _ eN T2 nN⟩
end
/-! ### the text -/
def topS (i : Nat) : Stmt := PySem.Challenge.pw_homereads_k33_whole_best_pairs.main.body.getD i (.Pass ⟨0, 0, 0, 0⟩)
abbrev sWall : Stmt := topS 0
abbrev sTurned : Stmt := topS 5
abbrev sSymbol : Stmt := topS 6
abbrev sSymsOf : Stmt := topS 7
abbrev sEnds : Stmt := topS 9
abbrev sGrow : Stmt := topS 10
abbrev sARows : Stmt := topS 11
abbrev sPcs : Stmt := topS 13
abbrev sSearch : Stmt := topS 14
abbrev sLenOf : Stmt := topS 15
abbrev sEmptyP : Stmt := topS 16
abbrev sCommon : Stmt := topS 17
abbrev sKnown : Stmt := topS 18
abbrev sBegRef : Stmt := topS 19
abbrev sAround : Stmt := topS 20
abbrev sHits : Stmt := topS 22
abbrev sHitsOn : Stmt := topS 23
abbrev sBPairs : Stmt := topS 25
abbrev sGroups : Stmt := topS 26
abbrev sPWithin : Stmt := topS 27
abbrev sSuffix : Stmt := topS 29
abbrev sRanks : Stmt := topS 30
abbrev sKeys : Stmt := topS 31
abbrev sPJoined : Stmt := topS 36
abbrev mInit : Stmt := inClass (topS 37) 0
abbrev mLength : Stmt := inClass (topS 37) 1
abbrev mLast : Stmt := inClass (topS 37) 2
abbrev mKept : Stmt := inClass (topS 37) 3
abbrev mCount : Stmt := inClass (topS 37) 4
abbrev mStep : Stmt := inClass (topS 37) 5
abbrev mStart : Stmt := inClass (topS 37) 6
abbrev mInterval : Stmt := inClass (topS 37) 7
abbrev mPlaces : Stmt := inClass (topS 37) 8
abbrev mAhead : Stmt := inClass (topS 37) 9
abbrev mPlace : Stmt := inClass (topS 37) 10
abbrev sSmaller : Stmt := topS 38
abbrev sCounts : Stmt := topS 39
abbrev sBegins : Stmt := topS 40
abbrev sCell : Stmt := topS 42
abbrev sRow : Stmt := topS 43
abbrev sInteger : Stmt := topS 44
abbrev sText : Stmt := topS 45
abbrev sLTurned : Stmt := topS 46
abbrev sLRead : Stmt := topS 47
abbrev sLRefs : Stmt := topS 48
abbrev sLAgree : Stmt := topS 49
abbrev sLEnds : Stmt := topS 50
abbrev sLHits : Stmt := topS 51
abbrev sLReads : Stmt := topS 52
abbrev sLaw : Stmt := topS 53
theorem scCell : FnScope ["script", "k"] ["script", "k"] (defScope sCell) := ⟨rfl, rfl, rfl, by decide +kernel, rfl, by decide +kernel, by decide +kernel⟩
theorem scRow : FnScope ["cell", "count", "bound", "rest", "mixed", "row", "k"] ["cell", "count", "bound"] (defScope sRow) := ⟨rfl, rfl, rfl, by decide +kernel, rfl, by decide +kernel, by decide +kernel⟩
theorem scInteger : FnScope ["value"] ["value"] (defScope sInteger) := ⟨rfl, rfl, rfl, by decide +kernel, rfl, by decide +kernel, by decide +kernel⟩
theorem scText : FnScope ["cell", "size", "drawn", "kind", "text", "k", "letter"] ["cell", "size"] (defScope sText) := ⟨rfl, rfl, rfl, by decide +kernel, rfl, by decide +kernel, by decide +kernel⟩
theorem scLTurned : FnScope ["text", "news", "letter"] ["text"] (defScope sLTurned) := ⟨rfl, rfl, rfl, by decide +kernel, rfl, by decide +kernel, by decide +kernel⟩
/-! ### walks of a known number of turns -/
theorem for_gen {J : It} {n : Nat} {g : TG} {tb : TS} {D : Ends} {σ : L2.St} {H : Hp} (Pv : Nat → L2.St → Hp → Prop) (h0 : Pv 0 σ H) (hgo : ∀ i σ H, i < n → Pv i σ H → J.go i H) (hstop : ∀ σ H, Pv n σ H → J.stop n H)
    (hs : ∀ i σ H x H', i < n → Pv i σ H → J.yld i H x H' → g x σ H' fun σ2 H2 => tb { D with nx := Pv (i + 1), ct := Pv (i + 1), bk := D.nx } σ2 H2) (hd : ∀ σ H, Pv n σ H → D.nx σ H) :
    ∃ W : Nat → Nat → L2.St → Hp → Prop, (∃ m, W 0 m σ H) ∧ ∀ i m σ H, W i m σ H →
      (J.stop i H ∧ D.nx σ H) ∨ (J.go i H ∧ ∃ N : L2.St → Hp → Prop, (∀ σ' H', N σ' H' → ∃ m', m' < m ∧ W (i + 1) m' σ' H') ∧ ∀ x H', J.yld i H x H' → g x σ H' fun σ2 H2 => tb { D with nx := N, ct := N, bk := D.nx } σ2 H2) := by
  refine ⟨fun i m σ H => i + m = n ∧ Pv i σ H, ⟨n, Nat.zero_add n, h0⟩, fun i m σ H hw => ?_⟩
  obtain ⟨em, p⟩ := hw
  cases m with
  | zero =>
    obtain rfl : i = n := em
    exact .inl ⟨hstop σ H p, hd σ H p⟩
  | succ m =>
    have lt : i < n := by omega
    exact .inr ⟨hgo i σ H lt p, Pv (i + 1), fun σ' H' p' => ⟨m, Nat.lt_succ_self m, by omega, p'⟩, fun x H' y => hs i σ H x H' lt p y⟩
theorem lc_gen {J : It} {n : Nat} {g : TG} {tt : TT} {te : TE} {vs : List Nat} {σ : L2.St} {H1 : Hp} {D : Addr} {Qd : Hp → Prop} (Pv : Nat → Hp → Prop) (h0 : Pv 0 (upd H1 D (.lst []))) (hgo : ∀ i H, i < n → Pv i H → J.go i H) (hstop : ∀ H, Pv n H → J.stop n H)
    (hs : ∀ i H x H', i < n → Pv i H → J.yld i H x H' → g x (wipe σ vs) H' fun σ2 H2 => wipe σ2 vs = wipe σ vs ∧ tt σ2 H2 fun b H3 =>
      if b = true then te σ2 H3 fun y H4 => ∃ acc, H4 D = some (.lst acc) ∧ acc.length < sizeLine ∧ Pv (i + 1) (upd H4 D (.lst (acc ++ [y]))) else Pv (i + 1) H3) (hd : ∀ H, Pv n H → Qd H) :
    ∃ W : Nat → Nat → Hp → Prop, (∃ m, W 0 m (upd H1 D (.lst []))) ∧ ∀ i m H, W i m H →
      (J.stop i H ∧ Qd H) ∨ (J.go i H ∧ ∃ Nx : Hp → Prop, (∀ H', Nx H' → ∃ m', m' < m ∧ W (i + 1) m' H') ∧ ∀ x H', J.yld i H x H' → g x (wipe σ vs) H' fun σ2 H2 => wipe σ2 vs = wipe σ vs ∧ tt σ2 H2 fun b H3 =>
        if b = true then te σ2 H3 fun y H4 => ∃ acc, H4 D = some (.lst acc) ∧ acc.length < sizeLine ∧ Nx (upd H4 D (.lst (acc ++ [y]))) else Nx H3) := by
  refine ⟨fun i m H => i + m = n ∧ Pv i H, ⟨n, Nat.zero_add n, h0⟩, fun i m H hw => ?_⟩
  obtain ⟨em, p⟩ := hw
  cases m with
  | zero =>
    obtain rfl : i = n := em
    exact .inl ⟨hstop H p, hd H p⟩
  | succ m =>
    have lt : i < n := by omega
    exact .inr ⟨hgo i H lt p, Pv (i + 1), fun H' p' => ⟨m, Nat.lt_succ_self m, by omega, p'⟩, fun x H' y => hs i H x H' lt p y⟩
/-- a loop over a text's signs -/
theorem for_str {z : Str} {g : TG} {tb : TS} {D : Ends} {σ : L2.St} {H : Hp} (Pv : Nat → L2.St → Hp → Prop) (h0 : Pv 0 σ H)
    (hs : ∀ i c σ H, z.cps[i]? = some c → Pv i σ H → g (.str ⟨#[c]⟩) σ H fun σ2 H2 => tb { D with nx := Pv (i + 1), ct := Pv (i + 1), bk := D.nx } σ2 H2) (hd : ∀ σ H, Pv z.cps.size σ H → D.nx σ H) :
    ∃ W : Nat → Nat → L2.St → Hp → Prop, (∃ m, W 0 m σ H) ∧ ∀ i m σ H, W i m σ H →
      ((Its z).stop i H ∧ D.nx σ H) ∨ ((Its z).go i H ∧ ∃ N : L2.St → Hp → Prop, (∀ σ' H', N σ' H' → ∃ m', m' < m ∧ W (i + 1) m' σ' H') ∧ ∀ x H', (Its z).yld i H x H' → g x σ H' fun σ2 H2 => tb { D with nx := N, ct := N, bk := D.nx } σ2 H2) :=
  for_gen (J := Its z) (n := z.cps.size) Pv h0 (fun i σ H hi _ => hi) (fun σ H _ => Nat.le_refl _) (fun i σ H x H' hi p y => by
    obtain ⟨e, c, hc, ex⟩ := y
    subst e
    subst ex
    exact hs i c σ _ hc p) hd
/-! ### texts by lists -/
def T (l : List Nat) : Str := ⟨l.toArray⟩
theorem T_len (l : List Nat) : (T l).length = l.length := by
  show l.toArray.size = l.length
  simp
theorem T_size (l : List Nat) : (T l).cps.size = l.length := by
  show l.toArray.size = l.length
  simp
theorem T_list (l : List Nat) : (T l).cps.toList = l := rfl
theorem T_at (l : List Nat) (i : Nat) : (T l).cps[i]? = l[i]? := by
  show l.toArray[i]? = l[i]?
  simp
theorem T_app (a b : List Nat) : T a ++ T b = T (a ++ b) := by
  show Str.mk (a.toArray ++ b.toArray) = Str.mk (a ++ b).toArray
  simp
theorem T_inj {a b : List Nat} (h : T a = T b) : a = b := by
  have e : (T a).cps.toList = (T b).cps.toList := by rw [h]
  exact e
theorem T_nil : (Str.ofString "" : Str) = T [] := by decide +kernel
def Sg (c : Nat) : Prop := c = 65 ∨ c = 67 ∨ c = 71 ∨ c = 84 ∨ c = 78
def Dna (l : List Nat) : Prop := ∀ c ∈ l, Sg c
theorem Dna.app {a b : List Nat} (h : Dna a) (k : Dna b) : Dna (a ++ b) := fun c hc => by
  rcases List.mem_append.mp hc with q | q
  · exact h c q
  · exact k c q
theorem Dna.one {c : Nat} (h : Sg c) : Dna [c] := fun d hd => by
  obtain rfl : d = c := by simpa using hd
  exact h
theorem line_ok {n : Nat} (h : n ≤ 100000) : n ≤ sizeLine := by
  rw [sizeLine_eq]
  omega
theorem line_lt {n : Nat} (h : n ≤ 100000) : n < sizeLine := by
  rw [sizeLine_eq]
  omega
theorem same_upd {H : Hp} {p : Addr} {o : HO} (h : H p = none) : Same H (upd H p o) := fun b x e => by
  rw [upd_ne (ne_of_none e h)]
  exact e
theorem upd_upd {H : Hp} {p : Addr} {o o' : HO} : upd (upd H p o) p o' = upd H p o' := by
  funext b
  by_cases e : b = p
  · rw [e, upd_same, upd_same]
  · rw [upd_ne e, upd_ne e, upd_ne e]
/-! ### names that are still the built-in ones -/
structure Bl (mg : Str → Option Value) : Prop where
  len : mg "len" = none
  int : mg "int" = none
  abs : mg "abs" = none
  range : mg "range" = none
  isin : mg "isinstance" = none
  bool : mg "bool" = none
  str : mg "str" = none
section
variable {P : Program} {w : World} {K : PySem.W.Frag} {mg : Str → Option Value} {base : Heap}
/-! ### _law_cell -/
def spCell (K : PySem.W.Frag) : Sp := fun vs H Q _ => ∃ (a : Addr) (ns : List Int) (k : Nat), vs = [.ref a, .int (k : Int)] ∧ SqL K H a (ns.map V.int) ∧ ∀ x : Int, Q (.int x) H
theorem ok_cell {f : Addr} {fd : FuncData} {k : Nat} (F : Fun K "_law_cell" "_law_cell" sCell f fd) (B : Bl mg) : FnOk P w K mg base CX0 (k + 1) f fd ["script", "k"] (spCell K) := by
  refine F.ok scCell (fun vs H Q E h => ?_) (fun cdv A outer s H vs Q E hr h => ?_)
  · obtain ⟨a, ns, j, rfl, _⟩ := h
    rfl
  · obtain ⟨a, ns, j, rfl, hS, q⟩ := h
    refine ⟨_, pss_cons (ps_if (pt_cmpR op_lt (pv 1) (pe_callB call_len_seq (by rfl) B.len PySem.boot_len (pa_cons (pv 0) pa_nil)) (nomark _))
        (pss_one (ps_ret (pe_callTy call_int1 (by rfl) B.int (by decide +kernel) (pa_cons (pe_ix ix_list (pv 0) (pv 1) (fun _ _ => rfl)) pa_nil)))) pss_nil)
      (pss_one (ps_ret pe_int)), ?_⟩
    refine ⟨.int j, rfl, .ref a, rfl, a, ns.map V.int, rfl, .inl hS, j, _, rfl, rfl, _, rfl, ite2 (fun e => ?_) (fun e => q 0)⟩
    have h1 : (j : Int) < ((ns.map V.int).length : Int) := of_decide_eq_true e
    have h2 : j < ns.length := by
      rw [List.length_map] at h1
      omega
    have g1 : (ns.map V.int)[j]? = some (.int ns[j]) := by
      rw [List.getElem?_map, List.getElem?_eq_getElem h2]
      rfl
    exact ⟨.ref a, rfl, .int j, rfl, a, _, j, .int ns[j], rfl, rfl, hS, atI_nat g1, .inl ⟨_, rfl, q _⟩⟩
/-! ### _law_row -/
def spRow (K : PySem.W.Frag) : Sp := fun vs H Q _ => ∃ (c n b : Int), vs = [.int c, .int n, .int b] ∧ 0 ≤ n ∧ n ≤ 100000 ∧ 1 < b ∧ b < 1000 ∧
  ∀ (H' : Hp) (p : Addr) (xs : List Int), Same H H' → H p = none → H' p = some (.lst (xs.map V.int)) → xs.length = n.toNat → (∀ x ∈ xs, 0 ≤ x ∧ x < b) → Q (.ref p) H'
theorem ok_row {f : Addr} {fd : FuncData} {k : Nat} (F : Fun K "_law_row" "_law_row" sRow f fd) (B : Bl mg) : FnOk P w K mg base CX0 (k + 1) f fd ["cell", "count", "bound"] (spRow K) := by
  refine F.ok scRow (fun vs H Q E h => ?_) (fun cdv A outer s H vs Q E hr h => ?_)
  · obtain ⟨c, n, b, rfl, _⟩ := h
    rfl
  · obtain ⟨c, n, b, rfl, hn0, hn, hb1, hb2, q⟩ := h
    refine ⟨_, pss_cons (ps_set (i := 3) scRow.nd rfl (.inl rfl) (pe_callB call_abs (by rfl) B.abs (by decide +kernel) (pa_cons (pe_callTy call_int1 (by rfl) B.int (by decide +kernel) (pa_cons (pv 0) pa_nil)) pa_nil)))
      (pss_cons (ps_set (i := 4) scRow.nd rfl (.inl rfl) (pe_op op_add (pe_op op_mod (pe_callTy call_int1 (by rfl) B.int (by decide +kernel) (pa_cons (pv 0) pa_nil)) pe_int) pe_int))
      (pss_cons (ps_set (i := 5) scRow.nd rfl (.inl rfl) (pe_lst pa_nil))
      (pss_cons (ps_for PassesOwn.never rfl (pi_range1 rfl B.range (pa_cons (pv 1) pa_nil)) (pg_name (i := 6) scRow.nd rfl (.inl rfl))
        (pss_one (ps_if (pt_cmpR op_ge (pv 3) (pv 2) (nomark _))
          (pss_cons (ps_expr (pe_bm PySem.F.plainAttrs_list PySem.F.slot_list_append PySem.F.type_list_append mt_append (pv 5) (pa_cons (pe_op op_mod (pe_callTy call_int1 (by rfl) B.int (by decide +kernel) (pa_cons (pv 3) pa_nil)) (pv 2)) pa_nil)))
            (pss_one (ps_set (i := 3) scRow.nd rfl (.inl rfl) (pe_op op_fdiv (pv 3) (pv 2)))))
          (pss_cons (ps_set (i := 4) scRow.nd rfl (.inl rfl) (pe_op op_mod (pe_callTy call_int1 (by rfl) B.int (by decide +kernel) (pa_cons (pe_op op_add (pe_op op_add (pe_op op_mul (pv 4) pe_int) (pe_op op_mul pe_int (pv 6))) pe_int) pa_nil)) pe_int))
            (pss_one (ps_expr (pe_bm PySem.F.plainAttrs_list PySem.F.slot_list_append PySem.F.type_list_append mt_append (pv 5) (pa_cons (pe_op op_mod (pe_callTy call_int1 (by rfl) B.int (by decide +kernel) (pa_cons (pe_op op_fdiv (pe_op op_mul (pv 4) pe_int) pe_int) pa_nil)) (pv 2)) pa_nil))))))))
      (pss_one (ps_ret (pv 5)))))), ?_⟩
    refine ⟨.int c, rfl, .inl ⟨c, rfl, c, rfl, ?_⟩⟩
    refine ⟨.int c, rfl, .inl ⟨c, rfl, c, 1000003, rfl, rfl, (show (0 : Int) < 1000003 by decide), _, _, rfl, rfl, ?_⟩⟩
    refine ⟨Nat.zero_le _, fun p hp => ?_⟩
    refine ⟨.int n, rfl, n, rfl, by omega, by omega, ?_⟩
    refine for_range (lo := 0) (n := n.toNat) (fun i σ H' => ∃ (r m : Int) (kv : Option V) (xs : List Int), σ = [some (.int c), some (.int n), some (.int b), some (.int r), some (.int m), some (.ref p), kv] ∧ 0 ≤ m ∧ m < 4294967296 ∧ Same H H' ∧
      H' p = some (.lst (xs.map V.int)) ∧ xs.length = i ∧ ∀ x ∈ xs, 0 ≤ x ∧ x < b) ?_ ?_ ?_
    · refine ⟨_, _, none, [], rfl, ?_, ?_, same_upd hp, upd_same, rfl, fun x hx => by cases hx⟩
      · have := Int.emod_nonneg c (show (1000003 : Int) ≠ 0 by decide)
        omega
      · have := Int.emod_lt_of_pos c (show (0 : Int) < 1000003 by decide)
        omega
    · rintro i σ H' hi ⟨r, m, kv, xs, rfl, hm0, hm1, sm, hx, hl, hall⟩
      have grow : ∀ (y : Int) (τ : L2.St) (r' m' : Int), 0 ≤ y → y < b → 0 ≤ m' → m' < 4294967296 → τ = [some (.int c), some (.int n), some (.int b), some (.int r'), some (.int m'), some (.ref p), some (.int (0 + (i : Nat)))] →
          ∃ (r m : Int) (kv : Option V) (zs : List Int), τ = [some (.int c), some (.int n), some (.int b), some (.int r), some (.int m), some (.ref p), kv] ∧ 0 ≤ m ∧ m < 4294967296 ∧ Same H (upd H' p (.lst (xs.map V.int ++ [.int y]))) ∧
          (upd H' p (.lst (xs.map V.int ++ [.int y]))) p = some (.lst (zs.map V.int)) ∧ zs.length = i + 1 ∧ ∀ x ∈ zs, 0 ≤ x ∧ x < b := by
        intro y τ r' m' y0 y1 h0 h1 e
        refine ⟨r', m', _, xs ++ [y], e, h0, h1, fun q o k => ?_, ?_, ?_, ?_⟩
        · rw [upd_ne (ne_of_none k hp)]
          exact sm q o k
        · rw [upd_same, List.map_append]
          rfl
        · rw [List.length_append, hl]
          rfl
        · intro x hxm
          rcases List.mem_append.mp hxm with z | z
          · exact hall x z
          · obtain rfl : x = y := by simpa using z
            exact ⟨y0, y1⟩
      have hsz : (xs.map V.int).length < sizeLine := line_lt (by rw [List.length_map]; omega)
      refine ⟨.int r, rfl, .int b, rfl, r, b, rfl, rfl, _, rfl, ite2 (fun e => ?_) (fun e => ?_)⟩
      · refine ⟨.ref p, rfl, .inl ⟨rfl, _, .inl (.inl hx)⟩, .int r, rfl, .inl ⟨r, rfl, .int b, rfl, r, b, rfl, rfl, (show 0 < b by omega), p, _, _, rfl, rfl, hx, hsz, ?_⟩⟩
        refine ⟨.int r, rfl, .int b, rfl, r, b, rfl, rfl, ⟨by omega, by omega⟩, ?_⟩
        exact grow _ _ (r / b) m (Int.emod_nonneg r (by omega)) (Int.emod_lt_of_pos r (by omega)) hm0 hm1 rfl
      · refine ⟨.int m, rfl, m, 48271, rfl, rfl, .inl ⟨by omega, by omega⟩, .int (0 + (i : Nat)), rfl, 11, _, rfl, rfl, .inl ⟨by decide, by decide⟩, _, _, rfl, rfl, _, _, rfl, rfl, .inl ⟨_, rfl, _, 2147483647, rfl, rfl, (show (0 : Int) < 2147483647 by decide), ?_⟩⟩
        have b0 : 0 ≤ (m * 48271 + 11 * (0 + ((i : Nat) : Int)) + 7) % 2147483647 := Int.emod_nonneg _ (by decide)
        have b1 : (m * 48271 + 11 * (0 + ((i : Nat) : Int)) + 7) % 2147483647 < 2147483647 := Int.emod_lt_of_pos _ (by decide)
        refine ⟨.ref p, rfl, .inl ⟨rfl, _, .inl (.inl hx)⟩, _, rfl, (m * 48271 + 11 * (0 + ((i : Nat) : Int)) + 7) % 2147483647, 2862933555777941757, rfl, rfl, .inl ⟨by omega, by omega⟩, _, 1024, rfl, rfl, ⟨by decide, by decide⟩, .inl ⟨_, rfl, .int b, rfl, _, b, rfl, rfl, (show 0 < b by omega), p, _, _, rfl, rfl, hx, hsz, ?_⟩⟩
        exact grow _ _ r ((m * 48271 + 11 * (0 + ((i : Nat) : Int)) + 7) % 2147483647) (Int.emod_nonneg _ (by omega)) (Int.emod_lt_of_pos _ (by omega)) b0 (by omega) rfl
    · rintro σ H' ⟨r, m, kv, xs, rfl, hm0, hm1, sm, hx, hl, hall⟩
      exact ⟨.ref p, rfl, q H' p xs sm hp hx hl hall⟩
/-! ### _law_integer -/
def spInteger : Sp := fun vs H Q _ => ∃ i : Int, vs = [.int i] ∧ Q (.bl true) H
theorem ok_integer {f : Addr} {fd : FuncData} {k : Nat} (F : Fun K "_law_integer" "_law_integer" sInteger f fd) (B : Bl mg) : FnOk P w K mg base CX0 (k + 1) f fd ["value"] spInteger := by
  refine F.ok scInteger (fun vs H Q E h => ?_) (fun cdv A outer s H vs Q E hr h => ?_)
  · obtain ⟨i, rfl, _⟩ := h
    rfl
  · obtain ⟨i, rfl, q⟩ := h
    refine ⟨_, pss_one (ps_ret (pe_and (pe_callB call_isi (by rfl) B.isin (by decide +kernel) (pa_cons (pv 0) (pa_cons (pe_bltn (v := .ty "int") (by rfl) B.int (by decide +kernel) rfl) pa_nil)))
      (pe_one (pe_not (pe_callB call_isi (by rfl) B.isin (by decide +kernel) (pa_cons (pv 0) (pa_cons (pe_bltn (v := .ty "bool") (by rfl) B.bool (by decide +kernel) rfl) pa_nil))))))), ?_⟩
    refine ⟨.int i, rfl, .int i, .ty "int", _, _, true, rfl, .ty _, .base (.int i), kit_ty (by decide +kernel), true, rfl, iteT ?_⟩
    exact ⟨.int i, rfl, .int i, .ty "bool", _, _, false, rfl, .ty _, .base (.int i), kit_ty (by decide +kernel), false, rfl, q⟩
/-! ### _law_text -/
theorem sg_four (x : Int) : ∃ c, Sg c ∧ atI (Str.ofString "ACGT").cps.toList (x % 4) = some c := by
  have h : x % 4 = 0 ∨ x % 4 = 1 ∨ x % 4 = 2 ∨ x % 4 = 3 := by omega
  rcases h with h | h | h | h <;> rw [h]
  · exact ⟨65, .inl rfl, by decide +kernel⟩
  · exact ⟨67, .inr (.inl rfl), by decide +kernel⟩
  · exact ⟨71, .inr (.inr (.inl rfl)), by decide +kernel⟩
  · exact ⟨84, .inr (.inr (.inr (.inl rfl))), by decide +kernel⟩
theorem sg_two (x : Int) : ∃ c, Sg c ∧ atI (Str.ofString "AC").cps.toList (x % 2) = some c := by
  have h : x % 2 = 0 ∨ x % 2 = 1 := by omega
  rcases h with h | h <;> rw [h]
  · exact ⟨65, .inl rfl, by decide +kernel⟩
  · exact ⟨67, .inr (.inl rfl), by decide +kernel⟩
def spText (K : PySem.W.Frag) : Sp := fun vs H Q _ => ∃ (c n : Int), vs = [.int c, .int n] ∧ 0 ≤ n ∧ n ≤ 100000 ∧ ∀ (H' : Hp) (l : List Nat), Same H H' → Dna l → l.length = n.toNat → Q (.str (T l)) H'
theorem ok_text {f fR : Addr} {fd fdR : FuncData} {k : Nat} (F : Fun K "_law_text" "_law_text" sText f fd) (B : Bl mg) (GR : FnOk P w K mg base CX0 (k + 1) fR fdR ["cell", "count", "bound"] (spRow K)) (gR : mg "_law_row" = some (.ref fR)) (kR : PySem.W.keepIn K (.ref fR) = true) (bR : Binds K fdR ["cell", "count", "bound"] []) :
    FnOk P w K mg base CX0 (k + 1 + 1) f fd ["cell", "size"] (spText K) := by
  refine F.ok scText (fun vs H Q E h => ?_) (fun cdv A outer s H vs Q E hr h => ?_)
  · obtain ⟨c, n, rfl, _⟩ := h
    rfl
  · obtain ⟨c, n, rfl, hn0, hn, q⟩ := h
    refine ⟨_, pss_cons (ps_set (i := 2) scText.nd rfl (.inl rfl) (pe_call GR hr (by rfl) gR kR bR .nil pass0 (pa_cons (pv 0) (pa_cons (pv 1) (pa_cons pe_int pa_nil)))))
      (pss_cons (ps_set (i := 3) scText.nd rfl (.inl rfl) (pe_op op_mod (pe_op op_fdiv (pe_callB call_abs (by rfl) B.abs (by decide +kernel) (pa_cons (pe_callTy call_int1 (by rfl) B.int (by decide +kernel) (pa_cons (pv 0) pa_nil)) pa_nil)) pe_int) pe_int))
      (pss_cons (ps_set (i := 4) scText.nd rfl (.inl rfl) pe_str)
      (pss_cons (ps_for PassesOwn.never rfl (pi_range1 rfl B.range (pa_cons (pv 1) pa_nil)) (pg_name (i := 5) scText.nd rfl (.inl rfl))
        (C8.pss_cut (ps_set (i := 6) scText.nd rfl (.inl rfl) (pe_ix ix_str pe_str (pe_op op_mod (pe_ix ix_list (pv 2) (pv 5) (fun _ _ => rfl)) pe_int) (fun _ _ => rfl)))
        (C8.pss_cut (ps_if (PW.pt (pw_and (pt_cmpR op_eq (pv 3) pe_int (nomark _)) (pw_and (pt_cmpR op_gt (pv 5) pe_int (nomark _)) (pw_and1 (pt_cmpR op_gt (pe_op op_mod (pe_ix ix_list (pv 2) (pv 5) (fun _ _ => rfl)) pe_int) pe_int (nomark _))))))
            (pss_one (ps_set (i := 6) scText.nd rfl (.inl rfl) (pe_ix ix_str (pv 4) (pe_op op_sub (pv 5) pe_int) (fun _ _ => rfl)))) pss_nil)
        (C8.pss_cut (ps_if (pt_cmpR op_eq (pv 3) pe_int (nomark _)) (pss_one (ps_set (i := 6) scText.nd rfl (.inl rfl) (pe_ix ix_str pe_str (pe_op op_mod (pe_ix ix_list (pv 2) (pv 5) (fun _ _ => rfl)) pe_int) (fun _ _ => rfl)))) pss_nil)
        (C8.pss_cut (ps_if (PW.pt (pw_and (pt_cmpR op_eq (pv 3) pe_int (nomark _)) (pw_and1 (pt_cmpR op_gt (pe_ix ix_list (pv 2) (pv 5) (fun _ _ => rfl)) pe_int (nomark _)))))
            (pss_one (ps_set (i := 6) scText.nd rfl (.inl rfl) pe_str)) pss_nil)
        (pss_one (ps_set (i := 4) scText.nd rfl (.inl rfl) (pe_op op_add_str (pv 4) (pv 6)))))))))
      (pss_one (ps_ret (pv 4)))))), ?_⟩
    refine ⟨.int c, rfl, .int n, rfl, c, n, 97, rfl, hn0, hn, by decide, by decide, fun H1 p xs sm hp hx hl hall => ?_⟩
    refine ⟨.int c, rfl, .inl ⟨c, rfl, c, rfl, _, 7, rfl, rfl, ⟨by decide, by decide⟩, _, 4, rfl, rfl, (show (0 : Int) < 4 by decide), ?_⟩⟩
    refine ⟨.int n, rfl, n, rfl, by omega, by omega, ?_⟩
    obtain ⟨kd, hkd⟩ : ∃ kd : Int, kd = (if c < 0 then -c else c) / 7 % 4 := ⟨_, rfl⟩
    have hS : SqL K H1 p (xs.map V.int) := .inl (.inl hx)
    refine for_range (lo := 0) (n := n.toNat) (fun i σ H' => H' = H1 ∧ ∃ (l : List Nat) (kv lv : Option V), σ = [some (.int c), some (.int n), some (.ref p), some (.int kd), some (.str (T l)), kv, lv] ∧ l.length = i ∧ Dna l) ?_ ?_ ?_
    · exact ⟨rfl, [], none, none, by rw [← T_nil, hkd]; rfl, rfl, fun c hc => by cases hc⟩
    · rintro i σ H' hi ⟨rfl, l, kv, lv, rfl, hli, hd⟩
      have hix : i < xs.length := by omega
      have at1 : atI (xs.map V.int) (0 + (i : Nat)) = some (.int xs[i]) := by
        rw [Int.zero_add]
        refine atI_nat ?_
        rw [List.getElem?_map, List.getElem?_eq_getElem hix]
        rfl
      have done : ∀ d : Nat, Sg d → ∃ e, Sg e ∧ [some (.int c), some (.int n), some (.ref p), some (.int kd), some (.str (T l)), some (V.int (0 + (i : Nat))), some (.str (T [d]))] = [some (.int c), some (.int n), some (.ref p), some (.int kd), some (.str (T l)), some (V.int (0 + (i : Nat))), some (.str (T [e]))] := fun d hd => ⟨d, hd, rfl⟩
      refine ⟨fun σ H2 => H2 = H' ∧ ∃ d, Sg d ∧ σ = [some (.int c), some (.int n), some (.ref p), some (.int kd), some (.str (T l)), some (V.int (0 + (i : Nat))), some (.str (T [d]))], ?_, ?_⟩
      · obtain ⟨d, hsd, hat⟩ := sg_four xs[i]
        exact ⟨.ref p, rfl, .int (0 + (i : Nat)), rfl, p, _, _, _, rfl, rfl, hS, at1, _, 4, rfl, rfl, (show (0 : Int) < 4 by decide), _, _, d, rfl, rfl, by decide, hat, rfl, d, hsd, rfl⟩
      rintro σ H2 ⟨rfl, d, hsd, rfl⟩
      refine ⟨fun σ H3 => H3 = H2 ∧ ∃ d, Sg d ∧ σ = [some (.int c), some (.int n), some (.ref p), some (.int kd), some (.str (T l)), some (V.int (0 + (i : Nat))), some (.str (T [d]))], ?_, ?_⟩
      · refine ⟨.int kd, rfl, rfl, _, rfl, ite2 (fun _ => ?_) (fun _ => iteF ⟨rfl, d, hsd, rfl⟩)⟩
        refine ⟨.int (0 + (i : Nat)), rfl, _, 4, rfl, rfl, _, rfl, ite2 (fun e4 => ?_) (fun _ => iteF ⟨rfl, d, hsd, rfl⟩)⟩
        refine ⟨.ref p, rfl, .int (0 + (i : Nat)), rfl, p, _, _, _, rfl, rfl, hS, at1, _, 11, rfl, rfl, (show (0 : Int) < 11 by decide), _, 0, rfl, rfl, _, rfl, ite2 (fun _ => ?_) (fun _ => ⟨rfl, d, hsd, rfl⟩)⟩
        have h4 : (4 : Int) < 0 + (i : Nat) := of_decide_eq_true e4
        have hlt : i - 5 < l.length := by omega
        refine ⟨.str (T l), rfl, .int (0 + (i : Nat)), rfl, _, 5, rfl, rfl, T l, _, l[i - 5], rfl, rfl, line_ok (by rw [T_len]; omega), ?_, rfl, _, hd _ (List.getElem_mem hlt), rfl⟩
        rw [show (0 + ((i : Nat) : Int)) - 5 = ((i - 5 : Nat) : Int) by omega]
        refine atI_nat ?_
        exact List.getElem?_eq_getElem hlt
      rintro σ H3 ⟨rfl, d, hsd, rfl⟩
      refine ⟨fun σ H4 => H4 = H3 ∧ ∃ d, Sg d ∧ σ = [some (.int c), some (.int n), some (.ref p), some (.int kd), some (.str (T l)), some (V.int (0 + (i : Nat))), some (.str (T [d]))], ?_, ?_⟩
      · refine ⟨.int kd, rfl, rfl, _, rfl, ite2 (fun _ => ?_) (fun _ => ⟨rfl, d, hsd, rfl⟩)⟩
        obtain ⟨d, hsd, hat⟩ := sg_two xs[i]
        exact ⟨.ref p, rfl, .int (0 + (i : Nat)), rfl, p, _, _, _, rfl, rfl, hS, at1, _, 2, rfl, rfl, (show (0 : Int) < 2 by decide), _, _, d, rfl, rfl, by decide, hat, rfl, d, hsd, rfl⟩
      rintro σ H4 ⟨rfl, d, hsd, rfl⟩
      refine ⟨fun σ H5 => H5 = H4 ∧ ∃ d, Sg d ∧ σ = [some (.int c), some (.int n), some (.ref p), some (.int kd), some (.str (T l)), some (V.int (0 + (i : Nat))), some (.str (T [d]))], ?_, ?_⟩
      · refine ⟨.int kd, rfl, rfl, _, rfl, ite2 (fun _ => ?_) (fun _ => iteF ⟨rfl, d, hsd, rfl⟩)⟩
        refine ⟨.ref p, rfl, .int (0 + (i : Nat)), rfl, p, _, _, _, rfl, rfl, hS, at1, _, 88, rfl, rfl, _, rfl, ite2 (fun _ => ?_) (fun _ => ⟨rfl, d, hsd, rfl⟩)⟩
        exact ⟨rfl, 78, .inr (.inr (.inr (.inr rfl))), rfl⟩
      rintro σ H5 ⟨rfl, d, hsd, rfl⟩
      refine ⟨.str (T l), rfl, .str (T [d]), rfl, T l, T [d], rfl, rfl, line_ok (by rw [T_len, T_len, List.length_singleton]; omega), rfl, l ++ [d], some (.int (0 + (i : Nat))), some (.str (T [d])), ?_, ?_, hd.app (.one hsd)⟩
      · rw [T_app]
        rfl
      · rw [List.length_append, hli]
        rfl
    · rintro σ H' ⟨rfl, l, kv, lv, rfl, hli, hd⟩
      exact ⟨.str (T l), rfl, q H' l sm hd hli⟩
/-! ### _law_turned -/
def opp (c : Nat) : Nat := if c = 65 then 84 else if c = 67 then 71 else if c = 71 then 67 else if c = 84 then 65 else c
def turn (l : List Nat) : List Nat := (l.map opp).reverse
theorem opp_sg {c : Nat} (h : Sg c) : Sg (opp c) := by
  rcases h with h | h | h | h | h <;> subst h
  · exact .inr (.inr (.inr (.inl rfl)))
  · exact .inr (.inr (.inl rfl))
  · exact .inr (.inl rfl)
  · exact .inl rfl
  · exact .inr (.inr (.inr (.inr rfl)))
theorem opp_opp {c : Nat} (h : Sg c) : opp (opp c) = c := by
  rcases h with h | h | h | h | h <;> subst h <;> rfl
theorem turn_dna {l : List Nat} (h : Dna l) : Dna (turn l) := fun c hc => by
  obtain ⟨d, hd, e⟩ := List.mem_map.mp (List.mem_reverse.mp hc)
  rw [← e]
  exact opp_sg (h d hd)
theorem turn_len (l : List Nat) : (turn l).length = l.length := by
  unfold turn
  rw [List.length_reverse, List.length_map]
theorem turn_turn {l : List Nat} (h : Dna l) : turn (turn l) = l := by
  unfold turn
  rw [List.map_reverse, List.reverse_reverse, List.map_map]
  conv => rhs; rw [← List.map_id l]
  exact List.map_congr_left fun c hc => opp_opp (h c hc)
theorem turn_app (a b : List Nat) : turn (a ++ b) = turn b ++ turn a := by
  unfold turn
  rw [List.map_append, List.reverse_append]
theorem turn_snoc (a : List Nat) (c : Nat) : turn (a ++ [c]) = opp c :: turn a := by
  rw [turn_app]
  rfl
theorem sign_ix {c : Nat} (h : Sg c) : ∃ (i : Nat) (r : List Nat), Builtin.Str.occurrences (Str.ofString "ACGTN") ⟨#[c]⟩ 0 (Str.ofString "ACGTN").length 1 = i :: r ∧ atI (Str.ofString "TGCAN").cps.toList (i : Int) = some (opp c) ∧ (i : Int) + 2 = (if c = 65 then 2 else if c = 67 then 3 else if c = 71 then 4 else if c = 84 then 5 else 6) := by
  rcases h with h | h | h | h | h <;> subst h
  · exact ⟨0, [], by decide +kernel, by decide +kernel, by decide⟩
  · exact ⟨1, [], by decide +kernel, by decide +kernel, by decide⟩
  · exact ⟨2, [], by decide +kernel, by decide +kernel, by decide⟩
  · exact ⟨3, [], by decide +kernel, by decide +kernel, by decide⟩
  · exact ⟨4, [], by decide +kernel, by decide +kernel, by decide⟩
def spLTurned : Sp := fun vs H Q _ => ∃ l : List Nat, vs = [.str (T l)] ∧ Dna l ∧ l.length ≤ 100000 ∧ Q (.str (T (turn l))) H
theorem ok_lturned {f : Addr} {fd : FuncData} {k : Nat} (F : Fun K "_law_turned" "_law_turned" sLTurned f fd) : FnOk P w K mg base CX0 (k + 1) f fd ["text"] spLTurned := by
  refine F.ok scLTurned (fun vs H Q E h => ?_) (fun cdv A outer s H vs Q E hr h => ?_)
  · obtain ⟨l, rfl, _⟩ := h
    rfl
  · obtain ⟨l, rfl, hd, hl, q⟩ := h
    refine ⟨_, pss_cons (ps_set (i := 1) scLTurned.nd rfl (.inl rfl) pe_str)
      (pss_cons (ps_for PassesOwn.never rfl (pi_str (pv 0)) (pg_name (i := 2) scLTurned.nd rfl (.inl rfl))
        (pss_one (ps_set (i := 1) scLTurned.nd rfl (.inl rfl) (pe_op op_add_str (pe_ix ix_str pe_str (pe_bm PySem.F.plainAttrs_str PySem.F.slot_str_index PySem.F.type_str_index mt_sindex pe_str (pa_cons (pv 2) pa_nil)) (fun _ _ => rfl)) (pv 1)))))
      (pss_one (ps_ret (pv 1)))), ?_⟩
    refine ⟨.str (T l), rfl, T l, rfl, ?_⟩
    refine for_str (z := T l) (fun i σ H' => H' = H ∧ i ≤ l.length ∧ ∃ lv, σ = [some (.str (T l)), some (.str (T (turn (l.take i)))), lv]) ?_ ?_ ?_
    · exact ⟨rfl, Nat.zero_le _, none, by
        show [some (V.str (T l)), some (V.str (Str.ofString "")), none] = _
        rw [T_nil]
        rfl⟩
    · rintro i c σ H' hc ⟨rfl, _, lv, rfl⟩
      rw [T_at] at hc
      obtain ⟨hlt, hce⟩ := List.getElem?_eq_some_iff.mp hc
      have hsc : Sg c := by
        rw [← hce]
        exact hd _ (List.getElem_mem hlt)
      obtain ⟨j, r, ho, ha, _⟩ := sign_ix hsc
      have et : turn (l.take (i + 1)) = opp c :: turn (l.take i) := by
        rw [List.take_add_one, hc]
        exact turn_snoc _ c
      refine ⟨rfl, .str ⟨#[c]⟩, rfl, _, _, j, r, rfl, rfl, ho, _, _, _, rfl, rfl, by decide, ha, .str (T (turn (l.take i))), rfl, T [opp c], _, rfl, rfl, line_ok ?_, rfl, hlt, some (.str ⟨#[c]⟩), ?_⟩
      · rw [T_len, T_len, turn_len, List.length_take, List.length_singleton]
        omega
      · rw [T_app, et]
        rfl
    · rintro σ H' ⟨rfl, _, lv, rfl⟩
      rw [T_size, List.take_length]
      exact ⟨_, rfl, q⟩
end
theorem line_ok6 {n : Nat} (h : n ≤ 1000000) : n ≤ sizeLine := by
  rw [sizeLine_eq]
  omega
theorem line_ok7 {n : Nat} (h : n ≤ 10000000) : n ≤ sizeLine := by
  rw [sizeLine_eq]
  omega
theorem new_ne {H : Hp} {p q : Addr} {o : HO} (h : upd H p o q = none) : q ≠ p := fun e => by
  rw [e, upd_same] at h
  cases h
theorem new_old {H : Hp} {p q : Addr} {o : HO} (h : upd H p o q = none) : H q = none := by
  rw [upd_ne (new_ne h)] at h
  exact h
theorem cell_arg2 (a : Addr) (c d i : Nat) : [V.ref a, V.int ((c : Int) + (d : Int) * (0 + ((i : Nat) : Int)))] = [V.ref a, V.int ((c + d * i : Nat) : Int)] := by
  congr 2
  rw [Int.zero_add]
  simp
theorem cell_arg3 (a : Addr) (d i : Nat) : [V.ref a, V.int ((d : Int) * (0 + ((i : Nat) : Int)))] = [V.ref a, V.int ((d * i : Nat) : Int)] := by
  congr 2
  rw [Int.zero_add]
  simp
theorem cell_arg4 (a : Addr) (c d i : Nat) : [V.ref a, V.int ((d : Int) * (0 + ((i : Nat) : Int)) + (c : Int))] = [V.ref a, V.int ((d * i + c : Nat) : Int)] := by
  congr 2
  rw [Int.zero_add]
  simp
theorem map_int_at {ns : List Int} {i : Nat} (h : i < ns.length) : (ns.map V.int)[i]? = some (.int ns[i]) := by
  rw [List.getElem?_map, List.getElem?_eq_getElem h]
  rfl
def rFind : V → List V → Hp → VK → Prop := fun x xs H Q => ∃ a b, x = .str a ∧ xs = [.str b] ∧ Q (.int (Txt.find a b)) H
def rMaxP : List V → Hp → VK → Prop := fun xs H Q => ∃ i j, xs = [.int i, .int j] ∧ Q (.int (if j > i then j else i)) H
/-! ### lists of ints as data -/
abbrev LI (ns : List Int) : HO := .lst (ns.map V.int)
theorem LI_snoc (l : List Int) (x : Int) : LI (l ++ [x]) = .lst (l.map V.int ++ [.int x]) := by
  show HO.lst ((l ++ [x]).map V.int) = _
  rw [List.map_append]
  rfl
def dI (ns : List Int) : PyData := .list (ns.map .int)
theorem can_ints (ns : List Int) : PyData.canLayAll0 (ns.map .int) = true := by
  induction ns with
  | nil => rfl
  | cons n r ih => exact ih
theorem depth_intsD (ns : List Int) : PyData.depthAll (ns.map .int) = 0 := by
  induction ns with
  | nil => rfl
  | cons n r ih =>
    show max 0 (PyData.depthAll (r.map .int)) = 0
    rw [ih]
    rfl
theorem shaped_dI (ns : List Int) : SeqAt.shaped (dI ns) = true := by
  unfold SeqAt.shaped
  have e1 : (dI ns).canLay0 = true := can_ints ns
  have e2 : PyData.depth (dI ns) ≤ 64 := by
    show PyData.depthAll (ns.map .int) + 1 ≤ 64
    rw [depth_intsD]
    decide
  rw [e1, decide_eq_true e2]
  rfl
theorem dp_ints {K : PySem.W.Frag} {H : Hp} : ∀ ns : List Int, DpAll K H (ns.map V.int) (ns.map .int)
  | [] => .nil
  | n :: r => .cons (.int n) (dp_ints r)
theorem dp_dI {K : PySem.W.Frag} {H : Hp} {a : Addr} {ns : List Int} (h : SqL K H a (ns.map V.int)) : Dp K H (.ref a) (dI ns) := .lst h (dp_ints ns)
theorem eqv_ints (ns : List Int) : PyData.eqv (dI ns) (dI ns) = true := SeqAt.eqv_refl _ (can_ints ns)
theorem cutV_to (xs : List V) (k : Nat) : L2.cutV xs none (some (k : Int)) = xs.take k := by
  unfold L2.cutV
  rw [HT.sIx_none, HT.sIx_nat, List.drop_zero, Nat.sub_zero]
  by_cases h : k ≤ xs.length
  · rw [Nat.min_eq_left h]
  · rw [Nat.min_eq_right (by omega), List.take_of_length_le (Nat.le_refl _), List.take_of_length_le (by omega)]
theorem cutV_from (xs : List V) (k : Nat) : L2.cutV xs (some (k : Int)) none = xs.drop k := by
  unfold L2.cutV
  rw [HT.sIx_none, HT.sIx_nat]
  by_cases h : k ≤ xs.length
  · rw [Nat.min_eq_left h, List.take_of_length_le (by rw [List.length_drop]; omega)]
  · rw [Nat.min_eq_right (by omega), List.drop_of_length_le (Nat.le_refl _), List.drop_of_length_le (by omega), List.take_nil]
theorem ix_set {xs : List V} {i : Int} {j : Nat} (e : i = (j : Int)) (h : j < xs.length) : ixN xs.length i = some j := by
  rw [e]
  unfold ixN
  rw [if_pos (by omega), if_pos (by omega)]
  rfl
/-- a def of the module that keeps a promise -/
def Has (P : Program) (w : World) (K : PySem.W.Frag) (mg : Str → Option Value) (base : Heap) (k : Nat) (x : Str) (ps : List Str) (sp : Sp) : Prop :=
  ∃ f fd, FnOk P w K mg base CX0 k f fd ps sp ∧ mg x = some (.ref f) ∧ PySem.W.keepIn K (.ref f) = true ∧ Binds K fd ps []
/-- lists of bytes -/
def Byt (l : List Int) : Prop := ∀ x ∈ l, 0 ≤ x ∧ x < 256
theorem Byt.app {a b : List Int} (h : Byt a) (k : Byt b) : Byt (a ++ b) := fun x hx => by
  rcases List.mem_append.mp hx with z | z
  · exact h x z
  · exact k x z
theorem Byt.take {a : List Int} (h : Byt a) (n : Nat) : Byt (a.take n) := fun x hx => h x (List.mem_of_mem_take hx)
theorem Byt.rep {a : List Int} (h : Byt a) (n : Nat) : Byt (List.replicate n a).flatten := fun x hx => by
  obtain ⟨z, hz1, hz2⟩ := List.mem_flatten.mp hx
  rw [List.eq_of_mem_replicate hz1] at hz2
  exact h x hz2
theorem rep_map {α β : Type} (f : α → β) (n : Nat) (l : List α) : (List.replicate n (l.map f)).flatten = (List.replicate n l).flatten.map f := by
  rw [List.map_flatten, List.map_replicate]
theorem rep_len {α : Type} (n : Nat) (l : List α) : (List.replicate n l).flatten.length = n * l.length := by simp
theorem join_ones : ∀ l : List Nat, Str.join (T []) (l.map fun c => T [c]) = T l
  | [] => rfl
  | [c] => rfl
  | c :: e :: r => by
    have ih := join_ones (e :: r)
    show T [c] ++ T [] ++ Str.join (T []) ((e :: r).map fun c => T [c]) = _
    rw [ih, T_app, T_app]
    rfl
theorem sum_ones (l : List Nat) : ((l.map fun c => T [c]).map (·.length)).sum = l.length := by
  induction l with
  | nil => rfl
  | cons c r ih =>
    rw [List.map_cons, List.map_cons, List.sum_cons, ih, T_len, List.length_cons]
    show 1 + r.length = r.length + 1
    omega
section
variable {X : Cx}
theorem fold_app : ∀ (n : Nat) (z acc : Array Nat), (List.replicate n z).foldl (· ++ ·) acc = acc ++ ((List.replicate n z.toList).flatten).toArray
  | 0, z, acc => by simp
  | n + 1, z, acc => by
    rw [List.replicate_succ, List.foldl_cons, fold_app n z (acc ++ z), List.replicate_succ, List.flatten_cons]
    apply Array.toList_inj.mp
    simp
theorem mul_T (l : List Nat) (n : Int) (h0 : 0 ≤ n) : Txt.mul (T l) n = T (List.replicate n.toNat l).flatten := by
  unfold Txt.mul
  by_cases h1 : n < 1
  · rw [if_pos h1, show n.toNat = 0 by omega]
    exact T_nil
  · rw [if_neg h1]
    by_cases h2 : (n == 1 || (T l).length == 0) = true
    · rw [if_pos h2]
      rw [T_len] at h2
      rcases (Bool.or_eq_true _ _).mp h2 with z | z
      · have e : n = 1 := by simpa using z
        subst e
        show T l = T (List.replicate 1 l).flatten
        simp
      · have e : l = [] := by simpa using z
        subst e
        have : ∀ m : Nat, (List.replicate m ([] : List Nat)).flatten = [] := fun m => by simp
        rw [this]
    · rw [if_neg h2]
      show Str.mk _ = Str.mk _
      congr 1
      rw [fold_app, T_list]
      simp
/-- a text n times -/
theorem op_mulT : OpR X (binaryOp .Mult) (fun x y H Q => ∃ (l : List Nat) (n : Int), x = .str (T l) ∧ y = .int n ∧ l.length ≤ 100 ∧ 0 ≤ n ∧ n ≤ 1000 ∧ Q (.str (T (List.replicate n.toNat l).flatten)) H) := by
  intro pins s σ H x y v u Q I rx ry h
  obtain ⟨l, n, rfl, rfl, hl, h0, hn, q⟩ := h
  obtain ⟨t, rfl⟩ := rx
  obtain ⟨t', rfl⟩ := ry
  refine SB.mul (mulOk_of 100 1000 (by rw [T_len]; exact hl) hn (by omega) (by decide) (by decide)) fun t1 tk => ?_
  rw [mul_T l n h0]
  exact ⟨.str (T (List.replicate n.toNat l).flatten), H, I.tok _, ⟨_, rfl⟩, q⟩
end
theorem rep_mem {n : Nat} {l : List Nat} {c : Nat} (h : c ∈ (List.replicate n l).flatten) : c ∈ l := by
  obtain ⟨z, hz1, hz2⟩ := List.mem_flatten.mp h
  rw [List.eq_of_mem_replicate hz1] at hz2
  exact hz2
/-- a text n times: only how long it is and what stands in it -/
theorem op_mulM {X : Cx} : OpR X (binaryOp .Mult) (fun x y H Q => ∃ (l : List Nat) (n : Int), x = .str (T l) ∧ y = .int n ∧ l.length ≤ 100 ∧ 0 ≤ n ∧ n ≤ 1000 ∧ ∀ m : List Nat, m.length = n.toNat * l.length → (∀ c ∈ m, c ∈ l) → Q (.str (T m)) H) := by
  intro pins s σ H x y v u Q I rx ry h
  obtain ⟨l, n, e1, e2, hl, h0, hn, q⟩ := h
  exact op_mulT pins s σ H x y v u Q I rx ry ⟨l, n, e1, e2, hl, h0, hn, q _ (rep_len _ _) fun c hc => rep_mem hc⟩
def Num (l : List Int) : Prop := ∀ x ∈ l, 0 ≤ x ∧ x ≤ 1000000000
theorem paired_len {α β : Type} {F : α → β → Prop} : ∀ {xs : List α} {ys : List β}, Paired F xs ys → xs.length = ys.length
  | _, _, .nil => rfl
  | _, _, .cons _ t => congrArg (· + 1) (paired_len t)
theorem paired_get {α β : Type} {F : α → β → Prop} : ∀ {xs : List α} {ys : List β} {i : Nat} {x : α}, Paired F xs ys → xs[i]? = some x → ∃ y, ys[i]? = some y ∧ F x y
  | _, _, 0, _, .cons r _, e => ⟨_, rfl, by cases e; exact r⟩
  | _, _, i + 1, _, .cons _ t, e => paired_get (i := i) t e
/-- lists of bytes in the list at pl -/
def Bys (pl : Addr) (H : Hp) : List V → List (List Int) → Prop := Paired fun v l => ∃ q, v = .ref q ∧ q ≠ pl ∧ H q = some (LI l)
theorem Bys.mono {pl : Addr} {H H' : Hp} {xs : List V} {rs : List (List Int)} (h : Bys pl H xs rs) (k : ∀ q l, q ≠ pl → H q = some (LI l) → H' q = some (LI l)) : Bys pl H' xs rs := Paired.mapP h fun _ _ ⟨q, e, n, t⟩ => ⟨q, e, n, k q _ n t⟩
/-! ### starts -/
/-- the starts in the order of their suffixes -/
def starts (ns : List Int) : List Nat := (List.range ns.length).mergeSort fun x y => decide (ns.drop x ≤ ns.drop y)
theorem starts_perm (ns : List Int) : (starts ns).Perm (List.range ns.length) := List.mergeSort_perm _ _
theorem starts_len (ns : List Int) : (starts ns).length = ns.length := by
  rw [(starts_perm ns).length_eq, List.length_range]
theorem starts_lt {ns : List Int} {k : Nat} (h : k ∈ starts ns) : k < ns.length := List.mem_range.mp ((starts_perm ns).mem_iff.mp h)
abbrev LN (ks : List Nat) : HO := .lst (ks.map fun k => V.int (k : Nat))
/-- a def of the text whose code object stands at c -/
structure FunC (K : PySem.W.Frag) (x qual : Str) (st : Stmt) (f c : Addr) (fd : FuncData) : Prop where
  ex : ∃ (oc : Value) (od : Option Addr) (kV doc pm : Value) (an : Option Addr) (ct : Value) (osl : Array (Option Value)), fd = PySem.W.fnOf x qual (defArgs st) (defBody st) (defScope st) .none kV doc pm an (.ref c) ct ∧ K.lookup f = some ⟨oc, od, .func fd, osl⟩ ∧ PySem.W.codeIn K (.ref c) qual = true
section
variable {P : Program} {w : World} {K : PySem.W.Frag} {mg : Str → Option Value} {base : Heap}
theorem FunC.ok {x qual : Str} {st : Stmt} {f c : Addr} {fd : FuncData} {N ps : List Str} {k : Nat} {sp : Sp} (F : FunC K x qual st f c fd) (S : FnScope N ps (defScope st)) (len : ∀ vs H Q E, sp vs H Q E → vs.length = ps.length)
    (body : ∀ (A : Around) (outer : List Env) (s : Shared) (H : Hp) (vs : List V) (Q : VK) (E : XK), Room k (A.deeper (envOfC qual (defScope st) s.heap.objs.size f (.ref c))) → sp vs H Q E →
      ∃ t, PSs (cxOf CX0 P w K mg base N qual (defScope st) f (.ref c) A outer s H E).nox (defBody st) t ∧ t { nx := fun _ H' => Q .non H', rt := Q } (L2.start N vs) H) : FnOk P w K mg base CX0 (k + 1) f fd ps sp := by
  obtain ⟨oc, od, kV, doc, pm, an, ct, osl, rfl, lk, hcd⟩ := F.ex
  refine fn_of lk hcd S len fun A outer s H vs Q E hr hsp => ?_
  obtain ⟨t, h, q⟩ := body A outer s H vs Q E hr hsp
  exact ⟨t, h.nox, q⟩
open LamX in
/-- the heap grew, all but the tables are as they were, the tables are good -/
structure Grow (T : List (Addr × Str)) (H H' : Hp) : Prop where
  ext : ExtN H H'
  tab : Tabs T H'
open LamX in
def spStarts (K : PySem.W.Frag) (T : List (Addr × Str)) : Sp := fun vs H Q _ => ∃ (a : Addr) (ns : List Int), vs = [.ref a] ∧ SqL K H a (ns.map V.int) ∧ Tabs T H ∧ ns.length ≤ 1000000 ∧
  ∀ (H1 : Hp) (p : Addr), Grow T H H1 → H1 p = none → Q (.ref p) (upd H1 p (LN (starts ns)))
theorem sql_hit {H H1 : Hp} {a : Addr} {xs : List V} (h : SqL K H a xs) (s : Same H H1) : SqL K H1 a xs := s.seq h
open LamX in
theorem tabs_same {T : List (Addr × Str)} {H H1 : Hp} (t : Tabs T H) (s : Same H H1) : Tabs T H1 := t.ext fun b o e => s b o e
end
theorem FunC.binds {K : PySem.W.Frag} {x qual : Str} {st : Stmt} {f c : Addr} {fd : FuncData} {ps : List Str} (F : FunC K x qual st f c fd)
    (h : ∀ (kV doc pm : Value) (an : Option Addr) (cdv ct : Value) (us : List Value), us.length = ps.length → bindArgs (PySem.W.fnOf x qual (defArgs st) (defBody st) (defScope st) .none kV doc pm an cdv ct) ⟨us, []⟩ = pure (ps.zip us)) : Binds K fd ps [] := by
  obtain ⟨oc, od, kV, doc, pm, an, ct, osl, rfl, lk, hcd⟩ := F.ex
  exact .all (h kV doc pm an _ ct)
theorem cut_mid (l : List Nat) (a b : Nat) : cutS (T l) (some (a : Int)) (some (b : Int)) = T ((l.drop a).take (b - a)) := by
  unfold cutS
  rw [HT.sIx_nat, HT.sIx_nat, T_len, T_list]
  show Str.mk _ = Str.mk _
  congr 2
  by_cases ha : a ≤ l.length
  · rw [Nat.min_eq_left ha]
    by_cases hb : b ≤ l.length
    · rw [Nat.min_eq_left hb]
    · rw [Nat.min_eq_right (by omega), List.take_of_length_le (by rw [List.length_drop]; omega), List.take_of_length_le (by rw [List.length_drop]; omega)]
  · rw [Nat.min_eq_right (a := a) (by omega), List.drop_of_length_le (Nat.le_refl _), List.drop_of_length_le (by omega), List.take_nil, List.take_nil]
/-! ### pairs of name and text -/
def Tups (H : Hp) : List V → List (List Nat × List Nat) → Prop := Paired fun v r => ∃ q, v = .ref q ∧ H q = some (.tup [.str (T r.1), .str (T r.2)])
theorem Tups.mono {H H' : Hp} {xs : List V} {rs : List (List Nat × List Nat)} (h : Tups H xs rs) (k : ∀ q ys, H q = some (.tup ys) → H' q = some (.tup ys)) : Tups H' xs rs :=
  Paired.mapP h fun _ _ ⟨q, e, t⟩ => ⟨q, e, k q _ t⟩
theorem Tups.snoc {H : Hp} {xs : List V} {rs : List (List Nat × List Nat)} {q : Addr} {r : List Nat × List Nat} (h : Tups H xs rs) (e : H q = some (.tup [.str (T r.1), .str (T r.2)])) : Tups H (xs ++ [.ref q]) (rs ++ [r]) :=
  Paired.snoc h ⟨q, rfl, e⟩
def lets : List Nat := [65, 67, 71, 84, 78]
theorem lets_text : Str.ofString "ACGTN" = T lets := by decide +kernel
theorem sg_lets {c : Nat} (h : c ∈ lets) : Sg c := by
  simp only [lets, List.mem_cons, List.not_mem_nil, or_false] at h
  rcases h with h | h | h | h | h <;> subst h
  · exact .inl rfl
  · exact .inr (.inl rfl)
  · exact .inr (.inr (.inl rfl))
  · exact .inr (.inr (.inr (.inl rfl)))
  · exact .inr (.inr (.inr (.inr rfl)))
/-! ### references -/
abbrev Rf := List Nat × List Nat
/-- how long the joined sequence is -/
def jl (rs : List Rf) : Nat := (rs.map fun r => r.2.length + 1).sum
theorem jl_app (a b : List Rf) : jl (a ++ b) = jl a + jl b := by
  unfold jl
  rw [List.map_append, List.sum_append]
theorem jl_le {n : Nat} : ∀ {rs : List Rf}, (∀ r ∈ rs, r.2.length ≤ n) → jl rs ≤ rs.length * (n + 1)
  | [], _ => Nat.zero_le _
  | r :: rs, h => by
    have h1 := jl_le (rs := rs) fun x hx => h x (List.mem_cons_of_mem _ hx)
    have h2 := h r List.mem_cons_self
    show r.2.length + 1 + jl rs ≤ (rs.length + 1) * (n + 1)
    rw [Nat.succ_mul]
    omega
theorem Tups.same {H H' : Hp} {xs : List V} {rs : List Rf} (h : Tups H xs rs) (s : Same H H') : Tups H' xs rs := h.mono fun q ys e => s _ _ e
/-! ### the joined sequence -/
def sy (c : Nat) : Int := 2 + ((lets.idxOf c : Nat) : Int)
theorem find_sy {c : Nat} (h : Sg c) : (2 : Int) + Txt.find (T lets) ⟨#[c]⟩ = sy c := by
  rcases h with h | h | h | h | h <;> subst h <;> decide +kernel
theorem sy_ge (c : Nat) : 2 ≤ sy c := by
  unfold sy
  omega
theorem sy_le {c : Nat} (h : Sg c) : sy c ≤ 6 := by
  rcases h with h | h | h | h | h <;> subst h <;> decide
def jraw (rs : List Rf) : List Int := rs.flatMap fun r => r.2.map sy ++ [1]
theorem jraw_len (rs : List Rf) : (jraw rs).length = jl rs := by
  unfold jraw jl
  rw [List.length_flatMap]
  congr 1
  exact List.map_congr_left fun r _ => by simp
theorem jraw_snoc (rs : List Rf) (r : Rf) : jraw (rs ++ [r]) = jraw rs ++ (r.2.map sy ++ [1]) := by
  unfold jraw
  rw [List.flatMap_append]
  simp
/-- the joined sequence of references -/
def jn (rs : List Rf) : List Int := (jraw rs).set ((jraw rs).length - 1) 0
theorem jn_len (rs : List Rf) : (jn rs).length = jl rs := by
  unfold jn
  rw [List.length_set, jraw_len]
theorem jl_pos {rs : List Rf} (h : 1 ≤ rs.length) : 1 ≤ jl rs := by
  cases rs with
  | nil => exact absurd h (by decide)
  | cons r rs =>
    show 1 ≤ r.2.length + 1 + jl rs
    omega
/-! ### ranks and suffixes -/
section
open PySem.W
/-- the number at i, with 0 behind the end -/
def pad (ns : List Int) (i : Nat) : Int := match ns[i]? with
  | some x => x + 1
  | none => 0
theorem pad_at {ns : List Int} {i : Nat} {x : Int} (h : ns[i]? = some x) : pad ns i = x + 1 := by
  unfold pad
  rw [h]
theorem pad_end {ns : List Int} {i : Nat} (h : ns.length ≤ i) : pad ns i = 0 := by
  unfold pad
  rw [List.getElem?_eq_none h]
theorem pad_pos {ns : List Int} {i : Nat} (hn : ∀ x ∈ ns, 0 ≤ x) (h : i < ns.length) : 1 ≤ pad ns i := by
  rw [pad_at (List.getElem?_eq_getElem h)]
  have := hn _ (List.getElem_mem h)
  omega
theorem pad_nonneg {ns : List Int} (hn : ∀ x ∈ ns, 0 ≤ x) (i : Nat) : 0 ≤ pad ns i := by
  by_cases h : i < ns.length
  · have := pad_pos hn h
    omega
  · rw [pad_end (by omega)]
    decide
def LtW (ns : List Int) (w i j : Nat) : Prop := ∃ k, k < w ∧ (∀ t, t < k → pad ns (i + t) = pad ns (j + t)) ∧ pad ns (i + k) < pad ns (j + k)
def EqW (ns : List Int) (w i j : Nat) : Prop := ∀ t, t < w → pad ns (i + t) = pad ns (j + t)
theorem tri (ns : List Int) (i j : Nat) : ∀ w, LtW ns w i j ∨ EqW ns w i j ∨ LtW ns w j i
  | 0 => .inr (.inl fun t h => absurd h (Nat.not_lt_zero t))
  | w + 1 => by
    rcases tri ns i j w with ⟨k, hk, h1, h2⟩ | h | ⟨k, hk, h1, h2⟩
    · exact .inl ⟨k, by omega, h1, h2⟩
    · rcases Int.lt_trichotomy (pad ns (i + w)) (pad ns (j + w)) with c | c | c
      · exact .inl ⟨w, by omega, h, c⟩
      · refine .inr (.inl fun t ht => ?_)
        by_cases e : t = w
        · rw [e]
          exact c
        · exact h t (by omega)
      · exact .inr (.inr ⟨w, by omega, fun t ht => (h t ht).symm, c⟩)
    · exact .inr (.inr ⟨k, by omega, h1, h2⟩)
theorem EqW.not {ns : List Int} {w i j : Nat} (h : EqW ns w i j) : ¬ LtW ns w i j := fun ⟨k, hk, _, h2⟩ => by
  have := h k hk
  omega
theorem EqW.symm {ns : List Int} {w i j : Nat} (h : EqW ns w i j) : EqW ns w j i := fun t ht => (h t ht).symm
theorem LtW.asymm {ns : List Int} {w i j : Nat} (h : LtW ns w i j) : ¬ LtW ns w j i := fun ⟨k, hk, h1, h2⟩ => by
  obtain ⟨k', hk', h1', h2'⟩ := h
  rcases Nat.lt_trichotomy k k' with c | c | c
  · have := h1' k c
    omega
  · subst c
    omega
  · have := h1 k' c
    omega
theorem ltw_double {ns : List Int} {w i j : Nat} : LtW ns (w + w) i j ↔ LtW ns w i j ∨ (EqW ns w i j ∧ LtW ns w (i + w) (j + w)) := by
  constructor
  · rintro ⟨k, hk, h1, h2⟩
    by_cases c : k < w
    · exact .inl ⟨k, c, h1, h2⟩
    · refine .inr ⟨fun t ht => h1 t (by omega), k - w, by omega, fun t ht => ?_, ?_⟩
      · have := h1 (w + t) (by omega)
        rw [← Nat.add_assoc, ← Nat.add_assoc] at this
        exact this
      · rw [Nat.add_assoc, Nat.add_assoc, show w + (k - w) = k by omega]
        exact h2
  · rintro (⟨k, hk, h1, h2⟩ | ⟨h, k, hk, h1, h2⟩)
    · exact ⟨k, by omega, h1, h2⟩
    · refine ⟨w + k, by omega, fun t ht => ?_, ?_⟩
      · by_cases c : t < w
        · exact h t c
        · have := h1 (t - w) (by omega)
          rw [Nat.add_assoc, Nat.add_assoc, show w + (t - w) = t by omega] at this
          exact this
      · rw [← Nat.add_assoc, ← Nat.add_assoc]
        exact h2
theorem pad_drop : ∀ (k : Nat) {ns : List Int} {i j : Nat}, (∀ x ∈ ns, 0 ≤ x) → (∀ t, t < k → pad ns (i + t) = pad ns (j + t)) → pad ns (i + k) < pad ns (j + k) → ns.drop i < ns.drop j
  | 0, ns, i, j, hn, _, h2 => by
    have hj : j < ns.length := by
      by_cases c : j < ns.length
      · exact c
      · rw [Nat.add_zero, Nat.add_zero, pad_end (i := j) (by omega)] at h2
        have := pad_nonneg hn i
        omega
    rw [List.drop_eq_getElem_cons hj]
    by_cases c : i < ns.length
    · rw [Nat.add_zero, Nat.add_zero, pad_at (List.getElem?_eq_getElem c), pad_at (List.getElem?_eq_getElem hj)] at h2
      rw [List.drop_eq_getElem_cons c]
      exact List.Lex.rel (by omega)
    · rw [List.drop_eq_nil_of_le (by omega)]
      exact List.Lex.nil
  | k + 1, ns, i, j, hn, h1, h2 => by
    have h0 := h1 0 (Nat.succ_pos k)
    rw [Nat.add_zero, Nat.add_zero] at h0
    have nx := pad_drop k (ns := ns) (i := i + 1) (j := j + 1) hn (fun t ht => by
      have := h1 (t + 1) (by omega)
      rw [show i + 1 + t = i + (t + 1) by omega, show j + 1 + t = j + (t + 1) by omega]
      exact this) (by
      rw [show i + 1 + k = i + (k + 1) by omega, show j + 1 + k = j + (k + 1) by omega]
      exact h2)
    by_cases c : i < ns.length
    · have a := pad_pos hn c
      have hj : j < ns.length := by
        by_cases d : j < ns.length
        · exact d
        · rw [pad_end (i := j) (by omega)] at h0
          omega
      rw [pad_at (List.getElem?_eq_getElem c), pad_at (List.getElem?_eq_getElem hj)] at h0
      rw [List.drop_eq_getElem_cons c, List.drop_eq_getElem_cons hj, show ns[i] = ns[j] by omega]
      exact List.Lex.cons nx
    · rw [pad_end (i := i) (by omega)] at h0
      have hj : ¬ j < ns.length := fun d => by
        have := pad_pos hn d
        omega
      rw [pad_end (i := i + (k + 1)) (by omega), pad_end (i := j + (k + 1)) (by omega)] at h2
      omega
theorem LtW.drop {ns : List Int} {w i j : Nat} (hn : ∀ x ∈ ns, 0 ≤ x) (h : LtW ns w i j) : ns.drop i < ns.drop j := by
  obtain ⟨k, _, h1, h2⟩ := h
  exact pad_drop k hn h1 h2
/-- rs are the ranks of ks: in their order, from 1 on -/
structure IsRank (ks rs : List Int) : Prop where
  len : rs.length = ks.length
  lo : ∀ x ∈ rs, 1 ≤ x ∧ x ≤ (ks.length : Int)
  lt : ∀ (i j : Nat) (a b x y : Int), ks[i]? = some a → ks[j]? = some b → rs[i]? = some x → rs[j]? = some y → (x < y ↔ a < b)
/-- rs are the ranks of the suffixes as far as their first w numbers -/
structure RankW (ns : List Int) (w : Nat) (rs : List Int) : Prop where
  len : rs.length = ns.length
  lo : ∀ x ∈ rs, 1 ≤ x ∧ x ≤ (ns.length : Int)
  lt : ∀ (i j : Nat) (x y : Int), rs[i]? = some x → rs[j]? = some y → (x < y ↔ LtW ns w i j)
theorem IsRank.one {ns rs : List Int} (h : IsRank ns rs) : RankW ns 1 rs := by
  refine ⟨h.len, h.lo, fun i j x y hi hj => ?_⟩
  have li : i < ns.length := by
    rw [← h.len]
    exact (List.getElem?_eq_some_iff.mp hi).1
  have lj : j < ns.length := by
    rw [← h.len]
    exact (List.getElem?_eq_some_iff.mp hj).1
  rw [h.lt i j _ _ x y (List.getElem?_eq_getElem li) (List.getElem?_eq_getElem lj) hi hj]
  constructor
  · intro c
    refine ⟨0, Nat.one_pos, fun t ht => absurd ht (Nat.not_lt_zero t), ?_⟩
    rw [Nat.add_zero, Nat.add_zero, pad_at (List.getElem?_eq_getElem li), pad_at (List.getElem?_eq_getElem lj)]
    omega
  · rintro ⟨k, hk, _, h2⟩
    obtain rfl : k = 0 := by omega
    rw [Nat.add_zero, Nat.add_zero, pad_at (List.getElem?_eq_getElem li), pad_at (List.getElem?_eq_getElem lj)] at h2
    omega
theorem RankW.eq {ns rs : List Int} {w i j : Nat} {x y : Int} (h : RankW ns w rs) (hi : rs[i]? = some x) (hj : rs[j]? = some y) : x = y ↔ EqW ns w i j := by
  have a := h.lt i j x y hi hj
  have b := h.lt j i y x hj hi
  constructor
  · intro e
    rcases tri ns i j w with c | c | c
    · have := a.mpr c
      omega
    · exact c
    · have := b.mpr c
      omega
  · intro e
    have c := mt a.mp e.not
    have d := mt b.mp e.symm.not
    omega
/-- what stands w behind i -/
def beh (rs : List Int) (w i : Nat) : Int := (rs[i + w]?).getD 0
theorem beh_lt {ns rs : List Int} {w i j : Nat} (hn : ∀ x ∈ ns, 0 ≤ x) (hw : 0 < w) (h : RankW ns w rs) : beh rs w i < beh rs w j ↔ LtW ns w (i + w) (j + w) := by
  unfold beh
  by_cases ci : i + w < rs.length
  · by_cases cj : j + w < rs.length
    · rw [List.getElem?_eq_getElem ci, List.getElem?_eq_getElem cj]
      exact h.lt _ _ _ _ (List.getElem?_eq_getElem ci) (List.getElem?_eq_getElem cj)
    · rw [List.getElem?_eq_getElem ci, List.getElem?_eq_none (by omega)]
      have a := h.lo _ (List.getElem_mem ci)
      refine ⟨fun z => ?_, fun z => ?_⟩
      · have z' : rs[i + w] < 0 := z
        omega
      · obtain ⟨k, _, h1, h2⟩ := z
        rw [h.len] at ci cj
        rw [pad_end (i := j + w + k) (by omega)] at h2
        have := pad_nonneg hn (i + w + k)
        omega
  · by_cases cj : j + w < rs.length
    · rw [List.getElem?_eq_none (by omega), List.getElem?_eq_getElem cj]
      have a := h.lo _ (List.getElem_mem cj)
      refine ⟨fun _ => ⟨0, hw, fun t ht => absurd ht (Nat.not_lt_zero t), ?_⟩, fun _ => ?_⟩
      · rw [h.len] at ci cj
        rw [Nat.add_zero, Nat.add_zero, pad_end (by omega)]
        have := pad_pos hn cj
        omega
      · show (0 : Int) < rs[j + w]
        omega
    · rw [List.getElem?_eq_none (by omega), List.getElem?_eq_none (by omega)]
      refine ⟨fun z => absurd z (Int.lt_irrefl _), fun z => ?_⟩
      obtain ⟨k, _, h1, h2⟩ := z
      rw [h.len] at ci cj
      rw [pad_end (i := j + w + k) (by omega), pad_end (i := i + w + k) (by omega)] at h2
      exact absurd h2 (Int.lt_irrefl _)
theorem beh_lo {ns rs : List Int} {w : Nat} (h : RankW ns w rs) (i : Nat) : 0 ≤ beh rs w i ∧ beh rs w i ≤ (ns.length : Int) := by
  unfold beh
  by_cases ci : i + w < rs.length
  · rw [List.getElem?_eq_getElem ci]
    have a := h.lo _ (List.getElem_mem ci)
    show 0 ≤ rs[i + w] ∧ rs[i + w] ≤ _
    omega
  · rw [List.getElem?_eq_none (by omega)]
    show (0 : Int) ≤ 0 ∧ (0 : Int) ≤ _
    omega
theorem key_lt {n x y b d : Int} (b0 : 0 ≤ b) (b1 : b ≤ n) (d0 : 0 ≤ d) (d1 : d ≤ n) : (n + 1) * x + b < (n + 1) * y + d ↔ x < y ∨ (x = y ∧ b < d) := by
  have up : ∀ {u v : Int}, u < v → (n + 1) * u + (n + 1) ≤ (n + 1) * v := fun {u v} h => by
    have e : v = u + 1 + (v - u - 1) := by omega
    have p : 0 ≤ (n + 1) * (v - u - 1) := Int.mul_nonneg (by omega) (by omega)
    rw [e, Int.mul_add, Int.mul_add, Int.mul_one]
    omega
  rcases Int.lt_trichotomy x y with c | c | c
  · have := up c
    constructor
    · intro _
      exact .inl c
    · intro _
      omega
  · subst c
    omega
  · have := up c
    omega
/-- the keys of the next ranks -/
def keysOf (rs : List Int) (w : Nat) : List Int := (List.range rs.length).map fun i => ((rs.length : Int) + 1) * rs.getD i 0 + beh rs w i
theorem keysOf_len (rs : List Int) (w : Nat) : (keysOf rs w).length = rs.length := by
  unfold keysOf
  rw [List.length_map, List.length_range]
theorem keysOf_at {rs : List Int} {w i : Nat} {x : Int} (h : rs[i]? = some x) : (keysOf rs w)[i]? = some (((rs.length : Int) + 1) * x + beh rs w i) := by
  unfold keysOf
  rw [List.getElem?_map, List.getElem?_range (List.getElem?_eq_some_iff.mp h).1]
  have e : rs.getD i 0 = x := by
    rw [List.getD_eq_getElem?_getD, h]
    rfl
  show some (((rs.length : Int) + 1) * rs.getD i 0 + beh rs w i) = _
  rw [e]
theorem RankW.next {ns rs qs : List Int} {w : Nat} (hn : ∀ x ∈ ns, 0 ≤ x) (hw : 0 < w) (h : RankW ns w rs) (q : IsRank (keysOf rs w) qs) : RankW ns (w + w) qs := by
  have hl : qs.length = ns.length := by rw [q.len, keysOf_len, h.len]
  refine ⟨hl, fun x hx => ?_, fun i j a b hi hj => ?_⟩
  · have := q.lo x hx
    rw [keysOf_len, h.len] at this
    exact this
  · have li : i < rs.length := by
      rw [h.len, ← hl]
      exact (List.getElem?_eq_some_iff.mp hi).1
    have lj : j < rs.length := by
      rw [h.len, ← hl]
      exact (List.getElem?_eq_some_iff.mp hj).1
    have ei := List.getElem?_eq_getElem li
    have ej := List.getElem?_eq_getElem lj
    have bi := beh_lo h i
    have bj := beh_lo h j
    rw [← h.len] at bi bj
    rw [q.lt i j _ _ a b (keysOf_at ei) (keysOf_at ej) hi hj, key_lt bi.1 bi.2 bj.1 bj.2, ltw_double, h.lt i j _ _ ei ej, h.eq ei ej, beh_lt hn hw h]
theorem snocI {α : Type} {p : List α → Prop} (h0 : p []) (h1 : ∀ l k, p l → p (l ++ [k])) (l : List α) : p l := by
  have h : ∀ r : List α, p r.reverse := fun r => by
    induction r with
    | nil => exact h0
    | cons a r ih =>
      rw [List.reverse_cons]
      exact h1 _ _ ih
  have := h l.reverse
  rwa [List.reverse_reverse] at this
theorem oss_nodup : ∀ (l : List Int), l.Nodup → (ossOf l).length = l.length := by
  refine snocI (fun _ => rfl) fun l k ih => ?_
  · intro h
    have hp := (List.perm_append_singleton k l).nodup_iff.mp h
    obtain ⟨h1, h2⟩ := List.nodup_cons.mp hp
    rw [oss_next, if_neg (fun z => h1 (oss_has.mp z)), List.length_append, List.length_append, ih h2]
theorem nodup_oss : ∀ (l : List Int), l.length ≤ (ossOf l).length → l.Nodup := by
  refine snocI (fun _ => List.nodup_nil) fun l k ih => ?_
  · intro h
    have ol := oss_len l
    rw [oss_next, List.length_append] at h
    by_cases m : k ∈ ossOf l
    · rw [if_pos m] at h
      simp at h
      omega
    · rw [if_neg m, List.length_append] at h
      simp only [List.length_singleton] at h
      exact (List.perm_append_singleton k l).nodup_iff.mpr (List.nodup_cons.mpr ⟨fun z => m (oss_has.mpr z), ih (by omega)⟩)
theorem RankW.all {ns rs : List Int} {w : Nat} (hn : ∀ x ∈ ns, 0 ≤ x) (hw : ns.length ≤ w) (h : RankW ns w rs) : rs.Nodup := by
  rw [List.nodup_iff_pairwise_ne, List.pairwise_iff_getElem]
  intro i j hi hj hij e
  have q := (h.eq (List.getElem?_eq_getElem hi) (List.getElem?_eq_getElem hj)).mp e
  rw [h.len] at hj
  have := q (ns.length - j) (by omega)
  rw [pad_end (i := j + (ns.length - j)) (by omega)] at this
  have := pad_pos hn (show i + (ns.length - j) < ns.length by omega)
  omega
theorem inc_exact : ∀ (l : List Int) (a : Int), l.Pairwise (· < ·) → (∀ x ∈ l, a < x ∧ x ≤ a + l.length) → ∀ i x, l[i]? = some x → x = a + 1 + (i : Nat)
  | [], _, _, _, i, x, h => by simp at h
  | d :: r, a, p, b, i, x, h => by
    obtain ⟨p1, p2⟩ := List.pairwise_cons.mp p
    have bd := b d List.mem_cons_self
    have ih := inc_exact r (a + 1) p2 fun y hy => by
      have := b y (List.mem_cons_of_mem _ hy)
      have := p1 y hy
      rw [List.length_cons] at *
      omega
    cases i with
    | zero =>
      obtain rfl : d = x := by simpa using h
      cases r with
      | nil =>
        simp at bd
        simp
        omega
      | cons e r' =>
        have := ih 0 e rfl
        have := p1 e List.mem_cons_self
        simp at *
        omega
    | succ i =>
      have := ih i x (by simpa using h)
      omega
theorem starts_pw (ns : List Int) : (starts ns).Pairwise fun x y => ns.drop x ≤ ns.drop y := by
  have h := List.pairwise_mergeSort (le := fun x y : Nat => decide (ns.drop x ≤ ns.drop y)) (fun a b c h1 h2 => decide_eq_true (List.le_trans (of_decide_eq_true h1) (of_decide_eq_true h2)))
    (fun a b => by
      rcases List.le_total (ns.drop a) (ns.drop b) with c | c
      · rw [decide_eq_true c]
        rfl
      · rw [decide_eq_true c, Bool.or_true]) (List.range ns.length)
  exact h.imp fun h => of_decide_eq_true h
theorem starts_nodup (ns : List Int) : (starts ns).Nodup := (starts_perm ns).nodup_iff.mpr List.nodup_range
/-- where the ranks differ all, they tell the places in the sorted list -/
theorem RankW.place {ns rs : List Int} {w : Nat} (hn : ∀ x ∈ ns, 0 ≤ x) (h : RankW ns w rs) (nd : rs.Nodup) {p s : Nat} (hp : (starts ns)[p]? = some s) : rs[s]? = some ((p : Int) + 1) := by
  have mem : ∀ x ∈ starts ns, x < rs.length := fun x hx => by
    rw [h.len]
    exact starts_lt hx
  have pw : ((starts ns).map fun x => rs.getD x 0).Pairwise (· < ·) := by
    rw [List.pairwise_map]
    have both := (starts_pw ns).and (List.nodup_iff_pairwise_ne.mp (starts_nodup ns))
    refine both.imp_of_mem fun {x y} hx hy c => ?_
    have ex := List.getElem?_eq_getElem (mem x hx)
    have ey := List.getElem?_eq_getElem (mem y hy)
    rw [List.getD_eq_getElem?_getD, List.getD_eq_getElem?_getD, ex, ey]
    show rs[x]'(mem x hx) < rs[y]'(mem y hy)
    rcases Int.lt_trichotomy (rs[x]'(mem x hx)) (rs[y]'(mem y hy)) with z | z | z
    · exact z
    · exact absurd ((List.getElem_inj nd).mp z) c.2
    · have l := ((h.lt y x _ _ ey ex).mp z).drop hn
      exact absurd l (List.not_lt.mpr c.1)
  have bd : ∀ x ∈ (starts ns).map fun x => rs.getD x 0, 0 < x ∧ x ≤ 0 + (((starts ns).map fun x => rs.getD x 0).length : Int) := fun x hx => by
    obtain ⟨t, ht, rfl⟩ := List.mem_map.mp hx
    rw [List.getD_eq_getElem?_getD, List.getElem?_eq_getElem (mem t ht), List.length_map, starts_len]
    have := h.lo _ (List.getElem_mem (mem t ht))
    show 0 < rs[t]'(mem t ht) ∧ rs[t]'(mem t ht) ≤ _
    omega
  have e := inc_exact _ 0 pw bd p (rs.getD s 0) (by rw [List.getElem?_map, hp]; rfl)
  have hs := mem s (List.mem_of_getElem? hp)
  rw [List.getD_eq_getElem?_getD, List.getElem?_eq_getElem hs] at e
  rw [List.getElem?_eq_getElem hs]
  refine congrArg some ?_
  have e' : rs[s] = 0 + 1 + (p : Int) := e
  omega
end
/-! ### set(xs) and sorted(set(xs)) of a list of ints, any number below the scan's bound -/
section
open PySem PySem.Spec PyProof.Rows L2 PySem.W
section
variable {P : Program} {w : World} {A : Around} {E : Value → Shared → Prop} {s : Shared}
abbrev nSet (w : World) : Obj := { cls := .type "set", dict := none, data := .set #[] 0 (.fresh 0 0 (!w.params.followText "set-order")) }
set_option maxHeartbeats 3200000 in
theorem call_set_lst {l : Addr} {items : Array Value} (ns : List Int) {Q : Value → Shared → Prop} (hh : A.handled = none) (hl : s.heap.IsList l items) (hit : IntsAre items.toList ns) (hb : ns.length + 1 < scanBound)
    (h : ∀ (h' : Heap) (tk c : Nat), SetR w h' s.heap.objs.size (fun j => decide (j ∈ ns)) c → c ≤ ns.length → (∀ b o, s.heap.get? b = some o → h'.get? b = some o) → Q (.ref s.heap.objs.size) { s with heap := h', toks := tk }) :
    wpAny (model P w) A (call (.type "set") [.ref l]) Q E s := by
  have hisz : items.size = ns.length := by rw [← Array.length_toList]; exact IntsAre.length hit
  obtain ⟨c, tl, hmro⟩ := F.called_set.mro
  have hmade := F.called_set.made
  have hsub := F.called_set.sub
  have h1 := F.called_set.notType
  have h2 := F.called_set.canCreate
  have hct := F.typeCall_set_1 (.ref l)
  refine wpAny_call (codeAny_of_tree (show wpAny _ _ (callAny (.type "set") _) _ _ _ from wpAny_pure ⟨Code.quiet_builtin _ (by decide +kernel), codeAny_builtin F.entry_type_call ?_⟩))
  rw [Around.under_plain (weight_type_call_type "set" [.ref l] []) rfl]
  repeat (any_goals (first | assumption | wp_step))
  refine codeAny_mono (code_set_led1 (.ref l) (E := E) (Q₁ := fun ob s₁ => ob = .ref s.heap.objs.size ∧ s₁ = { s with heap := s.heap.push (nSet w) }) ⟨rfl, rfl⟩) fun r s₁ hr => ?_
  cases r with
  | error e => exact hr
  | ok fl =>
    cases fl with
    | ret ob =>
      obtain ⟨rfl, rfl⟩ := hr
      have hS : (s.heap.push (nSet w)).get? s.heap.objs.size = some (nSet w) := Heap.get?_push_size _ rfl
      have hT : Shared.TypeIs { s with heap := s.heap.push (nSet w) } (.ref s.heap.objs.size) "set" := ⟨_, hS, rfl⟩
      have hli := F.called_set.init.lookup
      have hbi := F.called_set.init.bind (.ref s.heap.objs.size)
      repeat (any_goals (first | assumption | wp_step))
      refine codeAny_mono (codeAny_call_builtin (R := wants (fun r s₂ => r = .none ∧ ∃ h' tk c, s₂ = { s with heap := h', toks := tk } ∧ SetR w h' s.heap.objs.size (fun j => decide (j ∈ ns)) c ∧ c ≤ ns.length ∧ ∀ b o, s.heap.get? b = some o → h'.get? b = some o) E)
        F.called_set.init.plain F.entry_set_init (check_set_init_1 hT ?_)) fun r₂ s₂ hr₂ => ?_
      · obtain ⟨⟨ocls, odict, odata, oslots⟩, hol, hcl, nl, hdl⟩ := hl
        simp only at hcl hdl
        subst hcl; subst hdl
        have hlS : l < s.heap.objs.size := Heap.lt_size hol
        have hol' : (s.heap.push (nSet w)).get? l = some { cls := .type "list", dict := odict, data := .seq items nl, slots := oslots } := Heap.get?_push_of_some _ hol
        have hsls := F.sub_list_set
        have hslf := F.sub_list_frozenset
        have hne : (Value.type "list" == Value.type "dict") = false := by decide
        have hl1 : (s.heap.push (nSet w)).IsList l items := ⟨_, hol', rfl, nl, rfl⟩
        have hh3 : A.in1.in1.in1.handled = none := by simp [hh]
        have hz1 : (s.heap.push (nSet w)).objs.size = s.heap.objs.size + 1 := Heap.size_push ..
        have hneI : l ≠ (s.heap.push (nSet w)).objs.size := by rw [hz1]; exact Nat.ne_of_lt (Nat.lt_succ_of_lt hlS)
        have hSf : s.heap.objs.size ∉ [(s.heap.push (nSet w)).objs.size, l] := by
          rw [hz1]
          simp only [List.mem_cons, List.not_mem_nil, or_false, not_or]
          exact ⟨Nat.ne_of_lt (Nat.lt_succ_self _), Nat.ne_of_gt hlS⟩
        have hval : ∀ (i : Nat) (v : Value), items[i]? = some v → ∃ k t, ns[i]? = some k ∧ v = .int k t := fun i v hv => by
          have hi : i < ns.length := by rw [← hisz]; exact (Array.getElem?_eq_some_iff.mp hv).1
          obtain ⟨t, e⟩ := PyProof.Rows.IntsAre.int_at hit i v (by rw [Array.getElem?_toList]; exact hv)
          refine ⟨ns[i], t, List.getElem?_eq_getElem hi, ?_⟩
          rw [e, List.getD_eq_getElem?_getD, List.getElem?_eq_getElem hi] <;> rfl
        unfold Builtin.«set.__init__» noKeywords Builtin.Frozenset.updateFrom
        generalize hPI : pyIter = PI
        wp_walk
        subst hPI
        refine wpAny_pyIter_list hl1 (wpAny_bind (wpAny_runValue ?_))
        refine set_update_ints ((Walks.list hh3 _ l hneI items).toS) s.heap.objs.size hSf ns hisz hb hval (items.size - 0) 0 _ (by omega) (Nat.zero_le _) ⟨⟨_, Heap.get?_push_size _ rfl, rfl, rfl⟩, (hl1.push _)⟩ ?hS0 ?hR
        case hS0 => exact ⟨0, Nat.le_refl 0, setR_new_at (Heap.get?_push_of_some _ hS)⟩
        case hR =>
          rintro ⟨h', g2, d', tk', os'⟩ c' hm hc' hS'
          obtain rfl : g2 = s.gens := hm.gens
          obtain rfl : d' = s.drawn := hm.drawn
          obtain rfl : os' = s.os := hm.os
          show wpAny _ _ _ _ _ _
          refine wpAny_pure ?_
          show wpAny _ _ (ret Value.none) _ _ _
          refine wpAny_pure ⟨rfl, h', tk', c', rfl, hS', by omega, fun b o e => ?_⟩
          have hb0 : b < s.heap.objs.size := Heap.lt_size e
          refine hm.heap b o ?_ (Heap.get?_push_of_some _ (Heap.get?_push_of_some _ e))
          rw [hz1]
          simp only [List.mem_cons, List.not_mem_nil, or_false, not_or]
          exact ⟨Nat.ne_of_lt hb0, Nat.ne_of_lt (Nat.lt_succ_of_lt hb0)⟩
      · cases r₂ with
        | error e => exact hr₂
        | ok fl₂ =>
          cases fl₂ with
          | ret r =>
            obtain ⟨rfl, h', tk, c', rfl, hS', hc', hk'⟩ := hr₂
            repeat (any_goals (first | assumption | wp_step))
            exact h _ _ _ hS' hc' hk'
          | _ => exact hr₂.elim
    | _ => exact hr.elim
theorem sorted_setAll {a : Addr} {S : Int → Bool} {n : Nat} {Q : Value → Shared → Prop} (R : SetR w s.heap a S n) (hh : A.handled = none)
    (hQ : ∀ s' p (out : Array Value) (c : Nat) (ns : List Int), (∀ b o, s.heap.get? b = some o → s'.heap.get? b = some o) → s'.gens = s.gens → s'.os = s.os → s.heap.objs.size ≤ p →
      s'.heap.get? p = some (seqObj "list" out c) → IntsAre out.toList ns → ns.Pairwise (· < ·) → (∀ k, k ∈ ns ↔ S k = true) → ns.length = n → Q (.ref p) s') : wpAny (model P w) A (call (.builtin "sorted") [.ref a]) Q E s := by
  obtain ⟨o, es, ep, t, ho, hex, hd, g, nd, hm, hb, hf, hn, hr, hl⟩ := R
  refine Calls.call_function_entry kind_sorted plain_sorted entry_sorted (args_sorted1 _) ?_
  unfold Builtin.«sorted»
  refine wpAny_bind (m := checkCount "sorted" 1 1 _) (wpAny_pure (wpAny_bind (collect_set (A := A.in1) hh ⟨o, ho, hex.1, hd⟩ hf hb hr hl fun s1 vs k1 hz g1 o1 pm => ?_)))
  have hvl : vs.length = n := by rw [pm.length_eq, List.length_map, Array.length_toList]; exact hn
  have hvz : vs.length ≤ sizeLine := by
    rw [pm.length_eq, List.length_map, Array.length_toList]
    exact fits_of_scanBound hb
  have hI : IntsAre vs (vs.map Builtin.Re.reRawOf) := ints_of vs fun v hv => by
    obtain ⟨e, he, q⟩ := List.mem_map.mp (pm.mem_iff.mp hv)
    obtain ⟨k, tk, h1, _⟩ := g e he
    exact ⟨k, tk, by rw [← q]; exact h1⟩
  have pk : (vs.map Builtin.Re.reRawOf).Perm (es.toList.map keyOf) := by
    have q := pm.map Builtin.Re.reRawOf
    rw [List.map_map] at q
    exact q
  refine wpAny_bind (wpAny_newList ?_ hvz)
  have hoL : (s1.heap.push (seqObj "list" vs.toArray 0)).get? s1.heap.objs.size = some (seqObj "list" vs.toArray 0) := Heap.get?_push_size _ rfl
  refine wpAny_bind (wpAny_holding (wpAny_call_entry slot_list_sort ⟨_, hoL, rfl⟩ entry_list_sort (SrtO.list_sort_ord SrtO.swo_int hoL hvz (fun h2 => SrtO.ints_sortable hI h2) fun out a1 a2 => ⟨_, rfl, ?_⟩) (args_list_sort _)))
  obtain ⟨k1', k2', k3'⟩ := SrtO.ints_out hI a1 a2
  obtain ⟨c, hc⟩ := sortedHeap_at (vs := vs) (out := out.toArray) hoL
  have pn : (out.map SrtO.iv).Perm (es.toList.map keyOf) := k2'.trans pk
  refine wpAny_pure ⟨_, rfl, hQ _ s1.heap.objs.size out.toArray c (out.map SrtO.iv) (fun b u e => ?_) g1 o1 hz hc (by simpa using k1') (lt_of_le_nodup _ k3' (pn.nodup_iff.mpr nd)) (fun k => by rw [pn.mem_iff, ← hm k]) ?_⟩
  · have q := k1 b u e
    have hlt := Heap.lt_size q
    show (sortedHeap (s1.heap.push (seqObj "list" vs.toArray 0)) s1.heap.objs.size vs out.toArray).get? b = some u
    rw [sortedHeap_old (Nat.ne_of_lt hlt) (by rw [size_push']; exact Nat.lt_succ_of_lt hlt)]
    exact Heap.get?_push_of_some _ q
  · rw [pn.length_eq, List.length_map, Array.length_toList]
    exact hn
end
variable {X : Cx}
/-- set(xs) of a list of ints -/
def rSetL (K : PySem.W.Frag) (w : World) : List V → Hp → VK → Prop := fun xs H Q => ∃ (l : Addr) (ns : List Int), xs = [V.ref l] ∧ SqL K H l (ns.map V.int) ∧ ns.length ≤ 4000 ∧ ∀ (p : Addr) (c : Nat), c ≤ ns.length → H p = none → Q (.ref p) (upd H p (SetO w p (fun j => decide (j ∈ ns)) c))
theorem cr_setL (hc : X.calm = true) : CallR X (.type "set") (rSetL X.K X.w) := by
  intro pins s σ H xs us Q I r h
  obtain ⟨l, ns, rfl, hq, hz, q⟩ := h
  obtain ⟨its, rv, pl, hz'⟩ := I.list hq
  rw [Vals.ref1 r]
  refine call_set_lst ns (I.ok.hd hc) pl.isList (by simpa using rv.ints) (by unfold scanBound; omega) fun h' tk c hS hcl hk => ?_
  exact ⟨.ref _, upd H s.heap.objs.size (SetO X.w s.heap.objs.size (fun j => decide (j ∈ ns)) c), I.laid (t' := tk) hk (Nat.le_refl _) (setO_new hS), rfl, q _ c hcl (I.hok.fresh (Nat.le_refl _))⟩
/-- sorted(found) of a set of ints, any number of them -/
def rSortedSetAll (w : World) : List V → Hp → VK → Prop := fun vs H Q => ∃ (a : Addr) (S : Int → Bool) (n : Nat), vs = [V.ref a] ∧ H a = some (SetO w a S n) ∧ n ≤ 4000 ∧
  ∀ (ns : List Int) (p : Addr), ns.Pairwise (· < ·) → (∀ k : Int, k ∈ ns ↔ S k = true) → ns.length = n → H p = none → Q (.ref p) (upd H p (.lst (ns.map V.int)))
theorem cr_sortedSetAll (hc : X.calm = true) : CallR X (.builtin "sorted") (rSortedSetAll X.w) := by
  intro pins s σ H vs us Q I r h
  obtain ⟨a, S, n, rfl, ha, hn4, q⟩ := h
  rw [Vals.ref1 r]
  refine sorted_setAll (setO_get I ha) (I.ok.hd hc) fun s' p out c ns k g o hp hg hi hs hm hl => ?_
  have hlen : (ns.map V.int).length ≤ sizeLine := line_ok6 (by rw [List.length_map]; omega)
  have hn : H p = none := I.hok.fresh hp
  have J : Inv X pins σ (upd H p (.lst (ns.map V.int))) { s with heap := s'.heap, gens := s'.gens, drawn := s'.drawn, toks := s'.toks } :=
    I.call (ch := []) (Un.laid k hp hn) (I.hok.laid k hp ⟨hlen, out.toList, c, vals_of_ints hi, hg⟩) (by rw [g]; exact I.bare) (fun _ z => nomatch z)
  have e : s' = { s with heap := s'.heap, gens := s'.gens, drawn := s'.drawn, toks := s'.toks } := by
    cases s'
    cases s
    cases o
    rfl
  rw [e]
  exact ⟨.ref p, _, J, rfl, q ns p hs hm hl hn⟩
/-- len(set(xs)) of a list of ints -/
def tLenSetAll (K : PySem.W.Frag) (ta : TE) : TE := fun σ H Q => ta σ H fun x H1 => ∃ (l : Addr) (ns : List Int), x = .ref l ∧ SqL K H1 l (ns.map V.int) ∧ ns.length ≤ 4000 ∧ Q (.int ((ossOf ns).length : Nat)) H1
theorem pe_lenSetAll {a : Expr} {ta : TE} {p p2 q pos : Pos} (hg : Gl X "len") (hm : X.mg "len" = none) (hg2 : Gl X "set") (hm2 : X.mg "set" = none) (ha : PE X a ta) (hc : X.calm = true := by rfl)
    (na : starEach [a] X.env = (false, eval a X.env) :: starEach [] X.env := by rfl) : PE X (.Call (.Name "len" p) [.Call (.Name "set" p2) [a] [] q] [] pos) (tLenSetAll X.K ta) := by
  constructor
  intro pins s σ H Q I h
  refine Call_ (ld_blt I hg hm boot_len (PyProof.Rows.callWith_builtin1 (PyProof.Rows.args_cons (Call_ (ld_blt I hg2 hm2 boot_set ?_)) rfl) rfl rfl))
  refine PyProof.Rows.callWith_type1 (PyProof.Rows.args_cons (thn (ha.run pins s σ H _ I h) fun v s1 ⟨x, H1, I1, r1, q1⟩ => PyProof.Rows.args_nil ?_) na) na rfl
  obtain ⟨l, ns, rfl, hq, hl, q1⟩ := q1
  cases r1
  obtain ⟨its, r, pl, hz⟩ := I1.list hq
  have hlen : its.toArray.size = ns.length := by rw [List.size_toArray, ← r.length, List.length_map]
  refine call_set_list (I1.ok.hd hc) pl.isList (by simpa using r.ints) (by rw [hlen]; unfold scanBound; omega) fun h' tk hS hk => PyProof.Rows.args_nil ?_
  rw [hlen, oss_met] at hS
  obtain ⟨o, es, ep, t, ho, hex, hd, _, _, _, hf, hn⟩ := hS
  have I2 : Inv X pins σ H1 { s1 with heap := h', toks := tk } := I1.kept fun b o e => hk b o (Heap.lt_size e) e
  have ol := oss_len ns
  exact call_len_set ho hex hd hf (by rw [hn] <;> omega) ⟨.int (ossOf ns).length, H1, I2.tok _, ⟨_, by rw [hn]⟩, q1⟩
end
/-! ### enumerate(xs, start=k) -/
section
open PySem PySem.Spec PyProof.Rows L2 PySem.W
theorem callWith_kwT {M : Model} {A : Around} {E : Value → Shared → Prop} {s : Shared} {env : Env} {pos : Pos} {U : String} {e : Expr} {rest : List Expr} {kws : List Keyword} {Q : Value → Shared → Prop}
    (h : wpAny M A (spliced (backTo pos (starEach (e :: rest) env))) (fun vs s₁ => wpAny M A (evalAll ((backToKw pos (keywordEach kws env)).map (·.2))) (fun kvs s₂ => wpAny M A (call (.type U) vs (((backToKw pos (keywordEach kws env)).filterMap (·.1)).zip kvs)) Q E s₂) E s₁) E s)
    (he : backTo pos (starEach (e :: rest) env) = (false, eval e env) :: backTo pos (starEach rest env)) (hplain : (backTo pos (starEach (e :: rest) env)).any (·.1) = false)
    (hall : (backToKw pos (keywordEach kws env)).all (·.1.isSome) = true) (hkw : (backToKw pos (keywordEach kws env)).any (·.1.isNone) = false) :
    wpAny M A (callWith pos (.type U) [] (backTo pos (starEach (e :: rest) env)) (backToKw pos (keywordEach kws env))) Q E s := by
  have h2 : wpAny M A (evalArgs (.type U) true (backTo pos (starEach (e :: rest) env)) (backToKw pos (keywordEach kws env))) (fun a s₁ => wpAny M A (call (.type U) ([] ++ a.pos) a.kw) Q E s₁) E s := by
    rw [he] at h ⊢
    exact evalArgs_kwB hall h
  unfold callWith
  refine wpAny_bind (wpAny_holding (wpAny_mono h2 (fun a s₁ h₁ => wpAny_bind (wpAny_standAt ?_)) fun _ _ x => x))
  simp only [hplain, hkw, Bool.or_false]
  refine wpAny_bind (wpAny_pure ?_)
  exact wpAny_bind (wpAny_mono h₁ (fun r s₂ hr => wpAny_bind (wpAny_holding (wpAny_point (wpAny_pure hr)))) fun _ _ x => x)
/-- the list at a as it stands at each turn, each item in a new pair with its number from k on -/
def ItS (K : PySem.W.Frag) (k : Int) (a : Addr) : It :=
  ⟨fun i H => ∃ (xs : List V) (x : V), SqL K H a xs ∧ xs[i]? = some x, fun i H v H' => ∃ T x, v = .ref T ∧ H T = none ∧ H' = upd H T (.tup [.int (k + (i : Nat)), x]) ∧ ∀ xs, SqL K H a xs → xs[i]? = some x, fun i H => ∃ xs : List V, SqL K H a xs ∧ xs.length = i⟩
theorem turn_enumS {P : Program} {w : World} {K : PySem.W.Frag} {elts : List Expr} {kk : Nat} {tpos : Pos} (k : Int) (a e it : Addr) (hea : e ≠ a) (hai : a ≠ it) (hne : e ≠ it) :
    Turn P w K (.Tuple elts kk tpos) (ItS K k a) [e, it] e (fun i h => (∃ old, IsEnum h e it (k + ((i : Nat) : Int)) old) ∧ h.IsListIter it a i) where
  mem := by simp
  obj := fun i h st b hb => by
    obtain ⟨⟨old, he⟩, ⟨o, ho, hc, hd⟩⟩ := st
    rcases (show b = e ∨ b = it by simpa using hb) with z | z
    · rw [z]
      exact ⟨_, he, fun v q => nomatch q⟩
    · rw [z]
      exact ⟨o, ho, fun v q => by rw [hd] at q; cases q⟩
  keep := fun i h h' st k => let ⟨⟨old, he⟩, hi⟩ := st; ⟨⟨old, k e (by simp) _ he⟩, hi.at fun o q => k it (by simp) o q⟩
  item := by
    intro X hP hw hK hc i pins s σ H E I hf st hg
    subst hP hw hK
    obtain ⟨⟨old, he⟩, hit⟩ := st
    obtain ⟨xs, x, hq, hx⟩ := hg
    obtain ⟨its, rv, p, hz⟩ := I.list hq
    obtain ⟨u, hu, ru⟩ := rv.get hx
    have hel : e < s.heap.objs.size := Heap.lt_size he
    have hil : it < s.heap.objs.size := by obtain ⟨_, q, _⟩ := hit; exact Heap.lt_size q
    have hin : i < its.toArray.size := by
      rw [List.size_toArray]
      exact (List.getElem?_eq_some_iff.mp hu).1
    have hef : e ∉ [it, a] := by
      simp only [List.mem_cons, List.not_mem_nil, or_false, not_or]
      exact ⟨hne, hea⟩
    refine wpAny_pyNext_enum_itemC (Draws.list (by simpa using I.ok.hd hc) it a hai its.toArray) he ⟨hit, p.isList⟩ hin hne hef fun x1 h' tk hx1 ho hst' hT hsz hk => ?_
    obtain rfl : x1 = u := by
      rw [List.getElem?_toArray, hu] at hx1
      exact (Option.some.inj hx1).symm
    refine ⟨_, rfl, wpAny_letOwnedTupleGo_enum (s := { s with heap := h', toks := tk + 1 }) ho fun h'' he' sb => ?_⟩
    have hT2 : h''.get? s.heap.objs.size = some { cls := .type "tuple", data := .seq #[.int (k + (i : Int)) tk, x1] } := (sb.2 _ (Nat.ne_of_gt hel)).trans hT
    have new : ObjOk X.prog X.w (upd H s.heap.objs.size (.tup [.int (k + (i : Nat)), x])) h'' s.heap.objs.size (.tup [.int (k + (i : Nat)), x]) :=
      ⟨by show 2 ≤ sizeLine; decide, [.int (k + (i : Int)) tk, x1], .cons ⟨_, rfl⟩ (.cons ru .nil), ⟨_, hT2, rfl, _, rfl⟩⟩
    have I1 : Inv X pins σ (upd H s.heap.objs.size (.tup [.int (k + (i : Nat)), x])) { s with heap := h'', toks := tk + 1 } :=
      I.turnedNew (ch := [e, it]) (fun b ob hb q => (sb.2 b (fun z => hb (by simp [z]))).trans (hk b ob (fun z => hb (by simp [z])) (fun z => hb (by simp [z])) q)) hf (Nat.le_refl _) new
    refine ⟨.ref s.heap.objs.size, _, I1, rfl, ⟨_, x, rfl, I.hok.fresh (Nat.le_refl _), rfl, fun ys hy => by rw [I.list_inj hy hq]; exact hx⟩, ⟨⟨x1, ?_⟩, hst'.1.at fun o q => (sb.2 it (Ne.symm hne)).trans q⟩, fun b hb => ?_⟩
    · rw [show k + ((i + 1 : Nat) : Int) = k + (i : Int) + 1 by omega]
      exact he'
    · have hb' : b < s.heap.objs.size := by
        rcases (show b = e ∨ b = it by simpa using hb) with z | z
        · rw [z]; exact hel
        · rw [z]; exact hil
      rw [upd_ne (Nat.ne_of_lt hb')]
      exact (hf b hb).1
  done := by
    intro X hP hw hK hc i pins s σ H E I hf st hg
    subst hP hw hK
    obtain ⟨⟨old, he⟩, hit⟩ := st
    obtain ⟨xs, hq, hx⟩ := hg
    obtain ⟨its, rv, p, hz⟩ := I.list hq
    obtain ⟨f0, f1, f2, f3, f4, f5⟩ := hf it (by simp)
    have hl := rv.length
    have hin : i = its.toArray.size := by
      rw [List.size_toArray]
      omega
    refine wpAny_pyNext_enum_endD (Draws.list (by simpa using I.ok.hd hc) it a hai its.toArray) he ⟨?_, p.isList⟩ fun h' eb => ⟨rfl, I.turned (t' := s.toks) (fun b o hb q => eb b o hb q) f0 f1 f3 f4 f5⟩
    rw [← hin]
    exact hit
  self := fun A i s Q E st h => let ⟨⟨_, he⟩, _⟩ := st; wpAny_pyIter_enum he h
def iEnumS (K : PySem.W.Frag) (k : Int) (ta : TA) : TI := fun σ H R => ta σ H fun vs H1 => ∃ a xs, vs = [.ref a] ∧ SqL K H1 a xs ∧ R (ItS K k a) H1
theorem pi_enumS {X : Cx} {e : Expr} {ta : TA} {k : Int} {j : Nat} {p pos tpos cp kp : Pos} {elts : List Expr} {kk : Nat} (hg : Gl X "enumerate") (hm : X.mg "enumerate" = none) (ha : PA X [e] ta) (hk0 : -(2 ^ 63) ≤ k) (hk1 : k < 2 ^ 63)
    (he1 : backTo pos (starEach [e] X.env) = (false, eval e X.env) :: backTo pos (starEach [] X.env) := by rfl) (hpl : (backTo pos (starEach [e] X.env)).any (·.1) = false := by rfl) :
    PI X (.Tuple elts kk tpos) (.Call (.Name "enumerate" p) [e] [⟨some "start", .Constant (.int k) j cp, kp⟩] pos) (iEnumS X.K k ta) := by
  constructor
  intro pins s σ H R I h
  refine wpAny_Call_Name_kw (ld_blt I hg hm boot_enumerate ?_)
  refine callWith_kwT (thn (ha.run pos pins s σ H _ I h) fun us s1 ⟨vs, H1, I1, r1, q1⟩ => ?_) he1 hpl (by rfl) (by rfl)
  obtain ⟨a, xs, ex, hq, q⟩ := q1
  subst ex
  refine kws_cons (thn ((pe_int (X := X) (i := k) (j := j) (pos := cp)).run pins s1 σ H1 (fun x H2 => x = .int k ∧ H2 = H1) I1 ⟨rfl, rfl⟩) fun v s2 ⟨x, H2, I2, r2, ex, eh⟩ => kws_nil ?_)
  subst ex eh
  obtain ⟨t, rfl⟩ := r2
  obtain ⟨u, rfl, ru⟩ := vals1 r1
  obtain rfl : u = Value.ref a := ru
  obtain ⟨its, rv, p', hz⟩ := I2.list hq
  show wpAny _ _ (call (.type "enumerate") [.ref a] [(Str.ofString "start", .int k t)]) _ _ s2
  refine enum_begins_start (begins_list a its.toArray) p'.isList hk0 hk1 fun h' he hit hsz hk => wpAny_pyIter_enum he ?_
  have I3 : Inv X pins σ H2 { s2 with heap := h' } := I2.kept (t' := s2.toks) hk
  have hal : a < s2.heap.objs.size := by
    obtain ⟨o, ho, _⟩ := p'.isList
    exact Heap.lt_size ho
  refine ⟨s2.heap.objs.size + 1, [s2.heap.objs.size + 1, s2.heap.objs.size], _, _, H2, rfl, I3, turn_enumS k a (s2.heap.objs.size + 1) s2.heap.objs.size (Nat.ne_of_gt (Nat.lt_succ_of_lt hal)) (Nat.ne_of_lt hal) (Nat.succ_ne_self _), ⟨⟨.none, ?_⟩, ⟨_, hit, rfl, rfl⟩⟩, fun b hb => ?_, q⟩
  · rw [show k + ((0 : Nat) : Int) = k by omega]
    exact he
  · have hle : s2.heap.objs.size ≤ b := by
      rcases (show b = s2.heap.objs.size + 1 ∨ b = s2.heap.objs.size by simpa using hb) with z | z
      · rw [z]; exact Nat.le_add_right _ _
      · rw [z]; exact Nat.le_refl _
    exact I2.fpOk hle (I2.hok.fresh hle)
end
/-! ### the ranks, the keys, the rows -/
def NR : List Str := ["keys", "rank_of", "rank", "key"]
def NK : List Str := ["ranks", "width", "behind", "base", "first", "second"]
def NS : List Str := ["numbers", "ranks", "width", "rows", "start", "rank"]
theorem scRanks : FnScope NR ["keys"] (defScope sRanks) := ⟨rfl, rfl, rfl, by decide +kernel, rfl, by decide +kernel, by decide +kernel⟩
theorem scKeys : FnScope NK ["ranks", "width"] (defScope sKeys) := ⟨rfl, rfl, rfl, by decide +kernel, rfl, by decide +kernel, by decide +kernel⟩
theorem scSuffix : FnScope NS ["numbers"] (defScope sSuffix) := ⟨rfl, rfl, rfl, by decide +kernel, rfl, by decide +kernel, by decide +kernel⟩
theorem dc_gen {J : It} {n : Nat} {g : TG} {tt : TT} {tk tv : TE} {vs : List Nat} {σ : L2.St} {H1 : Hp} {D : Addr} {Qd : Hp → Prop} (Pv : Nat → Hp → Prop) (h0 : Pv 0 (upd H1 D (.dK []))) (hgo : ∀ i H, i < n → Pv i H → J.go i H) (hstop : ∀ H, Pv n H → J.stop n H)
    (hs : ∀ i H x H', i < n → Pv i H → J.yld i H x H' → g x (wipe σ vs) H' fun σ2 H2 => wipe σ2 vs = wipe σ vs ∧ tt σ2 H2 fun b H3 =>
      if b = true then tk σ2 H3 fun y H4 => tv σ2 H4 fun z H5 => ∃ kvs k, y = kV k ∧ H5 D = some (.dK kvs) ∧ kvs.length < sizeLine ∧ Pv (i + 1) (upd H5 D (.dK (putK kvs k z))) else Pv (i + 1) H3) (hd : ∀ H, Pv n H → Qd H) :
    ∃ W : Nat → Nat → Hp → Prop, (∃ m, W 0 m (upd H1 D (.dK []))) ∧ ∀ i m H, W i m H →
      (J.stop i H ∧ Qd H) ∨ (J.go i H ∧ ∃ Nx : Hp → Prop, (∀ H', Nx H' → ∃ m', m' < m ∧ W (i + 1) m' H') ∧ ∀ x H', J.yld i H x H' → g x (wipe σ vs) H' fun σ2 H2 => wipe σ2 vs = wipe σ vs ∧ tt σ2 H2 fun b H3 =>
        if b = true then tk σ2 H3 fun y H4 => tv σ2 H4 fun z H5 => ∃ kvs k, y = kV k ∧ H5 D = some (.dK kvs) ∧ kvs.length < sizeLine ∧ Nx (upd H5 D (.dK (putK kvs k z))) else Nx H3) := by
  refine ⟨fun i m H => i + m = n ∧ Pv i H, ⟨n, Nat.zero_add n, h0⟩, fun i m H hw => ?_⟩
  obtain ⟨em, p⟩ := hw
  cases m with
  | zero =>
    obtain rfl : i = n := em
    exact .inl ⟨hstop H p, hd H p⟩
  | succ m =>
    have lt : i < n := by omega
    exact .inr ⟨hgo i H lt p, Pv (i + 1), fun H' p' => ⟨m, Nat.lt_succ_self m, by omega, p'⟩, fun x H' y => hs i H x H' lt p y⟩
/-- ys in order, with the members of ks: the places in ys, from 1 on, are the ranks of ks -/
theorem rank_places {ks ys rs : List Int} (hy : ys.Pairwise (· < ·)) (hl : ys.length ≤ ks.length) (hlen : rs.length = ks.length) (h : ∀ (i : Nat) (k : Int), ks[i]? = some k → ∃ t : Nat, ys[t]? = some k ∧ rs[i]? = some (1 + (t : Int))) : IsRank ks rs := by
  refine ⟨hlen, fun x hx => ?_, fun i j a b x y ha hb hi hj => ?_⟩
  · obtain ⟨i, hi⟩ := List.mem_iff_getElem?.mp hx
    have li : i < ks.length := by
      rw [← hlen]
      exact (List.getElem?_eq_some_iff.mp hi).1
    obtain ⟨t, h1, h2⟩ := h i _ (List.getElem?_eq_getElem li)
    have lt := (List.getElem?_eq_some_iff.mp h1).1
    rw [h2] at hi
    have e := Option.some.inj hi
    omega
  · obtain ⟨t, h1, h2⟩ := h i a ha
    obtain ⟨u, h3, h4⟩ := h j b hb
    rw [h2] at hi
    rw [h4] at hj
    have ex := Option.some.inj hi
    have ey := Option.some.inj hj
    obtain ⟨lt, e1⟩ := List.getElem?_eq_some_iff.mp h1
    obtain ⟨lu, e2⟩ := List.getElem?_eq_some_iff.mp h3
    have pw := List.pairwise_iff_getElem.mp hy
    rcases Nat.lt_trichotomy t u with c | c | c
    · have := pw t u lt lu c
      omega
    · subst c
      omega
    · have := pw u t lu lt c
      omega
theorem beh_list {rs : List Int} {w j : Nat} (hw : w ≤ rs.length) (hj : j < rs.length) : (rs.drop w ++ List.replicate w 0)[j]? = some (beh rs w j) := by
  unfold beh
  by_cases c : j + w < rs.length
  · rw [List.getElem?_append_left (by rw [List.length_drop]; omega), List.getElem?_drop, show w + j = j + w by omega, List.getElem?_eq_getElem c]
    rfl
  · rw [List.getElem?_append_right (by rw [List.length_drop]; omega), List.length_drop, List.getElem?_replicate, if_pos (by omega), List.getElem?_eq_none (by omega)]
    rfl
theorem rep_one {α : Type} (x : α) : ∀ n : Nat, (List.replicate n [x]).flatten = List.replicate n x
  | 0 => rfl
  | n + 1 => by
    rw [List.replicate_succ, List.flatten_cons, rep_one x n]
    rfl
def spRanks (K : PySem.W.Frag) : Sp := fun vs H Q _ => ∃ (a : Addr) (ks : List Int), vs = [.ref a] ∧ SqL K H a (ks.map V.int) ∧ ks.length ≤ 4000 ∧ ∀ (H' : Hp) (p : Addr) (rs : List Int), Same H H' → H p = none → H' p = some (LI rs) → IsRank ks rs → Q (.ref p) H'
def spKeys (K : PySem.W.Frag) : Sp := fun vs H Q _ => ∃ (a : Addr) (rs : List Int) (w : Nat), vs = [.ref a, .int (w : Int)] ∧ SqL K H a (rs.map V.int) ∧ rs.length ≤ 4000 ∧ w ≤ rs.length ∧ ∀ (H' : Hp) (p : Addr), Same H H' → H p = none → H' p = some (LI (keysOf rs w)) → Q (.ref p) H'
section
variable {P : Program} {w : World} {K : PySem.W.Frag} {mg : Str → Option Value} {base : Heap}
theorem ok_ranks {f : Addr} {fd : FuncData} {k : Nat} (F : Fun K "_ranks" "_ranks" sRanks f fd) (menum : mg "enumerate" = none) (msorted : mg "sorted" = none) (mset : mg "set" = none) : FnOk P w K mg base CX0 (k + 1) f fd ["keys"] (spRanks K) := by
  refine F.ok scRanks (fun vs H Q E h => ?_) (fun cdv A outer s H vs Q E hr h => ?_)
  · obtain ⟨a, ks, rfl, _⟩ := h
    rfl
  · obtain ⟨a, ks, rfl, hS, hn, q⟩ := h
    refine ⟨_, pss_cons (ps_set (i := 1) scRanks.nd rfl (.inr rfl) (pe_dc (own := [("rank", 2), ("key", 3)]) (g := gTup K 2 (gCons (gName 2) (gCons (gName 3) gNil))) (tt := tYes) (tk := tVar 3) (tv := tVar 2) (by rfl) scRanks.nd
        (pi_enumS (k := 1) (by rfl) menum (pa_cons (pe_callB (cr_sortedSetAll rfl) (by rfl) msorted (by decide +kernel) (pa_cons (pe_callTy (cr_setL rfl) (by rfl) mset (by decide +kernel) (pa_cons (pv 0) pa_nil)) pa_nil)) pa_nil) (by decide) (by decide))
        (blkOk_by (own := [("rank", 2), ("key", 3)]) (N := NR) (sc := defScope sRanks) (by decide +kernel))
        (fun _ _ _ _ _ => pg_tup rfl (pgs_cons (pg_name (i := 2) scRanks.nd rfl (Or.inl rfl)) (pgs_cons (pg_name (i := 3) scRanks.nd rfl (Or.inl rfl)) pgs_nil))) (fun _ _ _ _ _ => pts_nil) (fun _ _ _ _ _ => pv 3) (fun _ _ _ _ _ => pv 2)))
      (pss_one (ps_ret (pe_lc (own := [("key", 3)]) (g := gName 3) (tt := tYes) (te := tDGet (tVar 1) (tVar 3)) (by rfl) scRanks.nd (pi_list (pv 0))
        (blkOk_by (own := [("key", 3)]) (N := NR) (sc := defScope sRanks) (by decide +kernel))
        (fun _ _ _ _ _ => pg_name (i := 3) scRanks.nd rfl (Or.inl rfl)) (fun _ _ _ _ _ => pts_nil) (fun _ _ _ _ _ => pe_dget (hu_of hr) (pv 1) (pv 3) (fun _ _ => rfl))))), ?_⟩
    refine ⟨.ref a, rfl, a, ks, rfl, hS, hn, fun p c hc hp => ?_⟩
    refine ⟨p, _, c, rfl, upd_same, by omega, fun ys p2 hys hmem hlen hp2 => ?_⟩
    refine ⟨p2, ys.map V.int, rfl, .inl (.inl upd_same), fun D hD => ?_⟩
    have nDp2 := new_ne hD
    refine dc_gen (n := ys.length) (fun i H' => Same H H' ∧ H' p2 = some (LI ys) ∧ ∃ kvs : List (Key × V), H' D = some (.dK kvs) ∧ kvs.length ≤ i ∧ ∀ (t : Nat) (y : Int), t < i → ys[t]? = some y → valV kvs (.inl y) = some (.int (1 + (t : Int)))) ?_ ?_ ?_ ?_ ?_
    · refine ⟨((same_upd hp).trans (same_upd hp2)).trans (same_upd hD), ?_, [], upd_same, Nat.le_refl _, fun t y ht => absurd ht (Nat.not_lt_zero t)⟩
      rw [upd_ne nDp2.symm, upd_same]
    · rintro i H' hi ⟨sm, h2, _⟩
      exact ⟨ys.map V.int, _, .inl (.inl h2), map_int_at hi⟩
    · rintro H' ⟨sm, h2, _⟩
      exact ⟨ys.map V.int, .inl (.inl h2), List.length_map _⟩
    · rintro i H' v H2 hi ⟨sm, h2, kvs, hk, hkl, hv⟩ ⟨U, x, rfl, hU, rfl, hx⟩
      have ex := hx _ (.inl (.inl h2))
      rw [map_int_at hi] at ex
      obtain rfl : V.int ys[i] = x := Option.some.inj ex
      have nUD : D ≠ U := ne_of_none hk hU
      have nU2 : p2 ≠ U := ne_of_none h2 hU
      refine ⟨U, _, rfl, .inl (.inl upd_same), rfl, _, _, rfl, _, _, rfl, rfl, rfl, ?_⟩
      dsimp only [tYes]
      rw [if_pos rfl]
      refine ⟨_, rfl, _, rfl, kvs, .inl ys[i], rfl, by rw [upd_ne nUD]; exact hk, line_lt (by omega), ?_, ?_, _, upd_same, ?_, fun t y ht hty => ?_⟩
      · intro b o e
        rw [upd_ne (ne_of_none e (((same_upd hp).trans (same_upd hp2)).free hD)), upd_ne (ne_of_none (sm b o e) hU)]
        exact sm b o e
      · rw [upd_ne nDp2.symm, upd_ne nU2]
        exact h2
      · have := length_putK kvs (.inl ys[i]) (V.int (1 + (i : Nat)))
        omega
      · rw [valV_put]
        by_cases c : t = i
        · subst c
          rw [List.getElem?_eq_getElem hi] at hty
          rw [if_pos (by rw [Option.some.inj hty])]
        · have lt : t < i := by omega
          rw [if_neg, hv t y lt hty]
          intro z
          have z2 : y = ys[i] := by cases z; rfl
          obtain ⟨l1, e1⟩ := List.getElem?_eq_some_iff.mp hty
          have := List.pairwise_iff_getElem.mp hys t i l1 hi lt
          omega
    · rintro H' ⟨sm, h2, kvs, hk, hkl, hv⟩
      refine ⟨.ref a, rfl, a, rfl, ⟨_, sm.seq hS⟩, fun D2 hD2 => ?_⟩
      have nD2 : D ≠ D2 := ne_of_none hk hD2
      refine lc_list (K := K) (xs := ks.map V.int) (fun j H2 => Same H' H2 ∧ ∃ rs : List Int, H2 D2 = some (LI rs) ∧ rs.length = j ∧ ∀ (i : Nat) (k : Int), i < j → ks[i]? = some k → ∃ t : Nat, ys[t]? = some k ∧ rs[i]? = some (1 + (t : Int))) ?_ (fun j H2 _ h => h.1.seq (sm.seq hS)) ?_ ?_
      · exact ⟨same_upd hD2, [], upd_same, rfl, fun i k hi => absurd hi (Nat.not_lt_zero i)⟩
      · rintro j y H2 hjy ⟨s2, rs, hr2, hl2, hall⟩
        rw [List.getElem?_map] at hjy
        obtain ⟨n, hn1, rfl⟩ := Option.map_eq_some_iff.mp hjy
        refine ⟨rfl, ?_⟩
        dsimp only [tYes]
        rw [if_pos rfl]
        have hj : j < ks.length := (List.getElem?_eq_some_iff.mp hn1).1
        obtain ⟨t, ht⟩ := List.mem_iff_getElem?.mp ((hmem n).mpr (decide_eq_true (List.mem_of_getElem? hn1)))
        refine ⟨.ref D, rfl, .int n, rfl, D, .int (1 + (t : Int)), rfl, ?_, rs.map V.int, hr2, line_lt (by rw [List.length_map]; omega), ?_, rs ++ [1 + (t : Int)], ?_, by rw [List.length_append, hl2]; rfl, fun i k hi hik => ?_⟩
        · rw [← hv t n (List.getElem?_eq_some_iff.mp ht).1 ht]
          exact DGet.k (k := Sum.inl n) (s2 _ _ hk)
        · intro b o e
          rw [upd_ne (ne_of_none e hD2)]
          exact s2 b o e
        · rw [upd_same]
          exact congrArg some (LI_snoc _ _).symm
        · by_cases c : i < j
          · obtain ⟨t2, h3, h4⟩ := hall i k c hik
            refine ⟨t2, h3, ?_⟩
            rw [List.getElem?_append_left (by omega)]
            exact h4
          · obtain rfl : i = j := by omega
            rw [hn1] at hik
            obtain rfl := Option.some.inj hik
            refine ⟨t, ht, ?_⟩
            rw [List.getElem?_append_right (by omega), hl2, Nat.sub_self]
            rfl
      · rintro H2 ⟨s2, rs, hr2, hl2, hall⟩
        rw [List.length_map] at hl2 hall
        have nf : H D2 = none := sm.free hD2
        refine q H2 D2 rs (sm.trans s2) nf hr2 (rank_places hys (by omega) hl2 fun i k hik => hall i k ?_ hik)
        exact (List.getElem?_eq_some_iff.mp hik).1
theorem ok_keys {f : Addr} {fd : FuncData} {k : Nat} (F : Fun K "_joined_keys" "_joined_keys" sKeys f fd) (B : Bl mg) (mzip : mg "zip" = none) : FnOk P w K mg base CX0 (k + 1) f fd ["ranks", "width"] (spKeys K) := by
  refine F.ok scKeys (fun vs H Q E h => ?_) (fun cdv A outer s H vs Q E hr h => ?_)
  · obtain ⟨a, rs, j, rfl, _⟩ := h
    rfl
  · obtain ⟨a, rs, j, rfl, hS, hn, hj, q⟩ := h
    refine ⟨_, pss_cons (ps_set (i := 2) scKeys.nd rfl (.inl rfl) (pe_op op_cat (pe_slice sl_list (pv 0) (po_some (pv 1)) po_none) (pe_op op_rep (pe_lst (pa_cons pe_int pa_nil)) (pv 1))))
      (pss_cons (ps_set (i := 3) scKeys.nd rfl (.inr rfl) (pe_op op_add (pe_callB call_len_seq (by rfl) B.len PySem.boot_len (pa_cons (pv 0) pa_nil)) pe_int))
      (pss_one (ps_ret (pe_lc (own := [("first", 4), ("second", 5)]) (g := gTup K 2 (gCons (gName 4) (gCons (gName 5) gNil))) (tt := tYes) (te := tOp (rI0 fun i j => V.int (i + j)) (tOp (rI CMul fun i j => V.int (i * j)) (tVar 3) (tVar 4)) (tVar 5)) (by rfl) scKeys.nd
        (pi_zip (by rfl) mzip (pa_cons (pv 0) (pa_cons (pv 2) pa_nil))) (blkOk_by (own := [("first", 4), ("second", 5)]) (N := NK) (sc := defScope sKeys) (by decide +kernel))
        (fun _ _ _ _ _ => pg_tup rfl (pgs_cons (pg_name (i := 4) scKeys.nd rfl (Or.inl rfl)) (pgs_cons (pg_name (i := 5) scKeys.nd rfl (Or.inl rfl)) pgs_nil))) (fun _ _ _ _ _ => pts_nil)
        (fun _ _ _ _ _ => pe_op op_add (pe_op op_mul (pv 3) (pv 4)) (pv 5)))))), ?_⟩
    refine ⟨.ref a, rfl, .int j, rfl, _, rfl, a, _, rfl, hS, fun p1 hp1 => ?_⟩
    refine ⟨by show 1 ≤ sizeLine; decide, fun p2 hp2 => ?_⟩
    have n12 := new_ne hp2
    refine ⟨.int j, rfl, p2, _, _, rfl, rfl, upd_same, by omega, by omega, line_ok7 (by show 1 * (j : Int).toNat ≤ _; omega), fun p3 hp3 => ?_⟩
    have n13 := new_ne hp3
    have hcut : L2.cutV (rs.map V.int) (some (j : Int)) none = (rs.drop j).map V.int := by rw [cutV_from, ← List.map_drop]
    have hrep : (List.replicate (j : Int).toNat [V.int 0]).flatten = (List.replicate j (0 : Int)).map V.int := by rw [Int.toNat_natCast, rep_one, List.map_replicate]
    have n23 : p1 ≠ p3 := fun z => by
      rw [← z, upd_ne n12.symm, upd_same] at hp3
      cases hp3
    refine ⟨p1, p3, (rs.drop j).map V.int, (List.replicate j (0 : Int)).map V.int, rfl, rfl, ?_, ?_, line_ok7 (by rw [List.length_map, List.length_map, List.length_drop, List.length_replicate]; omega), fun p4 hp4 => ?_⟩
    · rw [upd_ne n23, upd_ne n12.symm, upd_same, hcut]
    · rw [upd_same, hrep]
    have s4 := (((same_upd hp1).trans (same_upd hp2)).trans (same_upd hp3)).trans (same_upd (o := .lst ((rs.drop j).map V.int ++ (List.replicate j (0 : Int)).map V.int)) hp4)
    refine ⟨.ref a, rfl, a, _, rfl, .inl (s4.seq hS), _, 1, rfl, rfl, ?_⟩
    have hlm : (rs.map V.int).length = rs.length := List.length_map _
    refine ⟨.ref a, rfl, .ref p4, rfl, a, p4, rs.map V.int, (rs.drop j ++ List.replicate j 0).map V.int, rfl, s4.seq hS, .inl (.inl (by rw [upd_same, List.map_append])), fun D hD => ?_⟩
    have nD4 : p4 ≠ D := (new_ne hD).symm
    refine lc_gen (n := rs.length) (fun i H' => Same H H' ∧ H' p4 = some (LI (rs.drop j ++ List.replicate j 0)) ∧ H' D = some (LI ((keysOf rs j).take i))) ?_ ?_ ?_ ?_ ?_
    · refine ⟨s4.trans (same_upd hD), ?_, upd_same⟩
      rw [upd_ne nD4, upd_same]
      exact congrArg some (congrArg HO.lst (List.map_append ..).symm)
    · rintro i H' hi ⟨sm, h4, hd⟩
      exact ⟨_, _, _, _, sm.seq hS, .inl (.inl h4), map_int_at hi, by rw [List.getElem?_map, beh_list hj hi]; rfl⟩
    · rintro H' ⟨sm, h4, hd⟩
      exact ⟨_, _, sm.seq hS, .inl (.inl h4), .inl (by rw [hlm]; exact Nat.le_refl _)⟩
    · rintro i H' v H2 hi ⟨sm, h4, hd⟩ ⟨U, x, y, rfl, hU, rfl, hx, hy⟩
      have ex := hx _ (sm.seq hS)
      have ey := hy _ (.inl (.inl h4))
      rw [map_int_at hi] at ex
      rw [List.getElem?_map, beh_list hj hi] at ey
      obtain rfl : V.int rs[i] = x := Option.some.inj ex
      obtain rfl : V.int (beh rs j i) = y := Option.some.inj ey
      have nUD : D ≠ U := ne_of_none hd hU
      have nU4 : p4 ≠ U := ne_of_none h4 hU
      refine ⟨U, _, rfl, .inl (.inl upd_same), rfl, _, _, rfl, _, _, rfl, rfl, rfl, ?_⟩
      dsimp only [tYes]
      rw [if_pos rfl]
      refine ⟨_, rfl, _, rfl, _, _, rfl, rfl, .inl ⟨by omega, by omega⟩, _, rfl, _, _, rfl, rfl, _, by rw [upd_ne nUD]; exact hd, line_lt (by rw [List.length_map, List.length_take]; omega), ?_, ?_, ?_⟩
      · intro b o e
        rw [upd_ne (ne_of_none e (s4.free hD)), upd_ne (ne_of_none (sm b o e) hU)]
        exact sm b o e
      · rw [upd_ne nD4, upd_ne nU4]
        exact h4
      · rw [upd_same, List.take_add_one, keysOf_at (List.getElem?_eq_getElem hi), hlm]
        exact congrArg some (LI_snoc _ _).symm
    · rintro H' ⟨sm, h4, hd⟩
      refine q H' D sm (s4.free hD) ?_
      rw [hd, List.take_of_length_le (by rw [keysOf_len]; exact Nat.le_refl _)]
end
def spRows (K : PySem.W.Frag) : Sp := fun vs H Q _ => ∃ (a : Addr) (ns : List Int), vs = [.ref a] ∧ SqL K H a (ns.map V.int) ∧ Num ns ∧ ns.length ≤ 4000 ∧ ∀ (H' : Hp) (p : Addr), Same H H' → H p = none → H' p = some (LN (starts ns)) → Q (.ref p) H'
theorem LN_LI (ks : List Nat) : LN ks = LI (ks.map fun k : Nat => (k : Int)) := by
  show HO.lst _ = HO.lst _
  rw [List.map_map]
  rfl
section
variable {P : Program} {w : World} {K : PySem.W.Frag} {mg : Str → Option Value} {base : Heap}
open PySem.W in
theorem ok_suffix {f : Addr} {fd : FuncData} {k : Nat} (F : Fun K "suffix_rows" "suffix_rows" sSuffix f fd) (B : Bl mg) (menum : mg "enumerate" = none) (mset : mg "set" = none) (hR : Has P w K mg base k "_ranks" ["keys"] (spRanks K)) (hK : Has P w K mg base k "_joined_keys" ["ranks", "width"] (spKeys K)) :
    FnOk P w K mg base CX0 (k + 1) f fd ["numbers"] (spRows K) := by
  obtain ⟨fR, dR, GR, gR, kR, bR⟩ := hR
  obtain ⟨fK, dK, GK, gK, kK, bK⟩ := hK
  refine F.ok scSuffix (fun vs H Q E h => ?_) (fun cdv A outer s H vs Q E hr h => ?_)
  · obtain ⟨a, ks, rfl, _⟩ := h
    rfl
  · obtain ⟨a, ns, rfl, hS, hnum, hn, q⟩ := h
    have hnn : ∀ x ∈ ns, 0 ≤ x := fun x hx => (hnum x hx).1
    have hlm : (ns.map V.int).length = ns.length := List.length_map _
    refine ⟨_, pss_cons (ps_set (i := 1) scSuffix.nd rfl (.inl rfl) (pe_call GR hr (by rfl) gR kR bR .nil pass0 (pa_cons (pv 0) pa_nil)))
      (pss_cons (ps_set (i := 2) scSuffix.nd rfl (.inl rfl) pe_int)
      (C8.pss_cut (ps_while PassesOwn.never (pt_cmpR op_lt (pe_lenSetAll (by rfl) B.len (by rfl) mset (pv 1)) (pe_callB call_len_seq (by rfl) B.len PySem.boot_len (pa_cons (pv 0) pa_nil)) (nomark _))
        (pss_cons (ps_set (i := 1) scSuffix.nd rfl (.inl rfl) (pe_call GR hr (by rfl) gR kR bR .nil pass0 (pa_cons (pe_call GK hr (by rfl) gK kK bK .nil pass0 (pa_cons (pv 1) (pa_cons (pv 2) pa_nil))) pa_nil)))
        (pss_one (ps_aug (i := 2) scSuffix.nd rfl (.inl rfl) pe_int iop_mul))))
      (pss_cons (ps_set (i := 3) scSuffix.nd rfl (.inl rfl) (pe_op op_rep (pe_lst (pa_cons pe_int pa_nil)) (pe_callB call_len_seq (by rfl) B.len PySem.boot_len (pa_cons (pv 0) pa_nil))))
      (pss_cons (ps_for PassesOwn.never rfl (pi_enum (by rfl) menum (pa_cons (pv 1) pa_nil)) (pg_tup rfl (pgs_cons (pg_name (i := 4) scSuffix.nd rfl (.inl rfl)) (pgs_cons (pg_name (i := 5) scSuffix.nd rfl (.inl rfl)) pgs_nil)))
        (pss_one (ps_asg (pv 4) (pg_sub (pv 3) (pe_op op_sub (pv 5) pe_int) set_list))))
      (pss_one (ps_ret (pv 3))))))), ?_⟩
    refine ⟨.ref a, rfl, a, ns, rfl, hS, hn, fun H1 p1 rs1 s1 hp1 hr1 ir1 => ?_⟩
    refine ⟨fun σ H' => Same H H' ∧ ∃ (p : Addr) (rs : List Int) (wd : Nat), H' p = some (LI rs) ∧ RankW ns wd rs ∧ rs.Nodup ∧ σ = [some (.ref a), some (.ref p), some (.int (wd : Int)), none, none, none], ?_, ?_⟩
    · refine while_by (fun σ H' => Same H H' ∧ ∃ (p : Addr) (rs : List Int) (wd : Nat), H' p = some (LI rs) ∧ RankW ns wd rs ∧ 0 < wd ∧ σ = [some (.ref a), some (.ref p), some (.int (wd : Int)), none, none, none])
        (fun (σ : L2.St) (_ : Hp) => match σ[2]? with | some (some (V.int x)) => ns.length - x.toNat | _ => 0) ⟨s1, p1, rs1, 1, hr1, ir1.one, by decide, rfl⟩ ?_ ?_
      · rintro σ H' ⟨sm, p, rs, wd, hp, rk, hw, rfl⟩
        refine ⟨.ref p, rfl, p, rs, rfl, .inl (.inl hp), by rw [rk.len]; exact hn, .ref a, rfl, a, _, rfl, .inl (sm.seq hS), _, _, rfl, rfl, _, rfl, ite2 (fun e => ?_) (fun e => ?_)⟩
        · have lt := of_decide_eq_true e
          rw [hlm] at lt
          have hwn : wd < ns.length := by
            by_cases c : wd < ns.length
            · exact c
            · have nd := oss_nodup rs (rk.all hnn (by omega))
              rw [rk.len] at nd
              omega
          refine ⟨.ref p, rfl, .int wd, rfl, p, rs, wd, rfl, .inl (.inl hp), by rw [rk.len]; exact hn, by rw [rk.len]; omega, fun H2 p2 s2 hp2 hk2 => ?_⟩
          refine ⟨p2, keysOf rs wd, rfl, .inl (.inl hk2), by rw [keysOf_len, rk.len]; exact hn, fun H3 p3 qs s3 hp3 hr3 ir3 => ?_⟩
          refine ⟨.int wd, rfl, _, 2, rfl, rfl, .inl ⟨by omega, by omega⟩, ⟨(sm.trans s2).trans s3, p3, qs, wd + wd, hr3, rk.next hnn hw ir3, by omega, ?_⟩, ?_⟩
          · rw [show ((wd + wd : Nat) : Int) = (wd : Int) * 2 by omega]
            rfl
          · show ns.length - ((wd : Int) * 2).toNat < ns.length - (wd : Int).toNat
            omega
        · refine ⟨sm, p, rs, wd, hp, rk, nodup_oss rs ?_, rfl⟩
          have ge : ¬ ((ossOf rs).length : Int) < ((ns.map V.int).length : Nat) := fun z => e (decide_eq_true z)
          rw [hlm] at ge
          rw [rk.len]
          omega
      · rintro σ H' Q1 Q2 m ⟨v, e1, l, xs, rfl, h1, h2, v2, e2, p, ys, e3, h3, i, j, e4, e5, b, e6, h6⟩
        exact ⟨_, e1, l, xs, rfl, h1, h2, v2, e2, p, ys, e3, h3, i, j, e4, e5, b, e6, m _ _ h6⟩
    · rintro σ H' ⟨sm, p, rs, wd, hp, rk, nd, rfl⟩
      refine ⟨by show 1 ≤ sizeLine; decide, fun pz hpz => ?_⟩
      have npz : p ≠ pz := ne_of_none hp hpz
      refine ⟨.ref a, rfl, a, _, rfl, .inl ((sm.trans (same_upd hpz)).seq hS), pz, _, _, rfl, rfl, upd_same, by omega, by omega, line_ok7 (by rw [hlm]; show 1 * (ns.length : Int).toNat ≤ _; omega), fun pr hpr => ?_⟩
      have nzr := new_ne hpr
      have hrep : (List.replicate (((ns.map V.int).length : Nat) : Int).toNat [V.int 0]).flatten = (List.replicate ns.length (0 : Int)).map V.int := by rw [Int.toNat_natCast, rep_one, List.map_replicate, hlm]
      have npr : p ≠ pr := fun z => by
        rw [← z, upd_ne npz] at hpr
        rw [hp] at hpr
        cases hpr
      have s2 : Same H' (upd (upd H' pz (.lst [V.int 0])) pr (.lst (List.replicate (((ns.map V.int).length : Nat) : Int).toNat [V.int 0]).flatten)) := (same_upd hpz).trans (same_upd hpr)
      have nfr : H pr = none := (sm.trans (same_upd hpz)).free hpr
      have hp2 := s2 _ _ hp
      refine ⟨.ref p, rfl, p, rs.map V.int, rfl, .inl (.inl hp2), ?_⟩
      refine for_gen (n := rs.length) (fun i σ H2 => (∀ b o, H b = some o → H2 b = some o) ∧ H2 p = some (LI rs) ∧ ∃ (ls : List Int) (v4 v5 : Option V), H2 pr = some (LI ls) ∧ ls.length = ns.length ∧
        (∀ (t : Nat) (x : Int), t < i → rs[t]? = some x → ls[(x - 1).toNat]? = some (t : Int)) ∧ σ = [some (.ref a), some (.ref p), some (.int (wd : Int)), some (.ref pr), v4, v5]) ?_ ?_ ?_ ?_ ?_
      · refine ⟨(sm.trans s2), hp2, List.replicate ns.length 0, none, none, ?_, List.length_replicate, fun t x ht => absurd ht (Nat.not_lt_zero t), rfl⟩
        rw [upd_same, hrep]
      · rintro i σ H2 hi ⟨s3, h3, _⟩
        exact ⟨_, _, .inl (.inl h3), map_int_at hi⟩
      · rintro σ H2 ⟨s3, h3, _⟩
        exact ⟨_, .inl (.inl h3), by rw [List.length_map]; exact Nat.le_refl _⟩
      · rintro i σ H2 v H3 hi ⟨s3, h3, ls, v4, v5, hls, hll, hall, rfl⟩ ⟨U, x, rfl, hU, rfl, hx⟩
        have ex := hx _ (.inl (.inl h3))
        rw [map_int_at hi] at ex
        obtain rfl : V.int rs[i] = x := Option.some.inj ex
        have nUp : p ≠ U := ne_of_none h3 hU
        have nUr : pr ≠ U := ne_of_none hls hU
        have bd := rk.lo _ (List.getElem_mem hi)
        refine ⟨U, _, rfl, .inl (.inl upd_same), rfl, _, _, rfl, _, _, rfl, rfl, ?_⟩
        refine ⟨_, rfl, .ref pr, rfl, _, rfl, _, 1, rfl, rfl, pr, _, _, (rs[i] - 1).toNat, rfl, rfl, by rw [upd_ne nUr]; exact hls, ix_set (by omega) (by rw [List.length_map]; omega), ?_⟩
        refine ⟨fun b o e => ?_, ?_, ls.set (rs[i] - 1).toNat (i : Int), _, _, ?_, by rw [List.length_set]; exact hll, fun t x ht hxt => ?_, rfl⟩
        · rw [upd_ne (ne_of_none e nfr), upd_ne (ne_of_none (s3 b o e) hU)]
          exact s3 b o e
        · rw [upd_ne npr, upd_ne nUp]
          exact h3
        · rw [upd_same]
          show some (HO.lst ((ls.map V.int).set (rs[i] - 1).toNat (V.int (i : Nat)))) = _
          rw [← List.map_set]
        · by_cases c : t = i
          · subst c
            rw [List.getElem?_eq_getElem hi] at hxt
            obtain rfl := Option.some.inj hxt
            rw [List.getElem?_set, if_pos rfl, if_pos (by omega)]
          · have lt : t < i := by omega
            have bx := rk.lo x (List.mem_of_getElem? hxt)
            have ne : rs[i] ≠ x := fun z => by
              obtain ⟨lt2, e2⟩ := List.getElem?_eq_some_iff.mp hxt
              rw [← e2] at z
              exact c ((List.getElem_inj nd).mp z).symm
            rw [List.getElem?_set_ne (by omega)]
            exact hall t x lt hxt
      · rintro σ H2 ⟨s3, h3, ls, v4, v5, hls, hll, hall, rfl⟩
        refine ⟨.ref pr, rfl, q H2 pr s3 nfr ?_⟩
        rw [hls, LN_LI]
        refine congrArg (fun z => some (LI z)) (List.ext_getElem? fun i => ?_)
        rw [List.getElem?_map]
        by_cases c : i < (starts ns).length
        · have e := List.getElem?_eq_getElem c
          have pl := rk.place hnn nd e
          have lt : (starts ns)[i] < rs.length := (List.getElem?_eq_some_iff.mp pl).1
          have := hall _ _ lt pl
          rw [show ((i : Int) + 1 - 1).toNat = i by omega] at this
          rw [this, e]
          rfl
        · have sl := starts_len ns
          rw [List.getElem?_eq_none (by omega), List.getElem?_eq_none (by omega)]
          rfl
end
/-! ### the index: what its lists hold -/
def prevI (n s : Nat) : Nat := if s = 0 then n - 1 else s - 1
theorem prevI_lt {n s : Nat} (h : s < n) : prevI n s < n := by
  unfold prevI
  split <;> omega
/-- the last column -/
def lastc (ns : List Int) : List Int := (starts ns).map fun s => ns.getD (prevI ns.length s) 0
theorem lastc_len (ns : List Int) : (lastc ns).length = ns.length := by
  unfold lastc
  rw [List.length_map, starts_len]
def lessN (ns : List Int) (s : Nat) : Nat := ns.countP fun x => decide (x < (s : Int))
/-- how many are less, for each symbol -/
def sml (ns : List Int) : List Int := (List.range 7).map fun s : Nat => ((lessN ns s : Nat) : Int)
theorem lessN_zero {ns : List Int} (h : ∀ x ∈ ns, 0 ≤ x) : lessN ns 0 = 0 := by
  unfold lessN
  rw [List.countP_eq_zero]
  intro x hx
  have := h x hx
  simp
  omega
theorem lessN_succ (ns : List Int) (s : Nat) : lessN ns (s + 1) = lessN ns s + ns.count (s : Int) := by
  unfold lessN
  induction ns with
  | nil => rfl
  | cons x r ih =>
    rw [List.countP_cons, List.countP_cons, List.count_cons, ih]
    by_cases e : x = (s : Int)
    · subst e
      rw [if_pos (by simp; omega), if_neg (by simp), if_pos (by simp)]
      omega
    · by_cases l : x < (s : Int)
      · rw [if_pos (by simp; omega), if_pos (by simp; omega), if_neg (by simpa using e)]
        omega
      · rw [if_neg (by simp; omega), if_neg (by simp; omega), if_neg (by simpa using e)]
        rfl
/-- the counts of all symbols before a row -/
def cnt7 (L : List Int) (r : Nat) : List Int := (List.range 7).map fun s : Nat => (((L.take r).count (s : Int) : Nat) : Int)
def cntR (L : List Int) (b : Nat) : List (List Int) := (List.range (L.length / b + 1)).map fun i => cnt7 L (i * b)
theorem map7_at {f : Nat → Int} {s : Nat} (h : s < 7) : (((List.range 7).map f).map V.int)[s]? = some (.int (f s)) := by
  rw [List.getElem?_map, List.getElem?_map, List.getElem?_range h]
  rfl
/-- the kept starts of the first i rows -/
def keptK (ns : List Int) (smp i : Nat) : List (Key × V) := ((List.range i).filter fun r : Nat => decide ((starts ns).getD r 0 % smp = 0)).map fun r : Nat => (Sum.inl (r : Int), V.int (((starts ns).getD r 0 : Nat) : Int))
theorem keptK_succ (ns : List Int) (smp i : Nat) : keptK ns smp (i + 1) = if (starts ns).getD i 0 % smp = 0 then keptK ns smp i ++ [(Sum.inl (i : Int), V.int (((starts ns).getD i 0 : Nat) : Int))] else keptK ns smp i := by
  unfold keptK
  rw [List.range_succ, List.filter_append, List.map_append]
  by_cases e : (starts ns).getD i 0 % smp = 0
  · rw [if_pos e, List.filter_cons, if_pos (decide_eq_true e)]
    rfl
  · rw [if_neg e, List.filter_cons, if_neg (by rw [decide_eq_false e]; decide)]
    exact List.append_nil _
theorem keptK_none (ns : List Int) (smp : Nat) {i r : Nat} (h : i ≤ r) : valV (keptK ns smp i) (Sum.inl (r : Int)) = none := by
  induction i with
  | zero => rfl
  | succ i ih =>
    rw [keptK_succ]
    split
    · rw [valV_snoc _ _ _ _ (keptK_none ns smp (Nat.le_refl i)), if_neg, ih (by omega)]
      intro z
      have := Sum.inl.inj z
      omega
    · exact ih (by omega)
theorem keptK_val (ns : List Int) (smp : Nat) {i r : Nat} (h : r < i) : valV (keptK ns smp i) (Sum.inl (r : Int)) = if (starts ns).getD r 0 % smp = 0 then some (V.int (((starts ns).getD r 0 : Nat) : Int)) else none := by
  induction i with
  | zero => omega
  | succ i ih =>
    rw [keptK_succ]
    by_cases c : r = i
    · subst c
      split
      · rw [valV_snoc _ _ _ _ (keptK_none ns smp (Nat.le_refl _)), if_pos rfl]
      · exact keptK_none ns smp (Nat.le_refl _)
    · have ih' := ih (by omega)
      split
      · rw [valV_snoc _ _ _ _ (keptK_none ns smp (Nat.le_refl _)), if_neg, ih']
        intro z
        have := Sum.inl.inj z
        omega
      · exact ih'
theorem keptK_len (ns : List Int) (smp i : Nat) : (keptK ns smp i).length ≤ i := by
  unfold keptK
  rw [List.length_map]
  have := List.length_filter_le (fun r => decide ((starts ns).getD r 0 % smp = 0)) (List.range i)
  rw [List.length_range] at this
  exact this
/-- the joined sequence of texts -/
def jraw2 (ls : List (List Nat)) : List Int := ls.flatMap fun l => l.map sy ++ [1]
def jt (ls : List (List Nat)) : List Int := (jraw2 ls).set ((jraw2 ls).length - 1) 0
def jtl (ls : List (List Nat)) : Nat := (ls.map fun l => l.length + 1).sum
theorem jraw2_len (ls : List (List Nat)) : (jraw2 ls).length = jtl ls := by
  unfold jraw2 jtl
  rw [List.length_flatMap]
  congr 1
  exact List.map_congr_left fun r _ => by simp
theorem jraw2_snoc (ls : List (List Nat)) (l : List Nat) : jraw2 (ls ++ [l]) = jraw2 ls ++ (l.map sy ++ [1]) := by
  unfold jraw2
  rw [List.flatMap_append]
  simp
theorem jtl_snoc (ls : List (List Nat)) (l : List Nat) : jtl (ls ++ [l]) = jtl ls + (l.length + 1) := by
  unfold jtl
  rw [List.map_append, List.sum_append]
  simp
theorem jt_len (ls : List (List Nat)) : (jt ls).length = jtl ls := by
  unfold jt
  rw [List.length_set, jraw2_len]
theorem jn_jt (rs : List Rf) : jn rs = jt (rs.map (·.2)) := by
  have e : jraw rs = jraw2 (rs.map (·.2)) := by
    unfold jraw jraw2
    rw [List.flatMap_map]
  unfold jn jt
  rw [e]
theorem jl_jtl (rs : List Rf) : jl rs = jtl (rs.map (·.2)) := by
  unfold jl jtl
  rw [List.map_map]
  rfl
theorem jtl_take_le (ls : List (List Nat)) (i : Nat) : jtl (ls.take i) ≤ jtl ls := by
  have e : jtl ls = jtl (ls.take i) + jtl (ls.drop i) := by
    unfold jtl
    rw [← List.sum_append, ← List.map_append, List.take_append_drop]
  omega
/-- where each text begins -/
def bgs (ls : List (List Nat)) : List Int := (List.range ls.length).map fun i : Nat => ((jtl (ls.take i) : Nat) : Int)
theorem sy_num {c : Nat} (h : Sg c) : 0 ≤ sy c ∧ sy c ≤ 6 := ⟨by have := sy_ge c; omega, sy_le h⟩
theorem jt_num {ls : List (List Nat)} (h : ∀ l ∈ ls, Dna l) : ∀ x ∈ jt ls, 0 ≤ x ∧ x ≤ 6 := by
  intro x hx
  rcases List.mem_or_eq_of_mem_set hx with z | z
  · obtain ⟨l, hl, hm⟩ := List.mem_flatMap.mp z
    rcases List.mem_append.mp hm with y | y
    · obtain ⟨c, hc, rfl⟩ := List.mem_map.mp y
      exact sy_num (h l hl c hc)
    · obtain rfl : x = 1 := by simpa using y
      decide
  · subst z
    decide
theorem bgs_snoc (ls : List (List Nat)) {i : Nat} (h : i < ls.length) : (bgs ls).take (i + 1) = (bgs ls).take i ++ [((jtl (ls.take i) : Nat) : Int)] := by
  unfold bgs
  rw [List.take_add_one, List.getElem?_map, List.getElem?_range h]
  rfl
theorem line_lt7 {n : Nat} (h : n ≤ 10000000) : n < sizeLine := by
  rw [sizeLine_eq]
  omega
/-! ### the index's defs -/
theorem scSymbol : FnScope ["letter"] ["letter"] (defScope sSymbol) := ⟨rfl, rfl, rfl, by decide +kernel, rfl, by decide +kernel, by decide +kernel⟩
theorem scSymsOf : FnScope ["text", "letter"] ["text"] (defScope sSymsOf) := ⟨rfl, rfl, rfl, by decide +kernel, rfl, by decide +kernel, by decide +kernel⟩
theorem scPJoined : FnScope ["texts", "sequence", "text"] ["texts"] (defScope sPJoined) := ⟨rfl, rfl, rfl, by decide +kernel, rfl, by decide +kernel, by decide +kernel⟩
theorem scSmaller : FnScope ["sequence", "smaller", "symbol"] ["sequence"] (defScope sSmaller) := ⟨rfl, rfl, rfl, by decide +kernel, rfl, by decide +kernel, by decide +kernel⟩
def NC : List Str := ["last", "block", "counts", "behind", "part", "before", "symbol"]
theorem scCounts : FnScope NC ["last", "block"] (defScope sCounts) := ⟨rfl, rfl, rfl, by decide +kernel, rfl, by decide +kernel, by decide +kernel⟩
theorem scBegins : FnScope ["texts", "begins", "begin", "text"] ["texts"] (defScope sBegins) := ⟨rfl, rfl, rfl, by decide +kernel, rfl, by decide +kernel, by decide +kernel⟩
def KD (K : PySem.W.Frag) (w : World) (d : Addr) (g : Nat → V) : Prop := ∀ c, Sg c → KDct K w d (T [c]) (g c)
def spSym : Sp := fun vs H Q _ => ∃ c, vs = [.str (T [c])] ∧ Sg c ∧ Q (.int (sy c)) H
def spSymsOf : Sp := fun vs H Q _ => ∃ l : List Nat, vs = [.str (T l)] ∧ Dna l ∧ l.length ≤ 1000000 ∧ ∀ (H' : Hp) (p : Addr), Same H H' → H p = none → H' p = some (LI (l.map sy)) → Q (.ref p) H'
def spPJoined (K : PySem.W.Frag) : Sp := fun vs H Q _ => ∃ (a : Addr) (ls : List (List Nat)), vs = [.ref a] ∧ SqL K H a (ls.map fun l => V.str (T l)) ∧ 1 ≤ ls.length ∧ (∀ l ∈ ls, Dna l) ∧ jtl ls ≤ 1000000 ∧ ∀ (H' : Hp) (p : Addr), Same H H' → H p = none → H' p = some (LI (jt ls)) → Q (.ref p) H'
def spSmaller (K : PySem.W.Frag) : Sp := fun vs H Q _ => ∃ (a : Addr) (ns : List Int), vs = [.ref a] ∧ SqL K H a (ns.map V.int) ∧ (∀ x ∈ ns, 0 ≤ x) ∧ ∀ (H' : Hp) (p : Addr), Same H H' → H p = none → H' p = some (LI (sml ns)) → Q (.ref p) H'
def spCounts (K : PySem.W.Frag) : Sp := fun vs H Q _ => ∃ (a : Addr) (L : List Int) (b : Nat), vs = [.ref a, .int (b : Int)] ∧ SqL K H a (L.map V.int) ∧ 1 ≤ b ∧ b ≤ 1000 ∧ L.length ≤ 1000000 ∧ ∀ (H' : Hp) (p : Addr) (cs : List V), Same H H' → H p = none → H' p = some (.lst cs) → Bys p H' cs (cntR L b) → (∀ q, V.ref q ∈ cs → H q = none) → Q (.ref p) H'
def spBegins (K : PySem.W.Frag) : Sp := fun vs H Q _ => ∃ (a : Addr) (ls : List (List Nat)), vs = [.ref a] ∧ SqL K H a (ls.map fun l => V.str (T l)) ∧ jtl ls ≤ 1000000 ∧ ∀ (H' : Hp) (p : Addr), Same H H' → H p = none → H' p = some (LI (bgs ls)) → Q (.ref p) H'
section
variable {P : Program} {w : World} {K : PySem.W.Frag} {mg : Str → Option Value} {base : Heap}
theorem ok_sym {f d : Addr} {fd : FuncData} {k : Nat} (F : Fun K "symbol" "symbol" sSymbol f fd) (gd : mg "_SYMBOLS" = some (.ref d)) (D : KD K w d fun c => .int (sy c)) : FnOk P w K mg base CX0 (k + 1) f fd ["letter"] spSym := by
  refine F.ok scSymbol (fun vs H Q E h => ?_) (fun cdv A outer s H vs Q E hr h => ?_)
  · obtain ⟨c, rfl, _⟩ := h
    rfl
  · obtain ⟨c, rfl, hc, q⟩ := h
    refine ⟨_, pss_one (ps_ret (pe_ix ix_kdict (pe_glob (v := .ref d) (by rfl) gd rfl) (pv 0) (fun _ _ => rfl))), ?_⟩
    exact ⟨.str (T [c]), rfl, d, T [c], .int (sy c), rfl, rfl, D c hc, q⟩
theorem ok_symsOf {f : Addr} {fd : FuncData} {k : Nat} (F : Fun K "symbols_of" "symbols_of" sSymsOf f fd) (hS : Has P w K mg base k "symbol" ["letter"] spSym) : FnOk P w K mg base CX0 (k + 1) f fd ["text"] spSymsOf := by
  obtain ⟨fS, dS, GS, gS, kS, bS⟩ := hS
  refine F.ok scSymsOf (fun vs H Q E h => ?_) (fun cdv A outer s H vs Q E hr h => ?_)
  · obtain ⟨c, rfl, _⟩ := h
    rfl
  · obtain ⟨l, rfl, hd, hl, q⟩ := h
    refine ⟨_, pss_one (ps_ret (pe_lc (own := [("letter", 1)]) (g := gName 1) (tt := tYes) (te := tCall spSym [] E0 (tCons (tVar 1) tNil)) (by rfl) scSymsOf.nd (pi_str (pv 0)) (blkOk_by (own := [("letter", 1)]) (N := ["text", "letter"]) (sc := defScope sSymsOf) (by decide +kernel))
      (fun _ _ _ _ _ => pg_name (i := 1) scSymsOf.nd rfl (Or.inl rfl)) (fun _ _ _ _ _ => pts_nil) (fun _ _ _ _ _ => pe_call GS hr (by rfl) gS kS bS .nil pass0 (pa_cons (pv 1) pa_nil)))), ?_⟩
    refine ⟨.str (T l), rfl, T l, rfl, fun D hD => ?_⟩
    refine lc_gen (n := (T l).cps.size) (fun i H' => Same H H' ∧ H' D = some (LI ((l.take i).map sy))) ⟨same_upd hD, upd_same⟩ (fun i H' hi _ => hi) (fun H' _ => Nat.le_refl _) ?_ ?_
    · rintro i H' x H'' hi ⟨sm, hx⟩ ⟨rfl, c, hc, rfl⟩
      rw [T_size] at hi
      rw [T_at] at hc
      refine ⟨rfl, ?_⟩
      dsimp only [tYes]
      rw [if_pos rfl]
      refine ⟨_, rfl, c, rfl, hd c (List.mem_of_getElem? hc), _, hx, line_lt7 (by rw [List.length_map, List.length_map, List.length_take]; omega), fun b o e => ?_, ?_⟩
      · rw [upd_ne (ne_of_none e hD)]
        exact sm b o e
      · rw [upd_same, List.take_add_one, hc, List.map_append]
        exact congrArg some (LI_snoc _ _).symm
    · rintro H' ⟨sm, hx⟩
      rw [T_size, List.take_length] at hx
      exact q H' D sm hD hx
theorem ok_pjoined {f : Addr} {fd : FuncData} {k : Nat} {t1 t2 : Tok} (F : Fun K "joined" "joined" sPJoined f fd) (gB : mg "_BORDER" = some (.int 1 t1)) (gE : mg "_END" = some (.int 0 t2)) (hS : Has P w K mg base k "symbols_of" ["text"] spSymsOf) : FnOk P w K mg base CX0 (k + 1) f fd ["texts"] (spPJoined K) := by
  obtain ⟨fS, dS, GS, gS, kS, bS⟩ := hS
  refine F.ok scPJoined (fun vs H Q E h => ?_) (fun cdv A outer s H vs Q E hr h => ?_)
  · obtain ⟨a, ls, rfl, _⟩ := h
    rfl
  · obtain ⟨a, ls, rfl, hq, h1, hd, hb, q⟩ := h
    refine ⟨_, pss_cons (ps_set (i := 1) scPJoined.nd rfl (.inl rfl) (pe_lst pa_nil))
      (pss_cons (ps_for PassesOwn.never rfl (pi_list (pv 0)) (pg_name (i := 2) scPJoined.nd rfl (.inl rfl))
        (pss_cons (ps_expr (pe_bm PySem.F.plainAttrs_list PySem.F.slot_list_extend PySem.F.type_list_extend mt_extend (pv 1) (pa_cons (pe_call GS hr (by rfl) gS kS bS .nil pass0 (pa_cons (pv 2) pa_nil)) pa_nil)))
        (pss_one (ps_expr (pe_bm PySem.F.plainAttrs_list PySem.F.slot_list_append PySem.F.type_list_append mt_append (pv 1) (pa_cons (pe_glob (v := .int 1) rfl gB ⟨_, rfl⟩) pa_nil))))))
      (pss_cons (ps_asg (pe_glob (v := .int 0) rfl gE ⟨_, rfl⟩) (pg_sub (pv 1) (pe_un un_neg pe_int) set_list))
      (pss_one (ps_ret (pv 1))))), ?_⟩
    refine ⟨Nat.zero_le _, fun p hp => ?_⟩
    refine ⟨.ref a, rfl, a, rfl, ⟨_, (same_upd hp).seq hq⟩, ?_⟩
    refine for_list (K := K) (xs := ls.map fun l => V.str (T l)) (fun i σ H' => Same H H' ∧ H' p = some (LI (jraw2 (ls.take i))) ∧ ∃ kv : Option V, σ = [some (.ref a), some (.ref p), kv]) ⟨same_upd hp, upd_same, none, rfl⟩ (fun i σ H' _ h => h.1.seq hq) ?_ ?_
    · rintro i v σ H' hv ⟨sm, hx, kv, rfl⟩
      rw [List.getElem?_map] at hv
      obtain ⟨l, hl, rfl⟩ := Option.map_eq_some_iff.mp hv
      have hsn : jtl (ls.take i) + (l.length + 1) ≤ 1000000 := by
        have := jtl_take_le ls (i + 1)
        rw [List.take_add_one, hl] at this
        rw [Option.toList_some, jtl_snoc] at this
        omega
      refine ⟨.ref p, rfl, .inl ⟨rfl, _, .inl (.inl hx)⟩, .str (T l), rfl, l, rfl, hd l (List.mem_of_getElem? hl), by omega, fun H2 p2 s2 hp2 hx2 => ?_⟩
      have n2 : p ≠ p2 := ne_of_none hx hp2
      refine ⟨p, p2, _, _, rfl, rfl, s2 _ _ hx, hx2, line_ok7 (by rw [List.length_map, List.length_map, List.length_map, jraw2_len]; omega), ?_⟩
      refine ⟨.ref p, rfl, .inl ⟨rfl, _, .inl (.inl upd_same)⟩, p, _, _, rfl, rfl, upd_same, line_lt7 (by rw [List.length_append, List.length_map, List.length_map, List.length_map, jraw2_len]; omega), ?_⟩
      refine ⟨fun b o e => ?_, ?_, _, rfl⟩
      · rw [upd_ne (ne_of_none e hp), upd_ne (ne_of_none e hp)]
        exact s2 b o (sm b o e)
      · rw [upd_same, List.take_add_one, hl, Option.toList_some, jraw2_snoc]
        show some (HO.lst _) = some (HO.lst ((jraw2 (ls.take i) ++ (l.map sy ++ [1])).map V.int))
        simp only [List.map_append, List.append_assoc]
        rfl
    · rintro σ H' ⟨sm, hx, kv, rfl⟩
      rw [List.length_map, List.take_length] at hx
      have hpos : 0 < (jraw2 ls).length := by
        rw [jraw2_len]
        cases ls with
        | nil => exact absurd h1 (by decide)
        | cons l r =>
          show 0 < l.length + 1 + jtl r
          omega
      refine ⟨.ref p, rfl, 1, rfl, p, _, _, (jraw2 ls).length - 1, rfl, rfl, hx, ?_, ?_⟩
      · unfold ixN
        rw [List.length_map, if_neg (by decide), if_pos (by omega)]
        exact congrArg some (by omega)
      · refine ⟨.ref p, rfl, q _ p (fun b o e => ?_) hp ?_⟩
        · rw [upd_ne (ne_of_none e hp)]
          exact sm b o e
        · rw [upd_same]
          show some (HO.lst _) = some (HO.lst (((jraw2 ls).set ((jraw2 ls).length - 1) 0).map V.int))
          rw [List.map_set]
theorem ok_smaller {f : Addr} {fd : FuncData} {k : Nat} {t : Tok} (F : Fun K "_smaller_symbols" "_smaller_symbols" sSmaller f fd) (mrange : mg "range" = none) (gM : mg "_MANY_SYMBOLS" = some (.int 7 t)) : FnOk P w K mg base CX0 (k + 1) f fd ["sequence"] (spSmaller K) := by
  refine F.ok scSmaller (fun vs H Q E h => ?_) (fun cdv A outer s H vs Q E hr h => ?_)
  · obtain ⟨a, ns, rfl, _⟩ := h
    rfl
  · obtain ⟨a, ns, rfl, hq, hn, q⟩ := h
    refine ⟨_, pss_cons (ps_set (i := 1) scSmaller.nd rfl (.inl rfl) (pe_lst (pa_cons pe_int pa_nil)))
      (pss_cons (ps_for PassesOwn.never rfl (pi_range1 rfl mrange (pa_cons (pe_op op_sub (pe_glob (v := .int 7) rfl gM ⟨_, rfl⟩) pe_int) pa_nil)) (pg_name (i := 2) scSmaller.nd rfl (.inl rfl))
        (pss_one (ps_expr (pe_bm PySem.F.plainAttrs_list PySem.F.slot_list_append PySem.F.type_list_append mt_append (pv 1) (pa_cons (pe_op op_add (pe_ix ix_list (pv 1) (pv 2) (fun _ _ => rfl))
          (pe_bm PySem.F.plainAttrs_list PySem.F.slot_list_count PySem.F.type_list_count mt_lcount (pv 0) (pa_cons (pv 2) pa_nil))) pa_nil)))))
      (pss_one (ps_ret (pv 1)))), ?_⟩
    refine ⟨by show 1 ≤ sizeLine; decide, fun p hp => ?_⟩
    refine ⟨_, _, rfl, rfl, 6, rfl, by decide, by decide, ?_⟩
    refine for_range (lo := 0) (n := 6) (fun i σ H' => Same H H' ∧ i ≤ 6 ∧ H' p = some (LI ((List.range (i + 1)).map fun s : Nat => ((lessN ns s : Nat) : Int))) ∧ ∃ kv : Option V, σ = [some (.ref a), some (.ref p), kv]) ⟨same_upd hp, by decide, ?_, none, rfl⟩ ?_ ?_
    · rw [upd_same]
      show some (HO.lst [V.int 0]) = some (HO.lst [V.int ((lessN ns 0 : Nat) : Int)])
      rw [lessN_zero hn]
      rfl
    · rintro i σ H' hi ⟨sm, _, hx, kv, rfl⟩
      have g1 : (((List.range (i + 1)).map fun s : Nat => ((lessN ns s : Nat) : Int)).map V.int)[i]? = some (V.int (lessN ns i : Nat)) := by
        rw [List.getElem?_map, List.getElem?_map, List.getElem?_range (by omega)]
        rfl
      refine ⟨.ref p, rfl, .inl ⟨rfl, _, .inl (.inl hx)⟩, .ref p, rfl, .int (0 + (i : Nat)), rfl, p, _, _, _, rfl, rfl, .inl (.inl hx), by rw [Int.zero_add]; exact atI_nat g1, ?_⟩
      refine ⟨.ref a, rfl, .inl ⟨rfl, _, sm.seq hq⟩, .int (0 + (i : Nat)), rfl, a, ns, 0 + (i : Nat), rfl, rfl, sm.seq hq, _, _, rfl, rfl, p, _, _, rfl, rfl, hx, line_lt7 (by rw [List.length_map, List.length_map, List.length_range]; omega), ?_⟩
      refine ⟨fun b o e => ?_, by omega, ?_, _, rfl⟩
      · rw [upd_ne (ne_of_none e hp)]
        exact sm b o e
      · rw [upd_same, List.range_succ (n := i + 1), List.map_append, Int.zero_add]
        show some (HO.lst _) = some (HO.lst _)
        rw [List.map_append]
        show some (HO.lst (_ ++ [V.int (((lessN ns i : Nat) : Int) + ((ns.count (i : Int) : Nat) : Int))])) = some (HO.lst (_ ++ [V.int ((lessN ns (i + 1) : Nat) : Int)]))
        rw [lessN_succ]
        rfl
    · rintro σ H' ⟨sm, _, hx, kv, rfl⟩
      exact ⟨.ref p, rfl, q H' p sm hp hx⟩
end
theorem rg_blk {n k : Nat} (hn : n ≤ 1000000) (h1 : 1 ≤ k) (hk : k ≤ 1000) : RgC (k : Int) ((n : Int) + 1) (k : Int) (n / k) := by
  have es : Builtin.Range.rangeSize (k : Int) ((n : Int) + 1) (k : Int) = ((n / k : Nat) : Int) := by
    unfold Builtin.Range.rangeSize
    rw [if_pos (by omega)]
    by_cases c : k ≤ n
    · rw [if_pos (by omega), Int.natCast_ediv, show (n : Int) + 1 - k - 1 = (n : Int) + (-1) * (k : Int) by omega, Int.add_mul_ediv_right _ _ (by omega)]
      omega
    · rw [if_neg (by omega), Nat.div_eq_of_lt (by omega)]
      rfl
  refine ⟨by omega, by omega, ?_, es⟩
  unfold Builtin.Range.small
  rw [es]
  have q1 : n / k ≤ n := Nat.div_le_self _ _
  have q2 : n / k * k ≤ n := Nat.div_mul_le_self _ _
  generalize n / k = qq at q1 q2
  simp only [Builtin.Range.rangeFitsLong, Bool.and_eq_true, Bool.or_eq_true, decide_eq_true_eq, beq_iff_eq]
  refine ⟨⟨⟨⟨by omega, by omega, by omega⟩, by omega, by omega⟩, by omega, by omega⟩, .inr ?_⟩
  rw [if_pos (by omega), Bool.and_eq_true, decide_eq_true_eq, decide_eq_true_eq]
  omega
theorem cutV_mid (xs : List V) {a b : Nat} (h : a ≤ b) (hb : b ≤ xs.length) : L2.cutV xs (some (a : Int)) (some (b : Int)) = (xs.drop a).take (b - a) := by
  unfold L2.cutV
  rw [HT.sIx_nat, HT.sIx_nat, Nat.min_eq_left (show a ≤ xs.length by omega), Nat.min_eq_left hb]
theorem atI_neg1 {α : Type} {xs : List α} {v : α} {n : Nat} (hl : xs.length = n + 1) (h : xs[n]? = some v) : atI xs (-1) = some v := by
  unfold atI ixN
  rw [if_neg (by decide), if_pos (by omega)]
  show xs[(-1 + (xs.length : Int)).toNat]? = some v
  rw [hl, show (-1 + ((n + 1 : Nat) : Int)).toNat = n by omega]
  exact h
theorem cnt7_next (L : List Int) (b i s : Nat) : ((L.take (i * b)).count (s : Int)) + (((L.drop (i * b)).take b).count (s : Int)) = (L.take ((i + 1) * b)).count (s : Int) := by
  rw [Nat.succ_mul, List.take_add, List.count_append]
section
variable {P : Program} {w : World} {K : PySem.W.Frag} {mg : Str → Option Value} {base : Heap}
theorem ok_counts {f : Addr} {fd : FuncData} {k : Nat} {t : Tok} (F : Fun K "_counts_at_blocks" "_counts_at_blocks" sCounts f fd) (mrange : mg "range" = none) (mlen : mg "len" = none) (gM : mg "_MANY_SYMBOLS" = some (.int 7 t)) : FnOk P w K mg base CX0 (k + 1) f fd ["last", "block"] (spCounts K) := by
  refine F.ok scCounts (fun vs H Q E h => ?_) (fun cdv A outer s H vs Q E hr h => ?_)
  · obtain ⟨a, L, b, rfl, _⟩ := h
    rfl
  · obtain ⟨a, L, b, rfl, hq, hb1, hb2, hL, q⟩ := h
    refine ⟨_, pss_cons (ps_set (i := 2) scCounts.nd rfl (.inl rfl) (pe_lst (pa_cons (pe_op op_rep (pe_lst (pa_cons pe_int pa_nil)) (pe_glob (v := .int 7) rfl gM ⟨_, rfl⟩)) pa_nil)))
      (pss_cons (ps_for PassesOwn.never rfl (pi_range3 rfl mrange (pa_cons (pv 1) (pa_cons (pe_op op_add (pe_callB call_len_seq (by rfl) mlen PySem.boot_len (pa_cons (pv 0) pa_nil)) pe_int) (pa_cons (pv 1) pa_nil)))) (pg_name (i := 3) scCounts.nd rfl (.inl rfl))
        (pss_cons (ps_set (i := 4) scCounts.nd rfl (.inr rfl) (pe_slice sl_list (pv 0) (po_some (pe_op op_sub (pv 3) (pv 1))) (po_some (pv 3))))
        (pss_cons (ps_set (i := 5) scCounts.nd rfl (.inr rfl) (pe_ix ix_list (pv 2) (pe_un un_neg pe_int) (fun _ _ => rfl)))
        (pss_one (ps_expr (pe_bm PySem.F.plainAttrs_list PySem.F.slot_list_append PySem.F.type_list_append mt_append (pv 2) (pa_cons
          (pe_lc (own := [("symbol", 6)]) (g := gName 6) (tt := tYes) (te := tOp (rI0 fun i j => V.int (i + j)) (tOp (rIxL K) (tVar 5) (tVar 6)) (tBM K "list" (rCntI K) (tVar 4) (tCons (tVar 6) tNil))) (by rfl) scCounts.nd (pi_range1 rfl mrange (pa_cons (pe_glob (v := .int 7) rfl gM ⟨_, rfl⟩) pa_nil))
            (blkOk_by (own := [("symbol", 6)]) (N := NC) (sc := defScope sCounts) (by decide +kernel)) (fun _ _ _ _ _ => pg_name (i := 6) scCounts.nd rfl (Or.inl rfl)) (fun _ _ _ _ _ => pts_nil)
            (fun _ _ _ _ _ => pe_op op_add (pe_ix (r := rIxL K) ix_list (pv 5) (pv 6) (fun _ _ => rfl)) (pe_bm (r := rCntI K) PySem.F.plainAttrs_list PySem.F.slot_list_count PySem.F.type_list_count mt_lcount (pv 4) (pa_cons (pv 6) pa_nil)))) pa_nil)))))))
      (pss_one (ps_ret (pv 2)))), ?_⟩
    have hlm : (L.map V.int).length = L.length := List.length_map _
    refine ⟨by show 1 ≤ sizeLine; decide, fun p0 hp0 => ?_⟩
    refine ⟨p0, 7, _, rfl, rfl, upd_same, by decide, by decide, by show 7 ≤ sizeLine; decide, fun p1 hp1 => ?_⟩
    refine ⟨by show 1 ≤ sizeLine; decide, fun pc hpc => ?_⟩
    have nc1 := new_ne hpc
    have s0 : Same H (upd (upd (upd H p0 (.lst [.int 0])) p1 (.lst (List.replicate (7 : Int).toNat [V.int 0]).flatten)) pc (.lst [.ref p1])) := ((same_upd hp0).trans (same_upd hp1)).trans (same_upd hpc)
    have hpc0 : H pc = none := ((same_upd hp0).trans (same_upd hp1)).free hpc
    refine ⟨.int b, rfl, .ref a, rfl, a, _, rfl, .inl (s0.seq hq), _, 1, rfl, rfl, .int b, rfl, b, _, b, L.length / b, rfl, ?_, ?_⟩
    · rw [hlm]
      exact rg_blk hL hb1 hb2
    refine for_rangeC (lo := (b : Int)) (c := (b : Int)) (n := L.length / b) (fun i σ H' => Same H H' ∧ ∃ (cs : List V) (v3 v4 v5 : Option V), H' pc = some (.lst cs) ∧ Bys pc H' cs ((List.range (i + 1)).map fun j => cnt7 L (j * b)) ∧ (∀ q, V.ref q ∈ cs → H q = none) ∧ σ = [some (.ref a), some (.int (b : Int)), some (.ref pc), v3, v4, v5, none]) ?_ ?_ ?_
    · refine ⟨s0, [.ref p1], none, none, none, upd_same, .cons ⟨p1, rfl, nc1.symm, ?_⟩ .nil, (fun z hz => by obtain rfl : z = p1 := (by simpa using hz); exact (same_upd hp0).free hp1), rfl⟩
      rw [upd_ne nc1.symm, upd_same]
      refine congrArg some (congrArg HO.lst ?_)
      show _ = ((List.range 7).map fun s : Nat => (((L.take (0 * b)).count (s : Int) : Nat) : Int)).map V.int
      rw [Nat.zero_mul, List.take_zero]
      rfl
    · rintro i σ H' hi ⟨sm, cs, v3, v4, v5, hcs, hby, hfr, rfl⟩
      have hlen := paired_len hby
      rw [List.length_map, List.length_range] at hlen
      have hup : (i + 1) * b ≤ L.length := Nat.le_trans (Nat.mul_le_mul_right b hi) (Nat.div_mul_le_self _ _)
      have e1 : (b : Int) + (i : Nat) * (b : Int) - b = ((i * b : Nat) : Int) := by
        rw [Int.natCast_mul]
        omega
      have e2 : (b : Int) + (i : Nat) * (b : Int) = (((i + 1) * b : Nat) : Int) := by
        rw [Int.natCast_mul, Int.natCast_add, Int.add_mul]
        show _ = (i : Int) * b + 1 * (b : Int)
        omega
      refine ⟨.ref a, rfl, _, rfl, .int b, rfl, _, _, rfl, rfl, _, rfl, _, rfl, _, rfl, a, _, rfl, sm.seq hq, fun pp hpp => ?_⟩
      have sp := same_upd (o := .lst (L2.cutV (L.map V.int) (some ((b : Int) + (i : Nat) * (b : Int) - b)) (some ((b : Int) + (i : Nat) * (b : Int))))) hpp
      have hcut : L2.cutV (L.map V.int) (some ((b : Int) + (i : Nat) * (b : Int) - b)) (some ((b : Int) + (i : Nat) * (b : Int))) = ((L.drop (i * b)).take b).map V.int := by
        rw [e1, e2, cutV_mid _ (Nat.mul_le_mul_right b (Nat.le_succ i)) (by rw [hlm]; exact hup), ← List.map_drop, ← List.map_take, show (i + 1) * b - i * b = b by rw [Nat.succ_mul]; omega]
      have hvi : ∃ v, cs[i]? = some v := ⟨_, List.getElem?_eq_getElem (show i < cs.length by omega)⟩
      obtain ⟨v, hv⟩ := hvi
      obtain ⟨y, hy, qb, rfl, nqb, hqb⟩ := paired_get hby hv
      rw [List.getElem?_map, List.getElem?_range (by omega)] at hy
      obtain rfl := Option.some.inj hy
      refine ⟨.ref pc, rfl, 1, rfl, pc, _, _, .ref qb, rfl, rfl, .inl (.inl (sp _ _ hcs)), atI_neg1 hlen hv, ?_⟩
      refine ⟨.ref pc, rfl, .inl ⟨rfl, _, .inl (.inl (sp _ _ hcs))⟩, 7, rfl, by decide, by decide, fun D hD => ?_⟩
      have hppD : upd H' pp (.lst (L2.cutV (L.map V.int) (some ((b : Int) + (i : Nat) * (b : Int) - b)) (some ((b : Int) + (i : Nat) * (b : Int))))) pp = some (LI ((L.drop (i * b)).take b)) := by rw [upd_same, hcut]
      refine lc_gen (n := 7) (fun j H2 => Same (upd H' pp (.lst (L2.cutV (L.map V.int) (some ((b : Int) + (i : Nat) * (b : Int) - b)) (some ((b : Int) + (i : Nat) * (b : Int)))))) H2 ∧ H2 D = some (LI ((cnt7 L ((i + 1) * b)).take j))) ⟨same_upd hD, upd_same⟩ (fun j H2 hj _ => hj) (fun H2 _ => Nat.le_refl _) ?_ ?_
      · rintro j H2 x H3 hj ⟨s2, hd⟩ ⟨rfl, rfl⟩
        refine ⟨rfl, ?_⟩
        dsimp only [tYes]
        rw [if_pos rfl]
        refine ⟨.ref qb, rfl, .int (0 + (j : Nat)), rfl, qb, _, _, _, rfl, rfl, .inl (.inl (s2 _ _ (sp _ _ hqb))), by rw [Int.zero_add]; exact atI_nat (map7_at hj), ?_⟩
        refine ⟨.ref pp, rfl, .inl ⟨rfl, _, .inl (.inl (s2 _ _ hppD))⟩, .int (0 + (j : Nat)), rfl, pp, _, 0 + (j : Nat), rfl, rfl, .inl (.inl (s2 _ _ hppD)), _, _, rfl, rfl, _, hd, line_lt7 (by rw [List.length_map, List.length_take]; omega), ?_, ?_⟩
        · intro b' o e
          rw [upd_ne (ne_of_none e hD)]
          exact s2 b' o e
        · have e7 : (cnt7 L ((i + 1) * b))[j]? = some ((((L.take ((i + 1) * b)).count (j : Int) : Nat) : Int)) := by
            unfold cnt7
            rw [List.getElem?_map, List.getElem?_range hj]
            rfl
          rw [upd_same, List.take_add_one, e7, ← cnt7_next, Int.zero_add]
          refine congrArg some (Eq.trans ?_ (LI_snoc _ _).symm)
          rw [Int.natCast_add]
      · rintro H2 ⟨s2, hd⟩
        rw [List.take_of_length_le (by unfold cnt7; rw [List.length_map, List.length_range]; exact Nat.le_refl 7)] at hd
        have hc2 := s2 _ _ (sp _ _ hcs)
        have nD : pc ≠ D := ne_of_none (sp _ _ hcs) hD
        refine ⟨pc, _, _, rfl, rfl, hc2, line_lt7 (by have := Nat.div_le_self L.length b; omega), ?_⟩
        refine ⟨fun b' o e => ?_, _, _, _, _, upd_same, ?_, fun z hz => ?_, rfl⟩
        · rw [upd_ne (ne_of_none e hpc0)]
          exact s2 _ _ (sp _ _ (sm _ _ e))
        · rw [List.range_succ (n := i + 1), List.map_append]
          refine Paired.snoc (hby.mono fun qq l n1 h1 => ?_) ⟨D, rfl, nD.symm, ?_⟩
          · rw [upd_ne n1]
            exact s2 _ _ (sp _ _ h1)
          · rw [upd_ne nD.symm]
            exact hd
        · rcases List.mem_append.mp hz with y | y
          · exact hfr z y
          · obtain rfl : z = D := by simpa using y
            exact (sm.trans sp).free hD
    · rintro σ H' ⟨sm, cs, v3, v4, v5, hcs, hby, hfr, rfl⟩
      exact ⟨.ref pc, rfl, q H' pc cs sm hpc0 hcs hby hfr⟩
theorem ok_begins {f : Addr} {fd : FuncData} {k : Nat} (F : Fun K "_begins_of" "_begins_of" sBegins f fd) (mlen : mg "len" = none) : FnOk P w K mg base CX0 (k + 1) f fd ["texts"] (spBegins K) := by
  refine F.ok scBegins (fun vs H Q E h => ?_) (fun cdv A outer s H vs Q E hr h => ?_)
  · obtain ⟨a, L, rfl, _⟩ := h
    rfl
  · obtain ⟨a, ls, rfl, hq, hb, q⟩ := h
    refine ⟨_, pss_cons (ps_set (i := 1) scBegins.nd rfl (.inl rfl) (pe_lst pa_nil))
      (pss_cons (ps_set (i := 2) scBegins.nd rfl (.inl rfl) pe_int)
      (pss_cons (ps_for PassesOwn.never rfl (pi_list (pv 0)) (pg_name (i := 3) scBegins.nd rfl (.inl rfl))
        (pss_cons (ps_expr (pe_bm PySem.F.plainAttrs_list PySem.F.slot_list_append PySem.F.type_list_append mt_append (pv 1) (pa_cons (pv 2) pa_nil)))
        (pss_one (ps_aug (i := 2) scBegins.nd rfl (.inl rfl) (pe_op op_add (pe_callB call_len_str (by rfl) mlen PySem.boot_len (pa_cons (pv 3) pa_nil)) pe_int) ip_add))))
      (pss_one (ps_ret (pv 1))))), ?_⟩
    refine ⟨Nat.zero_le _, fun p hp => ?_⟩
    refine ⟨.ref a, rfl, a, rfl, ⟨_, (same_upd hp).seq hq⟩, ?_⟩
    have hll : ls.length ≤ jtl ls := by
      clear hq hb q
      induction ls with
      | nil => exact Nat.zero_le _
      | cons l r ih =>
        show r.length + 1 ≤ l.length + 1 + jtl r
        omega
    refine for_list (K := K) (xs := ls.map fun l => V.str (T l)) (fun i σ H' => Same H H' ∧ H' p = some (LI ((bgs ls).take i)) ∧ ∃ kv : Option V, σ = [some (.ref a), some (.ref p), some (.int (jtl (ls.take i) : Nat)), kv]) ⟨same_upd hp, upd_same, none, rfl⟩ (fun i σ H' _ h => h.1.seq hq) ?_ ?_
    · rintro i v σ H' hv ⟨sm, hx, kv, rfl⟩
      rw [List.getElem?_map] at hv
      obtain ⟨l, hl, rfl⟩ := Option.map_eq_some_iff.mp hv
      have hi : i < ls.length := (List.getElem?_eq_some_iff.mp hl).1
      have hsn : jtl (ls.take i) + (l.length + 1) = jtl (ls.take (i + 1)) := by
        rw [List.take_add_one, hl, Option.toList_some, jtl_snoc]
      have hle := jtl_take_le ls (i + 1)
      refine ⟨.ref p, rfl, .inl ⟨rfl, _, .inl (.inl hx)⟩, _, rfl, p, _, _, rfl, rfl, hx, line_lt7 (by rw [List.length_map, List.length_take]; omega), ?_⟩
      refine ⟨_, rfl, .str (T l), rfl, T l, rfl, line_ok7 (by rw [T_len]; omega), _, 1, rfl, rfl, _, _, rfl, rfl, ?_⟩
      refine ⟨fun b o e => ?_, ?_, some (.str (T l)), ?_⟩
      · rw [upd_ne (ne_of_none e hp)]
        exact sm b o e
      · rw [upd_same, bgs_snoc ls hi]
        exact congrArg some (LI_snoc _ _).symm
      · rw [← hsn]
        show [_, _, some (V.int (((jtl (ls.take i) : Nat) : Int) + (((T l).length : Nat) + 1))), _] = [_, _, some (V.int ((jtl (ls.take i) + (l.length + 1) : Nat) : Int)), _]
        rw [T_len]
        rfl
    · rintro σ H' ⟨sm, hx, kv, rfl⟩
      rw [List.length_map, List.take_of_length_le (by unfold bgs; rw [List.length_map, List.length_range]; exact Nat.le_refl _)] at hx
      exact ⟨.ref p, rfl, q H' p sm hp hx⟩
end
/-! ### the index as an object -/
theorem putF_new {fs : List (Str × V)} {names : List Str} {f : Str} {v : V} (hn : fs.map (·.1) = names) (h : names.contains f = false) : putF f v fs = fs ++ [(f, v)] := by
  subst hn
  induction fs with
  | nil => rfl
  | cons q r ih =>
    obtain ⟨g, x⟩ := q
    rw [List.map_cons, List.contains_cons, Bool.or_eq_false_iff] at h
    have ne : ¬ g = f := fun z => by
      have := h.1
      rw [z] at this
      simp at this
    show (if g = f then (g, v) :: r else (g, x) :: putF f v r) = _
    rw [if_neg ne, ih h.2]
    rfl
theorem lookup_of {fs : List (Str × V)} {names : List Str} {i : Nat} {f : Str} {v : V} (hn : fs.map (·.1) = names) (hi : fs[i]? = some (f, v)) (hf : (names.take i).contains f = false) : fs.lookup f = some v := by
  subst hn
  induction fs generalizing i with
  | nil => simp at hi
  | cons q r ih =>
    obtain ⟨g, x⟩ := q
    cases i with
    | zero =>
      have e : (g, x) = (f, v) := by simpa using hi
      cases e
      show (match f == f with | true => some v | false => _) = some v
      rw [beq_self_eq_true]
    | succ i =>
      rw [List.map_cons, List.take_succ_cons, List.contains_cons, Bool.or_eq_false_iff] at hf
      show (match f == g with | true => some x | false => r.lookup f) = some v
      rw [hf.1]
      exact ih (by simpa using hi) hf.2
theorem lookup_no {fs : List (Str × V)} {names : List Str} {f : Str} (hn : fs.map (·.1) = names) (hf : names.contains f = false) : fs.lookup f = none := by
  subst hn
  induction fs with
  | nil => rfl
  | cons q r ih =>
    obtain ⟨g, x⟩ := q
    rw [List.map_cons, List.contains_cons, Bool.or_eq_false_iff] at hf
    show (match f == g with | true => some x | false => r.lookup f) = none
    rw [hf.1]
    exact ih hf.2
def ixNames : List Str := ["references", "block", "sample", "_last", "_smaller", "_counts", "_starts", "_begins"]
def ixF (aR : Addr) (b s : Nat) (aL aM aC aS aB : Addr) : List (Str × V) := [("references", .ref aR), ("block", .int (b : Int)), ("sample", .int (s : Int)), ("_last", .ref aL), ("_smaller", .ref aM), ("_counts", .ref aC), ("_starts", .ref aS), ("_begins", .ref aB)]
theorem ixF_names (aR : Addr) (b s : Nat) (aL aM aC aS aB : Addr) : (ixF aR b s aL aM aC aS aB).map (·.1) = ixNames := rfl
structure IxT (K : PySem.W.Frag) (mg : Str → Option Value) (C : Addr) : Prop where
  cl : Cls K C
  n1 : NoAttr K C "references"
  n2 : NoAttr K C "block"
  n3 : NoAttr K C "sample"
  n4 : NoAttr K C "_last"
  n5 : NoAttr K C "_smaller"
  n6 : NoAttr K C "_counts"
  n7 : NoAttr K C "_starts"
  n8 : NoAttr K C "_begins"
  mgC : mg "Index" = some (.ref C)
/-- an index of the references rs stands at x -/
structure IxAt (C : Addr) (H : Hp) (x : Addr) (rs : List Rf) (b s : Nat) (dx aR : Addr) (xs : List V) (aL aM aC : Addr) (cs : List V) (aS aB : Addr) : Prop where
  ob : H x = some (.ins C dx (ixF aR b s aL aM aC aS aB))
  rf : H aR = some (.lst xs)
  tu : Tups H xs rs
  la : H aL = some (LI (lastc (jn rs)))
  sm : H aM = some (LI (sml (jn rs)))
  co : H aC = some (.lst cs)
  cr : Bys aC H cs (cntR (lastc (jn rs)) b)
  st : H aS = some (.dK (keptK (jn rs) s (jn rs).length))
  bg : H aB = some (LI (bgs (rs.map (·.2))))
def Ixd (C : Addr) (H : Hp) (x : Addr) (rs : List Rf) (b s : Nat) : Prop := ∃ dx aR xs aL aM aC cs aS aB, IxAt C H x rs b s dx aR xs aL aM aC cs aS aB
/-- the same, its own objects such as N says -/
def IxN (C : Addr) (N : Addr → Prop) (H : Hp) (x : Addr) (rs : List Rf) (b s : Nat) : Prop := ∃ dx aR xs aL aM aC cs aS aB, IxAt C H x rs b s dx aR xs aL aM aC cs aS aB ∧ N aR ∧ N aL ∧ N aM ∧ N aC ∧ N aS ∧ N aB ∧ ∀ q, V.ref q ∈ cs → N q
theorem IxN.ix {C : Addr} {N : Addr → Prop} {H : Hp} {x : Addr} {rs : List Rf} {b s : Nat} (h : IxN C N H x rs b s) : Ixd C H x rs b s := by
  obtain ⟨dx, aR, xs, aL, aM, aC, cs, aS, aB, I, _⟩ := h
  exact ⟨dx, aR, xs, aL, aM, aC, cs, aS, aB, I⟩
theorem IxN.mono {C : Addr} {N N' : Addr → Prop} {H : Hp} {x : Addr} {rs : List Rf} {b s : Nat} (h : IxN C N H x rs b s) (k : ∀ q, N q → N' q) : IxN C N' H x rs b s := by
  obtain ⟨dx, aR, xs, aL, aM, aC, cs, aS, aB, I, n1, n2, n3, n4, n5, n6, n7⟩ := h
  exact ⟨dx, aR, xs, aL, aM, aC, cs, aS, aB, I, k _ n1, k _ n2, k _ n3, k _ n4, k _ n5, k _ n6, fun q hq => k q (n7 q hq)⟩
theorem bys_keep {N : Addr → Prop} {pl : Addr} {H H' : Hp} (k : ∀ q o, N q → H q = some o → H' q = some o) : ∀ {xs : List V} {rs : List (List Int)}, Bys pl H xs rs → (∀ q, V.ref q ∈ xs → N q) → Bys pl H' xs rs
  | _, _, .nil, _ => .nil
  | _, _, .cons ⟨q, e, n, t⟩ r, h => .cons ⟨q, e, n, k q _ (h q (by rw [e]; exact List.mem_cons_self)) t⟩ (bys_keep k r fun z hz => h z (List.mem_cons_of_mem _ hz))
theorem IxN.keep {C : Addr} {N : Addr → Prop} {H H' : Hp} {x : Addr} {rs : List Rf} {b s : Nat} (h : IxN C N H x rs b s) (hx : ∀ o, H x = some o → H' x = some o) (k : ∀ q o, N q → H q = some o → H' q = some o) (kt : ∀ q ys, H q = some (.tup ys) → H' q = some (.tup ys)) : IxN C N H' x rs b s := by
  obtain ⟨dx, aR, xs, aL, aM, aC, cs, aS, aB, ⟨h1, h2, h3, h4, h5, h6, h7, h8, h9⟩, n1, n2, n3, n4, n5, n6, n7⟩ := h
  exact ⟨dx, aR, xs, aL, aM, aC, cs, aS, aB, ⟨hx _ h1, k _ _ n1 h2, h3.mono kt, k _ _ n2 h4, k _ _ n3 h5, k _ _ n4 h6, bys_keep k h7 n7, k _ _ n5 h8, k _ _ n6 h9⟩, n1, n2, n3, n4, n5, n6, n7⟩
open LamX in
theorem Ixd.ext {C : Addr} {H H' : Hp} {x : Addr} {rs : List Rf} {b s : Nat} (h : Ixd C H x rs b s) (e : ExtN H H') : Ixd C H' x rs b s := by
  obtain ⟨dx, aR, xs, aL, aM, aC, cs, aS, aB, h1, h2, h3, h4, h5, h6, h7, h8, h9⟩ := h
  refine ⟨dx, aR, xs, aL, aM, aC, cs, aS, aB, ?_, ?_, h3.mono fun q ys z => e _ _ z (fun ps z => by cases z), ?_, ?_, ?_, h7.mono fun q l _ z => e _ _ z (fun ps z => by cases z), ?_, ?_⟩ <;> first | exact e _ _ h1 (fun ps z => by cases z) | exact e _ _ h2 (fun ps z => by cases z) | exact e _ _ h4 (fun ps z => by cases z) | exact e _ _ h5 (fun ps z => by cases z) | exact e _ _ h6 (fun ps z => by cases z) | exact e _ _ h8 (fun ps z => by cases z) | exact e _ _ h9 (fun ps z => by cases z)
theorem Ixd.same {C : Addr} {H H' : Hp} {x : Addr} {rs : List Rf} {b s : Nat} (h : Ixd C H x rs b s) (e : Same H H') : Ixd C H' x rs b s := h.ext fun q o z _ => e q o z
def Sb (x : Addr) (H H' : Hp) : Prop := ∀ c o, c ≠ x → H c = some o → H' c = some o
theorem sb_free {x p : Addr} {H H' : Hp} (h : Sb x H H') (n : p ≠ x) (e : H' p = none) : H p = none := by
  cases z : H p with
  | none => rfl
  | some o =>
    rw [h p o n z] at e
    cases e
theorem putF_names1 (f : Str) (v : V) : (putF f v []).map (·.1) = [f] := rfl
def NI : List Str := ["self", "references", "block", "sample", "texts", "sequence", "rows", "reference", "start", "row"]
theorem scInit : FnScope NI ["self", "references", "block", "sample"] (defScope mInit) := ⟨rfl, rfl, rfl, by decide +kernel, rfl, by decide +kernel, by decide +kernel⟩
def spInit (K : PySem.W.Frag) (C : Addr) : Sp := fun vs H Q _ => ∃ (x a dx : Addr) (xs : List V) (rs : List Rf) (b s : Nat), vs = [.ref x, .ref a, .int (b : Int), .int (s : Int)] ∧ H x = some (.ins C dx []) ∧ SqL K H a xs ∧ Tups H xs rs ∧ 1 ≤ rs.length ∧ (∀ r ∈ rs, Dna r.2) ∧ jl rs ≤ 4000 ∧
  1 ≤ b ∧ b ≤ 1000 ∧ 1 ≤ s ∧ s ≤ 1000 ∧ ∀ H' : Hp, (∀ c o, c ≠ x → H c = some o → H' c = some o) → IxN C (fun q => H q = none) H' x rs b s → Q .non H'
theorem prev_at {ns : List Int} {s : Nat} (h : s < ns.length) : atI (ns.map V.int) ((s : Int) - 1) = some (.int (ns.getD (prevI ns.length s) 0)) := by
  have hp := prevI_lt h
  have g : ns.getD (prevI ns.length s) 0 = ns[prevI ns.length s] := by
    rw [List.getD_eq_getElem?_getD, List.getElem?_eq_getElem hp]
    rfl
  rw [g]
  unfold prevI at hp ⊢
  by_cases c : s = 0
  · subst c
    simp only [if_pos] at hp ⊢
    exact atI_neg1 (n := ns.length - 1) (by rw [List.length_map]; omega) (map_int_at hp)
  · simp only [if_neg c] at hp ⊢
    rw [show (s : Int) - 1 = ((s - 1 : Nat) : Int) by omega]
    exact atI_nat (map_int_at hp)
section
variable {P : Program} {w : World} {K : PySem.W.Frag} {mg : Str → Option Value} {base : Heap}
theorem ok_init {f C : Addr} {fd : FuncData} {k : Nat} {kws : List (Str × V)} (F : FunD K "__init__" "Index.__init__" (defArgs mInit) (defBody mInit) (defScope mInit) [] kws f fd) (X : IxT K mg C) (mlist : mg "list" = none) (menum : mg "enumerate" = none)
    (hJ : Has P w K mg base k "joined" ["texts"] (spPJoined K)) (hR : Has P w K mg base k "suffix_rows" ["numbers"] (spRows K)) (hM : Has P w K mg base k "_smaller_symbols" ["sequence"] (spSmaller K)) (hC : Has P w K mg base k "_counts_at_blocks" ["last", "block"] (spCounts K)) (hB : Has P w K mg base k "_begins_of" ["texts"] (spBegins K)) :
    FnOk P w K mg base CX0 (k + 1) f fd ["self", "references", "block", "sample"] (spInit K C) := by
  obtain ⟨fJ, dJ, GJ, gJ, kJ, bJ⟩ := hJ
  obtain ⟨fR, dR, GR, gR, kR, bR⟩ := hR
  obtain ⟨fM, dM, GM, gM, kM, bM⟩ := hM
  obtain ⟨fC, dC, GC, gC, kC, bC⟩ := hC
  obtain ⟨fB, dB, GB, gB, kB, bB⟩ := hB
  refine F.ok scInit (fun vs H Q E h => ?_) (fun cdv A outer s H vs Q E hr h => ?_)
  · obtain ⟨x, a, dx, xs, rs, b, s, rfl, _⟩ := h
    rfl
  · obtain ⟨x, a, dx, xs, rs, b, sp, rfl, hx, hq, ht, hl1, hd, hjl, hb1, hb2, hs1, hs2, q⟩ := h
    refine ⟨_, PSs.nox (pss_cons (ps_fld (pv 0) (pe_callTy call_list_of (by rfl) mlist (by decide +kernel) (pa_cons (pv 1) pa_nil)) rfl)
      (pss_cons (ps_fld (pv 0) (pv 2) rfl)
      (C8.pss_cut (ps_fld (pv 0) (pv 3) rfl)
      (C8.pss_cut (ps_setLc (i := 4) (own := [("reference", 7)]) (g := gName 7) (tt := tYes) (te := tOp (rIxT K) (tVar 7) (tC (.int 1))) (by rfl) scInit.nd rfl rfl (sw_true rfl rfl rfl (by decide +kernel)) (pi_list (pv 1)) (blkOk_by (own := [("reference", 7)]) (N := NI) (sc := defScope mInit) (by decide +kernel))
        (fun _ _ _ _ _ => pg_name (i := 7) scInit.nd rfl (Or.inl rfl)) (fun _ _ _ _ _ => pts_nil) (fun _ _ _ _ _ => pe_ix (r := rIxT K) ix_tup (pv 7) pe_int (fun _ _ => rfl)))
      (C8.pss_cut (ps_set (i := 5) scInit.nd rfl (.inr rfl) (pe_call GJ hr (by rfl) gJ kJ bJ .nil pass0 (pa_cons (pv 4) pa_nil)))
      (C8.pss_cut (ps_set (i := 6) scInit.nd rfl (.inl rfl) (pe_call GR hr (by rfl) gR kR bR .nil pass0 (pa_cons (pv 5) pa_nil)))
      (C8.pss_cut (ps_fld (pv 0) (pe_lc (own := [("start", 8)]) (g := gName 8) (tt := tYes) (te := tOp (rIxL K) (tVar 5) (tOp (rI0 fun i j => V.int (i - j)) (tVar 8) (tC (.int 1)))) (by rfl) scInit.nd (pi_list (pv 6)) (blkOk_by (own := [("start", 8)]) (N := NI) (sc := defScope mInit) (by decide +kernel))
        (fun _ _ _ _ _ => pg_name (i := 8) scInit.nd rfl (Or.inl rfl)) (fun _ _ _ _ _ => pts_nil) (fun _ _ _ _ _ => pe_ix (r := rIxL K) ix_list (pv 5) (pe_op op_sub (pv 8) pe_int) (fun _ _ => rfl))) rfl)
      (C8.pss_cut (ps_fld (pv 0) (pe_call GM hr (by rfl) gM kM bM .nil pass0 (pa_cons (pv 5) pa_nil)) rfl)
      (C8.pss_cut (ps_fld (pv 0) (pe_call GC hr (by rfl) gC kC bC .nil pass0 (pa_cons (pe_fld (pv 0) rfl) (pa_cons (pv 2) pa_nil))) rfl)
      (C8.pss_cut (ps_fld (pv 0) (pe_dc (own := [("row", 9), ("start", 8)]) (g := gTup K 2 (gCons (gName 9) (gCons (gName 8) gNil))) (tk := tVar 9) (tv := tVar 8) (by rfl) scInit.nd (pi_enum (by rfl) menum (pa_cons (pv 6) pa_nil)) (blkOk_by (own := [("row", 9), ("start", 8)]) (N := NI) (sc := defScope mInit) (by decide +kernel))
        (fun _ _ _ _ _ => pg_tup rfl (pgs_cons (pg_name (i := 9) scInit.nd rfl (Or.inl rfl)) (pgs_cons (pg_name (i := 8) scInit.nd rfl (Or.inl rfl)) pgs_nil))) (fun _ _ _ _ _ => pts_one (pt_cmpR op_eq (pe_op op_mod (pv 8) (pv 3)) pe_int (nomark _))) (fun _ _ _ _ _ => pv 9) (fun _ _ _ _ _ => pv 8)) rfl)
      (pss_one (ps_fld (pv 0) (pe_call GB hr (by rfl) gB kB bB .nil pass0 (pa_cons (pv 4) pa_nil)) rfl)))))))))))), ?_⟩
    have hjp : jl rs = jtl (rs.map (·.2)) := jl_jtl rs
    have hdl : ∀ l ∈ rs.map (·.2), Dna l := fun l hl => by
      obtain ⟨r, hr, rfl⟩ := List.mem_map.mp hl
      exact hd r hr
    have hnl : (jn rs).length ≤ 4000 := by
      rw [jn_len]
      exact hjl
    have hnum : ∀ z ∈ jn rs, 0 ≤ z ∧ z ≤ 6 := by
      rw [jn_jt]
      exact jt_num hdl
    have hxl : xs.length = rs.length := paired_len ht
    -- references, block, sample
    refine ⟨.ref a, rfl, a, xs, rfl, .inl hq, fun aR haR => ?_⟩
    have nR : x ≠ aR := ne_of_none hx haR
    refine ⟨.ref x, rfl, x, C, dx, _, rfl, by rw [upd_ne nR]; exact hx, X.cl, X.n1, by decide, ?_⟩
    refine ⟨.int b, rfl, .ref x, rfl, x, C, dx, _, rfl, upd_same, X.cl, X.n2, by show 1 < 1000; decide, ?_⟩
    refine ⟨fun σ H' => Sb x H H' ∧ ∃ aR, H aR = none ∧ aR ≠ x ∧ H' aR = some (.lst xs) ∧ H' x = some (.ins C dx [("references", .ref aR), ("block", .int (b : Int)), ("sample", .int (sp : Int))]) ∧ σ = [some (.ref x), some (.ref a), some (.int (b : Int)), some (.int (sp : Int)), none, none, none, none, none, none], ⟨.int sp, rfl, .ref x, rfl, x, C, dx, _, rfl, upd_same, X.cl, X.n3, ?_, ?_⟩, ?_⟩
    · rw [putF_new (names := ["references"]) (putF_names1 _ _) (by decide +kernel)]
      show 2 < 1000
      decide
    · refine ⟨fun c o nc e => ?_, aR, haR, nR.symm, ?_, ?_, rfl⟩
      · rw [upd_ne nc, upd_ne nc, upd_ne nc, upd_ne (ne_of_none e haR)]
        exact e
      · rw [upd_ne nR.symm, upd_ne nR.symm, upd_ne nR.symm, upd_same]
      · rw [upd_same, putF_new (names := ["references"]) (putF_names1 _ _) (by decide +kernel), putF_new (names := ["references", "block"]) rfl (by decide +kernel)]
        rfl
    rintro σ H1 ⟨sb1, aR, fR0, nR, hR1, hx1, rfl⟩
    have free1 : ∀ {p : Addr}, p ≠ x → H1 p = none → H p = none := fun {p} n e => sb_free sb1 n e
    -- texts
    refine ⟨fun σ H' => Same H1 H' ∧ ∃ aT, aT ≠ x ∧ H' aT = some (.lst ((rs.map (·.2)).map fun l => V.str (T l))) ∧ σ = [some (.ref x), some (.ref a), some (.int (b : Int)), some (.int (sp : Int)), some (.ref aT), none, none, none, none, none], ?_, ?_⟩
    · have hq1 : SqL K H1 a xs := by
        rcases hq with (z | ⟨o, z⟩) | z
        · exact .inl (.inl (sb1 a _ (fun e => by subst e; rw [hx] at z; cases z) z))
        · exact .inl (.inr ⟨o, sb1 a _ (fun e => by subst e; rw [hx] at z; cases z) z⟩)
        · exact .inr z
      have ht1 : Tups H1 xs rs := ht.mono fun z ys e => sb1 z _ (fun w => by subst w; rw [hx] at e; cases e) e
      refine ⟨.ref a, rfl, a, rfl, ⟨xs, hq1⟩, fun D hD => ?_⟩
      refine lc_list (K := K) (xs := xs) (fun j H' => Same H1 H' ∧ H' D = some (.lst (((rs.map (·.2)).take j).map fun l => V.str (T l)))) ⟨same_upd hD, upd_same⟩ (fun j H' _ h => h.1.seq hq1) ?_ ?_
      · rintro j y H' hjy ⟨s1, hd1⟩
        obtain ⟨r, hr0, qa, rfl, hqa⟩ := paired_get ht1 hjy
        have hj : j < rs.length := (List.getElem?_eq_some_iff.mp hr0).1
        refine ⟨rfl, ?_⟩
        dsimp only [tYes]
        rw [if_pos rfl]
        have hll : rs.length ≤ jl rs := by
          unfold jl
          clear hr0 hj ht1 ht hl1 hd hjl q hjp hdl hnl hnum hxl hd1
          induction rs with
          | nil => exact Nat.zero_le _
          | cons r t ih =>
            rw [List.map_cons, List.sum_cons, List.length_cons]
            omega
        refine ⟨.ref qa, rfl, qa, _, 1, .str (T r.2), rfl, rfl, .inl (.inl (s1 _ _ hqa)), atI_nat (j := 1) rfl, _, hd1, line_lt7 (by rw [List.length_map, List.length_take, List.length_map]; omega), fun c o e => ?_, ?_⟩
        · rw [upd_ne (ne_of_none e hD)]
          exact s1 c o e
        · rw [upd_same, List.take_add_one, List.getElem?_map, hr0, List.map_append]
          rfl
      · rintro H' ⟨s1, hd1⟩
        rw [hxl, List.take_of_length_le (by rw [List.length_map]; exact Nat.le_refl _)] at hd1
        exact ⟨s1, D, (ne_of_none hx1 hD).symm, hd1, rfl⟩
    rintro σ H2 ⟨s12, aT, nT, hT2, rfl⟩
    have hx2 := s12 _ _ hx1
    have hR2 := s12 _ _ hR1
    -- sequence
    refine ⟨fun σ H' => Same H2 H' ∧ ∃ aQ, aQ ≠ x ∧ H' aQ = some (LI (jn rs)) ∧ σ = [some (.ref x), some (.ref a), some (.int (b : Int)), some (.int (sp : Int)), some (.ref aT), some (.ref aQ), none, none, none, none], ?_, ?_⟩
    · refine ⟨.ref aT, rfl, aT, rs.map (·.2), rfl, .inl (.inl hT2), by rw [List.length_map]; exact hl1, hdl, by rw [← hjp]; omega, fun H3 p s3 hp h3 => ⟨s3, p, (ne_of_none hx2 hp).symm, ?_, rfl⟩⟩
      rw [h3, ← jn_jt]
    rintro σ H3 ⟨s23, aQ, nQ, hQ3, rfl⟩
    have hx3 := s23 _ _ hx2
    have hR3 := s23 _ _ hR2
    have hT3 := s23 _ _ hT2
    -- rows
    refine ⟨fun σ H' => Same H3 H' ∧ ∃ aW, aW ≠ x ∧ H' aW = some (LN (starts (jn rs))) ∧ σ = [some (.ref x), some (.ref a), some (.int (b : Int)), some (.int (sp : Int)), some (.ref aT), some (.ref aQ), some (.ref aW), none, none, none], ?_, ?_⟩
    · exact ⟨.ref aQ, rfl, aQ, jn rs, rfl, .inl (.inl hQ3), fun z hz => by have := hnum z hz; omega, hnl, fun H4 p s4 hp h4 => ⟨s4, p, (ne_of_none hx3 hp).symm, h4, rfl⟩⟩
    rintro σ H4 ⟨s34, aW, nW, hW4, rfl⟩
    have hx4 := s34 _ _ hx3
    have hR4 := s34 _ _ hR3
    have hT4 := s34 _ _ hT3
    have hQ4 := s34 _ _ hQ3
    have sb4 : Sb x H H4 := fun c o nc e => s34 _ _ (s23 _ _ (s12 _ _ (sb1 c o nc e)))
    have sl := starts_len (jn rs)
    -- _last
    refine ⟨fun σ H' => Sb x H4 H' ∧ ∃ aL, H aL = none ∧ aL ≠ x ∧ H' aL = some (LI (lastc (jn rs))) ∧ H' x = some (.ins C dx [("references", .ref aR), ("block", .int (b : Int)), ("sample", .int (sp : Int)), ("_last", .ref aL)]) ∧ σ = [some (.ref x), some (.ref a), some (.int (b : Int)), some (.int (sp : Int)), some (.ref aT), some (.ref aQ), some (.ref aW), none, none, none], ?_, ?_⟩
    · refine ⟨.ref aW, rfl, aW, rfl, ⟨_, .inl (.inl hW4)⟩, fun D hD => ?_⟩
      refine lc_list (K := K) (xs := (starts (jn rs)).map fun k : Nat => V.int (k : Nat)) (fun j H' => Same H4 H' ∧ H' D = some (LI ((lastc (jn rs)).take j))) ⟨same_upd hD, upd_same⟩ (fun j H' _ h => .inl (.inl (h.1 _ _ hW4))) ?_ ?_
      · rintro j y H' hjy ⟨s1, hd1⟩
        rw [List.getElem?_map] at hjy
        obtain ⟨st, hst, rfl⟩ := Option.map_eq_some_iff.mp hjy
        have hlt : st < (jn rs).length := starts_lt (List.mem_of_getElem? hst)
        refine ⟨rfl, ?_⟩
        dsimp only [tYes]
        rw [if_pos rfl]
        refine ⟨.ref aQ, rfl, .int (st : Nat), rfl, _, 1, rfl, rfl, aQ, _, _, _, rfl, rfl, .inl (.inl (s1 _ _ hQ4)), prev_at hlt, _, hd1, line_lt7 (by rw [List.length_map, List.length_take, lastc_len]; omega), fun c o e => ?_, ?_⟩
        · rw [upd_ne (ne_of_none e hD)]
          exact s1 c o e
        · have e1 : (lastc (jn rs))[j]? = some ((jn rs).getD (prevI (jn rs).length st) 0) := by
            unfold lastc
            rw [List.getElem?_map, hst]
            rfl
          rw [upd_same, List.take_add_one, e1]
          exact congrArg some (LI_snoc _ _).symm
      · rintro H' ⟨s1, hd1⟩
        rw [List.length_map, sl, ← lastc_len, List.take_length] at hd1
        have nD : D ≠ x := (ne_of_none hx4 hD).symm
        refine ⟨.ref x, rfl, x, C, dx, _, rfl, s1 _ _ hx4, X.cl, X.n4, by show 3 < 1000; decide, fun c o nc e => ?_, D, sb_free sb4 nD hD, nD, ?_, ?_, rfl⟩
        · rw [upd_ne nc]
          exact s1 c o e
        · rw [upd_ne nD]
          exact hd1
        · rw [upd_same, putF_new (names := ["references", "block", "sample"]) rfl (by decide +kernel)]
          rfl
    rintro σ H5 ⟨sb45, aL, fL0, nL, hL5, hx5, rfl⟩
    have sb5 : Sb x H H5 := fun c o nc e => sb45 _ _ nc (sb4 _ _ nc e)
    have hR5 := sb45 _ _ nR hR4
    have hT5 := sb45 _ _ nT hT4
    have hQ5 := sb45 _ _ nQ hQ4
    have hW5 := sb45 _ _ nW hW4
    -- _smaller
    refine ⟨fun σ H' => Sb x H5 H' ∧ ∃ aM, H aM = none ∧ aM ≠ x ∧ H' aM = some (LI (sml (jn rs))) ∧ H' x = some (.ins C dx [("references", .ref aR), ("block", .int (b : Int)), ("sample", .int (sp : Int)), ("_last", .ref aL), ("_smaller", .ref aM)]) ∧ σ = [some (.ref x), some (.ref a), some (.int (b : Int)), some (.int (sp : Int)), some (.ref aT), some (.ref aQ), some (.ref aW), none, none, none], ?_, ?_⟩
    · refine ⟨.ref aQ, rfl, aQ, jn rs, rfl, .inl (.inl hQ5), fun z hz => (hnum z hz).1, fun H' p s1 hp h1 => ?_⟩
      have nD : p ≠ x := (ne_of_none hx5 hp).symm
      refine ⟨.ref x, rfl, x, C, dx, _, rfl, s1 _ _ hx5, X.cl, X.n5, by show 4 < 1000; decide, fun c o nc e => ?_, p, sb_free sb5 nD hp, nD, ?_, ?_, rfl⟩
      · rw [upd_ne nc]
        exact s1 c o e
      · rw [upd_ne nD]
        exact h1
      · rw [upd_same, putF_new (names := ["references", "block", "sample", "_last"]) rfl (by decide +kernel)]
        rfl
    rintro σ H6 ⟨sb56, aM, fM0, nM, hM6, hx6, rfl⟩
    have sb6 : Sb x H H6 := fun c o nc e => sb56 _ _ nc (sb5 _ _ nc e)
    have hR6 := sb56 _ _ nR hR5
    have hT6 := sb56 _ _ nT hT5
    have hL6 := sb56 _ _ nL hL5
    have hW6 := sb56 _ _ nW hW5
    -- _counts
    refine ⟨fun σ H' => Sb x H6 H' ∧ ∃ (aC : Addr) (cs : List V), H aC = none ∧ (∀ q, V.ref q ∈ cs → H q = none) ∧ aC ≠ x ∧ H' aC = some (.lst cs) ∧ Bys aC H' cs (cntR (lastc (jn rs)) b) ∧ H' x = some (.ins C dx [("references", .ref aR), ("block", .int (b : Int)), ("sample", .int (sp : Int)), ("_last", .ref aL), ("_smaller", .ref aM), ("_counts", .ref aC)]) ∧ σ = [some (.ref x), some (.ref a), some (.int (b : Int)), some (.int (sp : Int)), some (.ref aT), some (.ref aQ), some (.ref aW), none, none, none], ?_, ?_⟩
    · refine ⟨.ref x, rfl, x, C, dx, _, _, rfl, hx6, X.cl, X.n4, lookup_of (names := ["references", "block", "sample", "_last", "_smaller"]) (i := 3) rfl rfl (by decide +kernel), .int b, rfl, aL, lastc (jn rs), b, rfl, .inl (.inl hL6), hb1, hb2, by rw [lastc_len]; omega, fun H' p cs s1 hp h1 hc hf => ?_⟩
      have nD : p ≠ x := (ne_of_none hx6 hp).symm
      refine ⟨.ref x, rfl, x, C, dx, _, rfl, s1 _ _ hx6, X.cl, X.n6, by show 5 < 1000; decide, fun c o nc e => ?_, p, cs, sb_free sb6 nD hp, fun z hz => sb_free sb6 (fun w => by have := hf z hz; rw [w, hx6] at this; cases this) (hf z hz), nD, ?_, ?_, ?_, rfl⟩
      · rw [upd_ne nc]
        exact s1 c o e
      · rw [upd_ne nD]
        exact h1
      · exact hc.mono fun z l _ e => by rw [upd_ne (fun w => by subst w; rw [s1 _ _ hx6] at e; cases e)]; exact e
      · rw [upd_same, putF_new (names := ["references", "block", "sample", "_last", "_smaller"]) rfl (by decide +kernel)]
        rfl
    rintro σ H7 ⟨sb67, aC, cs, fC0, fcs0, nC, hC7, hc7, hx7, rfl⟩
    have sb7 : Sb x H H7 := fun c o nc e => sb67 _ _ nc (sb6 _ _ nc e)
    have hR7 := sb67 _ _ nR hR6
    have hT7 := sb67 _ _ nT hT6
    have hL7 := sb67 _ _ nL hL6
    have hM7 := sb67 _ _ nM hM6
    have hW7 := sb67 _ _ nW hW6
    -- _starts
    refine ⟨fun σ H' => Sb x H7 H' ∧ ∃ (aS : Addr), H aS = none ∧ aS ≠ x ∧ H' aS = some (.dK (keptK (jn rs) sp (jn rs).length)) ∧ H' x = some (.ins C dx [("references", .ref aR), ("block", .int (b : Int)), ("sample", .int (sp : Int)), ("_last", .ref aL), ("_smaller", .ref aM), ("_counts", .ref aC), ("_starts", .ref aS)]) ∧ σ = [some (.ref x), some (.ref a), some (.int (b : Int)), some (.int (sp : Int)), some (.ref aT), some (.ref aQ), some (.ref aW), none, none, none], ?_, ?_⟩
    · refine ⟨.ref aW, rfl, aW, _, rfl, .inl (.inl hW7), fun D hD => ?_⟩
      refine dc_gen (n := (jn rs).length) (fun j H' => Same H7 H' ∧ H' D = some (.dK (keptK (jn rs) sp j))) ⟨same_upd hD, upd_same⟩ ?_ ?_ ?_ ?_
      · rintro j H' hj ⟨s1, hd1⟩
        exact ⟨_, _, .inl (.inl (s1 _ _ hW7)), List.getElem?_eq_getElem (by rw [List.length_map, sl]; exact hj)⟩
      · rintro H' ⟨s1, hd1⟩
        exact ⟨_, .inl (.inl (s1 _ _ hW7)), by rw [List.length_map, sl]; exact Nat.le_refl _⟩
      · rintro j H' v H'' hj ⟨s1, hd1⟩ ⟨U, y, rfl, hU, rfl, hy⟩
        have ey := hy _ (.inl (.inl (s1 _ _ hW7)))
        have hjs : j < (starts (jn rs)).length := by rw [sl]; exact hj
        have es := List.getElem?_eq_getElem hjs
        rw [List.getElem?_map, es] at ey
        obtain rfl : V.int ((starts (jn rs))[j] : Nat) = y := Option.some.inj ey
        have gd : (starts (jn rs)).getD j 0 = (starts (jn rs))[j] := by
          rw [List.getD_eq_getElem?_getD, es]
          rfl
        have nUD : D ≠ U := ne_of_none hd1 hU
        refine ⟨U, _, rfl, .inl (.inl upd_same), rfl, _, _, rfl, _, _, rfl, rfl, rfl, ?_⟩
        refine ⟨_, rfl, .int sp, rfl, _, (sp : Int), rfl, rfl, (show (0 : Int) < (sp : Int) by omega), rfl, _, rfl, ?_⟩
        have kn := keptK_none (jn rs) sp (Nat.le_refl j)
        have ks := keptK_succ (jn rs) sp j
        rw [gd] at ks
        by_cases cz : (starts (jn rs))[j] % sp = 0
        · rw [if_pos cz] at ks
          rw [decide_eq_true (show V.int (((starts (jn rs))[j] : Nat) % (sp : Int)) = V.int 0 by rw [← Int.natCast_emod, cz]; rfl)]
          refine iteT ⟨_, rfl, _, rfl, _, .inl (j : Int), rfl, by rw [upd_ne nUD]; exact hd1, line_lt7 (by have := keptK_len (jn rs) sp j; omega), fun c o e => ?_, ?_⟩
          · rw [upd_ne (ne_of_none e hD), upd_ne (ne_of_none (s1 _ _ e) hU)]
            exact s1 _ _ e
          · rw [upd_same, ks, putK_new _ kn]
        · rw [if_neg cz] at ks
          rw [decide_eq_false (show ¬ V.int (((starts (jn rs))[j] : Nat) % (sp : Int)) = V.int 0 from fun z => cz (by have := V.int.inj z; omega))]
          refine iteF ⟨fun c o e => ?_, ?_⟩
          · rw [upd_ne (ne_of_none (s1 _ _ e) hU)]
            exact s1 _ _ e
          · rw [upd_ne nUD, ks]
            exact hd1
      · rintro H' ⟨s1, hd1⟩
        have nD : D ≠ x := (ne_of_none hx7 hD).symm
        refine ⟨.ref x, rfl, x, C, dx, _, rfl, s1 _ _ hx7, X.cl, X.n7, by show 6 < 1000; decide, fun c o nc e => ?_, D, sb_free sb7 nD hD, nD, ?_, ?_, rfl⟩
        · rw [upd_ne nc]
          exact s1 c o e
        · rw [upd_ne nD]
          exact hd1
        · rw [upd_same, putF_new (names := ["references", "block", "sample", "_last", "_smaller", "_counts"]) rfl (by decide +kernel)]
          rfl
    rintro σ H8 ⟨sb78, aS, fS0, nS, hS8, hx8, rfl⟩
    have sb8 : Sb x H H8 := fun c o nc e => sb78 _ _ nc (sb7 _ _ nc e)
    have hR8 := sb78 _ _ nR hR7
    have hT8 := sb78 _ _ nT hT7
    have hL8 := sb78 _ _ nL hL7
    have hM8 := sb78 _ _ nM hM7
    have hC8 := sb78 _ _ nC hC7
    -- _begins
    refine ⟨.ref aT, rfl, aT, rs.map (·.2), rfl, .inl (.inl hT8), by rw [← hjp]; omega, fun H' p s1 hp h1 => ?_⟩
    have nD : p ≠ x := (ne_of_none hx8 hp).symm
    have sbF : Sb x H (upd H' x (.ins C dx (putF "_begins" (.ref p) [("references", .ref aR), ("block", .int (b : Int)), ("sample", .int (sp : Int)), ("_last", .ref aL), ("_smaller", .ref aM), ("_counts", .ref aC), ("_starts", .ref aS)]))) := fun c o nc e => by
      rw [upd_ne nc]
      exact s1 _ _ (sb78 _ _ nc (sb67 _ _ nc (sb56 _ _ nc (sb45 _ _ nc (sb4 _ _ nc e)))))
    refine ⟨.ref x, rfl, x, C, dx, _, rfl, s1 _ _ hx8, X.cl, X.n8, by show 7 < 1000; decide, q _ sbF ⟨dx, aR, xs, aL, aM, aC, cs, aS, p, ⟨?_, ?_, ht.mono fun z ys e => sbF z _ (fun w => by subst w; rw [hx] at e; cases e) e, ?_, ?_, ?_, ?_, ?_, ?_⟩, fR0, fL0, fM0, fC0, fS0, sb_free sb8 nD hp, fcs0⟩⟩
    · rw [upd_same, putF_new (names := ["references", "block", "sample", "_last", "_smaller", "_counts", "_starts"]) rfl (by decide +kernel)]
      rfl
    · rw [upd_ne nR]
      exact s1 _ _ hR8
    · rw [upd_ne nL]
      exact s1 _ _ hL8
    · rw [upd_ne nM]
      exact s1 _ _ hM8
    · rw [upd_ne nC]
      exact s1 _ _ hC8
    · refine hc7.mono fun z l _ e => ?_
      have nz : z ≠ x := fun w => by
        subst w
        rw [hx7] at e
        cases e
      rw [upd_ne nz]
      exact s1 _ _ (sb78 _ _ nz e)
    · rw [upd_ne nS]
      exact s1 _ _ hS8
    · rw [upd_ne nD]
      exact h1
end
/-! ### the steps -/
theorem drop_ne {ns : List Int} {x y : Nat} (hx : x < ns.length) (hy : y < ns.length) (h : x ≠ y) : ns.drop x ≠ ns.drop y := fun e => by
  have := congrArg List.length e
  rw [List.length_drop, List.length_drop] at this
  omega
theorem starts_lt_pw (ns : List Int) : (starts ns).Pairwise fun x y => ns.drop x < ns.drop y := by
  have both := (starts_pw ns).and (List.nodup_iff_pairwise_ne.mp (starts_nodup ns))
  refine both.imp_of_mem fun {x y} hx hy c => ?_
  refine List.not_le.mp fun z => ?_
  exact drop_ne (starts_lt hx) (starts_lt hy) c.2 (List.le_antisymm c.1 z)
/-- in order: those less than the one at r are the first r -/
theorem cnt_take (ns : List Int) (q : Nat → Bool) {r : Nat} (hr : r < (starts ns).length) : (starts ns).countP (fun x => q x && decide (ns.drop x < ns.drop (starts ns)[r])) = ((starts ns).take r).countP q := by
  have pw := starts_lt_pw ns
  have e : starts ns = (starts ns).take r ++ (starts ns)[r] :: (starts ns).drop (r + 1) := by
    rw [← List.drop_eq_getElem_cons hr, List.take_append_drop]
  generalize hv : (starts ns)[r] = v at e
  rw [e] at pw
  obtain ⟨_, p2, p3⟩ := List.pairwise_append.mp pw
  obtain ⟨p4, _⟩ := List.pairwise_cons.mp p2
  have c1 : ((starts ns).take r).countP (fun x => q x && decide (ns.drop x < ns.drop v)) = ((starts ns).take r).countP q := by
    refine List.countP_congr fun x hx => ?_
    rw [decide_eq_true (p3 x hx v List.mem_cons_self), Bool.and_true]
  have c2 : (v :: (starts ns).drop (r + 1)).countP (fun x => q x && decide (ns.drop x < ns.drop v)) = 0 := by
    rw [List.countP_eq_zero]
    intro x hx
    have no : ¬ ns.drop x < ns.drop v := by
      rcases List.mem_cons.mp hx with z | z
      · rw [z]
        exact List.lt_irrefl _
      · exact fun w => List.lt_irrefl _ (List.lt_trans w (p4 x z))
    rw [decide_eq_false no, Bool.and_false]
    exact Bool.false_ne_true
  calc (starts ns).countP (fun x => q x && decide (ns.drop x < ns.drop v)) = ((starts ns).take r ++ v :: (starts ns).drop (r + 1)).countP (fun x => q x && decide (ns.drop x < ns.drop v)) := by rw [← e]
    _ = _ := by rw [List.countP_append, c1, c2, Nat.add_zero]
def rk (ns : List Int) (i : Nat) : Nat := (List.range ns.length).countP fun j => decide (ns.drop j < ns.drop i)
theorem rk_starts (ns : List Int) {r : Nat} (hr : r < (starts ns).length) : rk ns (starts ns)[r] = r := by
  have h := cnt_take ns (fun _ => true) hr
  unfold rk
  rw [← (starts_perm ns).countP_eq]
  simp only [Bool.true_and] at h
  rw [h, List.countP_true, List.length_take]
  omega
theorem starts_rk {ns : List Int} {i : Nat} (hi : i < ns.length) : (starts ns)[rk ns i]? = some i := by
  obtain ⟨r, hr, e⟩ := List.mem_iff_getElem.mp ((starts_perm ns).mem_iff.mpr (List.mem_range.mpr hi))
  have := rk_starts ns hr
  rw [e] at this
  rw [this, List.getElem?_eq_getElem hr, e]
theorem rk_lt {ns : List Int} {i : Nat} (hi : i < ns.length) : rk ns i < ns.length := by
  rw [← starts_len ns]
  exact (List.getElem?_eq_some_iff.mp (starts_rk hi)).1
/-- the step from a row -/
def lf (ns : List Int) (r : Nat) : Nat := lessN ns ((lastc ns).getD r 0).toNat + ((lastc ns).take r).count ((lastc ns).getD r 0)
/-- ended by its only 0 -/
def Ended (ns : List Int) : Prop := (∀ x ∈ ns, 0 ≤ x) ∧ ∀ i x, ns[i]? = some x → (x = 0 ↔ i + 1 = ns.length)
theorem count_range (ns : List Int) (q : Int → Bool) : ns.countP q = (List.range ns.length).countP fun j => q (ns.getD j 0) := by
  have e : ns = (List.range ns.length).map fun j => ns.getD j 0 := by
    apply List.ext_getElem
    · simp
    · intro i h1 h2
      rw [List.getElem_map, List.getElem_range, List.getD_eq_getElem?_getD, List.getElem?_eq_getElem h1]
      rfl
  calc ns.countP q = ((List.range ns.length).map fun j => ns.getD j 0).countP q := by rw [← e]
    _ = _ := by rw [List.countP_map]; rfl
theorem drop_lt_iff {ns : List Int} {i j : Nat} (hi : i < ns.length) (hj : j < ns.length) : ns.drop j < ns.drop i ↔ ns.getD j 0 < ns.getD i 0 ∨ (ns.getD j 0 = ns.getD i 0 ∧ ns.drop (j + 1) < ns.drop (i + 1)) := by
  have gi : ns.getD i 0 = ns[i] := by
    rw [List.getD_eq_getElem?_getD, List.getElem?_eq_getElem hi]
    rfl
  have gj : ns.getD j 0 = ns[j] := by
    rw [List.getD_eq_getElem?_getD, List.getElem?_eq_getElem hj]
    rfl
  rw [gi, gj, List.drop_eq_getElem_cons hi, List.drop_eq_getElem_cons hj, List.cons_lt_cons_iff]
theorem countP_or {α : Type} (l : List α) (p q : α → Bool) (h : ∀ x ∈ l, ¬ (p x = true ∧ q x = true)) : l.countP (fun x => p x || q x) = l.countP p + l.countP q := by
  induction l with
  | nil => rfl
  | cons x r ih =>
    rw [List.countP_cons, List.countP_cons, List.countP_cons, ih fun y hy => h y (List.mem_cons_of_mem _ hy)]
    have := h x List.mem_cons_self
    cases hp : p x <;> cases hq : q x
    · simp
    · simp
      omega
    · simp
      omega
    · exact absurd ⟨hp, hq⟩ this
theorem rk_split {ns : List Int} {i : Nat} (hi : i < ns.length) (h0 : 0 ≤ ns.getD i 0) : rk ns i = lessN ns (ns.getD i 0).toNat + (List.range ns.length).countP fun j => decide (ns.getD j 0 = ns.getD i 0) && decide (ns.drop (j + 1) < ns.drop (i + 1)) := by
  unfold rk lessN
  rw [count_range ns, ← countP_or]
  · refine List.countP_congr fun j hj => ?_
    have hj := List.mem_range.mp hj
    rw [decide_eq_true_iff, drop_lt_iff hi hj, Bool.or_eq_true, Bool.and_eq_true, decide_eq_true_iff, decide_eq_true_iff, decide_eq_true_iff, Int.toNat_of_nonneg h0]
  · intro j _ ⟨a, b⟩
    rw [Bool.and_eq_true, decide_eq_true_iff] at b
    rw [decide_eq_true_iff, Int.toNat_of_nonneg h0] at a
    omega
theorem last_count (ns : List Int) (c : Int) {r : Nat} (hr : r < (starts ns).length) : ((lastc ns).take r).count c = (List.range ns.length).countP fun p => decide (ns.getD (prevI ns.length p) 0 = c) && decide (ns.drop p < ns.drop (starts ns)[r]) := by
  have h := cnt_take ns (fun p => decide (ns.getD (prevI ns.length p) 0 = c)) hr
  rw [(starts_perm ns).countP_eq] at h
  rw [h]
  unfold lastc List.count
  rw [← List.map_take, List.countP_map]
  refine List.countP_congr fun x _ => ?_
  simp
theorem lastc_at (ns : List Int) {r : Nat} (hr : r < (starts ns).length) : (lastc ns)[r]? = some (ns.getD (prevI ns.length (starts ns)[r]) 0) := by
  unfold lastc
  rw [List.getElem?_map, List.getElem?_eq_getElem hr]
  rfl
theorem lastc_getD (ns : List Int) {r : Nat} (hr : r < (starts ns).length) : (lastc ns).getD r 0 = ns.getD (prevI ns.length (starts ns)[r]) 0 := by
  rw [List.getD_eq_getElem?_getD, lastc_at ns hr]
  rfl
theorem Ended.at {ns : List Int} (h : Ended ns) {i : Nat} (hi : i < ns.length) : ns.getD i 0 = 0 ↔ i + 1 = ns.length := by
  rw [List.getD_eq_getElem?_getD, List.getElem?_eq_getElem hi]
  exact h.2 i _ (List.getElem?_eq_getElem hi)
theorem Ended.nonneg {ns : List Int} (h : Ended ns) (i : Nat) : 0 ≤ ns.getD i 0 := by
  rw [List.getD_eq_getElem?_getD]
  cases e : ns[i]? with
  | none => exact Int.le_refl _
  | some x => exact h.1 x (List.mem_of_getElem? e)
/-- the step leads one position back -/
theorem lf_rk {ns : List Int} (he : Ended ns) {r : Nat} (hr : r < (starts ns).length) : lf ns r = rk ns (prevI ns.length (starts ns)[r]) := by
  have hp : (starts ns)[r] < ns.length := starts_lt (List.getElem_mem hr)
  have hi := prevI_lt hp
  unfold lf
  rw [lastc_getD ns hr, rk_split hi (he.nonneg _), last_count ns _ hr]
  congr 1
  generalize (starts ns)[r] = p at hp hi ⊢
  obtain ⟨m, hm⟩ : ∃ m, ns.length = m + 1 := ⟨ns.length - 1, by omega⟩
  by_cases hp0 : p = 0
  · subst hp0
    have e1 : prevI ns.length 0 = m := by
      unfold prevI
      rw [if_pos rfl]
      omega
    have z : ns.getD m 0 = 0 := (he.at (by omega)).mpr (by omega)
    rw [e1, z]
    refine Eq.trans (b := 0) ?_ ?_
    · rw [List.countP_eq_zero]
      intro x hx
      have hx := List.mem_range.mp hx
      rw [Bool.and_eq_true, decide_eq_true_iff, decide_eq_true_iff]
      rintro ⟨a, b⟩
      have := (he.at (prevI_lt hx)).mp a
      have x0 : x = 0 := by
        unfold prevI at this
        split at this <;> omega
      rw [x0] at b
      exact List.lt_irrefl _ b
    · symm
      rw [List.countP_eq_zero]
      intro x hx
      rw [Bool.and_eq_true, decide_eq_true_iff, decide_eq_true_iff]
      rintro ⟨_, b⟩
      rw [List.drop_eq_nil_of_le (i := m + 1) (by omega)] at b
      exact List.not_lt_nil _ b
  · have e1 : prevI ns.length p = p - 1 := by
      unfold prevI
      rw [if_neg hp0]
    have cn : ns.getD (p - 1) 0 ≠ 0 := fun z => by
      have := (he.at (by omega)).mp z
      omega
    rw [e1, show p - 1 + 1 = p by omega]
    generalize ns.getD (p - 1) 0 = c at cn ⊢
    have zm : ns.getD m 0 = 0 := (he.at (by omega)).mpr (by omega)
    rw [hm]
    refine Eq.trans (b := (List.range m).countP fun j => decide (ns.getD j 0 = c) && decide (ns.drop (j + 1) < ns.drop p)) ?_ ?_
    · rw [List.range_succ_eq_map, List.countP_cons, List.countP_map]
      have e0 : prevI (m + 1) 0 = m := by
        unfold prevI
        rw [if_pos rfl]
        omega
      rw [e0, if_neg (by rw [zm, decide_eq_false (fun z => cn z.symm)]; simp)]
      rw [Nat.add_zero]
      refine List.countP_congr fun j _ => ?_
      show ((decide (ns.getD (prevI (m + 1) (j + 1)) 0 = c) && decide (ns.drop (j + 1) < ns.drop p)) = true ↔ _)
      have ej : prevI (m + 1) (j + 1) = j := by
        unfold prevI
        rw [if_neg (by omega)]
        omega
      rw [ej]
    · rw [List.range_succ, List.countP_append, List.countP_singleton, if_neg (by rw [zm, decide_eq_false (fun z => cn z.symm)]; simp)]
      rfl
theorem lf_starts {ns : List Int} (he : Ended ns) {r s : Nat} (hr : (starts ns)[r]? = some s) : (starts ns)[lf ns r]? = some (prevI ns.length s) := by
  obtain ⟨h1, e⟩ := List.getElem?_eq_some_iff.mp hr
  rw [lf_rk he h1, e]
  exact starts_rk (prevI_lt (by rw [← e]; exact starts_lt (List.getElem_mem h1)))
theorem jt_ended {ls : List (List Nat)} (h1 : 1 ≤ ls.length) (h : ∀ l ∈ ls, Dna l) : Ended (jt ls) := by
  have hraw : ∀ x ∈ jraw2 ls, 1 ≤ x := fun x hx => by
    obtain ⟨l, hl, hm⟩ := List.mem_flatMap.mp hx
    rcases List.mem_append.mp hm with y | y
    · obtain ⟨c, hc, rfl⟩ := List.mem_map.mp y
      have := sy_ge c
      omega
    · obtain rfl : x = 1 := by simpa using y
      decide
  refine ⟨fun x hx => (jt_num h x hx).1, fun i x hi => ?_⟩
  have hli := (List.getElem?_eq_some_iff.mp hi).1
  unfold jt at hi hli ⊢
  rw [List.length_set] at hli ⊢
  rw [List.getElem?_set] at hi
  by_cases c : (jraw2 ls).length - 1 = i
  · rw [if_pos c, if_pos (by omega)] at hi
    have := Option.some.inj hi
    omega
  · rw [if_neg c] at hi
    have := hraw x (List.mem_of_getElem? hi)
    omega
theorem jn_ended {rs : List Rf} (h1 : 1 ≤ rs.length) (h : ∀ r ∈ rs, Dna r.2) : Ended (jn rs) := by
  rw [jn_jt]
  refine jt_ended (by rw [List.length_map]; exact h1) fun l hl => ?_
  obtain ⟨r, hr, rfl⟩ := List.mem_map.mp hl
  exact h r hr
theorem jn_num {rs : List Rf} (h : ∀ r ∈ rs, Dna r.2) : ∀ z ∈ jn rs, 0 ≤ z ∧ z ≤ 6 := by
  rw [jn_jt]
  refine jt_num fun l hl => ?_
  obtain ⟨r, hr, rfl⟩ := List.mem_map.mp hl
  exact h r hr
/-! ### the index asked -/
theorem scLength : FnScope ["self"] ["self"] (defScope mLength) := ⟨rfl, rfl, rfl, by decide +kernel, rfl, by decide +kernel, by decide +kernel⟩
theorem scLast : FnScope ["self"] ["self"] (defScope mLast) := ⟨rfl, rfl, rfl, by decide +kernel, rfl, by decide +kernel, by decide +kernel⟩
theorem scCount : FnScope ["self", "symbol", "row", "block"] ["self", "symbol", "row"] (defScope mCount) := ⟨rfl, rfl, rfl, by decide +kernel, rfl, by decide +kernel, by decide +kernel⟩
theorem scAhead : FnScope ["self", "symbol", "row"] ["self", "symbol", "row"] (defScope mAhead) := ⟨rfl, rfl, rfl, by decide +kernel, rfl, by decide +kernel, by decide +kernel⟩
theorem scStep : FnScope ["self", "row"] ["self", "row"] (defScope mStep) := ⟨rfl, rfl, rfl, by decide +kernel, rfl, by decide +kernel, by decide +kernel⟩
theorem scStart : FnScope ["self", "row", "steps"] ["self", "row"] (defScope mStart) := ⟨rfl, rfl, rfl, by decide +kernel, rfl, by decide +kernel, by decide +kernel⟩
/-- a def of the class that keeps a promise -/
def HasM (P : Program) (w : World) (K : PySem.W.Frag) (mg : Str → Option Value) (base : Heap) (C : Addr) (k : Nat) (m : Str) (ps : List Str) (sp : Sp) : Prop :=
  ∃ f fd, FnOk P w K mg base CX0 k f fd ps sp ∧ Meth K C m f ∧ Binds K fd ps []
/-- what is asked of an index -/
def IxOk (rs : List Rf) (b s : Nat) : Prop := 1 ≤ rs.length ∧ (∀ r ∈ rs, Dna r.2) ∧ jl rs ≤ 4000 ∧ 1 ≤ b ∧ b ≤ 1000 ∧ 1 ≤ s ∧ s ≤ 1000
def spLen (C : Addr) : Sp := fun vs H Q _ => ∃ (x : Addr) (rs : List Rf) (b s : Nat), vs = [.ref x] ∧ Ixd C H x rs b s ∧ Q (.int ((jn rs).length : Nat)) H
def spLast (C : Addr) : Sp := fun vs H Q _ => ∃ (x : Addr) (rs : List Rf) (b s : Nat), vs = [.ref x] ∧ Ixd C H x rs b s ∧ ∀ p, H p = none → Q (.ref p) (upd H p (LI (lastc (jn rs))))
def spCount (C : Addr) : Sp := fun vs H Q _ => ∃ (x : Addr) (rs : List Rf) (b s c r : Nat), vs = [.ref x, .int (c : Int), .int (r : Int)] ∧ Ixd C H x rs b s ∧ IxOk rs b s ∧ c < 7 ∧ r ≤ (jn rs).length ∧ ∀ H', Same H H' → Q (.int (((lastc (jn rs)).take r).count (c : Int) : Nat)) H'
def spAhead (C : Addr) : Sp := fun vs H Q _ => ∃ (x : Addr) (rs : List Rf) (b s c r : Nat), vs = [.ref x, .int (c : Int), .int (r : Int)] ∧ Ixd C H x rs b s ∧ IxOk rs b s ∧ c < 7 ∧ r ≤ (jn rs).length ∧ ∀ H', Same H H' → Q (.int (lessN (jn rs) c + ((lastc (jn rs)).take r).count (c : Int) : Nat)) H'
def spStep (C : Addr) : Sp := fun vs H Q _ => ∃ (x : Addr) (rs : List Rf) (b s r : Nat), vs = [.ref x, .int (r : Int)] ∧ Ixd C H x rs b s ∧ IxOk rs b s ∧ r < (jn rs).length ∧ ∀ H', Same H H' → Q (.int (lf (jn rs) r : Nat)) H'
def spStart (C : Addr) : Sp := fun vs H Q _ => ∃ (x : Addr) (rs : List Rf) (b s r : Nat), vs = [.ref x, .int (r : Int)] ∧ Ixd C H x rs b s ∧ IxOk rs b s ∧ r < (jn rs).length ∧ ∀ H', Same H H' → Q (.int ((starts (jn rs)).getD r 0 : Nat)) H'
section
variable {P : Program} {w : World} {K : PySem.W.Frag} {mg : Str → Option Value} {base : Heap}
theorem ixl {aR : Addr} {b s : Nat} {aL aM aC aS aB : Addr} {f : Str} {v : V} {i : Nat} (hi : (ixF aR b s aL aM aC aS aB)[i]? = some (f, v)) (hf : (ixNames.take i).contains f = false) : (ixF aR b s aL aM aC aS aB).lookup f = some v := lookup_of (ixF_names ..) hi hf
theorem ok_len {f C : Addr} {fd : FuncData} {k : Nat} (F : Fun K "length" "Index.length" mLength f fd) (X : IxT K mg C) (mlen : mg "len" = none) : FnOk P w K mg base CX0 (k + 1) f fd ["self"] (spLen C) := by
  refine F.ok scLength (fun vs H Q E h => ?_) (fun cdv A outer s H vs Q E hr h => ?_)
  · obtain ⟨x, rs, b, s, rfl, _⟩ := h
    rfl
  · obtain ⟨x, rs, b, s, rfl, ⟨dx, aR, xs, aL, aM, aC, cs, aS, aB, I⟩, q⟩ := h
    refine ⟨_, pss_one (ps_ret (pe_callB call_len_seq (by rfl) mlen PySem.boot_len (pa_cons (pe_fld (pv 0) rfl) pa_nil))), ?_⟩
    refine ⟨.ref x, rfl, x, C, dx, _, _, rfl, I.ob, X.cl, X.n4, ixl (i := 3) rfl (by decide +kernel), aL, _, rfl, .inl (.inl (.inl I.la)), ?_⟩
    rw [List.length_map, lastc_len]
    exact q
theorem ok_last {f C : Addr} {fd : FuncData} {k : Nat} (F : Fun K "last" "Index.last" mLast f fd) (X : IxT K mg C) (mlist : mg "list" = none) : FnOk P w K mg base CX0 (k + 1) f fd ["self"] (spLast C) := by
  refine F.ok scLast (fun vs H Q E h => ?_) (fun cdv A outer s H vs Q E hr h => ?_)
  · obtain ⟨x, rs, b, s, rfl, _⟩ := h
    rfl
  · obtain ⟨x, rs, b, s, rfl, ⟨dx, aR, xs, aL, aM, aC, cs, aS, aB, I⟩, q⟩ := h
    refine ⟨_, pss_one (ps_ret (pe_callTy call_list_of (by rfl) mlist (by decide +kernel) (pa_cons (pe_fld (pv 0) rfl) pa_nil))), ?_⟩
    exact ⟨.ref x, rfl, x, C, dx, _, _, rfl, I.ob, X.cl, X.n4, ixl (i := 3) rfl (by decide +kernel), aL, _, rfl, .inl (.inl (.inl I.la)), q⟩
theorem ok_count {f C : Addr} {fd : FuncData} {k : Nat} (F : Fun K "count" "Index.count" mCount f fd) (X : IxT K mg C) : FnOk P w K mg base CX0 (k + 1) f fd ["self", "symbol", "row"] (spCount C) := by
  refine F.ok scCount (fun vs H Q E h => ?_) (fun cdv A outer s H vs Q E hr h => ?_)
  · obtain ⟨x, rs, b, s, c, r, rfl, _⟩ := h
    rfl
  · obtain ⟨x, rs, b, s, c, r, rfl, ⟨dx, aR, xs, aL, aM, aC, cs, aS, aB, I⟩, ⟨_, _, hjl, hb1, hb2, _, _⟩, hc, hr1, q⟩ := h
    refine ⟨_, pss_cons (ps_set (i := 3) scCount.nd rfl (.inl rfl) (pe_op op_fdiv (pv 2) (pe_fld (pv 0) rfl)))
      (pss_one (ps_ret (pe_op op_add (pe_ix ix_list (pe_ix ix_list (pe_fld (pv 0) rfl) (pv 3) (fun _ _ => rfl)) (pv 1) (fun _ _ => rfl))
        (pe_bm PySem.F.plainAttrs_list PySem.F.slot_list_count PySem.F.type_list_count mt_lcount (pe_slice sl_list (pe_fld (pv 0) rfl) (po_some (pe_op op_mul (pv 3) (pe_fld (pv 0) rfl))) (po_some (pv 2))) (pa_cons (pv 1) pa_nil))))), ?_⟩
    have hnl : (jn rs).length ≤ 4000 := by
      rw [jn_len]
      exact hjl
    have hll := lastc_len (jn rs)
    refine ⟨.int r, rfl, .ref x, rfl, x, C, dx, _, _, rfl, I.ob, X.cl, X.n2, ixl (i := 1) rfl (by decide +kernel), (r : Int), (b : Int), rfl, rfl, ⟨by omega, by omega⟩, ?_⟩
    have ed : (r : Int) / (b : Int) = ((r / b : Nat) : Int) := (Int.natCast_ediv r b).symm
    have hqr : r / b * b ≤ r := Nat.div_mul_le_self r b
    have hqb : r / b ≤ (lastc (jn rs)).length / b := Nat.div_le_div_right (by omega)
    have hbl := paired_len I.cr
    unfold cntR at hbl
    rw [List.length_map, List.length_range] at hbl
    have hqc : r / b < cs.length := by omega
    obtain ⟨y, hy, qb, eq, nqb, hqb⟩ := paired_get I.cr (List.getElem?_eq_getElem hqc)
    unfold cntR at hy
    rw [List.getElem?_map, List.getElem?_range (by omega)] at hy
    obtain rfl := Option.some.inj hy
    refine ⟨.ref x, rfl, x, C, dx, _, _, rfl, I.ob, X.cl, X.n6, ixl (i := 5) rfl (by decide +kernel), .int ((r : Int) / (b : Int)), rfl, aC, _, _, .ref qb, rfl, rfl, .inl (.inl I.co), by rw [ed]; exact atI_nat (by rw [List.getElem?_eq_getElem hqc, eq]), ?_⟩
    refine ⟨.int c, rfl, qb, _, _, _, rfl, rfl, .inl (.inl hqb), atI_nat (map7_at hc), ?_⟩
    refine ⟨.ref x, rfl, x, C, dx, _, _, rfl, I.ob, X.cl, X.n4, ixl (i := 3) rfl (by decide +kernel), .int ((r : Int) / (b : Int)), rfl, .ref x, rfl, x, C, dx, _, _, rfl, I.ob, X.cl, X.n2, ixl (i := 1) rfl (by decide +kernel), (r : Int) / (b : Int), (b : Int), rfl, rfl, .inl ⟨by rw [ed]; have := Int.natCast_nonneg (r / b); omega, by rw [ed]; have : r / b ≤ r := Nat.div_le_self r b; omega⟩, _, rfl, .int r, rfl, _, rfl, aL, _, rfl, .inl (.inl I.la), fun p hp => ?_⟩
    have hcut : L2.cutV ((lastc (jn rs)).map V.int) (some ((r : Int) / (b : Int) * (b : Int))) (some (r : Int)) = (((lastc (jn rs)).drop (r / b * b)).take (r - r / b * b)).map V.int := by
      rw [ed, ← Int.natCast_mul, cutV_mid _ hqr (by rw [List.length_map]; omega), ← List.map_drop, ← List.map_take]
    have hp2 : upd H p (.lst (L2.cutV ((lastc (jn rs)).map V.int) (some ((r : Int) / (b : Int) * (b : Int))) (some (r : Int)))) p = some (LI (((lastc (jn rs)).drop (r / b * b)).take (r - r / b * b))) := by
      rw [upd_same, hcut]
    refine ⟨.inl ⟨rfl, _, .inl (.inl hp2)⟩, .int c, rfl, p, _, (c : Int), rfl, rfl, .inl (.inl hp2), _, _, rfl, rfl, ?_⟩
    have e : ((((lastc (jn rs)).take (r / b * b)).count (c : Int) : Nat) : Int) + ((((lastc (jn rs)).drop (r / b * b)).take (r - r / b * b)).count (c : Int) : Nat) = (((lastc (jn rs)).take r).count (c : Int) : Nat) := by
      rw [← Int.natCast_add, ← List.count_append, ← List.take_add, show r / b * b + (r - r / b * b) = r by omega]
    have q2 := q (upd H p (.lst (L2.cutV ((lastc (jn rs)).map V.int) (some ((r : Int) / (b : Int) * (b : Int))) (some (r : Int))))) (same_upd hp)
    rw [← e] at q2
    exact q2
theorem ok_ahead {f C : Addr} {fd : FuncData} {k : Nat} (F : Fun K "_row_ahead" "Index._row_ahead" mAhead f fd) (X : IxT K mg C) (hC : HasM P w K mg base C k "count" ["self", "symbol", "row"] (spCount C)) : FnOk P w K mg base CX0 (k + 1) f fd ["self", "symbol", "row"] (spAhead C) := by
  obtain ⟨fC, dC, GC, mC, bC⟩ := hC
  refine F.ok scAhead (fun vs H Q E h => ?_) (fun cdv A outer s H vs Q E hr h => ?_)
  · obtain ⟨x, rs, b, s, c, r, rfl, _⟩ := h
    rfl
  · obtain ⟨x, rs, b, s, c, r, rfl, hI, hk, hc, hr1, q⟩ := h
    obtain ⟨dx, aR, xs, aL, aM, aC, cs, aS, aB, I⟩ := id hI
    refine ⟨_, pss_one (ps_ret (pe_op op_add (pe_ix ix_list (pe_fld (pv 0) rfl) (pv 1) (fun _ _ => rfl)) (pe_meth (pv 0) X.cl mC GC hr bC .nil pass0 (pa_cons (pv 1) (pa_cons (pv 2) pa_nil))))), ?_⟩
    refine ⟨.ref x, rfl, x, C, dx, _, _, rfl, I.ob, X.cl, X.n5, ixl (i := 4) rfl (by decide +kernel), .int c, rfl, aM, _, _, _, rfl, rfl, .inl (.inl I.sm), atI_nat (map7_at hc), ?_⟩
    refine ⟨.ref x, rfl, x, dx, _, rfl, I.ob, lookup_no (ixF_names ..) (by decide +kernel), .int c, rfl, .int r, rfl, x, rs, b, s, c, r, rfl, hI, hk, hc, hr1, fun H' s1 => ⟨_, _, rfl, rfl, ?_⟩⟩
    have q2 := q H' s1
    rw [Int.natCast_add] at q2
    exact q2
theorem ok_step {f C : Addr} {fd : FuncData} {k : Nat} (F : Fun K "step" "Index.step" mStep f fd) (X : IxT K mg C) (hC : HasM P w K mg base C k "_row_ahead" ["self", "symbol", "row"] (spAhead C)) : FnOk P w K mg base CX0 (k + 1) f fd ["self", "row"] (spStep C) := by
  obtain ⟨fC, dC, GC, mC, bC⟩ := hC
  refine F.ok scStep (fun vs H Q E h => ?_) (fun cdv A outer s H vs Q E hr h => ?_)
  · obtain ⟨x, rs, b, s, r, rfl, _⟩ := h
    rfl
  · obtain ⟨x, rs, b, s, r, rfl, hI, hk, hr1, q⟩ := h
    obtain ⟨dx, aR, xs, aL, aM, aC, cs, aS, aB, I⟩ := id hI
    refine ⟨_, pss_one (ps_ret (pe_meth (pv 0) X.cl mC GC hr bC .nil pass0 (pa_cons (pe_ix ix_list (pe_fld (pv 0) rfl) (pv 1) (fun _ _ => rfl)) (pa_cons (pv 1) pa_nil)))), ?_⟩
    have hrs : r < (starts (jn rs)).length := by rw [starts_len]; exact hr1
    have hla := lastc_at (jn rs) hrs
    have hg := lastc_getD (jn rs) hrs
    have hlt : prevI (jn rs).length (starts (jn rs))[r] < (jn rs).length := prevI_lt (starts_lt (List.getElem_mem hrs))
    obtain ⟨z0, z1⟩ := jn_num hk.2.1 _ (List.getElem_mem hlt)
    have gz : (jn rs).getD (prevI (jn rs).length (starts (jn rs))[r]) 0 = (jn rs)[prevI (jn rs).length (starts (jn rs))[r]] := by
      rw [List.getD_eq_getElem?_getD, List.getElem?_eq_getElem hlt]
      rfl
    rw [gz] at hla hg
    obtain ⟨c, hc⟩ : ∃ c : Nat, (jn rs)[prevI (jn rs).length (starts (jn rs))[r]] = (c : Int) := ⟨_, (Int.toNat_of_nonneg z0).symm⟩
    rw [hc] at hla hg z1
    refine ⟨.ref x, rfl, x, dx, _, rfl, I.ob, lookup_no (ixF_names ..) (by decide +kernel), .ref x, rfl, x, C, dx, _, _, rfl, I.ob, X.cl, X.n4, ixl (i := 3) rfl (by decide +kernel), .int r, rfl, aL, _, _, .int (c : Int), rfl, rfl, .inl (.inl I.la), atI_nat (by rw [List.getElem?_map, hla]; rfl), .int r, rfl, ?_⟩
    refine ⟨x, rs, b, s, c, r, rfl, hI, hk, by omega, by omega, fun H' s1 => ?_⟩
    have e : lf (jn rs) r = lessN (jn rs) c + ((lastc (jn rs)).take r).count (c : Int) := by
      unfold lf
      rw [hg]
      rfl
    rw [← e]
    exact q H' s1
end
section
variable {P : Program} {w : World} {K : PySem.W.Frag} {mg : Str → Option Value} {base : Heap}
theorem ok_start {f C : Addr} {fd : FuncData} {k : Nat} (F : Fun K "start" "Index.start" mStart f fd) (X : IxT K mg C) (hC : HasM P w K mg base C k "step" ["self", "row"] (spStep C)) : FnOk P w K mg base CX0 (k + 1) f fd ["self", "row"] (spStart C) := by
  obtain ⟨fC, dC, GC, mC, bC⟩ := hC
  refine F.ok scStart (fun vs H Q E h => ?_) (fun cdv A outer s H vs Q E hr h => ?_)
  · obtain ⟨x, rs, b, s, r, rfl, _⟩ := h
    rfl
  · obtain ⟨x, rs, b, s, r, rfl, hI, hk, hr1, q⟩ := h
    refine ⟨_, pss_cons (ps_set (i := 2) scStart.nd rfl (.inl rfl) pe_int)
      (C8.pss_cut (ps_while PassesOwn.never (pt_cmp (pc_dnotin (hu_of hr) (pv 1) (pe_fld (pv 0) rfl)))
        (pss_cons (ps_set (i := 1) scStart.nd rfl (.inl rfl) (pe_meth (pv 0) X.cl mC GC hr bC .nil pass0 (pa_cons (pv 1) pa_nil)))
        (pss_one (ps_aug (i := 2) scStart.nd rfl (.inl rfl) pe_int ip_add))))
      (pss_one (ps_ret (pe_op op_add (pe_dget (hu_of hr) (pe_fld (pv 0) rfl) (pv 1) (fun _ _ => rfl)) (pv 2))))), ?_⟩
    have en := jn_ended hk.1 hk.2.1
    have sl := starts_len (jn rs)
    have got : ∀ {r : Nat}, r < (jn rs).length → ∃ st, (starts (jn rs))[r]? = some st ∧ (starts (jn rs)).getD r 0 = st := fun {r} h => by
      have e := List.getElem?_eq_getElem (show r < (starts (jn rs)).length by omega)
      exact ⟨_, e, by rw [List.getD_eq_getElem?_getD, e]; rfl⟩
    obtain ⟨st0, hst0, hg0⟩ := got hr1
    rw [hg0] at q
    refine ⟨fun σ H' => Same H H' ∧ ∃ r' t : Nat, r' < (jn rs).length ∧ (starts (jn rs)).getD r' 0 + t = st0 ∧ (starts (jn rs)).getD r' 0 % s = 0 ∧ σ = [some (.ref x), some (.int (r' : Int)), some (.int (t : Int))], ?_, ?_⟩
    · refine while_by (fun σ H' => Same H H' ∧ ∃ r' t : Nat, r' < (jn rs).length ∧ (starts (jn rs)).getD r' 0 + t = st0 ∧ σ = [some (.ref x), some (.int (r' : Int)), some (.int (t : Int))])
        (fun (σ : L2.St) (_ : Hp) => match σ[1]? with | some (some (V.int z)) => (starts (jn rs)).getD z.toNat 0 | _ => 0) ⟨Same.refl _, r, 0, hr1, by omega, rfl⟩ ?_ ?_
      · rintro σ H' ⟨sm, r', t, hr', hsum, rfl⟩
        have hI' := hI.same sm
        obtain ⟨dx, aR, xs, aL, aM, aC, cs, aS, aB, I⟩ := id hI'
        obtain ⟨st, hst, hg⟩ := got hr'
        refine ⟨_, rfl, .ref x, rfl, x, C, dx, _, _, rfl, I.ob, X.cl, X.n7, ixl (i := 6) rfl (by decide +kernel), aS, _, rfl, DGet.k (k := Sum.inl (r' : Int)) I.st, _, rfl, ?_⟩
        rw [keptK_val _ _ hr', hg]
        by_cases c : st % s = 0
        · rw [if_pos c]
          refine iteF ⟨sm, r', t, hr', hsum, by rw [hg]; exact c, rfl⟩
        · rw [if_neg c]
          have st1 : st ≠ 0 := fun z => c (by rw [z]; exact Nat.zero_mod s)
          have hlf := lf_starts en hst
          have hpv : prevI (jn rs).length st = st - 1 := by
            unfold prevI
            rw [if_neg st1]
          rw [hpv] at hlf
          have hll : lf (jn rs) r' < (jn rs).length := by
            rw [← sl]
            exact (List.getElem?_eq_some_iff.mp hlf).1
          have hg2 : (starts (jn rs)).getD (lf (jn rs) r') 0 = st - 1 := by
            rw [List.getD_eq_getElem?_getD, hlf]
            rfl
          refine iteT ⟨.ref x, rfl, x, dx, _, rfl, I.ob, lookup_no (ixF_names ..) (by decide +kernel), _, rfl, x, rs, b, s, r', rfl, hI', hk, hr', fun H2 s2 => ?_⟩
          refine ⟨_, rfl, _, 1, rfl, rfl, ⟨sm.trans s2, lf (jn rs) r', t + 1, hll, by rw [hg2]; omega, rfl⟩, ?_⟩
          show (starts (jn rs)).getD ((lf (jn rs) r' : Nat) : Int).toNat 0 < (starts (jn rs)).getD ((r' : Nat) : Int).toNat 0
          rw [Int.toNat_natCast, Int.toNat_natCast, hg2, hg]
          omega
      · rintro σ H' Q1 Q2 m ⟨v, e1, v2, e2, a, C2, dx, fs, z, e3, h3, h4, h5, h6, a2, o, e4, h7, k2, e5, h8⟩
        exact ⟨v, e1, v2, e2, a, C2, dx, fs, z, e3, h3, h4, h5, h6, a2, o, e4, h7, k2, e5, m _ _ h8⟩
    · rintro σ H' ⟨sm, r', t, hr', hsum, hz, rfl⟩
      obtain ⟨dx, aR, xs, aL, aM, aC, cs, aS, aB, I⟩ := hI.same sm
      have dg := DGet.k (k := Sum.inl (r' : Int)) I.st
      rw [keptK_val _ _ hr', if_pos hz] at dg
      refine ⟨.ref x, rfl, x, C, dx, _, _, rfl, I.ob, X.cl, X.n7, ixl (i := 6) rfl (by decide +kernel), _, rfl, aS, _, rfl, dg, _, rfl, _, _, rfl, rfl, ?_⟩
      have e : (((starts (jn rs)).getD r' 0 : Nat) : Int) + (t : Int) = (st0 : Int) := by omega
      have q2 := q H' sm
      rw [← e] at q2
      exact q2
end
/-! ### an index is made -/
def gI {α : Type} (vs ms zs : List α) : List α := vs ++ (ms ++ zs)
def psI : List Str := ["self", "references", "block", "sample"]
def HasI (P : Program) (w : World) (K : PySem.W.Frag) (mg : Str → Option Value) (base : Heap) (C : Addr) (k : Nat) : Prop :=
  ∃ (f : Addr) (fd : FuncData) (mv ds : List Value), Mk K C f ∧ FnOk P w K mg base CX0 k f fd psI (spInit K C) ∧ KBn K fd psI 2 ["block", "sample"] (fun us ws => gI us mv ws) (fun vs zs => gI vs [] zs) ∧ Vals [.int 64, .int 16] ds ∧ Binds K fd psI ds
theorem hasI_of {P : Program} {w : World} {K : PySem.W.Frag} {mg : Str → Option Value} {base : Heap} {C f : Addr} {fd : FuncData} {k : Nat} (M : Mk K C f) (F : FunD K "__init__" "Index.__init__" (defArgs mInit) (defBody mInit) (defScope mInit) [] [("block", .int 64), ("sample", .int 16)] f fd) (G : FnOk P w K mg base CX0 k f fd psI (spInit K C)) : HasI P w K mg base C k := by
  obtain ⟨mv, hk⟩ := F.kbinds0 (ps := psI) 2 ["block", "sample"] [] gI (by simp) (fun q hq => by cases hq) (fun r1 r2 r3 => r1.append (r2.append r3)) fun D doc pm an cdv ct us mv ws h1 h2 h3 => by
    match us, mv, ws, h1, h2, h3 with
    | [u1, u2], [], [w1, w2], _, _, _ => exact rfl
  obtain ⟨ds, hv, hb⟩ := F.binds0 (ps := psI) 2 (by simp) (by rfl) fun D doc pm an cdv ct us ks h1 h2 => by
    match us, ks, h1, h2 with
    | [u1, u2], [w1, w2], _, _ => exact ⟨_, _, _, _, _, _, rfl, rfl, _, _, _, _, _, _, rfl, rfl, rfl⟩
  exact ⟨f, fd, mv, ds, M, G, hk, hv, hb⟩
theorem made {C x dx : Addr} {H H' : Hp} {rs : List Rf} {b s : Nat} (nx : H x = none) (ndx : H dx = none) (sb : ∀ c o, c ≠ x → upd (upd H dx (.own x)) x (.ins C dx []) c = some o → H' c = some o) (h : IxN C (fun q => upd (upd H dx (.own x)) x (.ins C dx []) q = none) H' x rs b s) :
    Same H H' ∧ IxN C (fun q => H q = none) H' x rs b s := by
  refine ⟨fun c o e => sb c o (ne_of_none e nx) ?_, ?_⟩
  · rw [upd_ne (ne_of_none e nx), upd_ne (ne_of_none e ndx)]
    exact e
  · obtain ⟨dx', aR, xs, aL, aM, aC, cs, aS, aB, I, n1, n2, n3, n4, n5, n6, n7⟩ := h
    have f : ∀ {q}, upd (upd H dx (.own x)) x (.ins C dx []) q = none → H q = none := fun e => new_old (new_old e)
    exact ⟨dx', aR, xs, aL, aM, aC, cs, aS, aB, I, f n1, f n2, f n3, f n4, f n5, f n6, fun q hq => f (n7 q hq)⟩
/-! ### data as a whole -/
def Asc (l : List Nat) : Prop := ∀ c ∈ l, c < 128
def dS (l : List Nat) : PyData := .str (T l)
def dL (ls : List (List Nat)) : PyData := .list (ls.map dS)
def dR (rs : List (List Nat × List Nat)) : PyData := .list (rs.map fun r => .tuple [dS r.1, dS r.2])
theorem can_dS {l : List Nat} (h : Asc l) : (dS l).canLay0 = true := by
  show PyData.strOk (T l) = true
  unfold PyData.strOk
  rw [Array.all_eq_true]
  intro i hi
  have hi2 : i < l.length := by rw [T_size] at hi; exact hi
  have e : (T l).cps[i]? = l[i]? := T_at l i
  rw [Array.getElem?_eq_getElem hi, List.getElem?_eq_getElem hi2] at e
  rw [Option.some.inj e]
  have := h _ (List.getElem_mem hi2)
  exact decide_eq_true (by omega)
theorem can_dL {ls : List (List Nat)} (h : ∀ l ∈ ls, Asc l) : (dL ls).canLay0 = true := by
  show PyData.canLayAll0 (ls.map dS) = true
  induction ls with
  | nil => rfl
  | cons l r ih =>
    show ((dS l).canLay0 && PyData.canLayAll0 (r.map dS)) = true
    rw [can_dS (h l List.mem_cons_self), ih fun x hx => h x (List.mem_cons_of_mem _ hx)]
    rfl
theorem depth_dL (ls : List (List Nat)) : PyData.depth (dL ls) ≤ 64 := by
  have : PyData.depthAll (ls.map dS) = 0 := by
    induction ls with
    | nil => rfl
    | cons l r ih =>
      show max (PyData.depth (dS l)) (PyData.depthAll (r.map dS)) = 0
      rw [ih]
      rfl
  show PyData.depthAll (ls.map dS) + 1 ≤ 64
  omega
theorem shaped_dL {ls : List (List Nat)} (h : ∀ l ∈ ls, Asc l) : SeqAt.shaped (dL ls) = true := by
  unfold SeqAt.shaped
  rw [can_dL h, decide_eq_true (depth_dL ls)]
  rfl
theorem can_dR {rs : List (List Nat × List Nat)} (h : ∀ r ∈ rs, Asc r.1 ∧ Asc r.2) : (dR rs).canLay0 = true := by
  show PyData.canLayAll0 (rs.map fun r => .tuple [dS r.1, dS r.2]) = true
  induction rs with
  | nil => rfl
  | cons l r ih =>
    show (((dS l.1).canLay0 && ((dS l.2).canLay0 && true)) && PyData.canLayAll0 (r.map fun r => .tuple [dS r.1, dS r.2])) = true
    rw [can_dS (h l List.mem_cons_self).1, can_dS (h l List.mem_cons_self).2, ih fun x hx => h x (List.mem_cons_of_mem _ hx)]
    rfl
theorem depth_dR (rs : List (List Nat × List Nat)) : PyData.depth (dR rs) ≤ 64 := by
  have : PyData.depthAll (rs.map fun r => .tuple [dS r.1, dS r.2]) ≤ 1 := by
    induction rs with
    | nil => exact Nat.zero_le _
    | cons l r ih =>
      show max (max 0 (max 0 0) + 1) (PyData.depthAll (r.map fun r => .tuple [dS r.1, dS r.2])) ≤ 1
      omega
  show PyData.depthAll (rs.map fun r => .tuple [dS r.1, dS r.2]) + 1 ≤ 64
  omega
theorem shaped_dR {rs : List (List Nat × List Nat)} (h : ∀ r ∈ rs, Asc r.1 ∧ Asc r.2) : SeqAt.shaped (dR rs) = true := by
  unfold SeqAt.shaped
  rw [can_dR h, decide_eq_true (depth_dR rs)]
  rfl
section
variable {K : PySem.W.Frag}
theorem dp_strs {H : Hp} : ∀ ls : List (List Nat), DpAll K H (ls.map fun l => V.str (T l)) (ls.map dS)
  | [] => .nil
  | l :: r => .cons (.str _) (dp_strs r)
theorem dp_dL {H : Hp} {a : Addr} {ls : List (List Nat)} (h : SqL K H a (ls.map fun l => V.str (T l))) : Dp K H (.ref a) (dL ls) := .lst h (dp_strs ls)
theorem dp_tups {H : Hp} : ∀ {xs : List V} {rs : List (List Nat × List Nat)}, Tups H xs rs → DpAll K H xs (rs.map fun r => .tuple [dS r.1, dS r.2])
  | _, _, .nil => .nil
  | _, _, .cons ⟨_, e, h⟩ t => .cons (by rw [e]; exact .tup (.inl (.inl h)) (.cons (.str _) (.cons (.str _) .nil))) (dp_tups t)
theorem dp_dR {H : Hp} {a : Addr} {xs : List V} {rs : List (List Nat × List Nat)} (h : SqL K H a xs) (t : Tups H xs rs) : Dp K H (.ref a) (dR rs) := .lst h (dp_tups t)
end
theorem sg_asc {c : Nat} (h : Sg c) : c < 128 := by
  rcases h with h | h | h | h | h <;> omega
theorem dna_asc {l : List Nat} (h : Dna l) : Asc l := fun c hc => sg_asc (h c hc)
/-! ### intervals -/
/-- the row to which a step with the symbol c would lead -/
def aheadN (ns : List Int) (c : Int) (r : Nat) : Nat := lessN ns c.toNat + ((lastc ns).take r).count c
/-- the interval that the program finds, symbol by symbol from the end -/
def ivl (ns : List Int) : List Int → Nat × Nat
  | [] => (0, ns.length)
  | c :: w => if (ivl ns w).1 = (ivl ns w).2 then ivl ns w else (aheadN ns c (ivl ns w).1, aheadN ns c (ivl ns w).2)
def bA (w x : List Int) : Bool := decide (x < w)
def bB (w x : List Int) : Bool := decide (x < w) || w.isPrefixOf x
theorem bA_cons (c d : Int) (w y : List Int) : bA (c :: w) (d :: y) = (decide (d < c) || (decide (d = c) && bA w y)) := by
  unfold bA
  rw [Bool.eq_iff_iff, Bool.or_eq_true, Bool.and_eq_true, decide_eq_true_iff, decide_eq_true_iff, decide_eq_true_iff, decide_eq_true_iff, List.cons_lt_cons_iff]
theorem bB_cons (c d : Int) (w y : List Int) : bB (c :: w) (d :: y) = (decide (d < c) || (decide (d = c) && bB w y)) := by
  have h := bA_cons c d w y
  unfold bA at h
  unfold bB
  rw [h]
  show ((decide (d < c) || (decide (d = c) && decide (y < w))) || ((c == d) && w.isPrefixOf y)) = _
  by_cases e : d = c
  · subst e
    simp
  · have e2 : (c == d) = false := beq_eq_false_iff_ne.mpr fun z => e z.symm
    rw [e2, decide_eq_false e]
    simp
/-- what holds of a suffix holds of every lesser one -/
def Closed (b : List Int → Bool) : Prop := ∀ x y, x < y → b y = true → b x = true
theorem bA_closed (w : List Int) : Closed (bA w) := fun x y h hb => by
  unfold bA at hb ⊢
  exact decide_eq_true (List.lt_trans h (of_decide_eq_true hb))
theorem pre_lt : ∀ (w x y : List Int), x < y → w <+: y → x < w ∨ w <+: x
  | [], x, y, _, _ => .inr (List.nil_prefix)
  | a :: w, [], y, _, _ => .inl List.Lex.nil
  | a :: w, b :: x, [], _, h => absurd h (by simp)
  | a :: w, b :: x, e :: y, h, hp => by
    obtain ⟨e1, hp2⟩ := List.cons_prefix_cons.mp hp
    subst e1
    rcases List.cons_lt_cons_iff.mp h with z | ⟨z, h2⟩
    · exact .inl (List.cons_lt_cons_iff.mpr (.inl z))
    · subst z
      rcases pre_lt w x y h2 hp2 with q | q
      · exact .inl (List.cons_lt_cons_iff.mpr (.inr ⟨rfl, q⟩))
      · exact .inr (List.cons_prefix_cons.mpr ⟨rfl, q⟩)
theorem bB_iff (w x : List Int) : bB w x = true ↔ x < w ∨ w <+: x := by
  unfold bB
  rw [Bool.or_eq_true, decide_eq_true_iff, List.isPrefixOf_iff_prefix]
theorem bB_closed (w : List Int) : Closed (bB w) := fun x y h hb => by
  rw [bB_iff] at hb ⊢
  rcases hb with z | z
  · exact .inl (List.lt_trans h z)
  · exact pre_lt w x y h z
theorem pre_not_lt : ∀ (w x : List Int), w <+: x → ¬ x < w
  | [], x, _ => List.not_lt_nil x
  | a :: w, [], h => absurd h (by simp)
  | a :: w, b :: x, h => fun z => by
    obtain ⟨e1, h2⟩ := List.cons_prefix_cons.mp h
    subst e1
    rcases List.cons_lt_cons_iff.mp z with q | ⟨_, q⟩
    · exact absurd q (Int.lt_irrefl _)
    · exact pre_not_lt w x h2 q
theorem down_take (f : Nat → List Int) (q : Nat → Bool) {b : List Int → Bool} (hb : Closed b) : ∀ L : List Nat, L.Pairwise (fun x y => f x < f y) → L.countP (fun x => q x && b (f x)) = (L.take (L.countP fun x => b (f x))).countP q
  | [], _ => rfl
  | x :: r, p => by
    obtain ⟨p1, p2⟩ := List.pairwise_cons.mp p
    have ih := down_take f q hb r p2
    by_cases h : b (f x) = true
    · rw [List.countP_cons, ih, List.countP_cons (p := fun x => b (f x)), if_pos h, List.take_succ_cons, List.countP_cons]
      congr 1
      rw [h, Bool.and_true]
    · have h0 : ∀ y ∈ x :: r, ¬ b (f y) = true := fun y hy z => by
        rcases List.mem_cons.mp hy with e | e
        · subst e
          exact h z
        · exact h (hb _ _ (p1 y e) z)
      have e1 : (x :: r).countP (fun x => b (f x)) = 0 := List.countP_eq_zero.mpr h0
      have e2 : (x :: r).countP (fun x => q x && b (f x)) = 0 := List.countP_eq_zero.mpr fun y hy z => h0 y hy ((Bool.and_eq_true _ _).mp z).2
      rw [e1, e2, List.take_zero]
      rfl
def cntB (ns : List Int) (b : List Int → Bool) : Nat := (List.range ns.length).countP fun j => b (ns.drop j)
theorem cntB_le (ns : List Int) (b : List Int → Bool) : cntB ns b ≤ ns.length := by
  have := List.countP_le_length (p := fun j => b (ns.drop j)) (l := List.range ns.length)
  rw [List.length_range] at this
  exact this
theorem last_cntB (ns : List Int) (c : Int) {b : List Int → Bool} (hb : Closed b) : ((lastc ns).take (cntB ns b)).count c = (List.range ns.length).countP fun p => decide (ns.getD (prevI ns.length p) 0 = c) && b (ns.drop p) := by
  have h := down_take (fun x => ns.drop x) (fun p => decide (ns.getD (prevI ns.length p) 0 = c)) hb (starts ns) (starts_lt_pw ns)
  rw [(starts_perm ns).countP_eq, (starts_perm ns).countP_eq] at h
  rw [h]
  unfold lastc List.count cntB
  rw [← List.map_take, List.countP_map]
  refine List.countP_congr fun x _ => ?_
  simp
/-- rows and positions shifted by one -/
theorem shift {ns : List Int} (he : Ended ns) {c : Int} (hc : c ≠ 0) (hn : 1 ≤ ns.length) (Z : List Int → Bool) : ((List.range ns.length).countP fun p => decide (ns.getD (prevI ns.length p) 0 = c) && Z (ns.drop p)) = (List.range ns.length).countP fun j => decide (ns.getD j 0 = c) && Z (ns.drop (j + 1)) := by
  obtain ⟨m, hm⟩ : ∃ m, ns.length = m + 1 := ⟨ns.length - 1, by omega⟩
  have zm : ns.getD m 0 = 0 := (he.at (by omega)).mpr (by omega)
  rw [hm]
  refine Eq.trans (b := (List.range m).countP fun j => decide (ns.getD j 0 = c) && Z (ns.drop (j + 1))) ?_ ?_
  · rw [List.range_succ_eq_map, List.countP_cons, List.countP_map]
    have e0 : prevI (m + 1) 0 = m := by
      unfold prevI
      rw [if_pos rfl]
      omega
    rw [e0, if_neg (by rw [zm, decide_eq_false (fun z => hc z.symm)]; simp), Nat.add_zero]
    refine List.countP_congr fun j _ => ?_
    show ((decide (ns.getD (prevI (m + 1) (j + 1)) 0 = c) && Z (ns.drop (j + 1))) = true ↔ _)
    have ej : prevI (m + 1) (j + 1) = j := by
      unfold prevI
      rw [if_neg (by omega)]
      omega
    rw [ej]
  · rw [List.range_succ, List.countP_append, List.countP_singleton, if_neg (by rw [zm, decide_eq_false (fun z => hc z.symm)]; simp)]
    rfl
theorem cnt_cons {ns : List Int} (he : Ended ns) (hn : 1 ≤ ns.length) {c : Int} (hc : 0 < c) {b b' : List Int → Bool} (hb : Closed b) (hr : ∀ d y, b' (d :: y) = (decide (d < c) || (decide (d = c) && b y))) : cntB ns b' = aheadN ns c (cntB ns b) := by
  unfold aheadN
  rw [last_cntB ns c hb, shift he (by omega) hn, lessN, count_range ns, ← countP_or]
  · unfold cntB
    refine List.countP_congr fun j hj => ?_
    have hj := List.mem_range.mp hj
    have g : ns.getD j 0 = ns[j] := by
      rw [List.getD_eq_getElem?_getD, List.getElem?_eq_getElem hj]
      rfl
    rw [List.drop_eq_getElem_cons hj, hr, g, Int.toNat_of_nonneg (by omega)]
  · rintro j _ ⟨x, y⟩
    rw [Bool.and_eq_true, decide_eq_true_iff] at y
    rw [decide_eq_true_iff, Int.toNat_of_nonneg (by omega)] at x
    omega
theorem lo_le_hi (ns : List Int) (w : List Int) : cntB ns (bA w) ≤ cntB ns (bB w) := by
  unfold cntB
  refine List.countP_mono_left fun x _ h => ?_
  unfold bA at h
  unfold bB
  rw [h]
  rfl
/-- the program's interval: the true one, or two equal numbers where nothing begins so -/
theorem ivl_spec {ns : List Int} (he : Ended ns) (hn : 1 ≤ ns.length) : ∀ w : List Int, (∀ c ∈ w, 0 < c) → ((ivl ns w).1 = cntB ns (bA w) ∧ (ivl ns w).2 = cntB ns (bB w)) ∨ ((ivl ns w).1 = (ivl ns w).2 ∧ (ivl ns w).1 ≤ ns.length ∧ ∀ j, ¬ w <+: ns.drop j)
  | [], _ => by
    refine .inl ⟨?_, ?_⟩
    · symm
      exact List.countP_eq_zero.mpr fun j _ z => List.not_lt_nil _ (of_decide_eq_true z)
    · symm
      unfold cntB
      rw [List.countP_eq_length.mpr fun j _ => (bB_iff _ _).mpr (.inr List.nil_prefix), List.length_range]
      rfl
  | c :: w, hw => by
    have ih := ivl_spec he hn w fun z hz => hw z (List.mem_cons_of_mem _ hz)
    have hc := hw c List.mem_cons_self
    have no : (∀ j, ¬ w <+: ns.drop j) → ∀ j, ¬ (c :: w) <+: ns.drop j := fun h j z => by
      by_cases hj : j < ns.length
      · rw [List.drop_eq_getElem_cons hj] at z
        exact h (j + 1) (List.cons_prefix_cons.mp z).2
      · rw [List.drop_eq_nil_of_le (by omega)] at z
        simp at z
    unfold ivl
    rcases ih with ⟨h1, h2⟩ | ⟨h1, h2, h3⟩
    · by_cases e : (ivl ns w).1 = (ivl ns w).2
      · rw [if_pos e]
        refine .inr ⟨e, by rw [h1]; exact cntB_le _ _, no fun j z => ?_⟩
        rw [h1, h2] at e
        -- the counts differ where w begins
        by_cases hj : j < ns.length
        · have lt : cntB ns (bA w) < cntB ns (bB w) := by
            unfold cntB
            have hm : j ∈ List.range ns.length := List.mem_range.mpr hj
            obtain ⟨l1, l2, el⟩ := List.append_of_mem hm
            rw [el, List.countP_append, List.countP_append, List.countP_cons, List.countP_cons]
            have a1 : l1.countP (fun j => bA w (ns.drop j)) ≤ l1.countP (fun j => bB w (ns.drop j)) := List.countP_mono_left fun x _ h => by unfold bA at h; unfold bB; rw [h]; rfl
            have a2 : l2.countP (fun j => bA w (ns.drop j)) ≤ l2.countP (fun j => bB w (ns.drop j)) := List.countP_mono_left fun x _ h => by unfold bA at h; unfold bB; rw [h]; rfl
            have b1 : ¬ bA w (ns.drop j) = true := fun q => pre_not_lt _ _ z (of_decide_eq_true q)
            have b2 : bB w (ns.drop j) = true := (bB_iff _ _).mpr (.inr z)
            rw [if_neg b1, if_pos b2]
            omega
          omega
        · rw [List.drop_eq_nil_of_le (by omega)] at z
          have w0 : w = [] := List.prefix_nil.mp z
          subst w0
          have e3 : (ivl ns []).1 = 0 := rfl
          have e4 : (ivl ns []).2 = ns.length := rfl
          rw [← h1, ← h2, e3, e4] at e
          omega
      · rw [if_neg e]
        refine .inl ⟨?_, ?_⟩
        · rw [cnt_cons he hn hc (bA_closed w) (fun d y => bA_cons c d w y), ← h1]
        · rw [cnt_cons he hn hc (bB_closed w) (fun d y => bB_cons c d w y), ← h2]
    · rw [if_pos h1]
      exact .inr ⟨h1, h2, no h3⟩
/-- the rows that begin with w -/
theorem rows_of {ns : List Int} (w : List Int) {r : Nat} (hr : r < (starts ns).length) : w <+: ns.drop (starts ns)[r] ↔ cntB ns (bA w) ≤ r ∧ r < cntB ns (bB w) := by
  have key : ∀ {b : List Int → Bool}, Closed b → (b (ns.drop (starts ns)[r]) = true ↔ r < cntB ns b) := fun {b} hb => by
    have pw := starts_lt_pw ns
    have h := down_take (fun x => ns.drop x) (fun x => decide (x = (starts ns)[r])) hb (starts ns) pw
    have e1 : (starts ns).countP (fun x => b (ns.drop x)) = cntB ns b := (starts_perm ns).countP_eq _
    rw [e1] at h
    constructor
    · intro hx
      have pos : 0 < (starts ns).countP (fun x => decide (x = (starts ns)[r]) && b (ns.drop x)) := by
        rw [List.countP_pos_iff]
        exact ⟨_, List.getElem_mem hr, by rw [hx, decide_eq_true rfl]; rfl⟩
      rw [h, List.countP_pos_iff] at pos
      obtain ⟨y, hy, e⟩ := pos
      rw [of_decide_eq_true e] at hy
      obtain ⟨i, hi, e2⟩ := List.mem_iff_getElem.mp hy
      rw [List.getElem_take] at e2
      rw [List.length_take] at hi
      have := (List.getElem_inj (starts_nodup ns)).mp e2
      omega
    · intro lt
      have pos : 0 < ((starts ns).take (cntB ns b)).countP (fun x => decide (x = (starts ns)[r])) := by
        rw [List.countP_pos_iff]
        refine ⟨(starts ns)[r], List.mem_iff_getElem.mpr ⟨r, by rw [List.length_take]; omega, by rw [List.getElem_take]⟩, decide_eq_true rfl⟩
      rw [← h, List.countP_pos_iff] at pos
      obtain ⟨y, _, e⟩ := pos
      rw [Bool.and_eq_true, decide_eq_true_iff] at e
      rw [← e.1]
      exact e.2
  have k1 := key (bA_closed w)
  have k2 := key (bB_closed w)
  constructor
  · intro h
    refine ⟨Nat.le_of_not_lt fun z => ?_, k2.mp ((bB_iff _ _).mpr (.inr h))⟩
    exact pre_not_lt _ _ h (of_decide_eq_true (k1.mpr z))
  · rintro ⟨h1, h2⟩
    rcases (bB_iff _ _).mp (k2.mpr h2) with z | z
    · have := k1.mp (decide_eq_true z)
      omega
    · exact z
theorem aheadN_le {ns : List Int} (c : Int) {r t : Nat} (h : r ≤ t) : aheadN ns c r ≤ aheadN ns c t := by
  unfold aheadN
  have e : (lastc ns).take t = (lastc ns).take r ++ ((lastc ns).drop r).take (t - r) := by
    rw [← List.take_add]
    congr 1
    omega
  rw [e, List.count_append]
  omega
theorem ivl_le {ns : List Int} (he : Ended ns) (hn : 1 ≤ ns.length) {w : List Int} (hw : ∀ c ∈ w, 0 < c) : (ivl ns w).1 ≤ (ivl ns w).2 ∧ (ivl ns w).2 ≤ ns.length := by
  rcases ivl_spec he hn w hw with ⟨h1, h2⟩ | ⟨h1, h2, _⟩
  · rw [h1, h2]
    exact ⟨lo_le_hi ns w, cntB_le _ _⟩
  · omega
theorem ivl_stop {ns v : List Int} (h : (ivl ns v).1 = (ivl ns v).2) : ∀ u : List Int, ivl ns (u ++ v) = ivl ns v
  | [] => rfl
  | c :: u => by
    have ih := ivl_stop h u
    show (if (ivl ns (u ++ v)).1 = (ivl ns (u ++ v)).2 then ivl ns (u ++ v) else _) = _
    rw [ih, if_pos h]
def syN (c : Nat) : Nat := 2 + lets.idxOf c
theorem sy_syN (c : Nat) : sy c = ((syN c : Nat) : Int) := by
  unfold sy syN
  omega
theorem scInterval : FnScope ["self", "piece", "low", "high", "symbol"] ["self", "piece"] (defScope mInterval) := ⟨rfl, rfl, rfl, by decide +kernel, rfl, by decide +kernel, by decide +kernel⟩
def spIval (C : Addr) : Sp := fun vs H Q _ => ∃ (x : Addr) (rs : List Rf) (b s : Nat) (l : List Nat), vs = [.ref x, .str (T l)] ∧ Ixd C H x rs b s ∧ IxOk rs b s ∧ Dna l ∧ l.length ≤ 1000000 ∧
  ∀ (H' : Hp) (p : Addr), Same H H' → H p = none → H' p = some (.tup [.int ((ivl (jn rs) (l.map sy)).1 : Nat), .int ((ivl (jn rs) (l.map sy)).2 : Nat)]) → Q (.ref p) H'
theorem w_pos {l : List Nat} : ∀ c ∈ l.map sy, 0 < c := fun c hc => by
  obtain ⟨d, _, rfl⟩ := List.mem_map.mp hc
  have := sy_ge d
  omega
section
variable {P : Program} {w : World} {K : PySem.W.Frag} {mg : Str → Option Value} {base : Heap}
theorem ok_interval {f C : Addr} {fd : FuncData} (F : Fun K "interval" "Index.interval" mInterval f fd) (X : IxT K mg C) (mrev : mg "reversed" = none) (hL : HasM P w K mg base C 2 "length" ["self"] (spLen C)) (hA : HasM P w K mg base C 3 "_row_ahead" ["self", "symbol", "row"] (spAhead C)) (hS : Has P w K mg base 3 "symbols_of" ["text"] spSymsOf) :
    FnOk P w K mg base CX0 5 f fd ["self", "piece"] (spIval C) := by
  obtain ⟨f1, d1, G1, m1, b1⟩ := hL
  obtain ⟨f2, d2, G2, m2, b2⟩ := hA
  obtain ⟨fS, dS, GS, gS, kS, bS⟩ := hS
  refine F.ok scInterval (fun vs H Q E h => ?_) (fun cdv A outer s H vs Q E hr h => ?_)
  · obtain ⟨x, rs, b, s, l, rfl, _⟩ := h
    rfl
  · obtain ⟨x, rs, b, s, l, rfl, hI, hk, hd, hl, q⟩ := h
    have hr3 : Room 3 _ := hr.mono (by decide)
    have hr2 : Room 2 _ := hr.mono (by decide)
    refine ⟨_, pss_cons (ps_set (i := 2) scInterval.nd rfl (.inl rfl) pe_int)
      (pss_cons (ps_set (i := 3) scInterval.nd rfl (.inl rfl) (pe_meth0 (pv 0) X.cl m1 G1 hr2 b1 .nil pass0))
      (C8.pss_cut (ps_for PassesOwn.never rfl (pi_reversed (by rfl) mrev (pa_cons (pe_call GS hr3 (by rfl) gS kS bS .nil pass0 (pa_cons (pv 1) pa_nil)) pa_nil)) (pg_name (i := 4) scInterval.nd rfl (.inl rfl))
        (pss_cons (ps_if (pt_cmpR op_eq (pv 2) (pv 3) (nomark _)) (pss_one ps_break) pss_nil)
        (pss_cons (ps_set (i := 2) scInterval.nd rfl (.inl rfl) (pe_meth (pv 0) X.cl m2 G2 hr3 b2 .nil pass0 (pa_cons (pv 4) (pa_cons (pv 2) pa_nil))))
        (pss_one (ps_set (i := 3) scInterval.nd rfl (.inl rfl) (pe_meth (pv 0) X.cl m2 G2 hr3 b2 .nil pass0 (pa_cons (pv 4) (pa_cons (pv 3) pa_nil))))))))
      (pss_one (ps_ret (pe_tup (pa_cons (pv 2) (pa_cons (pv 3) pa_nil))))))), ?_⟩
    have en := jn_ended hk.1 hk.2.1
    have hn1 : 1 ≤ (jn rs).length := by
      rw [jn_len]
      exact jl_pos hk.1
    obtain ⟨dx, aR, xs, aL, aM, aC, cs, aS, aB, I⟩ := id hI
    refine ⟨.ref x, rfl, x, dx, _, rfl, I.ob, lookup_no (ixF_names ..) (by decide +kernel), x, rs, b, s, rfl, hI, ?_⟩
    refine ⟨fun σ H' => Same H H' ∧ ∃ v4 : Option V, σ = [some (.ref x), some (.str (T l)), some (.int ((ivl (jn rs) (l.map sy)).1 : Nat)), some (.int ((ivl (jn rs) (l.map sy)).2 : Nat)), v4], ?_, ?_⟩
    · refine ⟨.str (T l), rfl, l, rfl, hd, hl, fun H1 p s1 hp h1 => ?_⟩
      have hlm : ((l.map sy).map V.int).length = l.length := by rw [List.length_map, List.length_map]
      refine ⟨p, _, rfl, .inl (.inl h1), ?_⟩
      rw [hlm]
      refine for_gen (n := l.length) (fun i σ H' => Same H1 H' ∧ ∃ v4 : Option V, σ = [some (.ref x), some (.str (T l)), some (.int ((ivl (jn rs) ((l.map sy).drop (l.length - i))).1 : Nat)), some (.int ((ivl (jn rs) ((l.map sy).drop (l.length - i))).2 : Nat)), v4]) ?_ ?_ ?_ ?_ ?_
      · refine ⟨Same.refl _, none, ?_⟩
        rw [Nat.sub_zero, List.drop_of_length_le (by rw [List.length_map]; exact Nat.le_refl _)]
        rfl
      · rintro i σ H' hi ⟨s2, _⟩
        exact ⟨hi, _, _, .inl (.inl (s2 _ _ h1)), List.getElem?_eq_getElem (by rw [hlm]; omega)⟩
      · rintro σ H' _
        exact Nat.le_refl _
      · rintro i σ H' v H'' hi ⟨s2, v4, rfl⟩ ⟨rfl, hv⟩
        have ev := hv _ (.inl (.inl (s2 _ _ h1)))
        have hj : l.length - 1 - i < l.length := by omega
        rw [List.getElem?_map, List.getElem?_map, List.getElem?_eq_getElem hj] at ev
        obtain rfl : V.int (sy l[l.length - 1 - i]) = v := Option.some.inj ev
        obtain ⟨wt, hwt⟩ : ∃ wt, wt = (l.map sy).drop (l.length - i) := ⟨_, rfl⟩
        have hdr : (l.map sy).drop (l.length - (i + 1)) = sy l[l.length - 1 - i] :: wt := by
          rw [hwt, show l.length - (i + 1) = l.length - 1 - i by omega, List.drop_eq_getElem_cons (by rw [List.length_map]; omega), List.getElem_map, show l.length - 1 - i + 1 = l.length - i by omega]
        rw [← hwt]
        have hwp : ∀ c ∈ wt, 0 < c := fun c hc => w_pos c (List.mem_of_mem_drop (by rw [hwt] at hc; exact hc))
        have hle := ivl_le en hn1 hwp
        have hsg : Sg l[l.length - 1 - i] := hd _ (List.getElem_mem hj)
        generalize l[l.length - 1 - i] = ch at hdr hsg
        refine ⟨_, rfl, _, rfl, rfl, _, rfl, ite2 (fun e => ?_) (fun e => ?_)⟩
        · have e1 : (ivl (jn rs) wt).1 = (ivl (jn rs) wt).2 := by
            have := V.int.inj (of_decide_eq_true e)
            omega
          refine ⟨s1.trans s2, some (.int (sy ch)), ?_⟩
          have es : ivl (jn rs) (l.map sy) = ivl (jn rs) wt := by
            have := ivl_stop e1 ((l.map sy).take (l.length - i))
            rw [hwt, List.take_append_drop] at this
            rw [hwt]
            exact this
          rw [es]
          rfl
        · have ne : ¬ (ivl (jn rs) wt).1 = (ivl (jn rs) wt).2 := fun z => e (decide_eq_true (by rw [z]))
          have hI2 := (hI.same s1).same s2
          obtain ⟨dx, aR, xs, aL, aM, aC, cs, aS, aB, I⟩ := id hI2
          have hc7 : syN ch < 7 := by
            have := sy_le hsg
            rw [sy_syN] at this
            omega
          have ea : ∀ r, lessN (jn rs) (syN ch) + ((lastc (jn rs)).take r).count ((syN ch : Nat) : Int) = aheadN (jn rs) (sy ch) r := fun r => by
            rw [sy_syN]
            rfl
          refine ⟨.ref x, rfl, x, dx, _, rfl, I.ob, lookup_no (ixF_names ..) (by decide +kernel), _, rfl, _, rfl, x, rs, b, s, syN ch, (ivl (jn rs) wt).1, by rw [sy_syN]; rfl, hI2, hk, hc7, by omega, fun E1 t1 => ?_⟩
          have hI3 := hI2.same t1
          obtain ⟨dx', aR', xs', aL', aM', aC', cs', aS', aB', I'⟩ := id hI3
          refine ⟨.ref x, rfl, x, dx', _, rfl, I'.ob, lookup_no (ixF_names ..) (by decide +kernel), _, rfl, _, rfl, x, rs, b, s, syN ch, (ivl (jn rs) wt).2, by rw [sy_syN]; rfl, hI3, hk, hc7, hle.2, fun E2 t2 => ⟨s2.trans (t1.trans t2), some (.int (sy ch)), ?_⟩⟩
          rw [hdr, ea, ea]
          show _ = [_, _, some (V.int ((if (ivl (jn rs) wt).1 = (ivl (jn rs) wt).2 then ivl (jn rs) wt else (aheadN (jn rs) (sy ch) (ivl (jn rs) wt).1, aheadN (jn rs) (sy ch) (ivl (jn rs) wt).2)).1 : Nat)), some (V.int ((if (ivl (jn rs) wt).1 = (ivl (jn rs) wt).2 then ivl (jn rs) wt else (aheadN (jn rs) (sy ch) (ivl (jn rs) wt).1, aheadN (jn rs) (sy ch) (ivl (jn rs) wt).2)).2 : Nat)), _]
          rw [if_neg ne]
          rfl
      · rintro σ H' ⟨s2, v4, rfl⟩
        rw [Nat.sub_self, List.drop_zero]
        exact ⟨s1.trans s2, v4, rfl⟩
    rintro σ H' ⟨s1, v4, rfl⟩
    refine ⟨_, rfl, _, rfl, by show 2 ≤ sizeLine; decide, fun p hp => ?_⟩
    exact q _ p (s1.trans (same_upd hp)) (s1.free hp) upd_same
end
/-! ### places -/
theorem asc_uniq : ∀ (l m : List Int), l.Pairwise (· < ·) → m.Pairwise (· < ·) → (∀ x, x ∈ l ↔ x ∈ m) → l = m
  | [], [], _, _, _ => rfl
  | [], b :: m, _, _, h => absurd ((h b).mpr List.mem_cons_self) (by simp)
  | a :: l, [], _, _, h => absurd ((h a).mp List.mem_cons_self) (by simp)
  | a :: l, b :: m, p, q, h => by
    obtain ⟨p1, p2⟩ := List.pairwise_cons.mp p
    obtain ⟨q1, q2⟩ := List.pairwise_cons.mp q
    have e : a = b := by
      rcases List.mem_cons.mp ((h a).mp List.mem_cons_self) with z | z
      · exact z
      · rcases List.mem_cons.mp ((h b).mpr List.mem_cons_self) with y | y
        · exact y.symm
        · have := q1 a z
          have := p1 b y
          omega
    subst e
    rw [asc_uniq l m p2 q2 fun x => ?_]
    constructor
    · intro hx
      rcases List.mem_cons.mp ((h x).mp (List.mem_cons_of_mem _ hx)) with z | z
      · have := p1 x hx
        omega
      · exact z
    · intro hx
      rcases List.mem_cons.mp ((h x).mpr (List.mem_cons_of_mem _ hx)) with z | z
      · have := q1 x hx
        omega
      · exact z
/-- the text of a reference -/
def txt (rs : List Rf) (k : Nat) : List Nat := (rs.map (·.2)).getD k []
theorem txt_at {rs : List Rf} {k : Nat} (h : k < rs.length) : (rs.map (·.2))[k]? = some (txt rs k) := by
  unfold txt
  rw [List.getD_eq_getElem?_getD, List.getElem?_eq_getElem (by rw [List.length_map]; exact h)]
  rfl
/-- where the text of a reference begins -/
def bg (rs : List Rf) (k : Nat) : Nat := jtl ((rs.map (·.2)).take k)
theorem bg_succ {rs : List Rf} {k : Nat} (h : k < rs.length) : bg rs (k + 1) = bg rs k + ((txt rs k).length + 1) := by
  unfold bg
  rw [List.take_add_one, txt_at h, Option.toList_some, jtl_snoc]
theorem bg_mono {rs : List Rf} {k : Nat} : ∀ {m : Nat}, k ≤ m → m ≤ rs.length → bg rs k ≤ bg rs m := fun {m} h1 h2 => by
  induction m with
  | zero =>
    obtain rfl : k = 0 := by omega
    exact Nat.le_refl _
  | succ m ih =>
    by_cases e : k = m + 1
    · rw [e]
      exact Nat.le_refl _
    · have := ih (by omega) (by omega)
      have := bg_succ (rs := rs) (k := m) (by omega)
      omega
theorem bg_all (rs : List Rf) : bg rs rs.length = (jn rs).length := by
  unfold bg
  rw [List.take_of_length_le (by rw [List.length_map]; exact Nat.le_refl _), jn_len, jl_jtl]
theorem bgs_at {rs : List Rf} {k : Nat} (h : k < rs.length) : (bgs (rs.map (·.2)))[k]? = some ((bg rs k : Nat) : Int) := by
  unfold bgs
  rw [List.getElem?_map, List.getElem?_range (by rw [List.length_map]; exact h)]
  rfl
/-- position j of the joined sequence is at of reference k -/
def Loc (rs : List Rf) (k at' j : Nat) : Prop := k < rs.length ∧ bg rs k + at' = j ∧ at' ≤ (txt rs k).length
theorem Loc.uniq {rs : List Rf} {k a k' a' j : Nat} (h : Loc rs k a j) (h' : Loc rs k' a' j) : k = k' ∧ a = a' := by
  obtain ⟨h1, h2, h3⟩ := h
  obtain ⟨g1, g2, g3⟩ := h'
  rcases Nat.lt_trichotomy k k' with c | c | c
  · have := bg_mono (rs := rs) (show k + 1 ≤ k' by omega) (by omega)
    have := bg_succ h1
    omega
  · subst c
    omega
  · have := bg_mono (rs := rs) (show k' + 1 ≤ k by omega) (by omega)
    have := bg_succ g1
    omega
theorem loc_of {rs : List Rf} {j : Nat} : ∀ m, m ≤ rs.length → j < bg rs m → ∃ k a, Loc rs k a j
  | 0, _, h => absurd h (Nat.not_lt_zero _)
  | m + 1, hm, h => by
    by_cases c : j < bg rs m
    · exact loc_of m (by omega) c
    · have := bg_succ (rs := rs) (k := m) (by omega)
      exact ⟨m, j - bg rs m, by omega, by omega, by omega⟩
theorem set_last_cons (x : Int) (R : List Int) : ∃ s B, (x :: R).set R.length 0 = s :: B ∧ (s = 0 ∨ s = x) := by
  cases R with
  | nil => exact ⟨0, [], rfl, .inl rfl⟩
  | cons r R => exact ⟨x, _, rfl, .inr rfl⟩
theorem jn_split {rs : List Rf} {k : Nat} (h : k < rs.length) : ∃ (A : List Int) (s : Int) (B : List Int), jn rs = A ++ ((txt rs k).map sy ++ s :: B) ∧ A.length = bg rs k ∧ s < 2 := by
  obtain ⟨ls, hls⟩ : ∃ ls, ls = rs.map (·.2) := ⟨_, rfl⟩
  have ht := txt_at h
  rw [← hls] at ht
  have hk : k < ls.length := (List.getElem?_eq_some_iff.mp ht).1
  have e0 : ls = ls.take k ++ txt rs k :: ls.drop (k + 1) := by
    have := (List.getElem?_eq_some_iff.mp ht).2
    rw [← this, ← List.drop_eq_getElem_cons hk, List.take_append_drop]
  have e : jraw2 ls = jraw2 (ls.take k) ++ ((txt rs k).map sy ++ 1 :: jraw2 (ls.drop (k + 1))) := by
    conv => lhs; rw [e0]
    unfold jraw2
    rw [List.flatMap_append, List.flatMap_cons]
    simp
  obtain ⟨s, B, hs, hs2⟩ := set_last_cons 1 (jraw2 (ls.drop (k + 1)))
  refine ⟨jraw2 (ls.take k), s, B, ?_, ?_, by rcases hs2 with z | z <;> omega⟩
  · rw [jn_jt, ← hls]
    unfold jt
    rw [e, List.length_append, List.length_append, List.length_cons, List.set_append_right _ _ (by omega), List.set_append_right _ _ (by omega), ← hs]
    congr 3
    omega
  · rw [jraw2_len]
    unfold bg
    rw [hls]
theorem prefix_stop : ∀ (w u : List Int) (s : Int) (B : List Int), (∀ c ∈ w, 2 ≤ c) → s < 2 → (w <+: u ++ s :: B ↔ w <+: u)
  | [], u, s, B, _, _ => ⟨fun _ => List.nil_prefix, fun _ => List.nil_prefix⟩
  | c :: w, [], s, B, hw, hs => by
    constructor
    · intro h
      have e : c = s := (List.cons_prefix_cons.mp h).1
      have := hw c List.mem_cons_self
      omega
    · intro h
      simp at h
  | c :: w, d :: u, s, B, hw, hs => by
    rw [List.cons_append, List.cons_prefix_cons, List.cons_prefix_cons, prefix_stop w u s B (fun z hz => hw z (List.mem_cons_of_mem _ hz)) hs]
theorem sy_inj {c d : Nat} (hc : Sg c) (hd : Sg d) (h : sy c = sy d) : c = d := by
  rcases hc with z | z | z | z | z <;> rcases hd with y | y | y | y | y <;> subst z <;> subst y <;> first | rfl | exact absurd h (by decide)
theorem pre_map : ∀ {l u : List Nat}, Dna l → Dna u → (l.map sy <+: u.map sy ↔ u.take l.length = l)
  | [], u, _, _ => ⟨fun _ => rfl, fun _ => List.nil_prefix⟩
  | c :: l, [], _, _ => by simp
  | c :: l, d :: u, hl, hu => by
    have ih := pre_map (l := l) (u := u) (fun z hz => hl z (List.mem_cons_of_mem _ hz)) (fun z hz => hu z (List.mem_cons_of_mem _ hz))
    rw [List.map_cons, List.map_cons, List.cons_prefix_cons, ih, List.length_cons, List.take_succ_cons]
    constructor
    · rintro ⟨e, h⟩
      rw [h, sy_inj (hl c List.mem_cons_self) (hu d List.mem_cons_self) e]
    · intro h
      obtain ⟨e1, e2⟩ := List.cons_eq_cons.mp h
      exact ⟨by rw [e1], e2⟩
/-- the places of a piece -/
def plc (rs : List Rf) (l : List Nat) : List (Nat × Nat) := (List.range rs.length).flatMap fun k => ((List.range (txt rs k).length).filter fun a => decide (((txt rs k).drop a).take l.length = l)).map fun a => (k, a)
def plp (rs : List Rf) (p : Nat × Nat) : Int := ((bg rs p.1 + p.2 : Nat) : Int)
theorem plc_mem {rs : List Rf} {l : List Nat} {p : Nat × Nat} : p ∈ plc rs l ↔ p.1 < rs.length ∧ p.2 < (txt rs p.1).length ∧ ((txt rs p.1).drop p.2).take l.length = l := by
  unfold plc
  rw [List.mem_flatMap]
  constructor
  · rintro ⟨k, hk, hp⟩
    obtain ⟨a, ha, rfl⟩ := List.mem_map.mp hp
    obtain ⟨h1, h2⟩ := List.mem_filter.mp ha
    exact ⟨List.mem_range.mp hk, List.mem_range.mp h1, of_decide_eq_true h2⟩
  · rintro ⟨h1, h2, h3⟩
    exact ⟨p.1, List.mem_range.mpr h1, List.mem_map.mpr ⟨p.2, List.mem_filter.mpr ⟨List.mem_range.mpr h2, decide_eq_true h3⟩, rfl⟩⟩
theorem plc_asc (rs : List Rf) (l : List Nat) : ((plc rs l).map (plp rs)).Pairwise (· < ·) := by
  rw [List.pairwise_map]
  unfold plc
  rw [List.pairwise_flatMap]
  constructor
  · intro k hk
    rw [List.pairwise_map]
    refine (List.pairwise_lt_range.filter _).imp fun {a b} h => ?_
    unfold plp
    show ((bg rs k + a : Nat) : Int) < ((bg rs k + b : Nat) : Int)
    omega
  · have h := List.pairwise_lt_range (n := rs.length)
    refine h.imp_of_mem fun {k k'} hk hk' lt x hx y hy => ?_
    obtain ⟨a, ha, rfl⟩ := List.mem_map.mp hx
    obtain ⟨b, hb, rfl⟩ := List.mem_map.mp hy
    have h1 := List.mem_range.mp (List.mem_filter.mp ha).1
    have h2 := List.mem_range.mp hk
    have h3 := List.mem_range.mp hk'
    have := bg_mono (rs := rs) (show k + 1 ≤ k' by omega) (by omega)
    have := bg_succ h2
    unfold plp
    show ((bg rs k + a : Nat) : Int) < ((bg rs k' + b : Nat) : Int)
    omega
theorem txt_dna {rs : List Rf} (h : ∀ r ∈ rs, Dna r.2) (k : Nat) : Dna (txt rs k) := by
  unfold txt
  rw [List.getD_eq_getElem?_getD]
  cases e : (rs.map (·.2))[k]? with
  | none => exact fun c hc => by cases hc
  | some t =>
    obtain ⟨r, hr, rfl⟩ := List.mem_map.mp (List.mem_of_getElem? e)
    exact h r hr
theorem drop_loc {rs : List Rf} {k a j : Nat} (h : Loc rs k a j) : ∃ s B, (jn rs).drop j = ((txt rs k).drop a).map sy ++ s :: B ∧ s < 2 := by
  obtain ⟨h1, h2, h3⟩ := h
  obtain ⟨A, s, B, e, hA, hs⟩ := jn_split h1
  refine ⟨s, B, ?_, hs⟩
  rw [e, ← h2, ← hA, List.drop_append, show A.length + a - A.length = a by omega, List.drop_of_length_le (by omega), List.nil_append, List.drop_append_of_le_length (by rw [List.length_map]; exact h3), List.map_drop]
theorem plc_pos {rs : List Rf} {l : List Nat} (hd : ∀ r ∈ rs, Dna r.2) (hl : Dna l) (hn : l ≠ []) (j : Nat) : ((j : Nat) : Int) ∈ (plc rs l).map (plp rs) ↔ j < (jn rs).length ∧ l.map sy <+: (jn rs).drop j := by
  have w2 : ∀ c ∈ l.map sy, 2 ≤ c := fun c hc => by
    obtain ⟨d, _, rfl⟩ := List.mem_map.mp hc
    exact sy_ge d
  constructor
  · intro h
    obtain ⟨p, hp, e⟩ := List.mem_map.mp h
    obtain ⟨h1, h2, h3⟩ := plc_mem.mp hp
    have ej : bg rs p.1 + p.2 = j := by
      unfold plp at e
      omega
    have lc : Loc rs p.1 p.2 j := ⟨h1, ej, by omega⟩
    obtain ⟨s, B, e2, hs⟩ := drop_loc lc
    refine ⟨?_, ?_⟩
    · have := bg_mono (rs := rs) (show p.1 + 1 ≤ rs.length by omega) (Nat.le_refl _)
      have := bg_succ h1
      rw [bg_all] at *
      omega
    · rw [e2, prefix_stop _ _ _ _ w2 hs, pre_map hl (fun c hc => txt_dna hd p.1 c (List.mem_of_mem_drop hc))]
      exact h3
  · rintro ⟨h1, h2⟩
    obtain ⟨k, a, lc⟩ := loc_of rs.length (Nat.le_refl _) (by rw [bg_all]; exact h1)
    obtain ⟨s, B, e2, hs⟩ := drop_loc lc
    rw [e2, prefix_stop _ _ _ _ w2 hs, pre_map hl (fun c hc => txt_dna hd k c (List.mem_of_mem_drop hc))] at h2
    refine List.mem_map.mpr ⟨(k, a), plc_mem.mpr ⟨lc.1, ?_, h2⟩, ?_⟩
    · have := congrArg List.length h2
      rw [List.length_take, List.length_drop] at this
      have : 0 < l.length := List.length_pos_iff.mpr hn
      show a < (txt rs k).length
      omega
    · unfold plp
      show ((bg rs k + a : Nat) : Int) = (j : Int)
      have := lc.2.1
      omega
/-- the starts of the rows of an interval, as numbers -/
def rowS (ns : List Int) (lo hi : Nat) : List Int := (((starts ns).drop lo).take (hi - lo)).map fun k : Nat => (k : Int)
theorem rowS_mem {ns : List Int} (he : Ended ns) (hn : 1 ≤ ns.length) {w : List Int} (hw : ∀ c ∈ w, 0 < c) (x : Int) : x ∈ rowS ns (ivl ns w).1 (ivl ns w).2 ↔ ∃ j : Nat, x = (j : Int) ∧ j < ns.length ∧ w <+: ns.drop j := by
  have sl := starts_len ns
  unfold rowS
  rw [List.mem_map]
  rcases ivl_spec he hn w hw with ⟨h1, h2⟩ | ⟨h1, h2, h3⟩
  · rw [h1, h2]
    have hB := cntB_le ns (bB w)
    constructor
    · rintro ⟨j, hj, rfl⟩
      obtain ⟨i, hi, e⟩ := List.mem_iff_getElem.mp hj
      rw [List.length_take, List.length_drop] at hi
      rw [List.getElem_take, List.getElem_drop] at e
      have hr : cntB ns (bA w) + i < (starts ns).length := by omega
      refine ⟨j, rfl, ?_, ?_⟩
      · rw [← e]
        exact starts_lt (List.getElem_mem hr)
      · rw [← e]
        exact (rows_of w hr).mpr ⟨by omega, by omega⟩
    · rintro ⟨j, rfl, hj, hp⟩
      refine ⟨j, ?_, rfl⟩
      have hs := starts_rk hj
      obtain ⟨hr, e⟩ := List.getElem?_eq_some_iff.mp hs
      obtain ⟨a, b⟩ := (rows_of w hr).mp (by rw [e]; exact hp)
      refine List.mem_iff_getElem?.mpr ⟨rk ns j - cntB ns (bA w), ?_⟩
      rw [List.getElem?_take, if_pos (by omega), List.getElem?_drop, show cntB ns (bA w) + (rk ns j - cntB ns (bA w)) = rk ns j by omega]
      exact hs
  · rw [h1, Nat.sub_self, List.take_zero]
    constructor
    · rintro ⟨j, hj, _⟩
      cases hj
    · rintro ⟨j, _, _, hp⟩
      exact absurd hp (h3 j)
theorem rowS_nodup (ns : List Int) (lo hi : Nat) : (rowS ns lo hi).Nodup := by
  unfold rowS
  have h : (((starts ns).drop lo).take (hi - lo)).Nodup := ((starts_nodup ns).sublist (List.drop_sublist _ _)).sublist (List.take_sublist _ _)
  rw [List.nodup_iff_pairwise_ne] at h ⊢
  rw [List.pairwise_map]
  exact h.imp fun {a b} z y => z (by omega)
/-- the sorted starts are the places -/
theorem sorted_places {rs : List Rf} {l : List Nat} {ms : List Int} (h1 : 1 ≤ rs.length) (hd : ∀ r ∈ rs, Dna r.2) (hl : Dna l) (hn : l ≠ []) (hp : ms.Perm (rowS (jn rs) (ivl (jn rs) (l.map sy)).1 (ivl (jn rs) (l.map sy)).2)) (ha : ms.Pairwise (· ≤ ·)) : ms = (plc rs l).map (plp rs) := by
  have en := jn_ended h1 hd
  have hn1 : 1 ≤ (jn rs).length := by
    rw [jn_len]
    exact jl_pos h1
  refine asc_uniq _ _ (lt_of_le_nodup _ ha (hp.nodup_iff.mpr (rowS_nodup _ _ _))) (plc_asc rs l) fun x => ?_
  rw [hp.mem_iff, rowS_mem en hn1 w_pos]
  constructor
  · rintro ⟨j, rfl, h⟩
    exact (plc_pos hd hl hn j).mpr h
  · intro h
    obtain ⟨p, _, e⟩ := List.mem_map.mp h
    have e2 : x = ((bg rs p.1 + p.2 : Nat) : Int) := e.symm
    rw [e2] at h ⊢
    exact ⟨_, rfl, (plc_pos hd hl hn _).mp h⟩
/-! ### places -/
theorem scPlace : FnScope ["self", "start", "low", "high", "middle"] ["self", "start"] (defScope mPlace) := ⟨rfl, rfl, rfl, by decide +kernel, rfl, by decide +kernel, by decide +kernel⟩
def NPl : List Str := ["self", "piece", "low", "high", "starts", "row", "start"]
theorem scPlaces : FnScope NPl ["self", "piece"] (defScope mPlaces) := ⟨rfl, rfl, rfl, by decide +kernel, rfl, by decide +kernel, by decide +kernel⟩
def spPlace (C : Addr) : Sp := fun vs H Q _ => ∃ (x : Addr) (rs : List Rf) (b s j : Nat), vs = [.ref x, .int (j : Int)] ∧ Ixd C H x rs b s ∧ IxOk rs b s ∧ j < (jn rs).length ∧
  ∀ (H' : Hp) (p : Addr) (k a : Nat), Same H H' → H p = none → H' p = some (.tup [.int (k : Int), .int (a : Int)]) → Loc rs k a j → Q (.ref p) H'
def Plc (H : Hp) : List V → List (Nat × Nat) → Prop := Paired fun v p => ∃ q, v = .ref q ∧ H q = some (.tup [.int (p.1 : Int), .int (p.2 : Int)])
theorem Plc.mono {H H' : Hp} {xs : List V} {rs : List (Nat × Nat)} (h : Plc H xs rs) (k : ∀ q ys, H q = some (.tup ys) → H' q = some (.tup ys)) : Plc H' xs rs := Paired.mapP h fun _ _ ⟨q, e, t⟩ => ⟨q, e, k q _ t⟩
theorem Plc.same {H H' : Hp} {xs : List V} {rs : List (Nat × Nat)} (h : Plc H xs rs) (s : Same H H') : Plc H' xs rs := h.mono fun q ys e => s _ _ e
theorem Plc.snoc {H : Hp} {xs : List V} {rs : List (Nat × Nat)} {q : Addr} {r : Nat × Nat} (h : Plc H xs rs) (e : H q = some (.tup [.int (r.1 : Int), .int (r.2 : Int)])) : Plc H (xs ++ [.ref q]) (rs ++ [r]) := Paired.snoc h ⟨q, rfl, e⟩
def spPlaces (C : Addr) : Sp := fun vs H Q _ => ∃ (x : Addr) (rs : List Rf) (b s : Nat) (l : List Nat), vs = [.ref x, .str (T l)] ∧ Ixd C H x rs b s ∧ IxOk rs b s ∧ Dna l ∧ l.length ≤ 1000000 ∧ l ≠ [] ∧
  ∀ (H' : Hp) (p : Addr) (xs : List V), Same H H' → H p = none → H' p = some (.lst xs) → Plc H' xs (plc rs l) → Q (.ref p) H'
section
variable {P : Program} {w : World} {K : PySem.W.Frag} {mg : Str → Option Value} {base : Heap}
theorem ok_place {f C : Addr} {fd : FuncData} {k : Nat} (F : Fun K "_place" "Index._place" mPlace f fd) (X : IxT K mg C) (mlen : mg "len" = none) : FnOk P w K mg base CX0 (k + 1) f fd ["self", "start"] (spPlace C) := by
  refine F.ok scPlace (fun vs H Q E h => ?_) (fun cdv A outer s H vs Q E hr h => ?_)
  · obtain ⟨x, rs, b, s, j, rfl, _⟩ := h
    rfl
  · obtain ⟨x, rs, b, s, j, rfl, hI, hk, hj, q⟩ := h
    refine ⟨_, pss_cons (ps_set (i := 2) scPlace.nd rfl (.inl rfl) pe_int)
      (pss_cons (ps_set (i := 3) scPlace.nd rfl (.inl rfl) (pe_callB call_len_seq (by rfl) mlen PySem.boot_len (pa_cons (pe_fld (pv 0) rfl) pa_nil)))
      (C8.pss_cut (ps_while PassesOwn.never (pt_cmpR op_gt (pe_op op_sub (pv 3) (pv 2)) pe_int (nomark _))
        (pss_cons (ps_set (i := 4) scPlace.nd rfl (.inl rfl) (pe_op op_fdiv (pe_op op_add (pv 2) (pv 3)) pe_int))
        (pss_one (ps_if (pt_cmpR op_le (pe_ix ix_list (pe_fld (pv 0) rfl) (pv 4) (fun _ _ => rfl)) (pv 1) (nomark _))
          (pss_one (ps_set (i := 2) scPlace.nd rfl (.inl rfl) (pv 4))) (pss_one (ps_set (i := 3) scPlace.nd rfl (.inl rfl) (pv 4)))))))
      (pss_one (ps_ret (pe_tup (pa_cons (pv 2) (pa_cons (pe_op op_sub (pv 1) (pe_ix ix_list (pe_fld (pv 0) rfl) (pv 2) (fun _ _ => rfl))) pa_nil))))))), ?_⟩
    obtain ⟨dx, aR, xs, aL, aM, aC, cs, aS, aB, I⟩ := id hI
    have hm : ((bgs (rs.map (·.2))).map V.int).length = rs.length := by
      unfold bgs
      rw [List.length_map, List.length_map, List.length_range, List.length_map]
    have hm1 : 1 ≤ rs.length := hk.1
    have hjl : (jn rs).length ≤ 4000 := by
      rw [jn_len]
      exact hk.2.2.1
    have hrl : rs.length ≤ 4000 := by
      have h1 : rs.length ≤ jl rs := by
        have : ∀ l : List Rf, l.length ≤ jl l := fun l => by
          induction l with
          | nil => exact Nat.le_refl _
          | cons r l ih =>
            show l.length + 1 ≤ r.2.length + 1 + jl l
            omega
        exact this rs
      have := hk.2.2.1
      omega
    refine ⟨.ref x, rfl, x, C, dx, _, _, rfl, I.ob, X.cl, X.n8, ixl (i := 7) rfl (by decide +kernel), aB, _, rfl, .inl (.inl (.inl I.bg)), ?_⟩
    rw [hm]
    refine ⟨fun σ H' => H' = H ∧ ∃ (lo : Nat) (v4 : Option V), lo < rs.length ∧ bg rs lo ≤ j ∧ j < bg rs (lo + 1) ∧ ∃ v3 : Option V, σ = [some (.ref x), some (.int (j : Int)), some (.int (lo : Int)), v3, v4], ?_, ?_⟩
    · refine while_by (fun σ H' => H' = H ∧ ∃ (lo hi : Nat) (v4 : Option V), lo < hi ∧ hi ≤ rs.length ∧ bg rs lo ≤ j ∧ j < bg rs hi ∧ σ = [some (.ref x), some (.int (j : Int)), some (.int (lo : Int)), some (.int (hi : Int)), v4])
        (fun (σ : L2.St) (_ : Hp) => match σ[2]?, σ[3]? with | some (some (V.int a)), some (some (V.int b)) => (b - a).toNat | _, _ => 0) ⟨rfl, 0, rs.length, none, by omega, Nat.le_refl _, Nat.zero_le _, by rw [bg_all]; exact hj, rfl⟩ ?_ ?_
      · rintro σ H' ⟨rfl, lo, hi, v4, h1, h2, h3, h4, rfl⟩
        refine ⟨_, rfl, _, rfl, _, _, rfl, rfl, _, 1, rfl, rfl, _, rfl, ite2 (fun e => ?_) (fun e => ?_)⟩
        · have lt := of_decide_eq_true e
          have em : ((lo : Int) + (hi : Int)) / 2 = (((lo + hi) / 2 : Nat) : Int) := by omega
          have hml : (lo + hi) / 2 < rs.length := by omega
          refine ⟨_, rfl, _, rfl, _, _, rfl, rfl, _, 2, rfl, rfl, ⟨by decide, by decide⟩, .ref x, rfl, x, C, dx, _, _, rfl, I.ob, X.cl, X.n8, ixl (i := 7) rfl (by decide +kernel), _, rfl, aB, _, _, _, rfl, rfl, .inl (.inl I.bg), by rw [em]; exact atI_nat (by rw [List.getElem?_map, bgs_at hml]; rfl), .int j, rfl, _, _, rfl, rfl, _, rfl, ite2 (fun e2 => ?_) (fun e2 => ?_)⟩
          · have le := of_decide_eq_true e2
            refine ⟨_, rfl, ⟨rfl, (lo + hi) / 2, hi, some (.int (((lo + hi) / 2 : Nat) : Int)), by omega, h2, by omega, h4, ?_⟩, ?_⟩
            · rw [← em]
              rfl
            · show ((hi : Int) - ((lo : Int) + (hi : Int)) / 2).toNat < ((hi : Int) - (lo : Int)).toNat
              omega
          · have nle : ¬ ((bg rs ((lo + hi) / 2) : Nat) : Int) ≤ (j : Int) := fun z => e2 (decide_eq_true z)
            refine ⟨_, rfl, ⟨rfl, lo, (lo + hi) / 2, some (.int (((lo + hi) / 2 : Nat) : Int)), by omega, by omega, h3, by omega, ?_⟩, ?_⟩
            · rw [← em]
              rfl
            · show (((lo : Int) + (hi : Int)) / 2 - (lo : Int)).toNat < ((hi : Int) - (lo : Int)).toNat
              omega
        · have nlt : ¬ (1 : Int) < (hi : Int) - (lo : Int) := fun z => e (decide_eq_true z)
          obtain rfl : hi = lo + 1 := by omega
          exact ⟨rfl, lo, v4, by omega, h3, h4, _, rfl⟩
      · rintro σ H' Q1 Q2 m ⟨v, e1, v2, e2, i, j', e3, e4, i2, j2, e5, e6, b', e7, h7⟩
        exact ⟨v, e1, v2, e2, i, j', e3, e4, i2, j2, e5, e6, b', e7, m _ _ h7⟩
    · rintro σ H' ⟨rfl, lo, v4, h1, h2, h3, v3, rfl⟩
      refine ⟨_, rfl, .int j, rfl, .ref x, rfl, x, C, dx, _, _, rfl, I.ob, X.cl, X.n8, ixl (i := 7) rfl (by decide +kernel), _, rfl, aB, _, _, _, rfl, rfl, .inl (.inl I.bg), atI_nat (by rw [List.getElem?_map, bgs_at h1]; rfl), _, _, rfl, rfl, by show 2 ≤ sizeLine; decide, fun p hp => ?_⟩
      have hs := bg_succ h1
      refine q _ p lo (j - bg rs lo) (same_upd hp) hp ?_ ⟨h1, by omega, by omega⟩
      rw [upd_same]
      show some (HO.tup [V.int (lo : Int), V.int ((j : Int) - ((bg rs lo : Nat) : Int))]) = _
      rw [show (j : Int) - ((bg rs lo : Nat) : Int) = ((j - bg rs lo : Nat) : Int) by omega]
theorem rowS_len {ns : List Int} {lo hi : Nat} (h : hi ≤ ns.length) : (rowS ns lo hi).length = hi - lo := by
  unfold rowS
  rw [List.length_map, List.length_take, List.length_drop, starts_len]
  omega
theorem rowS_at {ns : List Int} {lo hi j : Nat} (h : hi ≤ ns.length) (hj : j < hi - lo) : (rowS ns lo hi)[j]? = some (((starts ns).getD (lo + j) 0 : Nat) : Int) := by
  have sl := starts_len ns
  unfold rowS
  rw [List.getElem?_map, List.getElem?_take, if_pos hj, List.getElem?_drop, List.getD_eq_getElem?_getD, List.getElem?_eq_getElem (by omega)]
  rfl
theorem plc_loc {rs : List Rf} {l : List Nat} {p : Nat × Nat} (h : p ∈ plc rs l) : Loc rs p.1 p.2 (bg rs p.1 + p.2) ∧ bg rs p.1 + p.2 < (jn rs).length := by
  obtain ⟨h1, h2, h3⟩ := plc_mem.mp h
  refine ⟨⟨h1, rfl, by omega⟩, ?_⟩
  have := bg_succ h1
  have := bg_mono (rs := rs) (show p.1 + 1 ≤ rs.length by omega) (Nat.le_refl _)
  rw [bg_all] at this
  omega
theorem ok_places {f C : Addr} {fd : FuncData} (F : Fun K "places" "Index.places" mPlaces f fd) (X : IxT K mg C) (mrange : mg "range" = none) (msort : mg "sorted" = none) (h1 : HasM P w K mg base C 5 "interval" ["self", "piece"] (spIval C)) (h2 : HasM P w K mg base C 5 "start" ["self", "row"] (spStart C)) (h3 : HasM P w K mg base C 2 "_place" ["self", "start"] (spPlace C)) :
    FnOk P w K mg base CX0 6 f fd ["self", "piece"] (spPlaces C) := by
  obtain ⟨f1, d1, G1, m1, b1⟩ := h1
  obtain ⟨f2, d2, G2, m2, b2⟩ := h2
  obtain ⟨f3, d3, G3, m3, b3⟩ := h3
  refine F.ok scPlaces (fun vs H Q E h => ?_) (fun cdv A outer s H vs Q E hr h => ?_)
  · obtain ⟨x, rs, b, s, l, rfl, _⟩ := h
    rfl
  · obtain ⟨x, rs, b, s, l, rfl, hI, hk, hd, hl, hn, q⟩ := h
    have hr2 : Room 2 _ := hr.mono (by decide)
    refine ⟨_, C8.pss_cut (ps_asg (pe_meth (pv 0) X.cl m1 G1 hr b1 .nil pass0 (pa_cons (pv 1) pa_nil)) (pg_tup rfl (pgs_cons (pg_name (i := 2) scPlaces.nd rfl (.inl rfl)) (pgs_cons (pg_name (i := 3) scPlaces.nd rfl (.inl rfl)) pgs_nil))))
      (C8.pss_cut (ps_set (i := 4) scPlaces.nd rfl (.inl rfl) (pe_callB cr_sortedI (by rfl) msort (by decide +kernel) (pa_cons (pe_lc (own := [("row", 5)]) (g := gName 5) (tt := tYes) (te := tMeth C "start" (spStart C) [] E0 (tVar 0) (tCons (tVar 5) tNil)) (by rfl) scPlaces.nd (pi_range2 rfl mrange (pa_cons (pv 2) (pa_cons (pv 3) pa_nil))) (blkOk_by (own := [("row", 5)]) (N := NPl) (sc := defScope mPlaces) (by decide +kernel))
        (fun _ _ _ _ _ => pg_name (i := 5) scPlaces.nd rfl (Or.inl rfl)) (fun _ _ _ _ _ => pts_nil) (fun _ _ _ _ _ => pe_meth (pv 0) X.cl m2 G2 hr b2 .nil pass0 (pa_cons (pv 5) pa_nil))) pa_nil)))
      (pss_one (ps_ret (pe_lc (own := [("start", 6)]) (g := gName 6) (tt := tYes) (te := tMeth C "_place" (spPlace C) [] E0 (tVar 0) (tCons (tVar 6) tNil)) (by rfl) scPlaces.nd (pi_list (pv 4)) (blkOk_by (own := [("start", 6)]) (N := NPl) (sc := defScope mPlaces) (by decide +kernel))
        (fun _ _ _ _ _ => pg_name (i := 6) scPlaces.nd rfl (Or.inl rfl)) (fun _ _ _ _ _ => pts_nil) (fun _ _ _ _ _ => pe_meth (pv 0) X.cl m3 G3 hr2 b3 .nil pass0 (pa_cons (pv 6) pa_nil)))))), ?_⟩
    have en := jn_ended hk.1 hk.2.1
    have hn1 : 1 ≤ (jn rs).length := by
      rw [jn_len]
      exact jl_pos hk.1
    have hn4 : (jn rs).length ≤ 4000 := by
      rw [jn_len]
      exact hk.2.2.1
    have hle := ivl_le en hn1 (w := l.map sy) w_pos
    obtain ⟨lo, hlo⟩ : ∃ z, z = (ivl (jn rs) (l.map sy)).1 := ⟨_, rfl⟩
    obtain ⟨hi, hhi⟩ : ∃ z, z = (ivl (jn rs) (l.map sy)).2 := ⟨_, rfl⟩
    rw [← hlo, ← hhi] at hle
    refine ⟨fun σ H' => Same H H' ∧ σ = [some (.ref x), some (.str (T l)), some (.int (lo : Int)), some (.int (hi : Int)), none, none, none], ?_, ?_⟩
    · obtain ⟨dx, aR, xs, aL, aM, aC, cs, aS, aB, I⟩ := id hI
      refine ⟨.ref x, rfl, x, dx, _, rfl, I.ob, lookup_no (ixF_names ..) (by decide +kernel), .str (T l), rfl, x, rs, b, s, l, rfl, hI, hk, hd, hl, fun H1 pt s1 hpt ht => ?_⟩
      rw [← hlo, ← hhi] at ht
      exact ⟨pt, _, rfl, .inl (.inl ht), rfl, _, _, rfl, _, _, rfl, rfl, s1, rfl⟩
    rintro σ H1 ⟨s1, rfl⟩
    refine ⟨fun σ H' => Same H H' ∧ (plc rs l).length ≤ 4000 ∧ ∃ ps, H' ps = some (LI ((plc rs l).map (plp rs))) ∧ σ = [some (.ref x), some (.str (T l)), some (.int (lo : Int)), some (.int (hi : Int)), some (.ref ps), none, none], ?_, ?_⟩
    · refine ⟨.int lo, rfl, .int hi, rfl, lo, hi, rfl, by omega, fun D hD => ?_⟩
      have hrl := rowS_len (ns := jn rs) (lo := lo) hle.2
      refine lc_range (lo := lo) (n := ((hi : Int) - lo).toNat) (fun j H' => Same H1 H' ∧ H' D = some (LI ((rowS (jn rs) lo hi).take j))) ⟨same_upd hD, upd_same⟩ ?_ ?_
      · rintro j H' hj ⟨s2, hd2⟩
        refine ⟨rfl, ?_⟩
        dsimp only [tYes]
        rw [if_pos rfl]
        have hI2 := (hI.same s1).same s2
        obtain ⟨dx, aR, xs, aL, aM, aC, cs, aS, aB, I⟩ := id hI2
        refine ⟨.ref x, rfl, x, dx, _, rfl, I.ob, lookup_no (ixF_names ..) (by decide +kernel), _, rfl, x, rs, b, s, lo + j, by rw [Int.natCast_add]; rfl, hI2, hk, by omega, fun H3 s3 => ?_⟩
        refine ⟨_, s3 _ _ hd2, line_lt7 (by rw [List.length_map, List.length_take]; omega), fun a o e => ?_, ?_⟩
        · rw [upd_ne (ne_of_none e hD)]
          exact s3 _ _ (s2 _ _ e)
        · rw [upd_same, List.take_add_one, rowS_at hle.2 (by omega)]
          exact congrArg some (LI_snoc _ _).symm
      · rintro H' ⟨s2, hd2⟩
        rw [List.take_of_length_le (by omega)] at hd2
        refine ⟨D, _, rfl, .inl (.inl hd2), fun ns' p hperm hasc hp => ?_⟩
        have hlen := hperm.length_eq
        rw [hlo, hhi] at hperm
        have e := sorted_places hk.1 hk.2.1 hd hn hperm hasc
        subst e
        rw [List.length_map] at hlen
        exact ⟨(s1.trans s2).trans (same_upd hp), by omega, p, upd_same, rfl⟩
    rintro σ H2 ⟨s2, hpn, ps, hps, rfl⟩
    refine ⟨.ref ps, rfl, ps, rfl, ⟨_, .inl (.inl hps)⟩, fun D hD => ?_⟩
    refine lc_list (K := K) (xs := ((plc rs l).map (plp rs)).map V.int) (fun j H' => Same H2 H' ∧ ∃ xs, H' D = some (.lst xs) ∧ Plc H' xs ((plc rs l).take j)) ⟨same_upd hD, [], upd_same, .nil⟩ (fun j H' _ h => .inl (.inl (h.1 _ _ hps))) ?_ ?_
    · rintro j y H' hjy ⟨s3, xs, hd3, hxs⟩
      rw [List.getElem?_map, List.getElem?_map] at hjy
      obtain ⟨z, hz, rfl⟩ := Option.map_eq_some_iff.mp hjy
      obtain ⟨p, hp, rfl⟩ := Option.map_eq_some_iff.mp hz
      obtain ⟨hloc, hlt⟩ := plc_loc (List.mem_of_getElem? hp)
      refine ⟨rfl, ?_⟩
      dsimp only [tYes]
      rw [if_pos rfl]
      have hI2 := (hI.same s2).same s3
      obtain ⟨dx, aR, xs', aL, aM, aC, cs, aS, aB, I⟩ := id hI2
      refine ⟨.ref x, rfl, x, dx, _, rfl, I.ob, lookup_no (ixF_names ..) (by decide +kernel), _, rfl, x, rs, b, s, bg rs p.1 + p.2, rfl, hI2, hk, hlt, fun H4 qa k a s4 hqa hq4 hl4 => ?_⟩
      obtain ⟨rfl, rfl⟩ := hl4.uniq hloc
      have hd4 := s4 _ _ hd3
      have hxl := paired_len hxs
      rw [List.length_take] at hxl
      have nD : D ≠ qa := ne_of_none hd3 hqa
      refine ⟨_, hd4, line_lt7 (by omega), fun a o e => ?_, xs ++ [.ref qa], upd_same, ?_⟩
      · rw [upd_ne (ne_of_none e hD)]
        exact s4 _ _ (s3 _ _ e)
      · rw [List.take_add_one, hp]
        refine Plc.snoc ((hxs.same s4).mono fun b ys hb => ?_) ?_
        · have n1 : b ≠ D := fun z => by
            rw [z, hd4] at hb
            cases hb
          rw [upd_ne n1]
          exact hb
        · rw [upd_ne nD.symm]
          exact hq4
    · rintro H' ⟨s3, xs, hd3, hxs⟩
      rw [List.length_map, List.length_map, List.take_length] at hxs
      exact q H' D xs (s2.trans s3) (s2.free hD) hd3 hxs
end
def dT (a b : Int) : PyData := .tuple [.int a, .int b]
theorem can_dT (a b : Int) : (dT a b).canLay0 = true := rfl
theorem shaped_dT (a b : Int) : SeqAt.shaped (dT a b) = true := rfl
theorem eqv_dT (a b : Int) : PyData.eqv (dT a b) (dT a b) = true := SeqAt.eqv_refl _ (can_dT a b)
theorem dp_dT {K : PySem.W.Frag} {H : Hp} {p : Addr} {a b : Int} (h : H p = some (.tup [.int a, .int b])) : Dp K H (.ref p) (dT a b) := .tup (.inl (.inl h)) (.cons (.int a) (.cons (.int b) .nil))
def dP (ps : List (Nat × Nat)) : PyData := .list (ps.map fun p => dT (p.1 : Int) (p.2 : Int))
theorem can_dP (ps : List (Nat × Nat)) : (dP ps).canLay0 = true := by
  show PyData.canLayAll0 (ps.map fun p => dT (p.1 : Int) (p.2 : Int)) = true
  induction ps with
  | nil => rfl
  | cons p r ih =>
    show ((dT (p.1 : Int) (p.2 : Int)).canLay0 && PyData.canLayAll0 (r.map fun p => dT (p.1 : Int) (p.2 : Int))) = true
    rw [can_dT, ih]
    rfl
theorem depth_dP (ps : List (Nat × Nat)) : PyData.depth (dP ps) ≤ 64 := by
  have : PyData.depthAll (ps.map fun p => dT (p.1 : Int) (p.2 : Int)) ≤ 1 := by
    induction ps with
    | nil => exact Nat.zero_le _
    | cons l r ih =>
      show max (max 0 (max 0 0) + 1) (PyData.depthAll (r.map fun p => dT (p.1 : Int) (p.2 : Int))) ≤ 1
      omega
  show PyData.depthAll (ps.map fun p => dT (p.1 : Int) (p.2 : Int)) + 1 ≤ 64
  omega
theorem shaped_dP (ps : List (Nat × Nat)) : SeqAt.shaped (dP ps) = true := by
  unfold SeqAt.shaped
  rw [can_dP, decide_eq_true (depth_dP ps)]
  rfl
theorem eqv_dP (ps : List (Nat × Nat)) : PyData.eqv (dP ps) (dP ps) = true := SeqAt.eqv_refl _ (can_dP ps)
section
variable {K : PySem.W.Frag}
theorem dp_plc {H : Hp} : ∀ {xs : List V} {ps : List (Nat × Nat)}, Plc H xs ps → DpAll K H xs (ps.map fun p => dT (p.1 : Int) (p.2 : Int))
  | _, _, .nil => .nil
  | _, _, .cons ⟨q, e, t⟩ h => by
    subst e
    exact .cons (dp_dT t) (dp_plc h)
theorem dp_dP {H : Hp} {a : Addr} {xs : List V} {ps : List (Nat × Nat)} (h : H a = some (.lst xs)) (t : Plc H xs ps) : Dp K H (.ref a) (dP ps) := .lst (.inl (.inl h)) (dp_plc t)
end
theorem cut_head (l : List Nat) (k : Nat) : cutS (T l) none (some (k : Int)) = T (l.take k) := by
  unfold cutS
  rw [HT.sIx_nat, HT.sIx_none, T_len, T_list, List.drop_zero, Nat.sub_zero]
  show Str.mk _ = Str.mk _
  congr 2
  by_cases h : k ≤ l.length
  · rw [Nat.min_eq_left h]
  · rw [Nat.min_eq_right (by omega), List.take_of_length_le (Nat.le_refl _), List.take_of_length_le (by omega)]
/-! ### enumerate(text), enumerate(text, start=k) -/
section
open PySem PySem.Spec PyProof.Rows L2 PySem.W
theorem callWith_kwT2 {M : Model} {A : Around} {E : Value → Shared → Prop} {s : Shared} {env : Env} {pos : Pos} {U : String} {e : Expr} {rest : List Expr} {kws : List Keyword} {Q : Value → Shared → Prop}
    (h : wpAny M A (spliced (backTo pos (starEach (e :: rest) env))) (fun vs s₁ => wpAny M A (evalAll ((backToKw pos (keywordEach kws env)).map (·.2))) (fun kvs s₂ => wpAny M A (call (.type U) vs (((backToKw pos (keywordEach kws env)).filterMap (·.1)).zip kvs)) Q E s₂) E s₁) E s)
    (he : backTo pos (starEach (e :: rest) env) = (false, eval e env) :: backTo pos (starEach rest env)) (hplain : (backTo pos (starEach (e :: rest) env)).any (·.1) = false)
    (hall : (backToKw pos (keywordEach kws env)).all (·.1.isSome) = true) (hkw : (backToKw pos (keywordEach kws env)).any (·.1.isNone) = false) :
    wpAny M A (callWith pos (.type U) [] (backTo pos (starEach (e :: rest) env)) (backToKw pos (keywordEach kws env))) Q E s := by
  have h2 : wpAny M A (evalArgs (.type U) true (backTo pos (starEach (e :: rest) env)) (backToKw pos (keywordEach kws env))) (fun a s₁ => wpAny M A (call (.type U) ([] ++ a.pos) a.kw) Q E s₁) E s := by
    rw [he] at h ⊢
    exact evalArgs_kwB hall h
  unfold callWith
  refine wpAny_bind (wpAny_holding (wpAny_mono h2 (fun a s₁ h₁ => wpAny_bind (wpAny_standAt ?_)) fun _ _ x => x))
  simp only [hplain, hkw, Bool.or_false]
  refine wpAny_bind (wpAny_pure ?_)
  exact wpAny_bind (wpAny_mono h₁ (fun r s₂ hr => wpAny_bind (wpAny_holding (wpAny_point (wpAny_pure hr)))) fun _ _ x => x)
/-- the signs of x, each in a new pair with its number from k on -/
def ItT (k : Int) (x : Str) : It :=
  ⟨fun i _ => i < x.cps.size, fun i H v H' => ∃ T c, v = .ref T ∧ H T = none ∧ H' = upd H T (.tup [.int (k + (i : Nat)), .str ⟨#[c]⟩]) ∧ x.cps[i]? = some c, fun i _ => x.cps.size ≤ i⟩
theorem turn_enumT {P : Program} {w : World} {K : PySem.W.Frag} {elts : List Expr} {kk : Nat} {tpos : Pos} (k : Int) (x : Str) (t : Tok) (e it : Addr) (hne : e ≠ it) :
    Turn P w K (.Tuple elts kk tpos) (ItT k x) [e, it] e (fun i h => (∃ old, IsEnum h e it (k + ((i : Nat) : Int)) old) ∧ h.IsStrIter it (strIterType x) x t i ∧ i ≤ x.cps.size) where
  mem := by simp
  obj := fun i h st b hb => by
    obtain ⟨⟨old, he⟩, ⟨o, ho, hc, hd⟩, _⟩ := st
    rcases (show b = e ∨ b = it by simpa using hb) with z | z
    · rw [z]
      exact ⟨_, he, fun v q => nomatch q⟩
    · rw [z]
      exact ⟨o, ho, fun v q => by rw [hd] at q; cases q⟩
  keep := fun i h h' st k => let ⟨⟨old, he⟩, ⟨o, ho, r⟩, l⟩ := st; ⟨⟨old, k e (by simp) _ he⟩, ⟨o, k it (by simp) _ ho, r⟩, l⟩
  item := by
    intro X hP hw hK hc i pins s σ H E I hf st hg
    subst hP hw hK
    obtain ⟨⟨old, he⟩, hit, hle⟩ := st
    have hel : e < s.heap.objs.size := Heap.lt_size he
    have hil : it < s.heap.objs.size := by obtain ⟨_, q, _⟩ := hit; exact Heap.lt_size q
    have hef : e ∉ [it] := by
      simp only [List.mem_cons, List.not_mem_nil, or_false]
      exact hne
    refine wpAny_pyNext_enum_itemC (Draws.text (by simpa using I.ok.hd hc) it x t) he hit hg hne hef fun x1 h' tk hx1 ho hst' hT hsz hk => ?_
    obtain ⟨c, u, hcx, rfl⟩ := hx1
    refine ⟨_, rfl, wpAny_letOwnedTupleGo_enum (s := { s with heap := h', toks := tk + 1 }) ho fun h'' he' sb => ?_⟩
    have hT2 : h''.get? s.heap.objs.size = some { cls := .type "tuple", data := .seq #[.int (k + (i : Int)) tk, .str ⟨#[c]⟩ u] } := (sb.2 _ (Nat.ne_of_gt hel)).trans hT
    have new : ObjOk X.prog X.w (upd H s.heap.objs.size (.tup [.int (k + (i : Nat)), .str ⟨#[c]⟩])) h'' s.heap.objs.size (.tup [.int (k + (i : Nat)), .str ⟨#[c]⟩]) :=
      ⟨by show 2 ≤ sizeLine; decide, [.int (k + (i : Int)) tk, .str ⟨#[c]⟩ u], .cons ⟨_, rfl⟩ (.cons ⟨_, rfl⟩ .nil), ⟨_, hT2, rfl, _, rfl⟩⟩
    have I1 : Inv X pins σ (upd H s.heap.objs.size (.tup [.int (k + (i : Nat)), .str ⟨#[c]⟩])) { s with heap := h'', toks := tk + 1 } :=
      I.turnedNew (ch := [e, it]) (fun b ob hb q => (sb.2 b (fun z => hb (by simp [z]))).trans (hk b ob (fun z => hb (by simp [z])) (fun z => hb (by simp [z])) q)) hf (Nat.le_refl _) new
    refine ⟨.ref s.heap.objs.size, _, I1, rfl, ⟨_, c, rfl, I.hok.fresh (Nat.le_refl _), rfl, hcx⟩, ⟨⟨.str ⟨#[c]⟩ u, ?_⟩, ?_, hg⟩, fun b hb => ?_⟩
    · rw [show k + ((i + 1 : Nat) : Int) = k + (i : Int) + 1 by omega]
      exact he'
    · obtain ⟨o, q, r⟩ := hst'
      exact ⟨o, (sb.2 it (Ne.symm hne)).trans q, r⟩
    · have hb' : b < s.heap.objs.size := by
        rcases (show b = e ∨ b = it by simpa using hb) with z | z
        · rw [z]; exact hel
        · rw [z]; exact hil
      rw [upd_ne (Nat.ne_of_lt hb')]
      exact (hf b hb).1
  done := by
    intro X hP hw hK hc i pins s σ H E I hf st hg
    subst hP hw hK
    obtain ⟨⟨old, he⟩, hit, hle⟩ := st
    obtain ⟨f0, f1, f2, f3, f4, f5⟩ := hf it (by simp)
    have hin : i = x.cps.size := Nat.le_antisymm hle hg
    refine wpAny_pyNext_enum_endD (Draws.text (by simpa using I.ok.hd hc) it x t) he (by rw [← hin]; exact hit) fun h' eb => ⟨rfl, I.turned (t' := s.toks) (fun b o hb q => eb b o hb q) f0 f1 f3 f4 f5⟩
  self := fun A i s Q E st h => let ⟨⟨_, he⟩, _⟩ := st; wpAny_pyIter_enum he h
def iEnumT (ta : TA) : TI := fun σ H R => ta σ H fun vs H1 => ∃ x, vs = [.str x] ∧ R (ItT 0 x) H1
theorem pi_enumT {X : Cx} {e : Expr} {ta : TA} {p pos tpos : Pos} {elts : List Expr} {kk : Nat} (hg : Gl X "enumerate") (hm : X.mg "enumerate" = none) (ha : PA X [e] ta) (hs : starEach [e] X.env = [(false, eval e X.env)] := by rfl) :
    PI X (.Tuple elts kk tpos) (.Call (.Name "enumerate" p) [e] [] pos) (iEnumT ta) := by
  refine ⟨fun pins s σ H R I h => ?_⟩
  refine Call_ (ld_blt I hg hm boot_enumerate (PyProof.Rows.callWith_type1 (thn (ha.run pos pins s σ H _ I h) fun us s1 ⟨vs, H1, I1, r1, q1⟩ => ?_) hs rfl))
  obtain ⟨x, ex, q⟩ := q1
  subst ex
  obtain ⟨u, rfl, ru⟩ := vals1 r1
  obtain ⟨t, rfl⟩ : ∃ t, u = Value.str x t := ru
  refine call_enumerate_str fun h' he hit hsz hk => wpAny_pyIter_enum he ?_
  have I3 : Inv X pins σ H1 { s1 with heap := h' } := I1.kept (t' := s1.toks) hk
  refine ⟨s1.heap.objs.size + 1, [s1.heap.objs.size + 1, s1.heap.objs.size], _, _, H1, rfl, I3, turn_enumT 0 x t (s1.heap.objs.size + 1) s1.heap.objs.size (Nat.succ_ne_self _), ⟨⟨.none, he⟩, hit, Nat.zero_le _⟩, fun b hb => ?_, q⟩
  have hle : s1.heap.objs.size ≤ b := by
    rcases (show b = s1.heap.objs.size + 1 ∨ b = s1.heap.objs.size by simpa using hb) with z | z
    · rw [z]; exact Nat.le_add_right _ _
    · rw [z]; exact Nat.le_refl _
  exact I1.fpOk hle (I1.hok.fresh hle)
def iEnumTS (ta tk : TA) : TI := fun σ H R => ta σ H fun vs H1 => tk σ H1 fun zs H2 => ∃ x k, vs = [.str x] ∧ zs = [.int k] ∧ -(2 ^ 63) ≤ k ∧ k < 2 ^ 63 ∧ R (ItT k x) H2
theorem pi_enumTS {X : Cx} {e ek : Expr} {ta tk : TA} {p pos tpos kp : Pos} {elts : List Expr} {kk : Nat} (hg : Gl X "enumerate") (hm : X.mg "enumerate" = none) (ha : PA X [e] ta) (hk : PK X [⟨some "start", ek, kp⟩] tk)
    (he1 : backTo pos (starEach [e] X.env) = (false, eval e X.env) :: backTo pos (starEach [] X.env) := by rfl) (hpl : (backTo pos (starEach [e] X.env)).any (·.1) = false := by rfl) :
    PI X (.Tuple elts kk tpos) (.Call (.Name "enumerate" p) [e] [⟨some "start", ek, kp⟩] pos) (iEnumTS ta tk) := by
  constructor
  intro pins s σ H R I h
  refine wpAny_Call_Name_kw (ld_blt I hg hm boot_enumerate ?_)
  refine callWith_kwT2 (thn (ha.run pos pins s σ H _ I h) fun us s1 ⟨vs, H1, I1, r1, q1⟩ => ?_) he1 hpl (by rfl) (by rfl)
  refine thn (hk.run pos pins s1 σ H1 _ I1 q1) fun ws s2 ⟨zs, H2, I2, r2, x, k, ev, ez, hk0, hk1, q⟩ => ?_
  subst ev ez
  obtain ⟨u, rfl, ru⟩ := vals1 r1
  obtain ⟨t, rfl⟩ : ∃ t, u = Value.str x t := ru
  obtain ⟨z, rfl, rz⟩ := vals1 r2
  obtain ⟨t2, rfl⟩ : ∃ t, z = Value.int k t := rz
  show wpAny _ _ (call (.type "enumerate") [.str x t] [(Str.ofString "start", .int k t2)]) _ _ s2
  refine enum_begins_start (begins_text x t) trivial hk0 hk1 fun h' he hit hsz hk => wpAny_pyIter_enum he ?_
  have I3 : Inv X pins σ H2 { s2 with heap := h' } := I2.kept (t' := s2.toks) hk
  refine ⟨s2.heap.objs.size + 1, [s2.heap.objs.size + 1, s2.heap.objs.size], _, _, H2, rfl, I3, turn_enumT k x t (s2.heap.objs.size + 1) s2.heap.objs.size (Nat.succ_ne_self _), ⟨⟨.none, ?_⟩, ⟨_, hit, rfl, rfl⟩, Nat.zero_le _⟩, fun b hb => ?_, q⟩
  · rw [show k + ((0 : Nat) : Int) = k by omega]
    exact he
  · have hle : s2.heap.objs.size ≤ b := by
      rcases (show b = s2.heap.objs.size + 1 ∨ b = s2.heap.objs.size by simpa using hb) with z | z
      · rw [z]; exact Nat.le_add_right _ _
      · rw [z]; exact Nat.le_refl _
    exact I2.fpOk hle (I2.hok.fresh hle)
end
/-! ### bits -/
def maj (a b c : Bool) : Bool := (a && b) || (c && (a ^^ b))
def cry (X Y : Nat) : Nat → Bool
  | 0 => false
  | i + 1 => maj (X.testBit i) (Y.testBit i) (cry X Y i)
def cry2 : Nat → Nat → Nat → Bool → Bool
  | 0, _, _, c => c
  | i + 1, X, Y, c => cry2 i (X / 2) (Y / 2) (maj (X.testBit 0) (Y.testBit 0) c)
theorem tb_succ (n i : Nat) : n.testBit (i + 1) = (n / 2).testBit i := Nat.testBit_succ n i
theorem tb_add : ∀ (i X Y : Nat) (c : Bool), (X + Y + c.toNat).testBit i = (X.testBit i ^^ Y.testBit i ^^ cry2 i X Y c)
  | 0, X, Y, c => by
    rw [Nat.testBit_zero, Nat.testBit_zero, Nat.testBit_zero]
    have hX : X % 2 = 0 ∨ X % 2 = 1 := by omega
    have hY : Y % 2 = 0 ∨ Y % 2 = 1 := by omega
    unfold cry2
    rcases hX with x | x <;> rcases hY with y | y <;> cases c <;> simp [Nat.add_mod, x, y]
  | i + 1, X, Y, c => by
    rw [tb_succ, tb_succ, tb_succ]
    have hX : X % 2 = 0 ∨ X % 2 = 1 := by omega
    have hY : Y % 2 = 0 ∨ Y % 2 = 1 := by omega
    have e : (X + Y + c.toNat) / 2 = X / 2 + Y / 2 + (maj (X.testBit 0) (Y.testBit 0) c).toNat := by
      rw [Nat.testBit_zero, Nat.testBit_zero]
      rcases hX with x | x <;> rcases hY with y | y <;> cases c <;> simp [maj, x, y] <;> omega
    rw [e, tb_add i]
    rfl
theorem cry2_succ : ∀ (i X Y : Nat) (c : Bool), cry2 (i + 1) X Y c = maj (X.testBit i) (Y.testBit i) (cry2 i X Y c)
  | 0, _, _, _ => rfl
  | i + 1, X, Y, c => by
    show cry2 (i + 1) (X / 2) (Y / 2) _ = _
    rw [cry2_succ i, tb_succ X i, tb_succ Y i]
    rfl
theorem cry2_eq (X Y : Nat) : ∀ i, cry2 i X Y false = cry X Y i
  | 0 => rfl
  | i + 1 => by
    rw [cry2_succ, cry2_eq X Y i]
    rfl
theorem add_bit (X Y i : Nat) : (X + Y).testBit i = (X.testBit i ^^ Y.testBit i ^^ cry X Y i) := by
  have h := tb_add i X Y false
  rw [cry2_eq] at h
  exact h
/-! ### columns -/
def stepf (top : Int) (ag : Nat → Bool) (f : Nat → Int) : Nat → Int
  | 0 => f 0 + top
  | i + 1 => min (f i + 1 - if ag i then 1 else 0) (min (f (i + 1) + 1) (stepf top ag f i + 1))
/-- neighbours differ by at most one, up to n -/
def Smooth (n : Nat) (f : Nat → Int) : Prop := ∀ i, i < n → -1 ≤ f (i + 1) - f i ∧ f (i + 1) - f i ≤ 1
theorem step_facts {n : Nat} {top : Int} {ag : Nat → Bool} {f : Nat → Int} (ht0 : 0 ≤ top) (ht1 : top ≤ 1) (S : Smooth n f) : ∀ i, i ≤ n → -1 ≤ stepf top ag f i - f i ∧ stepf top ag f i - f i ≤ 1
  | 0, _ => by
    show -1 ≤ f 0 + top - f 0 ∧ f 0 + top - f 0 ≤ 1
    omega
  | i + 1, h => by
    have ih := step_facts (ag := ag) ht0 ht1 S i (by omega)
    have hs := S i (by omega)
    show -1 ≤ min (f i + 1 - if ag i then 1 else 0) (min (f (i + 1) + 1) (stepf top ag f i + 1)) - f (i + 1) ∧ min (f i + 1 - if ag i then 1 else 0) (min (f (i + 1) + 1) (stepf top ag f i + 1)) - f (i + 1) ≤ 1
    split <;> omega
/-- level: the row i + 1 is what the row i was -/
def lev (top : Int) (ag : Nat → Bool) (f : Nat → Int) (i : Nat) : Bool := decide (stepf top ag f (i + 1) = f i)
theorem lev_iff {n : Nat} {top : Int} {ag : Nat → Bool} {f : Nat → Int} (ht0 : 0 ≤ top) (ht1 : top ≤ 1) (S : Smooth n f) {i : Nat} (hi : i < n) :
    (lev top ag f i = true ↔ ag i = true ∨ f (i + 1) - f i = -1 ∨ stepf top ag f i - f i = -1) ∧ 0 ≤ stepf top ag f (i + 1) - f i ∧ stepf top ag f (i + 1) - f i ≤ 1 := by
  have h1 := step_facts (ag := ag) ht0 ht1 S i (by omega)
  have hs := S i hi
  have e : stepf top ag f (i + 1) = min (f i + 1 - if ag i then 1 else 0) (min (f (i + 1) + 1) (stepf top ag f i + 1)) := rfl
  unfold lev
  rw [decide_eq_true_iff, e]
  cases ag i with
  | true =>
    rw [if_pos rfl]
    refine ⟨⟨fun _ => .inl rfl, fun _ => by omega⟩, by omega, by omega⟩
  | false =>
    rw [if_neg Bool.false_ne_true]
    refine ⟨⟨fun z => .inr (by omega), fun z => ?_⟩, by omega, by omega⟩
    rcases z with z | z | z
    · cases z
    · omega
    · omega
/-- what the masks tell of a column -/
structure Msk (n : Nat) (f : Nat → Int) (R F : Nat) : Prop where
  smooth : Smooth n f
  up : ∀ i, R.testBit i = (decide (i < n) && decide (f (i + 1) - f i = 1))
  dn : ∀ i, F.testBit i = (decide (i < n) && decide (f (i + 1) - f i = -1))
def fullN (n : Nat) : Nat := 2 ^ n - 1
def levN (n same R F : Nat) : Nat := ((((same &&& R) + R) ^^^ R) ||| same ||| F) &&& fullN n
def larN (n lv R F top : Nat) : Nat := ((F ||| (fullN n ^^^ (lv ||| R))) <<< 1) ||| top
def smaN (lv R : Nat) : Nat := (lv &&& R) <<< 1
def upN (n lv la sm : Nat) : Nat := (sm &&& fullN n) ||| (fullN n ^^^ ((lv ||| la) &&& fullN n))
def dnN (lv la : Nat) : Nat := lv &&& la
theorem full_bit (n i : Nat) : (fullN n).testBit i = decide (i < n) := Nat.testBit_two_pow_sub_one n i
theorem mask_step {n top same R F : Nat} {ag : Nat → Bool} {f : Nat → Int} (ht : top ≤ 1) (M : Msk n f R F) (hs : ∀ i, same.testBit i = (decide (i < n) && ag i)) :
    Msk n (stepf top ag f) (upN n (levN n same R F) (larN n (levN n same R F) R F top) (smaN (levN n same R F) R)) (dnN (levN n same R F) (larN n (levN n same R F) R F top)) ∧
    (larN n (levN n same R F) R F top) >>> n = (if stepf top ag f n - f n = 1 then 1 else 0) ∧ (smaN (levN n same R F) R) >>> n = (if stepf top ag f n - f n = -1 then 1 else 0) := by
  have ht0 : (0 : Int) ≤ (top : Int) := by omega
  have ht1 : (top : Int) ≤ 1 := by omega
  -- the carries
  have hc : ∀ i, i ≤ n → (cry (same &&& R) R i = decide (stepf top ag f i - f i = -1)) := by
    intro i
    induction i with
    | zero =>
      intro _
      show false = decide (f 0 + top - f 0 = -1)
      rw [decide_eq_false (by omega)]
    | succ i ih =>
      intro h
      have h2 := ih (by omega)
      obtain ⟨l1, l2, l3⟩ := lev_iff (ag := ag) ht0 ht1 M.smooth (show i < n by omega)
      have hsm := M.smooth i (by omega)
      have hle : (stepf top ag f (i + 1) = f i) ↔ (ag i = true ∨ f (i + 1) - f i = -1 ∨ stepf top ag f i - f i = -1) := by
        rw [← l1]
        unfold lev
        rw [decide_eq_true_iff]
      show maj ((same &&& R).testBit i) (R.testBit i) (cry (same &&& R) R i) = _
      rw [Nat.testBit_and, hs, M.up, h2, decide_eq_true (show i < n by omega)]
      unfold maj
      by_cases hv : f (i + 1) - f i = 1
      · rw [decide_eq_true hv]
        cases ha : ag i with
        | true =>
          have : stepf top ag f (i + 1) = f i := hle.mpr (.inl ha)
          rw [decide_eq_true (show stepf top ag f (i + 1) - f (i + 1) = -1 by omega)]
          rfl
        | false =>
          by_cases hh : stepf top ag f i - f i = -1
          · have : stepf top ag f (i + 1) = f i := hle.mpr (.inr (.inr hh))
            rw [decide_eq_true hh, decide_eq_true (show stepf top ag f (i + 1) - f (i + 1) = -1 by omega)]
            rfl
          · have : ¬ stepf top ag f (i + 1) = f i := fun z => by
              rcases hle.mp z with z | z | z
              · rw [ha] at z
                cases z
              · omega
              · exact hh z
            rw [decide_eq_false hh, decide_eq_false (show ¬ stepf top ag f (i + 1) - f (i + 1) = -1 by omega)]
            rfl
      · rw [decide_eq_false hv]
        have : ¬ stepf top ag f (i + 1) - f (i + 1) = -1 := by omega
        rw [decide_eq_false this]
        simp
  have hl : ∀ i, (levN n same R F).testBit i = (decide (i < n) && lev top ag f i) := by
    intro i
    unfold levN
    rw [Nat.testBit_and, Nat.testBit_or, Nat.testBit_or, Nat.testBit_xor, add_bit, full_bit, Nat.testBit_and]
    by_cases hi : i < n
    · rw [hc i (by omega), hs, M.up, M.dn, decide_eq_true hi]
      obtain ⟨l1, _, _⟩ := lev_iff (ag := ag) ht0 ht1 M.smooth hi
      have hsm := M.smooth i hi
      cases hlv : lev top ag f i with
      | true =>
        rcases l1.mp hlv with z | z | z
        · rw [z]
          simp
        · rw [decide_eq_true z]
          simp
        · rw [decide_eq_true z]
          cases ag i <;> cases decide (f (i + 1) - f i = 1) <;> simp
      | false =>
        have n1 : ag i = false := by
          cases h : ag i with
          | false => rfl
          | true => exact absurd (l1.mpr (.inl h)) (by rw [hlv]; exact Bool.false_ne_true)
        have n2 : ¬ f (i + 1) - f i = -1 := fun z => absurd (l1.mpr (.inr (.inl z))) (by rw [hlv]; exact Bool.false_ne_true)
        have n3 : ¬ stepf top ag f i - f i = -1 := fun z => absurd (l1.mpr (.inr (.inr z))) (by rw [hlv]; exact Bool.false_ne_true)
        rw [n1, decide_eq_false n2, decide_eq_false n3]
        simp
    · rw [decide_eq_false hi, Bool.and_false, Bool.false_and]
  -- how the column differs from the one before
  have hla : ∀ i, i ≤ n → (larN n (levN n same R F) R F top).testBit i = decide (stepf top ag f i - f i = 1) := by
    intro i h
    unfold larN
    rw [Nat.testBit_or, Nat.testBit_shiftLeft]
    cases i with
    | zero =>
      have e : stepf top ag f 0 - f 0 = top := by
        show f 0 + top - f 0 = top
        omega
      rw [e]
      have : top = 0 ∨ top = 1 := by omega
      rcases this with z | z <;> subst z <;> rfl
    | succ i =>
      have htb : top.testBit (i + 1) = false := by
        rw [tb_succ, show top / 2 = 0 by omega, Nat.zero_testBit]
      rw [htb, Bool.or_false, Nat.add_sub_cancel, decide_eq_true (show 1 ≤ i + 1 by omega), Bool.true_and, Nat.testBit_or, Nat.testBit_xor, Nat.testBit_or, full_bit, hl, M.up, M.dn, decide_eq_true (show i < n by omega)]
      obtain ⟨l1, l2, l3⟩ := lev_iff (ag := ag) ht0 ht1 M.smooth (show i < n by omega)
      have hsm := M.smooth i (by omega)
      cases hlv : lev top ag f i with
      | true =>
        have e1 : stepf top ag f (i + 1) = f i := of_decide_eq_true hlv
        by_cases hv : f (i + 1) - f i = -1
        · rw [decide_eq_true hv, decide_eq_true (show stepf top ag f (i + 1) - f (i + 1) = 1 by omega)]
          simp
        · rw [decide_eq_false hv, decide_eq_false (show ¬ stepf top ag f (i + 1) - f (i + 1) = 1 by omega)]
          simp
      | false =>
        have e1 : ¬ stepf top ag f (i + 1) = f i := of_decide_eq_false hlv
        have n2 : ¬ f (i + 1) - f i = -1 := fun z => absurd (l1.mpr (.inr (.inl z))) (by rw [hlv]; exact Bool.false_ne_true)
        rw [decide_eq_false n2]
        by_cases hv : f (i + 1) - f i = 1
        · rw [decide_eq_true hv, decide_eq_false (show ¬ stepf top ag f (i + 1) - f (i + 1) = 1 by omega)]
          simp
        · rw [decide_eq_false hv, decide_eq_true (show stepf top ag f (i + 1) - f (i + 1) = 1 by omega)]
          simp
  have hsa : ∀ i, i ≤ n → (smaN (levN n same R F) R).testBit i = decide (stepf top ag f i - f i = -1) := by
    intro i h
    unfold smaN
    rw [Nat.testBit_shiftLeft]
    cases i with
    | zero =>
      have e : stepf top ag f 0 - f 0 = top := by
        show f 0 + top - f 0 = top
        omega
      rw [e, decide_eq_false (show ¬ (top : Int) = -1 by omega)]
      rfl
    | succ i =>
      rw [Nat.add_sub_cancel, decide_eq_true (show 1 ≤ i + 1 by omega), Bool.true_and, Nat.testBit_and, hl, M.up, decide_eq_true (show i < n by omega)]
      obtain ⟨l1, l2, l3⟩ := lev_iff (ag := ag) ht0 ht1 M.smooth (show i < n by omega)
      have hsm := M.smooth i (by omega)
      cases hlv : lev top ag f i with
      | true =>
        have e1 : stepf top ag f (i + 1) = f i := of_decide_eq_true hlv
        by_cases hv : f (i + 1) - f i = 1
        · rw [decide_eq_true hv, decide_eq_true (show stepf top ag f (i + 1) - f (i + 1) = -1 by omega)]
          rfl
        · rw [decide_eq_false hv, decide_eq_false (show ¬ stepf top ag f (i + 1) - f (i + 1) = -1 by omega)]
          rfl
      | false =>
        have e1 : ¬ stepf top ag f (i + 1) = f i := of_decide_eq_false hlv
        rw [decide_eq_false (show ¬ stepf top ag f (i + 1) - f (i + 1) = -1 by omega)]
        rfl
  have hfac := step_facts (ag := ag) ht0 ht1 M.smooth
  have hsm2 : Smooth n (stepf top ag f) := fun i hi => by
    obtain ⟨_, l2, l3⟩ := lev_iff (ag := ag) ht0 ht1 M.smooth hi
    have h1 := hfac i (by omega)
    have hlv := (lev_iff (ag := ag) ht0 ht1 M.smooth hi).1
    by_cases hh : stepf top ag f i - f i = -1
    · have : lev top ag f i = true := hlv.mpr (.inr (.inr hh))
      have e1 : stepf top ag f (i + 1) = f i := of_decide_eq_true this
      omega
    · omega
  refine ⟨⟨hsm2, fun i => ?_, fun i => ?_⟩, ?_, ?_⟩
  · unfold upN
    rw [Nat.testBit_or, Nat.testBit_and, Nat.testBit_xor, Nat.testBit_and, Nat.testBit_or, full_bit, hl]
    by_cases hi : i < n
    · rw [hla i (by omega), hsa i (by omega), decide_eq_true hi]
      have h1 := hfac i (by omega)
      obtain ⟨l1, l2, l3⟩ := lev_iff (ag := ag) ht0 ht1 M.smooth hi
      cases hlv : lev top ag f i with
      | true =>
        have e1 : stepf top ag f (i + 1) = f i := of_decide_eq_true hlv
        by_cases hh : stepf top ag f i - f i = -1
        · rw [decide_eq_true hh, decide_eq_true (show stepf top ag f (i + 1) - stepf top ag f i = 1 by omega)]
          simp
        · rw [decide_eq_false hh, decide_eq_false (show ¬ stepf top ag f (i + 1) - stepf top ag f i = 1 by omega)]
          simp
      | false =>
        have e1 : ¬ stepf top ag f (i + 1) = f i := of_decide_eq_false hlv
        have n3 : ¬ stepf top ag f i - f i = -1 := fun z => absurd (l1.mpr (.inr (.inr z))) (by rw [hlv]; exact Bool.false_ne_true)
        rw [decide_eq_false n3]
        by_cases hh : stepf top ag f i - f i = 1
        · rw [decide_eq_true hh, decide_eq_false (show ¬ stepf top ag f (i + 1) - stepf top ag f i = 1 by omega)]
          simp
        · rw [decide_eq_false hh, decide_eq_true (show stepf top ag f (i + 1) - stepf top ag f i = 1 by omega)]
          simp
    · rw [decide_eq_false hi]
      simp
  · unfold dnN
    rw [Nat.testBit_and, hl]
    by_cases hi : i < n
    · rw [hla i (by omega), decide_eq_true hi]
      have h1 := hfac i (by omega)
      obtain ⟨l1, l2, l3⟩ := lev_iff (ag := ag) ht0 ht1 M.smooth hi
      cases hlv : lev top ag f i with
      | true =>
        have e1 : stepf top ag f (i + 1) = f i := of_decide_eq_true hlv
        by_cases hh : stepf top ag f i - f i = 1
        · rw [decide_eq_true hh, decide_eq_true (show stepf top ag f (i + 1) - stepf top ag f i = -1 by omega)]
          rfl
        · rw [decide_eq_false hh, decide_eq_false (show ¬ stepf top ag f (i + 1) - stepf top ag f i = -1 by omega)]
          rfl
      | false =>
        have e1 : ¬ stepf top ag f (i + 1) = f i := of_decide_eq_false hlv
        rw [decide_eq_false (show ¬ stepf top ag f (i + 1) - stepf top ag f i = -1 by omega)]
        rfl
    · rw [decide_eq_false hi]
      rfl
  · have hbits : ∀ i, n < i → (larN n (levN n same R F) R F top).testBit i = false := fun i h => by
      unfold larN
      obtain ⟨k, rfl⟩ : ∃ k, i = k + 1 := ⟨i - 1, by omega⟩
      have htb : top.testBit (k + 1) = false := by
        rw [tb_succ, show top / 2 = 0 by omega, Nat.zero_testBit]
      rw [Nat.testBit_or, htb, Nat.testBit_shiftLeft, Nat.add_sub_cancel, Nat.testBit_or, Nat.testBit_xor, Nat.testBit_or, full_bit, hl, M.up, M.dn, decide_eq_false (show ¬ k < n by omega)]
      simp
    refine Nat.eq_of_testBit_eq fun i => ?_
    rw [Nat.testBit_shiftRight]
    cases i with
    | zero =>
      rw [Nat.add_zero, hla n (Nat.le_refl _)]
      split
      · rename_i h
        rw [decide_eq_true h]
        rfl
      · rename_i h
        rw [decide_eq_false h]
        rfl
    | succ i =>
      rw [hbits _ (by omega)]
      split
      · rw [tb_succ]
        show false = Nat.testBit 0 i
        rw [Nat.zero_testBit]
      · rw [Nat.zero_testBit]
  · have hbits : ∀ i, n < i → (smaN (levN n same R F) R).testBit i = false := fun i h => by
      unfold smaN
      obtain ⟨k, rfl⟩ : ∃ k, i = k + 1 := ⟨i - 1, by omega⟩
      rw [Nat.testBit_shiftLeft, Nat.add_sub_cancel, Nat.testBit_and, hl, decide_eq_false (show ¬ k < n by omega)]
      simp
    refine Nat.eq_of_testBit_eq fun i => ?_
    rw [Nat.testBit_shiftRight]
    cases i with
    | zero =>
      rw [Nat.add_zero, hsa n (Nat.le_refl _)]
      split
      · rename_i h
        rw [decide_eq_true h]
        rfl
      · rename_i h
        rw [decide_eq_false h]
        rfl
    | succ i =>
      rw [hbits _ (by omega)]
      split
      · rw [tb_succ]
        show false = Nat.testBit 0 i
        rw [Nat.zero_testBit]
      · rw [Nat.zero_testBit]
/-- the first column -/
theorem mask_first (n : Nat) : Msk n (fun i => (i : Int)) (fullN n) 0 := ⟨fun i _ => by show -1 ≤ ((i + 1 : Nat) : Int) - (i : Nat) ∧ _; omega, fun i => by
  rw [full_bit, decide_eq_true (show ((i + 1 : Nat) : Int) - (i : Nat) = 1 by omega), Bool.and_true], fun i => by
  rw [Nat.zero_testBit, decide_eq_false (show ¬ ((i + 1 : Nat) : Int) - (i : Nat) = -1 by omega), Bool.and_false]⟩
/-! ### bits of naturals -/
theorem and_nn (n m : Nat) : Builtin.bitAnd (n : Int) (m : Int) = ((n &&& m : Nat) : Int) := by
  unfold Builtin.bitAnd
  rw [decide_eq_true (show (0 : Int) ≤ (n : Int) by omega), decide_eq_true (show (0 : Int) ≤ (m : Int) by omega)]
  rfl
theorem or_nn (n m : Nat) : Builtin.bitOr (n : Int) (m : Int) = ((n ||| m : Nat) : Int) := by
  unfold Builtin.bitOr Builtin.bitAnd Builtin.bitNot
  rw [decide_eq_false (show ¬ (0 : Int) ≤ -(n : Int) - 1 by omega), decide_eq_false (show ¬ (0 : Int) ≤ -(m : Int) - 1 by omega)]
  have e1 : (-(-(n : Int) - 1) - 1).toNat = n := by omega
  have e2 : (-(-(m : Int) - 1) - 1).toNat = m := by omega
  dsimp only
  rw [e1, e2]
  omega
theorem xor_sum : ∀ n m : Nat, (n ^^^ m) + (n &&& m) = (n ||| m) := by
  intro n
  induction n using Nat.strongRecOn with
  | _ n ih =>
    intro m
    by_cases h : n = 0
    · subst h
      simp
    · have ihm := ih (n / 2) (by omega) (m / 2)
      have e1 : n ^^^ m = 2 * (n / 2 ^^^ m / 2) + (n + m) % 2 := by
        have a := Nat.div_add_mod (n ^^^ m) 2
        rw [Nat.xor_div_two] at a
        have b : (n ^^^ m) % 2 = (n + m) % 2 := by
          have c := Nat.xor_mod_two_pow (a := n) (b := m) (n := 1)
          rw [Nat.pow_one] at c
          rw [c]
          have hn : n % 2 = 0 ∨ n % 2 = 1 := by omega
          have hm : m % 2 = 0 ∨ m % 2 = 1 := by omega
          rcases hn with x | x <;> rcases hm with y | y <;> rw [x, y, Nat.add_mod, x, y] <;> rfl
        omega
      have e2 : n &&& m = 2 * (n / 2 &&& m / 2) + (n % 2) * (m % 2) := by
        have a := Nat.div_add_mod (n &&& m) 2
        rw [Nat.and_div_two] at a
        have b : (n &&& m) % 2 = (n % 2) * (m % 2) := by
          have c := Nat.and_mod_two_pow (a := n) (b := m) (n := 1)
          rw [Nat.pow_one] at c
          rw [c]
          have hn : n % 2 = 0 ∨ n % 2 = 1 := by omega
          have hm : m % 2 = 0 ∨ m % 2 = 1 := by omega
          rcases hn with x | x <;> rcases hm with y | y <;> rw [x, y] <;> rfl
        omega
      have e3 : n ||| m = 2 * (n / 2 ||| m / 2) + (n % 2 + m % 2 - (n % 2) * (m % 2)) := by
        have a := Nat.div_add_mod (n ||| m) 2
        rw [Nat.or_div_two] at a
        have b : (n ||| m) % 2 = n % 2 + m % 2 - (n % 2) * (m % 2) := by
          have c := Nat.or_mod_two_pow (a := n) (b := m) (n := 1)
          rw [Nat.pow_one] at c
          rw [c]
          have hn : n % 2 = 0 ∨ n % 2 = 1 := by omega
          have hm : m % 2 = 0 ∨ m % 2 = 1 := by omega
          rcases hn with x | x <;> rcases hm with y | y <;> rw [x, y] <;> rfl
        omega
      rw [e1, e2, e3]
      have hn : n % 2 = 0 ∨ n % 2 = 1 := by omega
      have hm : m % 2 = 0 ∨ m % 2 = 1 := by omega
      rcases hn with x | x <;> rcases hm with y | y <;> rw [x, y] <;> omega
theorem xor_nn (n m : Nat) : Builtin.bitXor (n : Int) (m : Int) = ((n ^^^ m : Nat) : Int) := by
  unfold Builtin.bitXor
  rw [or_nn, and_nn]
  have := xor_sum n m
  omega
section
variable {X : Cx}
theorem op_andN : OpR X (binaryOp .BitAnd) (fun x y H Q => ∃ n m : Nat, x = .int (n : Int) ∧ y = .int (m : Int) ∧ Q (.int ((n &&& m : Nat) : Int)) H) := by
  intro pins s σ H x y v u Q I rx ry h
  obtain ⟨n, m, e1, e2, q⟩ := h
  exact op_and pins s σ H x y v u Q I rx ry ⟨n, m, e1, e2, by rw [← and_nn] at q; exact q⟩
theorem op_orN : OpR X (binaryOp .BitOr) (fun x y H Q => ∃ n m : Nat, x = .int (n : Int) ∧ y = .int (m : Int) ∧ Q (.int ((n ||| m : Nat) : Int)) H) := by
  intro pins s σ H x y v u Q I rx ry h
  obtain ⟨n, m, e1, e2, q⟩ := h
  exact op_or pins s σ H x y v u Q I rx ry ⟨n, m, e1, e2, by rw [← or_nn] at q; exact q⟩
theorem op_xorN : OpR X (binaryOp .BitXor) (fun x y H Q => ∃ n m : Nat, x = .int (n : Int) ∧ y = .int (m : Int) ∧ Q (.int ((n ^^^ m : Nat) : Int)) H) := by
  intro pins s σ H x y v u Q I rx ry h
  obtain ⟨n, m, e1, e2, q⟩ := h
  exact op_xor pins s σ H x y v u Q I rx ry ⟨n, m, e1, e2, by rw [← xor_nn] at q; exact q⟩
theorem op_shlNN : OpR X (binaryOp .LShift) (fun x y H Q => ∃ n m : Nat, x = .int (n : Int) ∧ y = .int (m : Int) ∧ (∃ k : Nat, n < 2 ^ k ∧ k + m ≤ 100000000) ∧ Q (.int ((n <<< m : Nat) : Int)) H) := by
  intro pins s σ H x y v u Q I rx ry h
  obtain ⟨n, m, e1, e2, ⟨k, hk, hm⟩, q⟩ := h
  refine op_shlN pins s σ H x y v u Q I rx ry ⟨n, m, e1, e2, shl_ok hk (by omega), ?_⟩
  rw [Nat.shiftLeft_eq] at q
  have e : ((n * 2 ^ m : Nat) : Int) = (n : Int) * 2 ^ m := by
    rw [Int.natCast_mul, Int.natCast_pow]
    rfl
  rw [← e]
  exact q
theorem op_shrNN : OpR X (binaryOp .RShift) (fun x y H Q => ∃ n m : Nat, x = .int (n : Int) ∧ y = .int (m : Int) ∧ Q (.int ((n >>> m : Nat) : Int)) H) := by
  intro pins s σ H x y v u Q I rx ry h
  obtain ⟨n, m, e1, e2, q⟩ := h
  refine op_shrN pins s σ H x y v u Q I rx ry ⟨n, m, e1, e2, ?_⟩
  rw [Nat.shiftRight_eq_div_pow] at q
  have e : ((n / 2 ^ m : Nat) : Int) = (n : Int) / 2 ^ m := by
    rw [Int.natCast_ediv, Int.natCast_pow]
    rfl
  rw [← e]
  exact q
theorem op_oneN : OpR X (binaryOp .LShift) (fun x y H Q => ∃ k : Nat, x = .int 1 ∧ y = .int (k : Int) ∧ k ≤ 100000000 ∧ Q (.int ((2 ^ k : Nat) : Int)) H) := by
  intro pins s σ H x y v u Q I rx ry h
  obtain ⟨k, e1, e2, hk, q⟩ := h
  refine op_oneShl pins s σ H x y v u Q I rx ry ⟨k, e1, e2, by omega, ?_⟩
  have e : ((2 ^ k : Nat) : Int) = 2 ^ k := by
    rw [Int.natCast_pow]
    rfl
  rw [← e]
  exact q
def rOrN : V → V → Hp → VK → Prop := fun x y H Q => ∃ n m : Nat, x = .int (n : Int) ∧ y = .int (m : Int) ∧ Q (.int ((n ||| m : Nat) : Int)) H
theorem in_orN : InOp X .BitOr rOrN := by
  rintro pins s σ H x y u v Q I rx ry ⟨n, m, e1, e2, q⟩
  exact iop_or pins s σ H x y u v Q I rx ry ⟨n, m, e1, e2, by rw [← or_nn] at q; exact q⟩
end
/-! ### y = {..: .. for ..} -/
section
open PySem PySem.Spec PyProof.Rows L2
variable {X : Cx}
theorem sw_trueD {kx vx : Expr} {gs : List Comprehension} {scope : Scope} {pos py : Pos} {y : Str} {l : Nat} {env : Env} (hk : env.scope.kind = .function) (hy : env.scope.names.lookup y = some .local) (hl : (py.line == pos.line) = true)
    (ha : (scope.names.any fun (n, k) => n == y && (k == .local || k == .cell)) = false) : swapsWith (.DictComp kx vx gs scope pos) (some (.Name y py)) l env = pure true := by
  have ky : env.kindOf y = some .local := hy
  have hb : env.blockKind = .function := by unfold Env.blockKind; rw [hk]; rfl
  unfold swapsWith
  simp only [hb, ky, ha, Expr.pos, hl]
  rfl
theorem ps_setDc {i : Nat} {y : Str} {py : Pos} {kx vx tg iter : Expr} {ifs : List Expr} {scope : Scope} {own : List (Str × Nat)} {pos spos : Pos} {wi : TI} {g : TG} {tt : TT} {tk tv : TE} (hc : X.calm = true) (hN : X.N.Nodup) (hy : X.N[i]? = some y) (hyl : X.env.scope.names.lookup y = some .local)
    (hsw : swapsWith (.DictComp kx vx [⟨tg, iter, ifs, 0⟩] scope pos) (some (.Name y py)) spos.line X.env = pure true) (hi : PI X tg iter wi) (ok : BlkOk X.N X.env.scope scope own)
    (hg : ∀ (s : Shared) (H : Hp) (C : Addr) (cl : List (Str × Addr)) (fp : List Addr), PG (X.blk s H scope (compEnvC scope cl C X.env) fp) tg g) (ht : ∀ (s : Shared) (H : Hp) (C : Addr) (cl : List (Str × Addr)) (fp : List Addr), PTs (X.blk s H scope (compEnvC scope cl C X.env) fp) ifs tt)
    (hk : ∀ (s : Shared) (H : Hp) (C : Addr) (cl : List (Str × Addr)) (fp : List Addr), PE (X.blk s H scope (compEnvC scope cl C X.env) fp) kx tk)
    (he : ∀ (s : Shared) (H : Hp) (C : Addr) (cl : List (Str × Addr)) (fp : List Addr), PE (X.blk s H scope (compEnvC scope cl C X.env) fp) vx tv) (hs : ∀ x, foldedSetIterable iter X.env x = pure x := by intro _; rfl) :
    PS X (.Assign [.Name y py] (.DictComp kx vx [⟨tg, iter, ifs, 0⟩] scope pos) spos) (tAsg (tDc wi g tt tk tv (own.map (·.2))) (gName i)) := by
  refine ⟨fun pins s σ H D I h => ?_⟩
  rw [exec_Assign_Name_used _ _ _ _ hsw]
  refine wpAny_bind (wpAny_standAt (wpAny_bind ?_))
  show wpAny _ X.A (do let _ ← comprehension (.DictComp kx vx [⟨tg, iter, ifs, 0⟩] scope pos) scope X.env (firstIterPos [⟨tg, iter, ifs, 0⟩] pos) newDict false (eval iter X.env) (some (assign (.Name y py) X.env))) _ _ s
  have h : tDc wi g tt tk tv (own.map (·.2)) σ H (fun x H1 => gName i x σ H1 D.nx) := h
  refine wpAny_bind (thn (dc_core (Qf := fun _ s' => SP X pins D .next s') hc hN I hi ok hg ht hk he hs h fun L C s' m H' I' q hn f => ?_) fun _ s' hq => wpAny_pure (wpAny_pure hq))
  show wpAny _ _ (assign (.Name y py) X.env (.ref L)) _ _ _
  refine wpAny_assign_Name (store_ok2 (v := V.ref L) I' hN hy (.inl hyl) rfl (fun s2 I2 ⟨a, sb, ha⟩ => ?_) (.inr hyl))
  obtain ⟨f0, f1, f2, f3, f4, f5⟩ := f
  have haC : C ≠ a := by
    rcases ha with z | z
    · rw [z]; exact f1
    · exact fun e => f4 y a z e.symm
  refine ⟨m, hn.sameBut sb haC, fun h3 sb3 => ?_⟩
  exact ⟨_, H', I2.turned (t' := s2.toks) (fun b o hb e => (sb3.2 b hb).trans e) f0 f1 f3 f4 f5, q⟩
end
/-! ### the program: _agreeing_rows, _growths, distance, ends -/
theorem tN : Str.ofString "N" = T [78] := by decide +kernel
theorem one_eq {c d : Nat} {s : Str} (h : s = T [d]) : (V.str (T [c]) = V.str s) ↔ c = d := by
  rw [h]
  constructor
  · intro e
    have := T_inj (V.str.inj e)
    simpa using this
  · intro e
    rw [e]
theorem iteN {c A B : Prop} [Decidable c] (h1 : ¬ c → A) (h2 : c → B) : if (!decide c) = true then A else B := by
  by_cases h : c
  · rw [decide_eq_true h]
    exact iteF (h2 h)
  · rw [decide_eq_false h]
    exact iteT (h1 h)
def agB (a b : Nat) : Bool := decide (a = b) && decide (a ≠ 78)
/-- the mask of the places that agree with c, in the first n -/
def eqm (r : List Nat) (c : Nat) : Nat → Nat
  | 0 => 0
  | n + 1 => if r[n]? = some c ∧ c ≠ 78 then eqm r c n ||| 2 ^ n else eqm r c n
theorem eqm_succ (r : List Nat) (c n : Nat) : eqm r c (n + 1) = if r[n]? = some c ∧ c ≠ 78 then eqm r c n ||| 2 ^ n else eqm r c n := rfl
theorem eqm_bit (r : List Nat) (c : Nat) : ∀ n i, (eqm r c n).testBit i = (decide (i < n) && decide (r[i]? = some c ∧ c ≠ 78))
  | 0, i => by
    show Nat.testBit 0 i = _
    rw [Nat.zero_testBit, decide_eq_false (Nat.not_lt_zero i)]
    rfl
  | n + 1, i => by
    have ih := eqm_bit r c n i
    unfold eqm
    by_cases h : r[n]? = some c ∧ c ≠ 78
    · rw [if_pos h, Nat.testBit_or, ih, Nat.testBit_two_pow]
      by_cases hi : i = n
      · subst hi
        rw [decide_eq_true (show i < i + 1 by omega), decide_eq_true h, decide_eq_true rfl, Bool.or_true]
        rfl
      · have hni : decide (n = i) = false := decide_eq_false (fun z => hi z.symm)
        rw [hni, Bool.or_false, show decide (i < n) = decide (i < n + 1) from decide_eq_decide.mpr (by omega)]
    · rw [if_neg h, ih]
      by_cases hi : i = n
      · subst hi
        rw [decide_eq_false h, Bool.and_false, Bool.and_false]
      · rw [show decide (i < n) = decide (i < n + 1) from decide_eq_decide.mpr (by omega)]
theorem eqm_ag (r : List Nat) (c i : Nat) : (eqm r c r.length).testBit i = (decide (i < r.length) && agB (r.getD i 0) c) := by
  rw [eqm_bit]
  by_cases hi : i < r.length
  · rw [List.getD_eq_getElem?_getD, List.getElem?_eq_getElem hi, decide_eq_true hi]
    unfold agB
    show decide (some r[i] = some c ∧ c ≠ 78) = (decide (r[i] = c) && decide (r[i] ≠ 78))
    by_cases h : r[i] = c
    · rw [h]
      simp
    · rw [decide_eq_false h, decide_eq_false (fun z => h (Option.some.inj z.1))]
      rfl
  · rw [decide_eq_false hi]
    rfl
theorem scARows : FnScope ["read", "letter", "rows", "at"] ["read"] (defScope sARows) := ⟨rfl, rfl, rfl, by decide +kernel, rfl, by decide +kernel, by decide +kernel⟩
def NGr : List Str := ["read", "text", "top", "many", "full", "agreeing", "rising", "falling", "growths", "letter", "same", "carried", "level", "larger", "smaller"]
theorem scGrow : FnScope NGr ["read", "text", "top"] (defScope sGrow) := ⟨rfl, rfl, rfl, by decide +kernel, rfl, by decide +kernel, by decide +kernel⟩
theorem scEnds : FnScope ["read", "text", "k", "changes", "found", "end", "growth"] ["read", "text", "k"] (defScope sEnds) := ⟨rfl, rfl, rfl, by decide +kernel, rfl, by decide +kernel, by decide +kernel⟩
def lets5 : List Nat := [65, 67, 71, 84, 78]
theorem lets5_text : Str.ofString "ACGTN" = T lets5 := by decide +kernel
theorem sg5 {c : Nat} (h : Sg c) : c ∈ lets5 := by
  rcases h with h | h | h | h | h <;> subst h <;> decide
section
variable {P : Program} {w : World} {K : PySem.W.Frag} {mg : Str → Option Value} {base : Heap}
def spARows : Sp := fun vs H Q _ => ∃ r : List Nat, vs = [.str (T r)] ∧ Dna r ∧ r.length ≤ 10000 ∧ ∀ (H' : Hp) (p : Addr) (kvs : List (Key × V)), Same H H' → H p = none → H' p = some (.dK kvs) → (∀ c, Sg c → valV kvs (.inr (T [c])) = some (.int (eqm r c r.length : Nat))) → Q (.ref p) H'
theorem ok_arows {f : Addr} {fd : FuncData} {k : Nat} {t1 : Tok} (F : Fun K "_agreeing_rows" "_agreeing_rows" sARows f fd) (menum : mg "enumerate" = none) (gL : mg "LETTERS" = some (.str (Str.ofString "ACGTN") t1)) : FnOk P w K mg base CX0 (k + 1) f fd ["read"] spARows := by
  refine F.ok scARows (fun vs H Q E h => ?_) (fun cdv A outer s H vs Q E hr h => ?_)
  · obtain ⟨r, rfl, _⟩ := h
    rfl
  · obtain ⟨r, rfl, hd, hl, q⟩ := h
    refine ⟨_, pss_cons (ps_setDc (i := 2) (own := [("letter", 1)]) (g := gName 1) (tt := tYes) (tk := tVar 1) (tv := tC (.int 0)) (by rfl) scARows.nd rfl rfl (sw_trueD rfl rfl rfl (by decide +kernel))
        (pi_str (pe_glob (v := .str (Str.ofString "ACGTN")) (by rfl) gL ⟨_, rfl⟩)) (blkOk_by (own := [("letter", 1)]) (N := ["read", "letter", "rows", "at"]) (sc := defScope sARows) (by decide +kernel))
        (fun _ _ _ _ _ => pg_name (i := 1) scARows.nd rfl (Or.inl rfl)) (fun _ _ _ _ _ => pts_nil) (fun _ _ _ _ _ => pv 1) (fun _ _ _ _ _ => pe_int))
      (pss_cons (ps_for PassesOwn.never rfl (pi_enumT (by rfl) menum (pa_cons (pv 0) pa_nil)) (pg_tup rfl (pgs_cons (pg_name (i := 3) scARows.nd rfl (.inl rfl)) (pgs_cons (pg_name (i := 1) scARows.nd rfl (.inl rfl)) pgs_nil)))
        (pss_one (ps_if (pt_cmpR op_ne (pv 1) pe_str (nomark _)) (pss_one (ps_daug (hu_of hr) (pv 2) (pv 1) (pe_op op_oneN pe_int (pv 3)) in_orN (fun _ _ _ => rfl))) pss_nil)))
      (pss_one (ps_ret (pv 2)))), ?_⟩
    refine ⟨_, rfl, fun D hD => ?_⟩
    refine dc_gen (n := 5) (fun i H' => Same H H' ∧ ∃ kvs : List (Key × V), H' D = some (.dK kvs) ∧ kvs.length ≤ i ∧ ∀ c, c ∈ lets5.take i → valV kvs (.inr (T [c])) = some (.int 0)) ⟨same_upd hD, [], upd_same, Nat.le_refl _, fun c hc => by cases hc⟩ (fun i H' hi _ => ?_) (fun H' _ => ?_) ?_ ?_
    · show i < (Str.ofString "ACGTN").cps.size
      rw [lets5_text, T_size]
      exact hi
    · show (Str.ofString "ACGTN").cps.size ≤ 5
      rw [lets5_text, T_size]
      exact Nat.le_refl 5
    · rintro i H' x H2 hi ⟨sm, kvs, hk, hkl, hv⟩ ⟨rfl, c, hc, rfl⟩
      rw [lets5_text, T_at] at hc
      refine ⟨rfl, ?_⟩
      dsimp only [tYes]
      rw [if_pos rfl]
      refine ⟨_, rfl, kvs, .inr (T [c]), rfl, hk, line_ok (by omega), fun b o e => ?_, _, upd_same, ?_, fun d hdm => ?_⟩
      · rw [upd_ne (ne_of_none e hD)]
        exact sm b o e
      · have := length_putK kvs (.inr (T [c])) (V.int 0)
        omega
      · rw [valV_put]
        split
        · rfl
        · rename_i hne
          rw [List.take_add_one, hc] at hdm
          rcases List.mem_append.mp hdm with z | z
          · exact hv d z
          · obtain rfl : d = c := by simpa using z
            exact absurd rfl hne
    · rintro H' ⟨sm, kvs, hk, hkl, hv⟩
      refine ⟨.str (T r), rfl, T r, rfl, ?_⟩
      refine for_gen (J := ItT 0 (T r)) (n := r.length) (fun i σ H2 => Same H H2 ∧ i ≤ r.length ∧ ∃ (kvs : List (Key × V)) (v1 v3 : Option V), H2 D = some (.dK kvs) ∧ kvs.length ≤ 5 + i ∧ (∀ c, Sg c → valV kvs (.inr (T [c])) = some (.int (eqm r c i : Nat))) ∧ σ = [some (.str (T r)), v1, some (.ref D), v3]) ?_ (fun i σ H' hi _ => by show i < (T r).cps.size; rw [T_size]; exact hi) (fun σ H' _ => by show (T r).cps.size ≤ r.length; rw [T_size]; exact Nat.le_refl _) ?_ ?_
      · exact ⟨sm, Nat.zero_le _, kvs, _, _, hk, hkl, fun c hc => hv c (sg5 hc), rfl⟩
      · rintro i σ H2 x H3 hi ⟨s2, _, kvs, v1, v3, hk, hkl, hv, rfl⟩ ⟨t, c, rfl, ht, rfl, hc⟩
        rw [T_at] at hc
        have hsg : Sg c := hd c (List.mem_of_getElem? hc)
        have nDt : D ≠ t := ne_of_none hk ht
        have hk2 : (upd H2 t (.tup [.int (0 + (i : Nat)), .str ⟨#[c]⟩])) D = some (.dK kvs) := (upd_ne nDt).trans hk
        have s3 := s2.trans (same_upd (o := .tup [.int (0 + (i : Nat)), .str ⟨#[c]⟩]) ht)
        refine ⟨t, _, rfl, .inl (.inl upd_same), rfl, _, _, rfl, _, _, rfl, rfl, ?_⟩
        generalize upd H2 t (.tup [.int (0 + (i : Nat)), .str ⟨#[c]⟩]) = H4 at hk2 s3 ⊢
        refine ⟨_, rfl, rfl, _, rfl, iteN (fun e => ?_) (fun e => ?_)⟩
        · have hcN : c ≠ 78 := fun z => e ((one_eq tN).mpr z)
          refine ⟨_, rfl, _, rfl, D, .int (eqm r c i : Nat), rfl, ?_, ?_⟩
          · have g := DGet.k (k := .inr (T [c])) hk2
            rw [hv c hsg] at g
            exact g
          · refine ⟨.int (0 + (i : Nat)), rfl, i, rfl, by rw [Int.zero_add], by omega, _, _, rfl, rfl, _, DPut.k (k := .inr (T [c])) hk2 (line_ok (by omega)), fun b o e => ?_, hi, _, some (.str ⟨#[c]⟩), some (.int (0 + (i : Nat))), upd_same, ?_, fun d hds => ?_, rfl⟩
            · rw [upd_ne (ne_of_none e hD)]
              exact s3 b o e
            · have := length_putK kvs (.inr (T [c])) (V.int ((eqm r c i ||| 2 ^ i : Nat) : Int))
              omega
            · rw [valV_put]
              rw [eqm_succ]
              split
              · rename_i heq
                have hdc : d = c := by
                  have := T_inj (Sum.inr.inj heq)
                  simpa using this
                subst hdc
                rw [if_pos ⟨hc, hcN⟩]
              · rename_i hne
                have hdc : ¬ d = c := fun z => hne (by rw [z])
                rw [if_neg (fun z => hdc (by rw [hc] at z; exact (Option.some.inj z.1).symm))]
                exact hv d hds
        · have hcN : c = 78 := (one_eq tN).mp e
          refine ⟨s3, hi, kvs, some (.str ⟨#[c]⟩), some (.int (0 + (i : Nat))), hk2, by omega, fun d hds => ?_, rfl⟩
          rw [eqm_succ]
          rw [if_neg (fun z => by rw [hc] at z; exact z.2 ((Option.some.inj z.1).symm.trans hcN))]
          exact hv d hds
      · rintro σ H2 ⟨s2, _, kvs, v1, v3, hk, hkl, hv, rfl⟩
        exact ⟨_, rfl, q H2 D kvs s2 hD hk hv⟩
/-- the column behind a text -/
def colT (r : List Nat) (top : Int) (t : List Nat) : Nat → Int := t.foldl (fun f c => stepf top (fun i => agB (r.getD i 0) c) f) fun i => (i : Int)
theorem colT_snoc (r : List Nat) (top : Int) (t : List Nat) (c : Nat) : colT r top (t ++ [c]) = stepf top (fun i => agB (r.getD i 0) c) (colT r top t) := by
  unfold colT
  rw [List.foldl_append]
  rfl
def grw (r : List Nat) (top : Int) (t : List Nat) (j : Nat) : Int := colT r top (t.take (j + 1)) r.length - colT r top (t.take j) r.length
def grws (r : List Nat) (top : Int) (t : List Nat) (m : Nat) : List Int := (List.range m).map (grw r top t)
theorem msk_lt {n : Nat} {f : Nat → Int} {R F : Nat} (M : Msk n f R F) : R < 2 ^ n ∧ F < 2 ^ n := by
  refine ⟨Nat.lt_pow_two_of_testBit R fun i hi => ?_, Nat.lt_pow_two_of_testBit F fun i hi => ?_⟩
  · rw [M.up, decide_eq_false (show ¬ i < n by omega)]
    rfl
  · rw [M.dn, decide_eq_false (show ¬ i < n by omega)]
    rfl
theorem full_lt (n : Nat) : fullN n < 2 ^ n := by
  unfold fullN
  have := Nat.two_pow_pos n
  omega
def spGrow : Sp := fun vs H Q _ => ∃ (r t : List Nat) (top : Nat), vs = [.str (T r), .str (T t), .int (top : Int)] ∧ top ≤ 1 ∧ Dna r ∧ Dna t ∧ r.length ≤ 10000 ∧ t.length ≤ 100000 ∧ ∀ (H' : Hp) (p : Addr), Same H H' → H p = none → H' p = some (LI (grws r top t t.length)) → Q (.ref p) H'
theorem ok_grow {f : Addr} {fd : FuncData} {k : Nat} (F : Fun K "_growths" "_growths" sGrow f fd) (mlen : mg "len" = none) (hA : Has P w K mg base (k + 1) "_agreeing_rows" ["read"] spARows) : FnOk P w K mg base CX0 (k + 2) f fd ["read", "text", "top"] spGrow := by
  obtain ⟨fA, dA, GA, gA, kA, bA⟩ := hA
  refine F.ok scGrow (fun vs H Q E h => ?_) (fun cdv A outer s H vs Q E hr h => ?_)
  · obtain ⟨r, t, top, rfl, _⟩ := h
    rfl
  · obtain ⟨r, t, top, rfl, ht1, dr, dt, hrl, htl, q⟩ := h
    refine ⟨_, pss_cons (ps_set (i := 3) scGrow.nd rfl (.inl rfl) (pe_callB call_len_str (by rfl) mlen PySem.boot_len (pa_cons (pv 0) pa_nil)))
      (pss_cons (ps_set (i := 4) scGrow.nd rfl (.inl rfl) (pe_op op_subN (pe_op op_oneN pe_int (pv 3)) pe_int))
      (pss_cons (ps_set (i := 5) scGrow.nd rfl (.inl rfl) (pe_call GA hr (by rfl) gA kA bA .nil pass0 (pa_cons (pv 0) pa_nil)))
      (pss_cons (ps_set (i := 6) scGrow.nd rfl (.inl rfl) (pv 4))
      (pss_cons (ps_set (i := 7) scGrow.nd rfl (.inl rfl) pe_int)
      (pss_cons (ps_set (i := 8) scGrow.nd rfl (.inl rfl) (pe_lst pa_nil))
      (pss_cons (ps_for PassesOwn.never rfl (pi_str (pv 1)) (pg_name (i := 9) scGrow.nd rfl (.inl rfl))
        (pss_cons (ps_set (i := 10) scGrow.nd rfl (.inl rfl) (pe_dget (hu_of hr) (pv 5) (pv 9) (fun _ _ => rfl)))
        (pss_cons (ps_set (i := 11) scGrow.nd rfl (.inl rfl) (pe_op op_xorN (pe_op op_addN (pe_op op_andN (pv 10) (pv 6)) (pv 6)) (pv 6)))
        (pss_cons (ps_set (i := 12) scGrow.nd rfl (.inl rfl) (pe_op op_andN (pe_op op_orN (pe_op op_orN (pv 11) (pv 10)) (pv 7)) (pv 4)))
        (pss_cons (ps_set (i := 13) scGrow.nd rfl (.inl rfl) (pe_op op_orN (pe_op op_shlNN (pe_op op_orN (pv 7) (pe_op op_xorN (pv 4) (pe_op op_orN (pv 12) (pv 6)))) pe_int) (pv 2)))
        (pss_cons (ps_set (i := 14) scGrow.nd rfl (.inl rfl) (pe_op op_shlNN (pe_op op_andN (pv 12) (pv 6)) pe_int))
        (pss_cons (ps_expr (pe_bm PySem.F.plainAttrs_list PySem.F.slot_list_append PySem.F.type_list_append mt_append (pv 8) (pa_cons (pe_op op_sub (pe_op op_shrNN (pv 13) (pv 3)) (pe_op op_shrNN (pv 14) (pv 3))) pa_nil)))
        (pss_cons (ps_set (i := 6) scGrow.nd rfl (.inl rfl) (pe_op op_orN (pe_op op_andN (pv 14) (pv 4)) (pe_op op_xorN (pv 4) (pe_op op_andN (pe_op op_orN (pv 12) (pv 13)) (pv 4)))))
        (pss_one (ps_set (i := 7) scGrow.nd rfl (.inl rfl) (pe_op op_andN (pv 12) (pv 13))))))))))))
      (pss_one (ps_ret (pv 8))))))))), ?_⟩
    have hzr : (T r).length ≤ sizeLine := line_ok (by rw [T_len]; omega)
    refine ⟨.str (T r), rfl, T r, rfl, hzr, ?_⟩
    rw [T_len]
    refine ⟨_, rfl, r.length, rfl, rfl, by omega, 2 ^ r.length, 1, rfl, rfl, Nat.two_pow_pos _, ?_⟩
    refine ⟨.str (T r), rfl, r, rfl, dr, hrl, fun H1 pd kvs s1 hpd hkv hval => ?_⟩
    refine ⟨_, rfl, Nat.zero_le _, fun p hp => ?_⟩
    have hkv2 := same_upd (o := .lst []) hp _ _ hkv
    have npd : pd ≠ p := ne_of_none hkv hp
    refine ⟨.str (T t), rfl, T t, rfl, ?_⟩
    refine for_str (z := T t) (fun j σ H' => j ≤ t.length ∧ Same H H' ∧ H' pd = some (.dK kvs) ∧ H' p = some (LI (grws r top t j)) ∧ ∃ (R F : Nat) (v9 v10 v11 v12 v13 v14 : Option V), Msk r.length (colT r top (t.take j)) R F ∧
      σ = [some (.str (T r)), some (.str (T t)), some (.int (top : Int)), some (.int (r.length : Nat)), some (.int (fullN r.length : Nat)), some (.ref pd), some (.int (R : Nat)), some (.int (F : Nat)), some (.ref p), v9, v10, v11, v12, v13, v14]) ?_ ?_ ?_
    · exact ⟨Nat.zero_le _, s1.trans (same_upd hp), hkv2, upd_same, fullN r.length, 0, _, _, _, _, _, _, mask_first r.length, rfl⟩
    · rintro j c σ H2 hc ⟨_, s2, hk2, hp2, R, Fm, v9, v10, v11, v12, v13, v14, M, rfl⟩
      rw [T_at] at hc
      have hjt : j < t.length := (List.getElem?_eq_some_iff.mp hc).1
      have hsg : Sg c := dt c (List.mem_of_getElem? hc)
      obtain ⟨bR, bF⟩ := msk_lt M
      have bFull := full_lt r.length
      obtain ⟨M2, g1, g2⟩ := mask_step (top := top) (same := eqm r c r.length) (ag := fun i => agB (r.getD i 0) c) ht1 M (eqm_ag r c)
      have hL : levN r.length (eqm r c r.length) R Fm < 2 ^ r.length := Nat.lt_of_le_of_lt (Nat.and_le_right) bFull
      have ht2 : t.take (j + 1) = t.take j ++ [c] := by rw [List.take_add_one, hc]; rfl
      refine ⟨_, rfl, _, rfl, pd, .int (eqm r c r.length : Nat), rfl, ?_, ?_⟩
      · have g := DGet.k (k := .inr (T [c])) hk2
        rw [hval c hsg] at g
        exact g
      refine ⟨_, rfl, _, rfl, _, _, rfl, rfl, _, rfl, _, _, rfl, rfl, _, rfl, _, _, rfl, rfl, ?_⟩
      refine ⟨_, rfl, _, rfl, _, _, rfl, rfl, _, rfl, _, _, rfl, rfl, _, rfl, _, _, rfl, rfl, ?_⟩
      refine ⟨_, rfl, _, rfl, _, rfl, _, rfl, _, _, rfl, rfl, _, _, rfl, rfl, _, _, rfl, rfl, _, 1, rfl, rfl, ⟨r.length, Nat.or_lt_two_pow bF (Nat.xor_lt_two_pow bFull (Nat.or_lt_two_pow hL bR)), by omega⟩, _, rfl, _, _, rfl, rfl, ?_⟩
      refine ⟨_, rfl, _, rfl, _, _, rfl, rfl, _, 1, rfl, rfl, ⟨r.length, Nat.lt_of_le_of_lt Nat.and_le_left hL, by omega⟩, ?_⟩
      refine ⟨.ref p, rfl, .inl ⟨rfl, _, .inl (.inl hp2)⟩, _, rfl, _, rfl, _, _, rfl, rfl, _, rfl, _, rfl, _, _, rfl, rfl, _, _, rfl, rfl, ?_⟩
      refine ⟨p, _, _, rfl, rfl, hp2, line_lt (by rw [List.length_map, grws, List.length_map, List.length_range]; omega), ?_⟩
      refine ⟨_, rfl, _, rfl, _, _, rfl, rfl, _, rfl, _, rfl, _, rfl, _, _, rfl, rfl, _, rfl, _, _, rfl, rfl, _, _, rfl, rfl, _, _, rfl, rfl, ?_⟩
      refine ⟨_, rfl, _, rfl, _, _, rfl, rfl, hjt, fun b o e => ?_, ?_, ?_, _, _, some (.str ⟨#[c]⟩), _, _, _, _, _, by rw [ht2, colT_snoc]; exact M2, rfl⟩
      · have hpH : H p = none := s1.free hp
        rw [upd_ne (ne_of_none e hpH)]
        exact s2 b o e
      · rw [upd_ne npd]
        exact hk2
      · rw [upd_same]
        unfold grws
        rw [List.range_succ, List.map_append]
        refine congrArg some (Eq.trans ?_ (LI_snoc _ _).symm)
        have e1 : grw r top t j = (if stepf (top : Int) (fun i => agB (r.getD i 0) c) (colT r top (t.take j)) r.length - colT r top (t.take j) r.length = 1 then (1 : Int) else 0) - (if stepf (top : Int) (fun i => agB (r.getD i 0) c) (colT r top (t.take j)) r.length - colT r top (t.take j) r.length = -1 then (1 : Int) else 0) := by
          unfold grw
          rw [ht2, colT_snoc]
          have hf := step_facts (ag := fun i => agB (r.getD i 0) c) (show (0 : Int) ≤ (top : Int) by omega) (show (top : Int) ≤ 1 by omega) M.smooth r.length (Nat.le_refl _)
          split <;> split <;> omega
        have e2 : ((larN r.length (levN r.length (eqm r c r.length) R Fm) R Fm top >>> r.length : Nat) : Int) - ((smaN (levN r.length (eqm r c r.length) R Fm) R >>> r.length : Nat) : Int) = grw r top t j := by
          rw [g1, g2, e1]
          split <;> split <;> rfl
        rw [← e2]
        rfl
    · rintro σ H2 ⟨_, s2, hk2, hp2, R, Fm, v9, v10, v11, v12, v13, v14, M, rfl⟩
      rw [T_size] at hp2
      exact ⟨_, rfl, q H2 p s2 (s1.free hp) hp2⟩
end
theorem grws_sum (r : List Nat) (top : Int) (t : List Nat) : ∀ m, (grws r top t m).sum = colT r top (t.take m) r.length - colT r top [] r.length
  | 0 => by
    rw [List.take_zero, Int.sub_self]
    rfl
  | m + 1 => by
    have ih := grws_sum r top t m
    unfold grws at ih ⊢
    rw [List.range_succ, List.map_append, List.sum_append, ih]
    show _ + (grw r top t m + 0) = _
    unfold grw
    omega
theorem colT_nil (r : List Nat) (top : Int) : colT r top [] r.length = (r.length : Int) := rfl
def endsTo (r t : List Nat) (k : Int) (j : Nat) : List (Nat × Int) := ((List.range (j + 1)).map fun e => (e, colT r 0 (t.take e) r.length)).filter fun p => decide (p.2 ≤ k)
def Evs (H : Hp) : List V → List (Nat × Int) → Prop := Paired fun v e => ∃ q, v = .ref q ∧ H q = some (.tup [.int (e.1 : Int), .int e.2])
theorem Evs.mono {H H' : Hp} {xs : List V} {rs : List (Nat × Int)} (h : Evs H xs rs) (k : ∀ q ys, H q = some (.tup ys) → H' q = some (.tup ys)) : Evs H' xs rs :=
  Paired.mapP h fun _ _ ⟨q, e, t⟩ => ⟨q, e, k q _ t⟩
theorem endsTo_succ (r t : List Nat) (k : Int) (j : Nat) : endsTo r t k (j + 1) = endsTo r t k j ++ (if colT r 0 (t.take (j + 1)) r.length ≤ k then [(j + 1, colT r 0 (t.take (j + 1)) r.length)] else []) := by
  unfold endsTo
  rw [List.range_succ, List.map_append, List.filter_append]
  congr 1
  show List.filter _ [(j + 1, colT r 0 (t.take (j + 1)) r.length)] = _
  by_cases h : colT r 0 (t.take (j + 1)) r.length ≤ k
  · rw [if_pos h]
    simp [List.filter, h]
  · rw [if_neg h]
    simp [List.filter, h]
theorem endsTo_zero (r t : List Nat) (k : Int) : endsTo r t k 0 = if (r.length : Int) ≤ k then [(0, (r.length : Int))] else [] := by
  unfold endsTo
  show List.filter _ [(0, colT r 0 (t.take 0) r.length)] = _
  rw [List.take_zero, colT_nil]
  by_cases h : (r.length : Int) ≤ k
  · rw [if_pos h]
    simp [List.filter, h]
  · rw [if_neg h]
    simp [List.filter, h]
theorem endsTo_len (r t : List Nat) (k : Int) (j : Nat) : (endsTo r t k j).length ≤ j + 1 := by
  unfold endsTo
  have h := List.length_filter_le (fun p : Nat × Int => decide (p.2 ≤ k)) ((List.range (j + 1)).map fun e => (e, colT r 0 (t.take e) r.length))
  rw [List.length_map, List.length_range] at h
  exact h
section
variable {P : Program} {w : World} {K : PySem.W.Frag} {mg : Str → Option Value} {base : Heap}
def spEnds : Sp := fun vs H Q _ => ∃ (r t : List Nat) (k : Int), vs = [.str (T r), .str (T t), .int k] ∧ Dna r ∧ Dna t ∧ r.length ≤ 10000 ∧ t.length ≤ 90000 ∧ ∀ (H' : Hp) (p : Addr) (xs : List V), Same H H' → H p = none → H' p = some (.lst xs) → Evs H' xs (endsTo r t k t.length) → Q (.ref p) H'
theorem ok_ends {f : Addr} {fd : FuncData} {k : Nat} (F : Fun K "ends" "ends" sEnds f fd) (mlen : mg "len" = none) (menum : mg "enumerate" = none) (hG : Has P w K mg base (k + 1) "_growths" ["read", "text", "top"] spGrow) : FnOk P w K mg base CX0 (k + 2) f fd ["read", "text", "k"] spEnds := by
  obtain ⟨fG, dG, GG, gG, kG, bG⟩ := hG
  refine F.ok scEnds (fun vs H Q E h => ?_) (fun cdv A outer s H vs Q E hr h => ?_)
  · obtain ⟨r, t, k, rfl, _⟩ := h
    rfl
  · obtain ⟨r, t, k, rfl, dr, dt, hrl, htl, q⟩ := h
    refine ⟨_, pss_cons (ps_set (i := 3) scEnds.nd rfl (.inl rfl) (pe_callB call_len_str (by rfl) mlen PySem.boot_len (pa_cons (pv 0) pa_nil)))
      (pss_cons (ps_set (i := 4) scEnds.nd rfl (.inl rfl) (pe_lst pa_nil))
      (C8.pss_cut (ps_if (pt_cmpR op_le (pv 3) (pv 2) (nomark _)) (pss_one (ps_expr (pe_bm PySem.F.plainAttrs_list PySem.F.slot_list_append PySem.F.type_list_append mt_append (pv 4) (pa_cons (pe_tup (pa_cons pe_int (pa_cons (pv 3) pa_nil))) pa_nil)))) pss_nil)
      (pss_cons (ps_for PassesOwn.never rfl (pi_enumS (k := 1) (by rfl) menum (pa_cons (pe_call GG hr (by rfl) gG kG bG .nil pass0 (pa_cons (pv 0) (pa_cons (pv 1) (pa_cons pe_int pa_nil)))) pa_nil) (by decide) (by decide)) (pg_tup rfl (pgs_cons (pg_name (i := 5) scEnds.nd rfl (.inl rfl)) (pgs_cons (pg_name (i := 6) scEnds.nd rfl (.inl rfl)) pgs_nil)))
        (pss_cons (ps_aug (i := 3) scEnds.nd rfl (.inl rfl) (pv 6) ip_add)
        (pss_one (ps_if (pt_cmpR op_le (pv 3) (pv 2) (nomark _)) (pss_one (ps_expr (pe_bm PySem.F.plainAttrs_list PySem.F.slot_list_append PySem.F.type_list_append mt_append (pv 4) (pa_cons (pe_tup (pa_cons (pv 5) (pa_cons (pv 3) pa_nil))) pa_nil)))) pss_nil))))
      (pss_one (ps_ret (pv 4)))))), ?_⟩
    refine ⟨_, rfl, T r, rfl, line_ok (by rw [T_len]; omega), ?_⟩
    rw [T_len]
    refine ⟨Nat.zero_le _, fun p hp => ?_⟩
    -- the first end
    refine ⟨fun σ H2 => Same H H2 ∧ ∃ xs, H2 p = some (.lst xs) ∧ Evs H2 xs (endsTo r t k 0) ∧ σ = [some (.str (T r)), some (.str (T t)), some (.int k), some (.int (r.length : Nat)), some (.ref p), none, none], ?_, ?_⟩
    · refine ⟨_, rfl, _, rfl, _, _, rfl, rfl, _, rfl, ite2 (fun e => ?_) (fun e => ?_)⟩
      · have hle : (r.length : Int) ≤ k := of_decide_eq_true e
        refine ⟨.ref p, rfl, .inl ⟨rfl, _, .inl (.inl upd_same)⟩, _, rfl, by show 2 ≤ sizeLine; decide, fun q2 hq2 => ?_⟩
        have npq := (new_ne hq2).symm
        refine ⟨p, [], _, rfl, rfl, by rw [upd_ne npq, upd_same], line_lt (by show 0 ≤ 100000; omega), fun b o e => ?_, _, upd_same, ?_, rfl⟩
        · rw [upd_ne (ne_of_none e hp), upd_ne (ne_of_none e (new_old hq2)), upd_ne (ne_of_none e hp)]
          exact e
        · rw [endsTo_zero, if_pos hle]
          refine .cons ⟨q2, rfl, ?_⟩ .nil
          rw [upd_ne npq.symm, upd_same]
          rfl
      · have hle : ¬ (r.length : Int) ≤ k := fun z => e (decide_eq_true z)
        refine ⟨same_upd hp, [], upd_same, ?_, rfl⟩
        rw [endsTo_zero, if_neg hle]
        exact .nil
    rintro σ H2 ⟨s2, xs, hx, he, rfl⟩
    refine ⟨_, rfl, _, rfl, r, t, 0, rfl, by decide, dr, dt, hrl, by omega, fun H3 g s3 hg hgx => ⟨g, _, rfl, .inl (.inl hgx), ?_⟩⟩
    have hgl : ((grws r (0 : Nat) t t.length).map V.int).length = t.length := by rw [List.length_map, grws, List.length_map, List.length_range]
    refine for_gen (J := ItS K 1 g) (n := t.length) (fun i σ H' => i ≤ t.length ∧ Same H H' ∧ H' g = some (LI (grws r (0 : Nat) t t.length)) ∧ ∃ (xs : List V) (v5 v6 : Option V), H' p = some (.lst xs) ∧ Evs H' xs (endsTo r t k i) ∧ σ = [some (.str (T r)), some (.str (T t)), some (.int k), some (.int (colT r 0 (t.take i) r.length)), some (.ref p), v5, v6]) ?_ (fun i σ H' hi h => ?_) (fun σ H' h => ⟨_, .inl (.inl h.2.2.1), hgl⟩) ?_ ?_
    · exact ⟨Nat.zero_le _, s2.trans s3, hgx, xs, none, none, s3 _ _ hx, he.mono fun a ys ha => s3 _ _ ha, by rw [List.take_zero]; rfl⟩
    · have hil : i < ((grws r (0 : Nat) t t.length).map V.int).length := by rw [hgl]; exact hi
      exact ⟨_, _, .inl (.inl h.2.2.1), List.getElem?_eq_getElem hil⟩
    · rintro i σ H4 x H5 hi ⟨_, s4, hg4, xs, v5, v6, hx4, he4, rfl⟩ ⟨u, y, rfl, hu, rfl, hy⟩
      have ey := hy _ (.inl (.inl hg4))
      rw [List.getElem?_map, grws, List.getElem?_map, List.getElem?_range hi] at ey
      obtain rfl : V.int (grw r (0 : Nat) t i) = y := Option.some.inj ey
      have npu : p ≠ u := ne_of_none hx4 hu
      have ngu : g ≠ u := ne_of_none hg4 hu
      have hxl : xs.length ≤ i + 1 := by
        rw [paired_len he4]
        exact endsTo_len r t k i
      refine ⟨u, _, rfl, .inl (.inl upd_same), rfl, _, _, rfl, _, _, rfl, rfl, ?_⟩
      have sup : Same H4 (upd H4 u (.tup [.int (1 + (i : Nat)), .int (grw r (0 : Nat) t i)])) := same_upd hu
      have hx5 := sup _ _ hx4
      have hg5 := sup _ _ hg4
      have s5 := s4.trans sup
      have he5 : Evs _ xs (endsTo r t k i) := he4.mono fun a ys ha => sup _ _ ha
      generalize upd H4 u (.tup [.int (1 + (i : Nat)), .int (grw r (0 : Nat) t i)]) = H6 at hx5 hg5 s5 he5 ⊢
      have ecol : colT r 0 (t.take i) r.length + grw r (0 : Nat) t i = colT r 0 (t.take (i + 1)) r.length := by
        unfold grw
        show colT r 0 (t.take i) r.length + (colT r 0 (t.take (i + 1)) r.length - colT r 0 (t.take i) r.length) = _
        omega
      refine ⟨_, rfl, _, rfl, _, _, rfl, rfl, ?_⟩
      refine ⟨_, rfl, _, rfl, _, _, rfl, rfl, _, rfl, ite2 (fun e => ?_) (fun e => ?_)⟩
      · have hle : colT r 0 (t.take i) r.length + grw r (0 : Nat) t i ≤ k := of_decide_eq_true e
        rw [ecol] at hle
        refine ⟨.ref p, rfl, .inl ⟨rfl, _, .inl (.inl hx5)⟩, _, rfl, _, rfl, by show 2 ≤ sizeLine; decide, fun q2 hq2 => ?_⟩
        have npq : p ≠ q2 := ne_of_none hx5 hq2
        refine ⟨p, xs, _, rfl, rfl, by rw [upd_ne npq]; exact hx5, line_lt (by omega), hi, fun b o e => ?_, ?_, _, some (.int (1 + (i : Nat))), some (.int (grw r (0 : Nat) t i)), upd_same, ?_, ?_⟩
        · rw [upd_ne (ne_of_none e hp)]
          exact same_upd hq2 _ _ (s5 _ _ e)
        · rw [upd_ne (fun z => by have := s3 _ _ hx; rw [z] at hgx; rw [hgx] at this; exact absurd (ne_of_none hx hg) (fun n => n z.symm)), upd_ne (ne_of_none hg5 hq2)]
          exact hg5
        · rw [endsTo_succ, if_pos hle]
          refine Paired.snoc (Evs.mono he5 fun a ys ha => ?_) ⟨q2, rfl, ?_⟩
          · rw [upd_ne (fun z => by rw [z, hx5] at ha; cases ha), upd_ne (ne_of_none ha hq2)]
            exact ha
          · rw [upd_ne npq.symm, upd_same, ← ecol, show (1 : Int) + (i : Nat) = ((i + 1 : Nat) : Int) by omega]
            try rfl
        · rw [← ecol]
          rfl
      · have hle : ¬ colT r 0 (t.take i) r.length + grw r (0 : Nat) t i ≤ k := fun z => e (decide_eq_true z)
        rw [ecol] at hle
        refine ⟨hi, s5, hg5, xs, some (.int (1 + (i : Nat))), some (.int (grw r (0 : Nat) t i)), hx5, ?_, ?_⟩
        · rw [endsTo_succ, if_neg hle, List.append_nil]
          exact he5
        · rw [← ecol]
          rfl
    · rintro σ H4 ⟨_, s4, hg4, xs, v5, v6, hx4, he4, rfl⟩
      exact ⟨_, rfl, q H4 p xs s4 hp hx4 he4⟩
end
theorem scLAgree : FnScope ["a", "b"] ["a", "b"] (defScope sLAgree) := ⟨rfl, rfl, rfl, by decide +kernel, rfl, by decide +kernel, by decide +kernel⟩
section
variable {P : Program} {w : World} {K : PySem.W.Frag} {mg : Str → Option Value} {base : Heap}
def spAg : Sp := fun vs H Q _ => ∃ a b : Nat, vs = [.str (T [a]), .str (T [b])] ∧ Q (.bl (agB a b)) H
theorem ok_lagree {f : Addr} {fd : FuncData} {k : Nat} (F : Fun K "_law_agree" "_law_agree" sLAgree f fd) : FnOk P w K mg base CX0 (k + 1) f fd ["a", "b"] spAg := by
  refine F.ok scLAgree (fun vs H Q E h => ?_) (fun cdv A outer s H vs Q E hr h => ?_)
  · obtain ⟨a, b, rfl, _⟩ := h
    rfl
  · obtain ⟨a, b, rfl, q⟩ := h
    refine ⟨_, pss_one (ps_ret (pe_and (pe_cmpR op_eq (pv 0) (pv 1) (nomark _)) (pe_one (pe_cmpR op_ne (pv 0) pe_str (nomark _))))), ?_⟩
    refine ⟨_, rfl, _, rfl, rfl, _, rfl, ite2 (fun e => ?_) (fun e => ?_)⟩
    · have e2 := (one_eq rfl).mp (of_decide_eq_true e)
      refine ⟨_, rfl, rfl, ?_⟩
      unfold agB at q
      rw [decide_eq_true e2, Bool.true_and] at q
      have e3 : (!decide (V.str (T [a]) = V.str (Str.ofString "N"))) = decide (a ≠ 78) := by
        by_cases h : a = 78
        · rw [decide_eq_true ((one_eq tN).mpr h), decide_eq_false (fun z => z h)]
          rfl
        · rw [decide_eq_false (fun z => h ((one_eq tN).mp z)), decide_eq_true h]
          rfl
      show Q (.bl (!decide (V.str (T [a]) = V.str (Str.ofString "N")))) H
      rw [e3]
      exact q
    · have e2 : ¬ a = b := fun z => e (decide_eq_true ((one_eq rfl).mpr z))
      unfold agB at q
      rw [decide_eq_false e2, Bool.false_and] at q
      exact q
end
theorem nm3 (a b c : Int) : nuMin3 (.int a) (.int b) (.int c) = some (.int (min a (min b c))) := by
  have h2 : ∀ x y : Int, nuMin2 (.int x) (.int y) = some (.int (min x y)) := fun x y => by
    show some (if (decide (y < x)) = true then V.int y else V.int x) = _
    by_cases h : y < x
    · rw [decide_eq_true h, if_pos rfl, Int.min_eq_right (by omega)]
    · rw [decide_eq_false h, if_neg Bool.false_ne_true, Int.min_eq_left (by omega)]
  show (nuMin2 (.int a) (.int b)).bind (fun m => nuMin2 m (.int c)) = _
  rw [h2]
  show nuMin2 (.int (min a b)) (.int c) = _
  rw [h2, Int.min_assoc]
def cl (f : Nat → Int) (n : Nat) : List Int := (List.range n).map f
theorem cl_at {f : Nat → Int} {n i : Nat} (h : i < n) : ((cl f n).map V.int)[i]? = some (.int (f i)) := by
  unfold cl
  rw [List.getElem?_map, List.getElem?_map, List.getElem?_range h]
  rfl
theorem cl_len (f : Nat → Int) (n : Nat) : (cl f n).length = n := by
  unfold cl
  rw [List.length_map, List.length_range]
theorem cl_snoc (f : Nat → Int) (n : Nat) : LI (cl f (n + 1)) = .lst ((cl f n).map V.int ++ [.int (f n)]) := by
  unfold cl
  rw [List.range_succ, List.map_append]
  exact LI_snoc _ _
theorem fold_zero (r : List Nat) (top : Int) : ∀ (l : List Nat) (f : Nat → Int), (l.foldl (fun f c => stepf top (fun i => agB (r.getD i 0) c) f) f) 0 = f 0 + top * (l.length : Nat)
  | [], f => by
    show f 0 = f 0 + top * 0
    rw [Int.mul_zero, Int.add_zero]
  | c :: l, f => by
    rw [List.foldl_cons, fold_zero r top l]
    show f 0 + top + top * (l.length : Nat) = f 0 + top * ((l.length + 1 : Nat) : Int)
    rw [Int.natCast_add, Int.mul_add]
    show _ = f 0 + (top * (l.length : Nat) + top * 1)
    rw [Int.mul_one]
    omega
theorem colT_zero (r : List Nat) (top : Int) (l : List Nat) : colT r top l 0 = top * (l.length : Nat) := by
  unfold colT
  rw [fold_zero]
  show ((0 : Nat) : Int) + _ = _
  rw [Int.natCast_zero, Int.zero_add]
theorem scLEnds : FnScope ["read", "text", "column", "found", "letter", "news", "i", "pair", "k"] ["read", "text"] (defScope sLEnds) := ⟨rfl, rfl, rfl, by decide +kernel, rfl, by decide +kernel, by decide +kernel⟩
theorem at_T {l : List Nat} {i : Nat} (h : i < l.length) : atI (T l).cps.toList (i : Int) = some l[i] := atI_nat (List.getElem?_eq_getElem h)
theorem getD_at {l : List Nat} {i : Nat} (h : i < l.length) : l.getD i 0 = l[i] := by
  rw [List.getD_eq_getElem?_getD, List.getElem?_eq_getElem h]
  rfl
/-- all the last rows -/
def rowE (r t : List Nat) (m : Nat) : List Int := (List.range m).map fun e => colT r 0 (t.take e) r.length
section
variable {P : Program} {w : World} {K : PySem.W.Frag} {mg : Str → Option Value} {base : Heap}
def spLEnds : Sp := fun vs H Q _ => ∃ r t : List Nat, vs = [.str (T r), .str (T t)] ∧ r.length ≤ 10000 ∧ t.length ≤ 90000 ∧ ∀ (H' : Hp) (p : Addr), Same H H' → H p = none → H' p = some (LI (rowE r t (t.length + 1))) → Q (.ref p) H'
theorem ok_lends {f : Addr} {fd : FuncData} {k : Nat} (F : Fun K "_law_ends" "_law_ends" sLEnds f fd) (B : Bl mg) (mmin : mg "min" = none) (hA : Has P w K mg base (k + 1) "_law_agree" ["a", "b"] spAg) : FnOk P w K mg base CX0 (k + 2) f fd ["read", "text"] spLEnds := by
  obtain ⟨fA, dA, GA, gA, kA, bA⟩ := hA
  refine F.ok scLEnds (fun vs H Q E h => ?_) (fun cdv A outer s H vs Q E hr h => ?_)
  · obtain ⟨r, t, rfl, _⟩ := h
    rfl
  · obtain ⟨r, t, rfl, hrl, htl, q⟩ := h
    refine ⟨_, (pss_cons (ps_setLc (i := 2) (own := [("k", 8)]) (g := gName 8) (tt := tYes) (te := tVar 8) (by rfl) scLEnds.nd rfl rfl (sw_true rfl rfl rfl (by decide +kernel)) (pi_range1 rfl B.range (pa_cons (pe_op op_add (pe_callB call_len_str (by rfl) B.len PySem.boot_len (pa_cons (pv 0) pa_nil)) pe_int) pa_nil)) (blkOk_by (own := [("k", 8)]) (N := ["read", "text", "column", "found", "letter", "news", "i", "pair", "k"]) (sc := defScope sLEnds) (by decide +kernel)) (fun _ _ _ _ _ => pg_name (i := 8) scLEnds.nd rfl (Or.inl rfl)) (fun _ _ _ _ _ => pts_nil) (fun _ _ _ _ _ => pv 8))
      (pss_cons (ps_set (i := 3) scLEnds.nd rfl (.inl rfl) (pe_lst (pa_cons (pe_callB call_len_str (by rfl) B.len PySem.boot_len (pa_cons (pv 0) pa_nil)) pa_nil)))
      (pss_cons (ps_for PassesOwn.never rfl (pi_str (pv 1)) (pg_name (i := 4) scLEnds.nd rfl (.inl rfl))
        (pss_cons (ps_set (i := 5) scLEnds.nd rfl (.inl rfl) (pe_lst (pa_cons pe_int pa_nil)))
      (pss_cons (ps_for PassesOwn.never rfl (pi_range1 rfl B.range (pa_cons (pe_callB call_len_str (by rfl) B.len PySem.boot_len (pa_cons (pv 0) pa_nil)) pa_nil)) (pg_name (i := 6) scLEnds.nd rfl (.inl rfl))
        (pss_cons (ps_set (i := 7) scLEnds.nd rfl (.inl rfl) (pe_op op_sub (pe_op op_add (pe_ix ix_list (pv 2) (pv 6) (fun _ _ => rfl)) pe_int) (pe_callTy call_int1 (by rfl) B.int (by decide +kernel) (pa_cons (pe_call GA hr (by rfl) gA kA bA .nil pass0 (pa_cons (pe_ix ix_str (pv 0) (pv 6) (fun _ _ => rfl)) (pa_cons (pv 4) pa_nil))) pa_nil))))
      (pss_one (ps_expr (pe_bm PySem.F.plainAttrs_list PySem.F.slot_list_append PySem.F.type_list_append mt_append (pv 5) (pa_cons (pe_callB (call_min3Nu rfl) (by rfl) mmin (by decide +kernel) (pa_cons (pv 7) (pa_cons (pe_op op_add (pe_ix ix_list (pv 2) (pe_op op_add (pv 6) pe_int) (fun _ _ => rfl)) pe_int) (pa_cons (pe_op op_add (pe_ix ix_list (pv 5) (pv 6) (fun _ _ => rfl)) pe_int) pa_nil)))) pa_nil))))))
      (pss_cons (ps_set (i := 2) scLEnds.nd rfl (.inl rfl) (pv 5))
      (pss_one (ps_expr (pe_bm PySem.F.plainAttrs_list PySem.F.slot_list_append PySem.F.type_list_append mt_append (pv 3) (pa_cons (pe_ix ix_list (pv 2) (pe_callB call_len_str (by rfl) B.len PySem.boot_len (pa_cons (pv 0) pa_nil)) (fun _ _ => rfl)) pa_nil))))))))
      (pss_one (ps_ret (pv 3)))))), ?_⟩
    have hz : (T r).length ≤ sizeLine := line_ok (by rw [T_len]; omega)
    refine ⟨_, rfl, T r, rfl, hz, _, 1, rfl, rfl, _, rfl, by rw [T_len]; omega, by rw [T_len]; omega, fun D hD => ?_⟩
    have en : (((T r).length : Int) + 1).toNat = r.length + 1 := by rw [T_len]; omega
    refine lc_range (lo := 0) (n := (((T r).length : Int) + 1).toNat) (fun j H1 => Same H H1 ∧ H1 D = some (LI (cl (fun i => (i : Int)) j))) ⟨same_upd hD, upd_same⟩ ?_ ?_
    · rintro j H1 hj ⟨s1, hd⟩
      rw [en] at hj
      refine ⟨rfl, ?_⟩
      dsimp only [tYes]
      rw [if_pos rfl]
      refine ⟨_, rfl, _, hd, line_ok6 (by rw [List.length_map, cl_len]; omega), fun b o e => ?_, ?_⟩
      · rw [upd_ne (ne_of_none e hD)]
        exact s1 b o e
      · rw [upd_same, cl_snoc, Int.zero_add]
    rintro H1 ⟨s1, hd⟩
    rw [en] at hd
    refine ⟨_, rfl, T r, rfl, hz, by show 1 ≤ sizeLine; decide, fun p hp => ?_⟩
    rw [T_len]
    have sp := same_upd (o := .lst [.int (r.length : Nat)]) hp
    have hpx : (upd H1 p (.lst [.int (r.length : Nat)])) p = some (LI (rowE r t 1)) := upd_same
    have hd2 := sp _ _ hd
    have hpH : H p = none := s1.free hp
    have sH := s1.trans sp
    generalize upd H1 p (.lst [.int (r.length : Nat)]) = H2 at hpx hd2 sH ⊢
    refine ⟨_, rfl, T t, rfl, ?_⟩
    refine for_str (z := T t) (fun j σ H' => j ≤ t.length ∧ Same H H' ∧ ∃ (c : Addr) (v4 v5 v6 v7 : Option V), c ≠ p ∧ H' c = some (LI (cl (colT r 0 (t.take j)) (r.length + 1))) ∧ H' p = some (LI (rowE r t (j + 1))) ∧ σ = [some (.str (T r)), some (.str (T t)), some (.ref c), some (.ref p), v4, v5, v6, v7, none]) ⟨Nat.zero_le _, sH, D, none, none, none, none, ne_of_none hd hp, by rw [List.take_zero]; exact hd2, hpx, rfl⟩ ?_ ?_
    · rintro j e σ H3 he ⟨_, s3, c, v4, v5, v6, v7, ncp, hc, hpr, rfl⟩
      rw [T_at] at he
      have hjt : j < t.length := (List.getElem?_eq_some_iff.mp he).1
      have ht2 : t.take (j + 1) = t.take j ++ [e] := by rw [List.take_add_one, he]; rfl
      refine ⟨by show 1 ≤ sizeLine; decide, fun n hn => ?_⟩
      have ncn : c ≠ n := ne_of_none hc hn
      have npn : p ≠ n := ne_of_none hpr hn
      have hnH : H n = none := s3.free hn
      have sn := same_upd (o := .lst [.int 0]) hn
      have hc2 := sn _ _ hc
      have hp2 := sn _ _ hpr
      have s4 := s3.trans sn
      have hn2 : (upd H3 n (.lst [.int 0])) n = some (LI (cl (colT r 0 (t.take (j + 1))) 1)) := by
        rw [upd_same]
        have e0 : colT r 0 (t.take (j + 1)) 0 = 0 := by
          rw [colT_zero, Int.zero_mul]
        show some (HO.lst [V.int 0]) = some (HO.lst [V.int (colT r 0 (t.take (j + 1)) 0)])
        rw [e0]
      generalize upd H3 n (.lst [.int 0]) = H4 at hc2 hp2 s4 hn2 ⊢
      refine ⟨_, rfl, T r, rfl, hz, _, rfl, by rw [T_len]; omega, by rw [T_len]; omega, ?_⟩
      rw [T_len, Int.toNat_natCast]
      refine for_range (lo := 0) (n := r.length) (fun i σ H' => Same H H' ∧ H' c = some (LI (cl (colT r 0 (t.take j)) (r.length + 1))) ∧ H' p = some (LI (rowE r t (j + 1))) ∧ H' n = some (LI (cl (colT r 0 (t.take (j + 1))) (i + 1))) ∧ ∃ v6 v7 : Option V, σ = [some (.str (T r)), some (.str (T t)), some (.ref c), some (.ref p), some (.str ⟨#[e]⟩), some (.ref n), v6, v7, none]) ⟨s4, hc2, hp2, hn2, v6, v7, rfl⟩ ?_ ?_
      · rintro i σ H5 hi ⟨s5, hc5, hp5, hn5, v6, v7, rfl⟩
        have a0 : (0 : Int) + (i : Nat) = (i : Nat) := by omega
        have a1 : (0 : Int) + (i : Nat) + 1 = ((i + 1 : Nat) : Int) := by omega
        have ix0 : atI ((cl (colT r 0 (t.take j)) (r.length + 1)).map V.int) (0 + (i : Nat)) = some (.int (colT r 0 (t.take j) i)) := by rw [a0]; exact atI_nat (cl_at (by omega))
        have ix1 : atI ((cl (colT r 0 (t.take j)) (r.length + 1)).map V.int) (0 + (i : Nat) + 1) = some (.int (colT r 0 (t.take j) (i + 1))) := by rw [a1]; exact atI_nat (cl_at (by omega))
        have ixn : atI ((cl (colT r 0 (t.take (j + 1))) (i + 1)).map V.int) (0 + (i : Nat)) = some (.int (colT r 0 (t.take (j + 1)) i)) := by rw [a0]; exact atI_nat (cl_at (by omega))
        have ai := at_T hi
        rw [← a0] at ai
        refine ⟨_, rfl, _, rfl, c, _, _, _, rfl, rfl, .inl (.inl hc5), ix0, _, 1, rfl, rfl, _, rfl, _, rfl, T r, _, _, rfl, rfl, hz, ai, _, rfl, r[i], e, rfl, .inr ⟨_, rfl, _, _, rfl, rfl, ?_⟩⟩
        refine ⟨.ref n, rfl, .inl ⟨rfl, _, .inl (.inl hn5)⟩, _, rfl, _, rfl, _, rfl, _, 1, rfl, rfl, c, _, _, _, rfl, rfl, .inl (.inl hc5), ix1, _, 1, rfl, rfl, _, rfl, _, rfl, n, _, _, _, rfl, rfl, .inl (.inl hn5), ixn, _, 1, rfl, rfl, _, _, _, _, rfl, nm3 _ _ _, ?_⟩
        refine ⟨n, _, _, rfl, rfl, hn5, line_ok6 (by rw [List.length_map, cl_len]; omega), fun b o e => ?_, ?_, ?_, ?_, some (.int (0 + (i : Nat))), some _, rfl⟩
        · rw [upd_ne (ne_of_none e hnH)]
          exact s5 _ _ e
        · rw [upd_ne ncn]
          exact hc5
        · rw [upd_ne npn]
          exact hp5
        · rw [upd_same, cl_snoc]
          have e5 : colT r 0 (t.take (j + 1)) (i + 1) = min (colT r 0 (t.take j) i + 1 - if agB r[i] e then 1 else 0) (min (colT r 0 (t.take j) (i + 1) + 1) (colT r 0 (t.take (j + 1)) i + 1)) := by
            rw [ht2, colT_snoc, ← getD_at hi]
            rfl
          rw [e5]
      · rintro σ H5 ⟨s5, hc5, hp5, hn5, v6, v7, rfl⟩
        have ixm : atI ((cl (colT r 0 (t.take (j + 1))) (r.length + 1)).map V.int) ((T r).length : Nat) = some (.int (colT r 0 (t.take (j + 1)) r.length)) := by rw [T_len]; exact atI_nat (cl_at (by omega))
        refine ⟨_, rfl, .ref p, rfl, .inl ⟨rfl, _, .inl (.inl hp5)⟩, _, rfl, _, rfl, T r, rfl, hz, n, _, _, _, rfl, rfl, .inl (.inl hn5), ixm, p, _, _, rfl, rfl, hp5, line_ok6 (by rw [List.length_map, rowE, List.length_map, List.length_range]; omega), hjt, fun b o e => ?_, n, some (.str ⟨#[e]⟩), some (.ref n), v6, v7, npn.symm, ?_, ?_, rfl⟩
        · rw [upd_ne (ne_of_none e hpH)]
          exact s5 _ _ e
        · rw [upd_ne npn.symm]
          exact hn5
        · rw [upd_same]
          unfold rowE
          rw [List.range_succ (n := j + 1), List.map_append]
          exact congrArg some (LI_snoc _ _).symm
    · rintro σ H3 ⟨_, s3, c, v4, v5, v6, v7, ncp, hc, hpr, rfl⟩
      rw [T_size] at hpr
      exact ⟨_, rfl, q H3 p s3 hpH hpr⟩
end
theorem cut_some (l : List Nat) (lo hi : Option Int) : ∃ m : List Nat, cutS (T l) lo hi = T m ∧ (∀ c ∈ m, c ∈ l) ∧ m.length ≤ l.length := by
  refine ⟨_, rfl, fun c hc => List.mem_of_mem_drop (List.mem_of_mem_take hc), ?_⟩
  rw [List.length_take, List.length_drop, T_list]
  omega
theorem agB_comm (a b : Nat) : agB a b = agB b a := by
  unfold agB
  by_cases h : a = b
  · rw [h]
  · rw [decide_eq_false h, decide_eq_false (p := b = a) (fun z => h z.symm)]
    rfl
theorem dist_sym (r t : List Nat) : ∀ i j, i ≤ r.length → j ≤ t.length → colT r 1 (t.take j) i = colT t 1 (r.take i) j
  | i, 0, hi, _ => by
    rw [List.take_zero, colT_zero, List.length_take, Nat.min_eq_left hi, Int.one_mul]
    rfl
  | 0, j + 1, _, hj => by
    rw [List.take_zero, colT_zero, List.length_take, Nat.min_eq_left hj, Int.one_mul]
    rfl
  | i + 1, j + 1, hi, hj => by
    have h1 := dist_sym r t i j (by omega) (by omega)
    have h2 := dist_sym r t (i + 1) j hi (by omega)
    have h3 := dist_sym r t i (j + 1) (by omega) hj
    have htj : t.take (j + 1) = t.take j ++ [t[j]] := by rw [List.take_add_one, List.getElem?_eq_getElem (show j < t.length by omega)]; rfl
    have hri : r.take (i + 1) = r.take i ++ [r[i]] := by rw [List.take_add_one, List.getElem?_eq_getElem (show i < r.length by omega)]; rfl
    have e1 : colT r 1 (t.take (j + 1)) (i + 1) = min (colT r 1 (t.take j) i + 1 - if agB (r.getD i 0) t[j] then 1 else 0) (min (colT r 1 (t.take j) (i + 1) + 1) (colT r 1 (t.take (j + 1)) i + 1)) := by
      conv => lhs; rw [htj, colT_snoc]
      show min _ (min _ (stepf 1 _ (colT r 1 (t.take j)) i + 1)) = _
      rw [htj, colT_snoc]
    have e2 : colT t 1 (r.take (i + 1)) (j + 1) = min (colT t 1 (r.take i) j + 1 - if agB (t.getD j 0) r[i] then 1 else 0) (min (colT t 1 (r.take i) (j + 1) + 1) (colT t 1 (r.take (i + 1)) j + 1)) := by
      conv => lhs; rw [hri, colT_snoc]
      show min _ (min _ (stepf 1 _ (colT t 1 (r.take i)) j + 1)) = _
      rw [hri, colT_snoc]
    rw [e1, e2, h1, h2, h3, getD_at (show i < r.length by omega), getD_at (show j < t.length by omega), agB_comm]
    rw [Int.min_comm (colT t 1 (r.take (i + 1)) j + 1)]
theorem dist_comm (r t : List Nat) : colT r 1 t r.length = colT t 1 r t.length := by
  have h := dist_sym r t r.length t.length (Nat.le_refl _) (Nat.le_refl _)
  rw [List.take_length, List.take_length] at h
  exact h
/-! ### ends as data -/
def endsN (r t : List Nat) (k : Int) (j : Nat) : List (Nat × Int) := ((List.range j).map fun e => (e, colT r 0 (t.take e) r.length)).filter fun p => decide (p.2 ≤ k)
theorem endsN_succ (r t : List Nat) (k : Int) (j : Nat) : endsN r t k (j + 1) = endsN r t k j ++ (if colT r 0 (t.take j) r.length ≤ k then [(j, colT r 0 (t.take j) r.length)] else []) := by
  unfold endsN
  rw [List.range_succ, List.map_append, List.filter_append]
  congr 1
  show List.filter _ [(j, colT r 0 (t.take j) r.length)] = _
  by_cases h : colT r 0 (t.take j) r.length ≤ k
  · rw [if_pos h]
    simp [List.filter, h]
  · rw [if_neg h]
    simp [List.filter, h]
theorem endsN_len (r t : List Nat) (k : Int) (j : Nat) : (endsN r t k j).length ≤ j := by
  unfold endsN
  have h := List.length_filter_le (fun p : Nat × Int => decide (p.2 ≤ k)) ((List.range j).map fun e => (e, colT r 0 (t.take e) r.length))
  rw [List.length_map, List.length_range] at h
  exact h
def dEv (rs : List (Nat × Int)) : PyData := .list (rs.map fun r => .tuple [.int (r.1 : Int), .int r.2])
theorem can_dEv (rs : List (Nat × Int)) : (dEv rs).canLay0 = true := by
  show PyData.canLayAll0 (rs.map fun r => .tuple [.int (r.1 : Int), .int r.2]) = true
  induction rs with
  | nil => rfl
  | cons r t ih => exact ih
theorem shaped_dEv (rs : List (Nat × Int)) : SeqAt.shaped (dEv rs) = true := by
  have h : PyData.depthAll (rs.map fun r => .tuple [.int (r.1 : Int), .int r.2]) ≤ 1 := by
    induction rs with
    | nil => exact Nat.zero_le _
    | cons l r ih =>
      show max (max 0 (max 0 0) + 1) (PyData.depthAll (r.map fun r => .tuple [.int (r.1 : Int), .int r.2])) ≤ 1
      omega
  have h2 : PyData.depth (dEv rs) ≤ 64 := by
    show PyData.depthAll (rs.map fun r => .tuple [.int (r.1 : Int), .int r.2]) + 1 ≤ 64
    omega
  unfold SeqAt.shaped
  rw [can_dEv, decide_eq_true h2]
  rfl
theorem eqv_dEv (rs : List (Nat × Int)) : PyData.eqv (dEv rs) (dEv rs) = true := SeqAt.eqv_refl _ (can_dEv rs)
theorem dp_evs {K : PySem.W.Frag} {H : Hp} : ∀ {xs : List V} {rs : List (Nat × Int)}, Evs H xs rs → DpAll K H xs (rs.map fun r => .tuple [.int (r.1 : Int), .int r.2])
  | _, _, .nil => .nil
  | _, _, .cons ⟨q, e, h⟩ t => by
    subst e
    exact .cons (.tup (.inl (.inl h)) (.cons (.int _) (.cons (.int _) .nil))) (dp_evs t)
theorem scLRead : FnScope ["cell", "text", "size", "x", "start", "read", "k", "y", "at", "letter"] ["cell", "text", "size"] (defScope sLRead) := ⟨rfl, rfl, rfl, by decide +kernel, rfl, by decide +kernel, by decide +kernel⟩
theorem sg_at (x : Int) : ∃ c, Sg c ∧ atI (Str.ofString "ACGTN").cps.toList (x % 5) = some c := by
  have h : x % 5 = 0 ∨ x % 5 = 1 ∨ x % 5 = 2 ∨ x % 5 = 3 ∨ x % 5 = 4 := by omega
  rcases h with h | h | h | h | h <;> rw [h]
  · exact ⟨65, .inl rfl, by decide +kernel⟩
  · exact ⟨67, .inr (.inl rfl), by decide +kernel⟩
  · exact ⟨71, .inr (.inr (.inl rfl)), by decide +kernel⟩
  · exact ⟨84, .inr (.inr (.inr (.inl rfl))), by decide +kernel⟩
  · exact ⟨78, .inr (.inr (.inr (.inr rfl))), by decide +kernel⟩
section
variable {P : Program} {w : World} {K : PySem.W.Frag} {mg : Str → Option Value} {base : Heap}
def spLRead : Sp := fun vs H Q _ => ∃ (c : Int) (t : List Nat) (z : Int), vs = [.int c, .str (T t), .int z] ∧ Dna t ∧ 1 ≤ t.length ∧ t.length ≤ 1000 ∧ ∀ l : List Nat, Dna l → l.length ≤ 8 * (t.length + 1) → Q (.str (T l)) H
theorem cut_dna {l : List Nat} (h : Dna l) (lo hi : Option Int) : ∃ m : List Nat, cutS (T l) lo hi = T m ∧ Dna m ∧ m.length ≤ l.length := by
  obtain ⟨m, e, hm, hl⟩ := cut_some l lo hi
  exact ⟨m, e, fun c hc => h c (hm c hc), hl⟩
theorem ok_lread {f : Addr} {fd : FuncData} {k : Nat} (F : Fun K "_law_read" "_law_read" sLRead f fd) (B : Bl mg) (hU : Has P w K mg base (k + 1) "_law_turned" ["text"] spLTurned) : FnOk P w K mg base CX0 (k + 2) f fd ["cell", "text", "size"] spLRead := by
  obtain ⟨fU, dU, GU, gU, kU, bU⟩ := hU
  refine F.ok scLRead (fun vs H Q E h => ?_) (fun cdv A outer s H vs Q E hr h => ?_)
  · obtain ⟨c, t, z, rfl, _⟩ := h
    rfl
  · obtain ⟨c, t, z, rfl, dt, ht1, htl, q⟩ := h
    refine ⟨_, (C8.pss_cut (ps_set (i := 3) scLRead.nd rfl (.inl rfl) (pe_callB call_abs (by rfl) B.abs (by decide +kernel) (pa_cons (pe_callTy call_int1 (by rfl) B.int (by decide +kernel) (pa_cons (pv 0) pa_nil)) pa_nil)))
      (pss_cons (ps_set (i := 4) scLRead.nd rfl (.inl rfl) (pe_op op_mod (pv 3) (pe_callB call_len_str (by rfl) B.len PySem.boot_len (pa_cons (pv 1) pa_nil))))
      (C8.pss_cut (ps_set (i := 5) scLRead.nd rfl (.inl rfl) (pe_slice sl_str (pv 1) (po_some (pv 4)) (po_some (pe_op op_add (pv 4) (pv 2)))))
      (pss_cons (ps_for PassesOwn.never rfl (pi_range1 rfl B.range (pa_cons (pe_op op_mod (pe_op op_fdiv (pv 3) pe_int) pe_int) pa_nil)) (pg_name (i := 6) scLRead.nd rfl (.inl rfl))
        (C8.pss_cut (ps_set (i := 7) scLRead.nd rfl (.inl rfl) (pe_op op_fdiv (pv 3) (pe_op op_add pe_int (pe_op op_mul pe_int (pv 6)))))
      (C8.pss_cut (ps_set (i := 8) scLRead.nd rfl (.inl rfl) (pe_op op_mod (pv 7) (pe_op op_add (pe_callB call_len_str (by rfl) B.len PySem.boot_len (pa_cons (pv 5) pa_nil)) pe_int)))
      (C8.pss_cut (ps_set (i := 9) scLRead.nd rfl (.inl rfl) (pe_ix ix_str pe_str (pe_op op_mod (pe_op op_fdiv (pv 7) pe_int) pe_int) (fun _ _ => rfl)))
      (pss_one (ps_if (pt_cmpR op_eq (pe_op op_mod (pe_op op_fdiv (pv 7) pe_int) pe_int) pe_int (nomark _)) (pss_one (ps_set (i := 5) scLRead.nd rfl (.inl rfl) (pe_op op_add_str (pe_op op_add_str (pe_slice sl_str (pv 5) po_none (po_some (pv 8))) (pv 9)) (pe_slice sl_str (pv 5) (po_some (pv 8)) po_none)))) (pss_one (ps_if (PW.pt (pw_and (pt_cmpR op_eq (pe_op op_mod (pe_op op_fdiv (pv 7) pe_int) pe_int) pe_int (nomark _)) (pw_and1 (pt_cmpR op_gt (pe_callB call_len_str (by rfl) B.len PySem.boot_len (pa_cons (pv 5) pa_nil)) pe_int (nomark _))))) (pss_one (ps_set (i := 5) scLRead.nd rfl (.inl rfl) (pe_op op_add_str (pe_slice sl_str (pv 5) po_none (po_some (pv 8))) (pe_slice sl_str (pv 5) (po_some (pe_op op_add (pv 8) pe_int)) po_none)))) (pss_one (ps_set (i := 5) scLRead.nd rfl (.inl rfl) (pe_op op_add_str (pe_op op_add_str (pe_slice sl_str (pv 5) po_none (po_some (pv 8))) (pv 9)) (pe_slice sl_str (pv 5) (po_some (pe_op op_add (pv 8) pe_int)) po_none))))))))))))
      (pss_cons (ps_if (pt_cmpR op_eq (pe_op op_mod (pe_op op_fdiv (pv 3) pe_int) pe_int) pe_int (nomark _)) (pss_one (ps_ret (pe_call GU hr (by rfl) gU kU bU .nil pass0 (pa_cons (pv 5) pa_nil)))) pss_nil)
      (pss_one (ps_ret (pv 5)))))))), ?_⟩
    have hz : (T t).length ≤ sizeLine := line_ok (by rw [T_len]; omega)
    refine ⟨fun σ H1 => H1 = H ∧ ∃ x : Int, 0 ≤ x ∧ σ = [some (.int c), some (.str (T t)), some (.int z), some (.int x), none, none, none, none, none, none], ⟨.int c, rfl, .inl ⟨c, rfl, c, rfl, rfl, if c < 0 then -c else c, by split <;> omega, rfl⟩⟩, ?_⟩
    rintro σ H1 ⟨rfl, x, x0, rfl⟩
    refine ⟨_, rfl, _, rfl, T t, rfl, hz, _, _, rfl, rfl, by show (0 : Int) < ((T t).length : Nat); rw [T_len]; omega, ?_⟩
    refine ⟨fun σ H2 => H2 = H1 ∧ ∃ (l : List Nat) (v4 : Option V), Dna l ∧ l.length ≤ t.length ∧ σ = [some (.int c), some (.str (T t)), some (.int z), some (.int x), v4, some (.str (T l)), none, none, none, none], ?_, ?_⟩
    · obtain ⟨m, em, dm, lm⟩ := cut_dna dt (some (x % ((T t).length : Nat))) (some (x % ((T t).length : Nat) + z))
      refine ⟨_, rfl, _, rfl, _, rfl, _, rfl, _, rfl, _, _, rfl, rfl, _, rfl, T t, rfl, hz, rfl, m, some (.int (x % ((T t).length : Nat))), dm, lm, ?_⟩
      rw [em]
      rfl
    rintro σ H2 ⟨rfl, l0, v4, dl0, ll0, rfl⟩
    have b0 := Int.emod_nonneg (x / 101) (show (4 : Int) ≠ 0 by decide)
    have b1 := Int.emod_lt_of_pos (x / 101) (show (0 : Int) < 4 by decide)
    refine ⟨_, rfl, _, 101, rfl, rfl, ⟨by decide, by decide⟩, _, 4, rfl, rfl, (show (0 : Int) < 4 by decide), _, rfl, by omega, by omega, ?_⟩
    refine for_range (lo := 0) (n := (x / 101 % 4).toNat) (fun i σ H' => H' = H2 ∧ ∃ (l : List Nat) (v6 v7 v8 v9 : Option V), Dna l ∧ l.length + 1 ≤ (t.length + 1) * 2 ^ i ∧ σ = [some (.int c), some (.str (T t)), some (.int z), some (.int x), v4, some (.str (T l)), v6, v7, v8, v9]) ⟨rfl, l0, none, none, none, none, dl0, by rw [Nat.pow_zero]; omega, rfl⟩ ?_ ?_
    · rintro i σ H' hi ⟨rfl, l, v6, v7, v8, v9, dl, ll, rfl⟩
      have hi4 : i < 4 := by omega
      have hll : l.length + 1 ≤ 8 * (t.length + 1) := by
        have : (2 : Nat) ^ i ≤ 2 ^ 3 := Nat.pow_le_pow_right (by decide) (by omega)
        have h2 := Nat.mul_le_mul_left (t.length + 1) this
        omega
      have hpow : (t.length + 1) * 2 ^ (i + 1) = 2 * ((t.length + 1) * 2 ^ i) := by
        rw [Nat.pow_succ, ← Nat.mul_assoc, Nat.mul_comm]
      have hzl : (T l).length ≤ sizeLine := line_ok (by rw [T_len]; omega)
      refine ⟨fun σ H3 => H3 = H' ∧ ∃ y : Int, σ = [some (.int c), some (.str (T t)), some (.int z), some (.int x), v4, some (.str (T l)), some (.int (0 + (i : Nat))), some (.int y), v8, v9], ⟨_, rfl, _, rfl, 17, _, rfl, rfl, .inl ⟨by decide, by decide⟩, 303, _, rfl, rfl, x, _, rfl, rfl, ⟨by omega, by omega⟩, rfl, _, rfl⟩, ?_⟩
      rintro σ H3 ⟨rfl, y, rfl⟩
      refine ⟨fun σ H4 => H4 = H3 ∧ ∃ a : Int, σ = [some (.int c), some (.str (T t)), some (.int z), some (.int x), v4, some (.str (T l)), some (.int (0 + (i : Nat))), some (.int y), some (.int a), v9], ⟨_, rfl, _, rfl, T l, rfl, hzl, _, 1, rfl, rfl, _, _, rfl, rfl, by show (0 : Int) < ((T l).length : Nat) + 1; omega, rfl, _, rfl⟩, ?_⟩
      rintro σ H4 ⟨rfl, a, rfl⟩
      refine ⟨fun σ H5 => H5 = H4 ∧ ∃ d : Nat, Sg d ∧ σ = [some (.int c), some (.str (T t)), some (.int z), some (.int x), v4, some (.str (T l)), some (.int (0 + (i : Nat))), some (.int y), some (.int a), some (.str (T [d]))], ?_, ?_⟩
      · obtain ⟨d, hd, hat⟩ := sg_at (y / 7)
        exact ⟨_, rfl, y, 7, rfl, rfl, ⟨by decide, by decide⟩, _, 5, rfl, rfl, (show (0 : Int) < 5 by decide), _, _, d, rfl, rfl, by decide, hat, rfl, d, hd, rfl⟩
      rintro σ H5 ⟨rfl, d, hd, rfl⟩
      obtain ⟨m1, em1, dm1, lm1⟩ := cut_dna dl none (some a)
      obtain ⟨m2, em2, dm2, lm2⟩ := cut_dna dl (some a) none
      obtain ⟨m3, em3, dm3, lm3⟩ := cut_dna dl (some (a + 1)) none
      have three : ∀ m : List Nat, m.length ≤ l.length → (T m1).length + (T [d]).length ≤ sizeLine ∧ (T m1 ++ T [d]).length + (T m).length ≤ sizeLine ∧ (m1 ++ [d] ++ m).length + 1 ≤ (t.length + 1) * 2 ^ (i + 1) := fun m hm => by
        refine ⟨line_ok (by rw [T_len, T_len, List.length_singleton]; omega), line_ok (by rw [T_app, T_len, T_len, List.length_append, List.length_singleton]; omega), ?_⟩
        rw [hpow, List.length_append, List.length_append, List.length_singleton]
        omega
      refine ⟨_, rfl, y, 35, rfl, rfl, ⟨by decide, by decide⟩, _, 3, rfl, rfl, (show (0 : Int) < 3 by decide), rfl, _, rfl, ite2 (fun _ => ?_) (fun _ => ?_)⟩
      · obtain ⟨h1, h2, h3⟩ := three m2 lm2
        refine ⟨_, rfl, _, rfl, a, rfl, T l, rfl, hzl, _, rfl, _, _, rfl, rfl, by rw [em1]; exact h1, _, rfl, _, rfl, a, rfl, T l, rfl, hzl, _, _, rfl, rfl, by rw [em1, em2]; exact h2, rfl, m1 ++ [d] ++ m2, some (.int (0 + (i : Nat))), some (.int y), some (.int a), some (.str (T [d])), (dm1.app (.one hd)).app dm2, h3, ?_⟩
        rw [em1, em2, ← T_app, ← T_app]
        rfl
      have other : ∃ _ : True, True := ⟨trivial, trivial⟩
      refine ⟨_, rfl, y, 35, rfl, rfl, ⟨by decide, by decide⟩, _, 3, rfl, rfl, (show (0 : Int) < 3 by decide), rfl, _, rfl, ite2 (fun _ => ?_) (fun _ => ?_)⟩
      · refine ⟨_, rfl, T l, rfl, hzl, _, 1, rfl, rfl, _, rfl, ite2 (fun _ => ?_) (fun _ => ?_)⟩
        · refine ⟨_, rfl, _, rfl, a, rfl, T l, rfl, hzl, _, rfl, _, rfl, _, 1, rfl, rfl, a + 1, rfl, T l, rfl, hzl, _, _, rfl, rfl, ?_, rfl, m1 ++ m3, some (.int (0 + (i : Nat))), some (.int y), some (.int a), some (.str (T [d])), dm1.app dm3, ?_, ?_⟩
          · rw [em1, em3]
            exact line_ok (by rw [T_len, T_len]; omega)
          · rw [hpow, List.length_append]
            omega
          · rw [em1, em3, ← T_app]
            rfl
        · obtain ⟨h1, h2, h3⟩ := three m3 lm3
          refine ⟨_, rfl, _, rfl, a, rfl, T l, rfl, hzl, _, rfl, _, _, rfl, rfl, by rw [em1]; exact h1, _, rfl, _, rfl, _, 1, rfl, rfl, a + 1, rfl, T l, rfl, hzl, _, _, rfl, rfl, by rw [em1, em3]; exact h2, rfl, m1 ++ [d] ++ m3, some (.int (0 + (i : Nat))), some (.int y), some (.int a), some (.str (T [d])), (dm1.app (.one hd)).app dm3, h3, ?_⟩
          rw [em1, em3, ← T_app, ← T_app]
          rfl
      · obtain ⟨h1, h2, h3⟩ := three m3 lm3
        refine ⟨_, rfl, _, rfl, a, rfl, T l, rfl, hzl, _, rfl, _, _, rfl, rfl, by rw [em1]; exact h1, _, rfl, _, rfl, _, 1, rfl, rfl, a + 1, rfl, T l, rfl, hzl, _, _, rfl, rfl, by rw [em1, em3]; exact h2, rfl, m1 ++ [d] ++ m3, some (.int (0 + (i : Nat))), some (.int y), some (.int a), some (.str (T [d])), (dm1.app (.one hd)).app dm3, h3, ?_⟩
        rw [em1, em3, ← T_app, ← T_app]
        rfl
    · rintro σ H' ⟨rfl, l, v6, v7, v8, v9, dl, ll, rfl⟩
      have hll : l.length ≤ 8 * (t.length + 1) := by
        have : (2 : Nat) ^ (x / 101 % 4).toNat ≤ 2 ^ 3 := Nat.pow_le_pow_right (by decide) (by omega)
        have h2 := Nat.mul_le_mul_left (t.length + 1) this
        omega
      refine ⟨_, rfl, x, 7777, rfl, rfl, ⟨by decide, by decide⟩, _, 2, rfl, rfl, (show (0 : Int) < 2 by decide), rfl, _, rfl, ite2 (fun _ => ?_) (fun _ => ?_)⟩
      · exact ⟨_, rfl, l, rfl, dl, by omega, q _ (turn_dna dl) (by rw [turn_len]; exact hll)⟩
      · exact ⟨_, rfl, q l dl hll⟩
end
/-! ### pieces of a read -/
def off (n k i : Nat) : Nat := i * (n / (k + 1)) + min i (n % (k + 1))
theorem off_zero (n k : Nat) : off n k 0 = 0 := by
  unfold off
  rw [Nat.zero_mul, Nat.zero_min]
theorem off_succ (n k i : Nat) : off n k (i + 1) = off n k i + n / (k + 1) + (if i < n % (k + 1) then 1 else 0) := by
  unfold off
  rw [Nat.succ_mul]
  by_cases h : i < n % (k + 1)
  · rw [if_pos h, Nat.min_eq_left h, Nat.min_eq_left (Nat.le_of_lt h)]
    omega
  · rw [if_neg h, Nat.min_eq_right (by omega), Nat.min_eq_right (by omega)]
    omega
theorem off_end (n k : Nat) : off n k (k + 1) = n := by
  unfold off
  rw [Nat.min_eq_right (Nat.le_of_lt (Nat.mod_lt _ (Nat.succ_pos k)))]
  exact Nat.div_add_mod n (k + 1)
theorem off_le {n k i : Nat} (h : i ≤ k + 1) : off n k i ≤ n := by
  have e := off_end n k
  unfold off at e ⊢
  have h1 : i * (n / (k + 1)) ≤ (k + 1) * (n / (k + 1)) := Nat.mul_le_mul_right _ h
  have h2 : min i (n % (k + 1)) ≤ min (k + 1) (n % (k + 1)) := by
    rw [Nat.min_def, Nat.min_def]
    split <;> split <;> omega
  omega
def pcAt (l : List Nat) (k i : Nat) : Nat × List Nat := (off l.length k i, (l.drop (off l.length k i)).take (off l.length k (i + 1) - off l.length k i))
def pcsOf (l : List Nat) (k : Nat) : List (Nat × List Nat) := (List.range (k + 1)).map (pcAt l k)
def Pcv (H : Hp) : List V → List (Nat × List Nat) → Prop := Paired fun v r => ∃ q, v = .ref q ∧ H q = some (.tup [.int (r.1 : Int), .str (T r.2)])
theorem Pcv.mono {H H' : Hp} {xs : List V} {rs : List (Nat × List Nat)} (h : Pcv H xs rs) (k : ∀ q ys, H q = some (.tup ys) → H' q = some (.tup ys)) : Pcv H' xs rs :=
  Paired.mapP h fun _ _ ⟨q, e, t⟩ => ⟨q, e, k q _ t⟩
theorem Pcv.snoc {H : Hp} {xs : List V} {rs : List (Nat × List Nat)} {q : Addr} {r : Nat × List Nat} (h : Pcv H xs rs) (e : H q = some (.tup [.int (r.1 : Int), .str (T r.2)])) : Pcv H (xs ++ [.ref q]) (rs ++ [r]) :=
  Paired.snoc h ⟨q, rfl, e⟩
theorem pcAt_len {l : List Nat} {k i : Nat} (h : i < k + 1) : (pcAt l k i).2.length = l.length / (k + 1) + (if i < l.length % (k + 1) then 1 else 0) := by
  have h1 := off_succ l.length k i
  have h2 : off l.length k (i + 1) ≤ l.length := off_le h
  show ((l.drop (off l.length k i)).take (off l.length k (i + 1) - off l.length k i)).length = _
  rw [List.length_take, List.length_drop]
  generalize l.length / (k + 1) = sz at h1 ⊢
  omega
theorem pcs_flat (l : List Nat) (k : Nat) : ∀ n, n ≤ k + 1 → (((List.range n).map (pcAt l k)).map (·.2)).flatten = l.take (off l.length k n)
  | 0, _ => by
    rw [off_zero, List.take_zero]
    rfl
  | n + 1, h => by
    rw [List.range_succ, List.map_append, List.map_append, List.flatten_append, pcs_flat l k n (by omega)]
    have h1 : off l.length k n ≤ off l.length k (n + 1) := by
      rw [off_succ]
      generalize l.length / (k + 1) = sz
      omega
    have e : off l.length k (n + 1) = off l.length k n + (off l.length k (n + 1) - off l.length k n) := by omega
    rw [e, List.take_add]
    simp [pcAt]
def NPc : List Str := ["read", "k", "size", "longer", "found", "offset", "number", "end"]
theorem scPcs : FnScope NPc ["read", "k"] (defScope sPcs) := ⟨rfl, rfl, rfl, by decide +kernel, rfl, by decide +kernel, by decide +kernel⟩
section
variable {P : Program} {w : World} {K : PySem.W.Frag} {mg : Str → Option Value} {base : Heap}
def spPcs : Sp := fun vs H Q _ => ∃ (l : List Nat) (k : Nat), vs = [.str (T l), .int (k : Int)] ∧ l.length ≤ 100000 ∧ k ≤ 1000 ∧ ∀ (H' : Hp) (p : Addr) (xs : List V), Same H H' → H p = none → H' p = some (.lst xs) → Pcv H' xs (pcsOf l k) → Q (.ref p) H'
theorem ok_pcs {f : Addr} {fd : FuncData} {m : Nat} (F : Fun K "pieces" "pieces" sPcs f fd) (B : Bl mg) : FnOk P w K mg base CX0 (m + 1) f fd ["read", "k"] spPcs := by
  refine F.ok scPcs (fun vs H Q E h => ?_) (fun cdv A outer s H vs Q E hr h => ?_)
  · obtain ⟨l, k, rfl, _⟩ := h
    rfl
  · obtain ⟨l, k, rfl, hl, hk, q⟩ := h
    refine ⟨_, pss_cons (ps_set (i := 2) scPcs.nd rfl (.inl rfl) (pe_op op_fdiv (pe_callB call_len_str (by rfl) B.len PySem.boot_len (pa_cons (pv 0) pa_nil)) (pe_op op_add (pv 1) pe_int)))
      (pss_cons (ps_set (i := 3) scPcs.nd rfl (.inl rfl) (pe_op op_mod (pe_callB call_len_str (by rfl) B.len PySem.boot_len (pa_cons (pv 0) pa_nil)) (pe_op op_add (pv 1) pe_int)))
      (pss_cons (ps_set (i := 4) scPcs.nd rfl (.inl rfl) (pe_lst pa_nil))
      (pss_cons (ps_set (i := 5) scPcs.nd rfl (.inl rfl) pe_int)
      (pss_cons (ps_for PassesOwn.never rfl (pi_range1 rfl B.range (pa_cons (pe_op op_add (pv 1) pe_int) pa_nil)) (pg_name (i := 6) scPcs.nd rfl (.inl rfl))
        (C8.pss_cut (ps_set (i := 7) scPcs.nd rfl (.inl rfl) (pe_op op_add (pe_op op_add (pv 5) (pv 2)) (pe_ifExp (pt_cmpR op_lt (pv 6) (pv 3) (nomark _)) pe_int pe_int)))
        (pss_cons (ps_expr (pe_bm PySem.F.plainAttrs_list PySem.F.slot_list_append PySem.F.type_list_append mt_append (pv 4) (pa_cons (pe_tup (pa_cons (pv 5) (pa_cons (pe_slice sl_str (pv 0) (po_some (pv 5)) (po_some (pv 7))) pa_nil))) pa_nil)))
        (pss_one (ps_set (i := 5) scPcs.nd rfl (.inl rfl) (pv 7))))))
      (pss_one (ps_ret (pv 4))))))), ?_⟩
    have hz : (T l).length ≤ sizeLine := line_ok (by rw [T_len]; exact hl)
    refine ⟨.str (T l), rfl, T l, rfl, hz, .int k, rfl, _, 1, rfl, rfl, _, _, rfl, rfl, ⟨by omega, by omega⟩, ?_⟩
    refine ⟨.str (T l), rfl, T l, rfl, hz, .int k, rfl, _, 1, rfl, rfl, _, _, rfl, rfl, (show (0 : Int) < (k : Int) + 1 by omega), ?_⟩
    refine ⟨Nat.zero_le _, fun p hp => ⟨.int k, rfl, _, 1, rfl, rfl, _, rfl, by omega, by omega, ?_⟩⟩
    have e1 : ((T l).length : Int) / ((k : Int) + 1) = ((l.length / (k + 1) : Nat) : Int) := by
      rw [T_len, Int.natCast_ediv]
      rfl
    have e2 : ((T l).length : Int) % ((k : Int) + 1) = ((l.length % (k + 1) : Nat) : Int) := by
      rw [T_len, Int.natCast_emod]
      rfl
    have e3 : ((k : Int) + 1).toNat = k + 1 := by omega
    refine for_range (lo := 0) (n := ((k : Int) + 1).toNat) (fun i σ H' => ∃ (xs : List V) (nv ev : Option V), σ = [some (.str (T l)), some (.int (k : Int)), some (.int ((l.length / (k + 1) : Nat) : Int)), some (.int ((l.length % (k + 1) : Nat) : Int)), some (.ref p), some (.int (off l.length k i : Nat)), nv, ev] ∧ Same H H' ∧ H' p = some (.lst xs) ∧ Pcv H' xs ((List.range i).map (pcAt l k))) ?_ ?_ ?_
    · exact ⟨[], none, none, by rw [off_zero, ← e1, ← e2]; rfl, same_upd hp, upd_same, .nil⟩
    · rintro i σ H' hi ⟨xs, nv, ev, rfl, sm, hx, ht⟩
      have hxl : xs.length = i := by
        have := paired_len ht
        rw [List.length_map, List.length_range] at this
        exact this
      rw [e3] at hi
      have hoi : off l.length k (i + 1) ≤ l.length := off_le hi
      refine ⟨fun σ H2 => H2 = H' ∧ σ = [some (.str (T l)), some (.int (k : Int)), some (.int ((l.length / (k + 1) : Nat) : Int)), some (.int ((l.length % (k + 1) : Nat) : Int)), some (.ref p), some (.int (off l.length k i : Nat)), some (.int (0 + (i : Nat))), some (.int (off l.length k (i + 1) : Nat))], ?_, ?_⟩
      · refine ⟨_, rfl, _, rfl, _, _, rfl, rfl, _, rfl, _, rfl, _, _, rfl, rfl, _, rfl, ite2 (fun e => ?_) (fun e => ?_)⟩
        · have lt : (0 : Int) + (i : Nat) < ((l.length % (k + 1) : Nat) : Int) := of_decide_eq_true e
          refine ⟨_, _, rfl, rfl, rfl, ?_⟩
          rw [off_succ, if_pos (by omega)]
          simp
        · have ge : ¬ (0 : Int) + (i : Nat) < ((l.length % (k + 1) : Nat) : Int) := fun z => e (decide_eq_true z)
          refine ⟨_, _, rfl, rfl, rfl, ?_⟩
          rw [off_succ, if_neg (by omega)]
          simp
      rintro σ H2 ⟨rfl, rfl⟩
      refine ⟨.ref p, rfl, .inl ⟨rfl, _, .inl (.inl hx)⟩, .int (off l.length k i : Nat), rfl, .str (T l), rfl, .int (off l.length k i : Nat), rfl, _, rfl, .int (off l.length k (i + 1) : Nat), rfl, _, rfl, T l, rfl, hz, by show 2 ≤ sizeLine; decide, fun q2 hq2 => ?_⟩
      have npq : p ≠ q2 := ne_of_none hx hq2
      refine ⟨p, xs, _, rfl, rfl, by rw [upd_ne npq]; exact hx, line_lt (by omega), ?_⟩
      refine ⟨_, rfl, xs ++ [.ref q2], _, _, rfl, fun b o e => ?_, upd_same, ?_⟩
      · rw [upd_ne (ne_of_none e hp)]
        exact same_upd hq2 _ _ (sm _ _ e)
      · rw [List.range_succ, List.map_append]
        refine Pcv.snoc (ht.mono fun b ys hb => ?_) ?_
        · rw [upd_ne (fun z => by rw [z, hx] at hb; cases hb), upd_ne (ne_of_none hb hq2)]
          exact hb
        · rw [upd_ne npq.symm, upd_same, cut_mid]
          rfl
    · rintro σ H' ⟨xs, nv, ev, rfl, sm, hx, ht⟩
      rw [e3] at ht
      exact ⟨.ref p, rfl, q H' p xs sm hp hx ht⟩
end
/-! ### dicts of lists of numbers, filled list by list -/
section
variable {κ : Type} [DecidableEq κ]
def look (es : List (κ × List Int)) (k : κ) : List Int := ((es.find? fun e => decide (e.1 = k)).map (·.2)).getD []
def addL : List (κ × List Int) → κ → List Int → List (κ × List Int)
  | [], k, m => [(k, m)]
  | e :: es, k, m => if e.1 = k then (e.1, e.2 ++ m) :: es else e :: addL es k m
theorem look_nil (k : κ) : look ([] : List (κ × List Int)) k = [] := rfl
theorem look_cons (e : κ × List Int) (es : List (κ × List Int)) (k : κ) : look (e :: es) k = if e.1 = k then e.2 else look es k := by
  unfold look
  rw [List.find?_cons]
  by_cases h : e.1 = k
  · rw [if_pos h, decide_eq_true h]
    rfl
  · rw [if_neg h, decide_eq_false h]
theorem look_addL (es : List (κ × List Int)) (k k' : κ) (m : List Int) : look (addL es k m) k' = if k' = k then look es k ++ m else look es k' := by
  induction es with
  | nil =>
    show look [(k, m)] k' = _
    rw [look_cons]
    by_cases h : k' = k
    · rw [if_pos h, if_pos h.symm]
      rfl
    · rw [if_neg h, if_neg (fun z => h z.symm)]
  | cons e es ih =>
    unfold addL
    by_cases h : e.1 = k
    · rw [if_pos h, look_cons, look_cons, look_cons]
      dsimp only
      by_cases h2 : k' = k
      · rw [if_pos h2, if_pos (h.trans h2.symm), if_pos h]
      · rw [if_neg h2, if_neg (fun z => h2 (z.symm.trans h)), if_neg (fun z => h2 (z.symm.trans h))]
    · rw [if_neg h, look_cons, ih, look_cons, look_cons]
      by_cases h2 : k' = k
      · subst h2
        rw [if_neg h, if_pos rfl, if_pos rfl, if_neg h]
      · rw [if_neg h2, if_neg h2]
def flatE (es : List (κ × List Int)) : List (κ × Int) := es.flatMap fun e => e.2.map fun x => (e.1, x)
theorem flat_addL (es : List (κ × List Int)) (k : κ) (m : List Int) : (flatE (addL es k m)).Perm (flatE es ++ m.map fun x => (k, x)) := by
  induction es with
  | nil =>
    show ((m.map fun x => (k, x)) ++ []).Perm _
    rw [List.append_nil]
    exact .refl _
  | cons e es ih =>
    unfold addL
    by_cases h : e.1 = k
    · rw [if_pos h]
      unfold flatE
      rw [List.flatMap_cons, List.flatMap_cons, List.map_append, List.append_assoc, List.append_assoc, h]
      exact List.Perm.append_left _ List.perm_append_comm
    · rw [if_neg h]
      unfold flatE at ih ⊢
      rw [List.flatMap_cons, List.flatMap_cons, List.append_assoc]
      exact List.Perm.append_left _ ih
theorem mem_addL {es : List (κ × List Int)} {k : κ} {m : List Int} {e : κ × List Int} (h : e ∈ addL es k m) : e.1 = k ∨ e ∈ es := by
  induction es with
  | nil =>
    rw [List.mem_singleton.mp h]
    exact .inl rfl
  | cons f es ih =>
    unfold addL at h
    by_cases c : f.1 = k
    · rw [if_pos c] at h
      rcases List.mem_cons.mp h with z | z
      · rw [z]
        exact .inl c
      · exact .inr (List.mem_cons_of_mem _ z)
    · rw [if_neg c] at h
      rcases List.mem_cons.mp h with z | z
      · rw [z]
        exact .inr List.mem_cons_self
      · exact (ih z).imp id (List.mem_cons_of_mem _)
theorem addL_mid {a : List (κ × List Int)} {k : κ} (h : ∀ e ∈ a, e.1 ≠ k) (l m : List Int) (b : List (κ × List Int)) : addL (a ++ (k, l) :: b) k m = a ++ (k, l ++ m) :: b := by
  induction a with
  | nil => exact if_pos rfl
  | cons e a ih =>
    rw [List.cons_append, List.cons_append]
    unfold addL
    rw [if_neg (h e List.mem_cons_self), ih fun x hx => h x (List.mem_cons_of_mem _ hx)]
theorem addL_new {a : List (κ × List Int)} {k : κ} (h : ∀ e ∈ a, e.1 ≠ k) (m : List Int) : addL a k m = a ++ [(k, m)] := by
  induction a with
  | nil => rfl
  | cons e a ih =>
    rw [List.cons_append]
    unfold addL
    rw [if_neg (h e List.mem_cons_self), ih fun x hx => h x (List.mem_cons_of_mem _ hx)]
theorem addL_pos {e : κ × List Int} {es : List (κ × List Int)} {k : κ} (c : e.1 = k) (m : List Int) : addL (e :: es) k m = (e.1, e.2 ++ m) :: es := if_pos c
theorem addL_neg {e : κ × List Int} {es : List (κ × List Int)} {k : κ} (c : ¬ e.1 = k) (m : List Int) : addL (e :: es) k m = e :: addL es k m := if_neg c
theorem addL_two (es : List (κ × List Int)) (k : κ) (a b : List Int) : addL (addL es k a) k b = addL es k (a ++ b) := by
  induction es with
  | nil => exact addL_pos rfl _
  | cons e es ih =>
    by_cases c : e.1 = k
    · rw [addL_pos c, addL_pos (e := (e.1, e.2 ++ a)) c, addL_pos c, List.append_assoc]
    · rw [addL_neg c, addL_neg c, addL_neg c, ih]
/-- an entry: its key, the address of its list, the list -/
abbrev Tr (κ : Type) := κ × Addr × List Int
def ent (ts : List (Tr κ)) : List (κ × List Int) := ts.map fun t => (t.1, t.2.2)
def kvs (kf : κ → Key) (ts : List (Tr κ)) : List (Key × V) := ts.map fun t => (kf t.1, V.ref t.2.1)
structure DL (kf : κ → Key) (H0 H : Hp) (d : Addr) (ts : List (Tr κ)) : Prop where
  top : H d = some (.dK (kvs kf ts))
  nd : (ts.map (·.2.1)).Nodup
  nk : (ts.map (·.1)).Nodup
  row : ∀ t ∈ ts, H t.2.1 = some (LI t.2.2)
  newd : H0 d = none
  newr : ∀ t ∈ ts, H0 t.2.1 = none
theorem DL.keep {kf : κ → Key} {H0 H H' : Hp} {d : Addr} {ts : List (Tr κ)} (h : DL kf H0 H d ts) (k : ∀ b o, b = d ∨ (∃ t ∈ ts, b = t.2.1) → H b = some o → H' b = some o) : DL kf H0 H' d ts :=
  ⟨k _ _ (.inl rfl) h.top, h.nd, h.nk, fun t ht => k _ _ (.inr ⟨t, ht, rfl⟩) (h.row t ht), h.newd, h.newr⟩
theorem DL.same {kf : κ → Key} {H0 H H' : Hp} {d : Addr} {ts : List (Tr κ)} (h : DL kf H0 H d ts) (s : Same H H') : DL kf H0 H' d ts := h.keep fun b o _ e => s b o e
theorem DL.nil {kf : κ → Key} {H0 H : Hp} {d : Addr} (h : H d = some (.dK [])) (h0 : H0 d = none) : DL kf H0 H d [] :=
  ⟨h, .nil, .nil, fun t ht => (List.not_mem_nil ht).elim, h0, fun t ht => (List.not_mem_nil ht).elim⟩
theorem same_new {H0 H : Hp} {q : Addr} {o : HO} (s : Same H0 H) (h : H0 q = none) : Same H0 (upd H q o) := fun b x e => by
  rw [upd_ne (ne_of_none e h)]
  exact s b x e
theorem val_ent {kf : κ → Key} (inj : ∀ a b, kf a = kf b → a = b) (k : κ) : ∀ ts : List (Tr κ), ((∀ t ∈ ts, t.1 ≠ k) ∧ valV (kvs kf ts) (kf k) = none) ∨ ∃ t ∈ ts, t.1 = k ∧ valV (kvs kf ts) (kf k) = some (.ref t.2.1)
  | [] => .inl ⟨fun t ht => (List.not_mem_nil ht).elim, rfl⟩
  | t :: ts => by
    by_cases e : t.1 = k
    · exact .inr ⟨t, List.mem_cons_self, e, valV_pos (p := (kf t.1, V.ref t.2.1)) (congrArg kf e)⟩
    · have en : valV (kvs kf (t :: ts)) (kf k) = valV (kvs kf ts) (kf k) := valV_neg (p := (kf t.1, V.ref t.2.1)) fun z => e (inj _ _ z)
      rcases val_ent inj k ts with ⟨h1, h2⟩ | ⟨u, hu, h1, h2⟩
      · refine .inl ⟨fun x hx => ?_, en.trans h2⟩
        rcases List.mem_cons.mp hx with z | z
        · rw [z]
          exact e
        · exact h1 x z
      · exact .inr ⟨u, List.mem_cons_of_mem _ hu, h1, en.trans h2⟩
theorem ent_split {ts : List (Tr κ)} {t : Tr κ} (ht : t ∈ ts) (nk : (ts.map (·.1)).Nodup) (nd : (ts.map (·.2.1)).Nodup) : ∃ a b, ts = a ++ t :: b ∧ (∀ u ∈ a, u.1 ≠ t.1) ∧ ∀ u ∈ a ++ b, u.2.1 ≠ t.2.1 := by
  obtain ⟨a, b, rfl⟩ := List.append_of_mem ht
  refine ⟨a, b, rfl, fun u hu e => ?_, fun u hu e => ?_⟩
  · rw [List.map_append, List.map_cons, List.nodup_append] at nk
    exact nk.2.2 u.1 (List.mem_map_of_mem hu) t.1 List.mem_cons_self e
  · rw [List.map_append, List.map_cons, List.nodup_append] at nd
    rcases List.mem_append.mp hu with z | z
    · exact nd.2.2 u.2.1 (List.mem_map_of_mem z) t.2.1 List.mem_cons_self e
    · exact (List.nodup_cons.mp nd.2.1).1 (e ▸ List.mem_map_of_mem z)
theorem DL.put {kf : κ → Key} {H0 H : Hp} {d : Addr} {ts : List (Tr κ)} (h : DL kf H0 H d ts) {t : Tr κ} (ht : t ∈ ts) (m : List Int) : ∃ ts', ent ts' = addL (ent ts) t.1 m ∧ DL kf H0 (upd H t.2.1 (LI (t.2.2 ++ m))) d ts' := by
  obtain ⟨a, b, rfl, h1, h2⟩ := ent_split ht h.nk h.nd
  have nq : d ≠ t.2.1 := fun z => by
    have e1 := h.top
    have e2 := h.row t ht
    rw [← z, e1] at e2
    cases e2
  have mm : ∀ {β : Type} (f : Tr κ → β) (x : Tr κ), f x = f t → (a ++ x :: b).map f = (a ++ t :: b).map f := fun f x e => by rw [List.map_append, List.map_append, List.map_cons, List.map_cons, e]
  refine ⟨a ++ (t.1, t.2.1, t.2.2 ++ m) :: b, ?_, ?_, ?_, ?_, fun u hu => ?_, h.newd, fun u hu => ?_⟩
  · unfold ent
    rw [List.map_append, List.map_append, List.map_cons, List.map_cons]
    exact (addL_mid (fun e he => by
      obtain ⟨u, hu, rfl⟩ := List.mem_map.mp he
      exact h1 u hu) t.2.2 m _).symm
  · rw [upd_ne nq, h.top]
    exact congrArg (fun z => some (HO.dK z)) (mm (fun t => (kf t.1, V.ref t.2.1)) (t.1, t.2.1, t.2.2 ++ m) rfl).symm
  · rw [mm (·.2.1) (t.1, t.2.1, t.2.2 ++ m) rfl]
    exact h.nd
  · rw [mm (·.1) (t.1, t.2.1, t.2.2 ++ m) rfl]
    exact h.nk
  · rcases List.mem_append.mp hu with z | z
    · rw [upd_ne (h2 u (List.mem_append_left _ z))]
      exact h.row u (List.mem_append_left _ z)
    · rcases List.mem_cons.mp z with z | z
      · rw [z, upd_same]
      · rw [upd_ne (h2 u (List.mem_append_right _ z))]
        exact h.row u (List.mem_append_right _ (List.mem_cons_of_mem _ z))
  · rcases List.mem_append.mp hu with z | z
    · exact h.newr u (List.mem_append_left _ z)
    · rcases List.mem_cons.mp z with z | z
      · rw [z]
        exact h.newr t ht
      · exact h.newr u (List.mem_append_right _ (List.mem_cons_of_mem _ z))
/-- d.setdefault(k, []): an entry for k stands, and its list comes back -/
theorem DL.setd {kf : κ → Key} (inj : ∀ a b, kf a = kf b → a = b) {H0 H : Hp} {d p : Addr} {ts : List (Tr κ)} (h : DL kf H0 H d ts) (s : Same H0 H) (hp : H p = none) (hl : ts.length < sizeLine) (k : κ) {R : V → Hp → Prop}
    (q : ∀ (qa : Addr) (l : List Int) (H' : Hp) (ts' : List (Tr κ)), ent ts' = addL (ent ts) k [] → DL kf H0 H' d ts' → (k, qa, l) ∈ ts' → Same H0 H' → (∀ b o, b ≠ d → H b = some o → H' b = some o) → ts'.length ≤ ts.length + 1 → R (.ref qa) H') :
    ∃ (ks : List (Key × V)) (k' : Key), upd H p (.lst []) d = some (.dK ks) ∧ kV (kf k) = kV k' ∧ ks.length < sizeLine ∧ (∀ v, valV ks k' = some v → R v (upd H p (.lst []))) ∧ (valV ks k' = none → R (.ref p) (upd (upd H p (.lst [])) d (.dK (putK ks k' (.ref p))))) := by
  have sp : Same H (upd H p (.lst [])) := same_upd hp
  have ndp : d ≠ p := ne_of_none h.top hp
  have h1 := h.same sp
  refine ⟨kvs kf ts, kf k, h1.top, rfl, by unfold kvs; rw [List.length_map]; exact hl, fun v hv => ?_, fun hn => ?_⟩
  · rcases val_ent inj k ts with ⟨_, e⟩ | ⟨t, ht, e, e2⟩
    · rw [hv] at e
      cases e
    · rw [hv] at e2
      cases e2
      refine q t.2.1 t.2.2 _ ts ?_ h1 (by rw [← e]; exact ht) (s.trans sp) (fun b o _ e => sp b o e) (Nat.le_succ _)
      obtain ⟨a, b, rfl, n1, n2⟩ := ent_split ht h.nk h.nd
      unfold ent
      rw [List.map_append, List.map_cons, ← e, addL_mid (fun e he => by
        obtain ⟨u, hu, rfl⟩ := List.mem_map.mp he
        exact n1 u hu), List.append_nil]
  · rcases val_ent inj k ts with ⟨hk, e⟩ | ⟨t, ht, e, e2⟩
    · have hnew : ∀ t ∈ ts, t.2.1 ≠ p := fun t ht => ne_of_none (h.row t ht) hp
      have hd0 : ∀ t ∈ ts, t.2.1 ≠ d := fun t ht z => by
        have e1 := h.row t ht
        rw [z, h.top] at e1
        cases e1
      have h0p : H0 p = none := s.free hp
      refine q p [] _ (ts ++ [(k, p, [])]) ?_ ⟨?_, ?_, ?_, fun t ht => ?_, h.newd, fun t ht => ?_⟩ (List.mem_append_right _ (List.mem_singleton.mpr rfl)) (same_new (s.trans sp) h.newd) (fun b o nb e => ?_) (by rw [List.length_append]; exact Nat.le_refl _)
      · unfold ent
        rw [List.map_append, addL_new fun e he => by
          obtain ⟨u, hu, rfl⟩ := List.mem_map.mp he
          exact hk u hu]
        rfl
      · rw [upd_same, putK_new _ e]
        unfold kvs
        rw [List.map_append]
        rfl
      · rw [List.map_append]
        refine List.nodup_append.mpr ⟨h.nd, List.nodup_cons.mpr ⟨List.not_mem_nil, .nil⟩, fun x hx y hy e => ?_⟩
        obtain ⟨t, ht, rfl⟩ := List.mem_map.mp hx
        rw [List.mem_singleton.mp hy] at e
        exact hnew t ht e
      · rw [List.map_append]
        refine List.nodup_append.mpr ⟨h.nk, List.nodup_cons.mpr ⟨List.not_mem_nil, .nil⟩, fun x hx y hy e => ?_⟩
        obtain ⟨t, ht, rfl⟩ := List.mem_map.mp hx
        rw [List.mem_singleton.mp hy] at e
        exact hk t ht e
      · rcases List.mem_append.mp ht with z | z
        · rw [upd_ne (hd0 t z), upd_ne (hnew t z)]
          exact h.row t z
        · rw [List.mem_singleton.mp z, upd_ne ndp.symm, upd_same]
          rfl
      · rcases List.mem_append.mp ht with z | z
        · exact h.newr t z
        · rw [List.mem_singleton.mp z]
          exact h0p
      · rw [upd_ne nb]
        exact sp b o e
    · rw [hn] at e2
      cases e2
theorem ent_len {ts : List (Tr κ)} : (ent ts).length = ts.length := List.length_map _
theorem DL.setdE {kf : κ → Key} (inj : ∀ a b, kf a = kf b → a = b) {H0 H : Hp} {d : Addr} {ts : List (Tr κ)} (h : DL kf H0 H d ts) (s : Same H0 H) (hl : ts.length < sizeLine) {k : κ} {i j : Nat} {σ : L2.St} {Q : VK} (hi : σ[i]? = some (some (.ref d))) (hj : σ[j]? = some (some (kV (kf k))))
    (q : ∀ (qa : Addr) (l : List Int) (H' : Hp) (ts' : List (Tr κ)), ent ts' = addL (ent ts) k [] → DL kf H0 H' d ts' → (k, qa, l) ∈ ts' → Same H0 H' → (∀ b o, b ≠ d → H b = some o → H' b = some o) → ts'.length ≤ ts.length + 1 → Q (.ref qa) H') : tDSetd (tVar i) (tVar j) (tLst tNil) σ H Q :=
  ⟨.ref d, hi, d, rfl, .inl ⟨_, .inl h.top⟩, _, hj, Nat.zero_le _, fun _ hp => h.setd inj s hp hl k q⟩
theorem addL_len (es : List (κ × List Int)) (k : κ) (m : List Int) : (addL es k m).length ≤ es.length + 1 := by
  induction es with
  | nil => exact Nat.le_refl _
  | cons e es ih =>
    unfold addL
    split
    · exact Nat.le_succ _
    · rw [List.length_cons, List.length_cons]
      omega
def del (H : Hp) (d : Addr) : Hp := fun b => if b = d then none else H b
theorem del_none (H : Hp) (d : Addr) : del H d d = none := if_pos rfl
theorem del_at {H : Hp} {b d : Addr} {o : HO} (e : H b = some o) (n : b ≠ d) : del H d b = some o := (if_neg n).trans e
theorem del_same {H : Hp} {d : Addr} : Same (del H d) H := fun b o e => by
  unfold del at e
  split at e
  · cases e
  · exact e
theorem same_del {H H1 : Hp} {d : Addr} (s : Same H H1) (h : H d = none) : Same H (del H1 d) := fun b o e => del_at (s b o e) (ne_of_none e h)
theorem DL.weak {kf : κ → Key} {H0 H0' H : Hp} {d : Addr} {ts : List (Tr κ)} (s : Same H0 H0') (h : DL kf H0' H d ts) : DL kf H0 H d ts :=
  ⟨h.top, h.nd, h.nk, h.row, s.free h.newd, fun t ht => s.free (h.newr t ht)⟩
theorem flat_len {es : List (κ × List Int)} {e : κ × List Int} (h : e ∈ es) : e.2.length ≤ (flatE es).length := by
  obtain ⟨a, b, rfl⟩ := List.append_of_mem h
  unfold flatE
  rw [List.flatMap_append, List.flatMap_cons, List.length_append, List.length_append, List.length_map]
  omega
theorem DL.len {kf : κ → Key} {H0 H : Hp} {d : Addr} {ts : List (Tr κ)} (_ : DL kf H0 H d ts) {t : Tr κ} (ht : t ∈ ts) : t.2.2.length ≤ (flatE (ent ts)).length :=
  flat_len (e := (t.1, t.2.2)) (List.mem_map_of_mem ht)
def delT (H : Hp) (d : Addr) (ts : List (Tr κ)) : Hp := fun b => if b = d ∨ b ∈ ts.map (·.2.1) then none else H b
theorem delT_at {H : Hp} {b d : Addr} {ts : List (Tr κ)} {o : HO} (e : H b = some o) (n : b ≠ d) (n2 : ∀ t ∈ ts, b ≠ t.2.1) : delT H d ts b = some o :=
  (if_neg (fun z => z.elim n fun m => by
    obtain ⟨t, ht, e⟩ := List.mem_map.mp m
    exact n2 t ht e.symm)).trans e
theorem delT_same {H : Hp} {d : Addr} {ts : List (Tr κ)} : Same (delT H d ts) H := fun b o e => by
  unfold delT at e
  split at e
  · cases e
  · exact e
theorem DL.rebase {kf : κ → Key} {H0 H : Hp} {d : Addr} {ts : List (Tr κ)} (h : DL kf H0 H d ts) : DL kf (delT H d ts) H d ts :=
  ⟨h.top, h.nd, h.nk, h.row, if_pos (.inl rfl), fun _ ht => if_pos (.inr (List.mem_map_of_mem ht))⟩
theorem DL.under {kf : κ → Key} {H0 H : Hp} {d : Addr} {ts : List (Tr κ)} (h : DL kf H0 H d ts) (s : Same H0 H) : Same H0 (delT H d ts) := fun b o e =>
  delT_at (s b o e) (ne_of_none e h.newd) fun t ht => ne_of_none e (h.newr t ht)
theorem DL.tup {kf : κ → Key} {H0 H : Hp} {d q : Addr} {ts : List (Tr κ)} (h : DL kf H0 H d ts) {ys : List V} (e : H q = some (.tup ys)) : delT H d ts q = some (.tup ys) :=
  delT_at e (fun z => by rw [z, h.top] at e; cases e) fun t ht z => by rw [z, h.row t ht] at e; cases e
theorem look_mid {a : List (κ × List Int)} {k : κ} (h : ∀ e ∈ a, e.1 ≠ k) (l : List Int) (b : List (κ × List Int)) : look (a ++ (k, l) :: b) k = l := by
  induction a with
  | nil => rw [List.nil_append, look_cons, if_pos rfl]
  | cons e a ih => rw [List.cons_append, look_cons, if_neg (h e List.mem_cons_self), ih fun x hx => h x (List.mem_cons_of_mem _ hx)]
theorem DL.look {kf : κ → Key} {H0 H : Hp} {d : Addr} {ts : List (Tr κ)} (h : DL kf H0 H d ts) {t : Tr κ} (ht : t ∈ ts) : Hr.look (ent ts) t.1 = t.2.2 := by
  obtain ⟨a, b, rfl, h1, _⟩ := ent_split ht h.nk h.nd
  unfold ent
  rw [List.map_append, List.map_cons]
  exact look_mid (fun e he => by
    obtain ⟨u, hu, rfl⟩ := List.mem_map.mp he
    exact h1 u hu) _ _
theorem flat_take (es : List (κ × List Int)) (i : Nat) : (flatE (es.take i)).length ≤ (flatE es).length := by
  have e : flatE es = flatE (es.take i) ++ flatE (es.drop i) := by
    unfold flatE
    rw [← List.flatMap_append, List.take_append_drop]
  rw [e, List.length_append]
  omega
theorem fm_len {α β γ : Type} (f : α → β → γ) (os : List β) : ∀ ps : List α, (ps.flatMap fun p => os.map (f p)).length = ps.length * os.length
  | [] => by rw [List.flatMap_nil, List.length_nil, List.length_nil, Nat.zero_mul]
  | p :: ps => by rw [List.flatMap_cons, List.length_append, fm_len f os ps, List.length_map, List.length_cons, Nat.succ_mul, Nat.add_comm]
theorem look_none {es : List (κ × List Int)} {k : κ} (h : ∀ e ∈ es, e.1 ≠ k) : look es k = [] := by
  induction es with
  | nil => rfl
  | cons e es ih => rw [look_cons, if_neg (h e List.mem_cons_self), ih fun x hx => h x (List.mem_cons_of_mem _ hx)]
end
/-! ### alignments as such, and the parts of a read that lie whole -/
/-- r against t, letter by letter: c changes -/
inductive Al : List Nat → List Nat → Nat → Prop
  | nil : Al [] [] 0
  | same {a b : Nat} {r t : List Nat} {c : Nat} : agB a b = true → Al r t c → Al (a :: r) (b :: t) c
  | repl {a b : Nat} {r t : List Nat} {c : Nat} : Al r t c → Al (a :: r) (b :: t) (c + 1)
  | ins {a : Nat} {r t : List Nat} {c : Nat} : Al r t c → Al (a :: r) t (c + 1)
  | del {b : Nat} {r t : List Nat} {c : Nat} : Al r t c → Al r (b :: t) (c + 1)
theorem Al.split : ∀ {r t : List Nat} {c : Nat}, Al r t c → ∀ r1 r2 : List Nat, r = r1 ++ r2 → ∃ t1 t2 c1 c2, t = t1 ++ t2 ∧ Al r1 t1 c1 ∧ Al r2 t2 c2 ∧ c1 + c2 = c := by
  intro r t c h
  induction h with
  | nil =>
    intro r1 r2 e
    obtain ⟨rfl, rfl⟩ := List.append_eq_nil_iff.mp e.symm
    exact ⟨[], [], 0, 0, rfl, .nil, .nil, rfl⟩
  | same hab h ih =>
    intro r1 r2 e
    cases r1 with
    | nil =>
      subst e
      exact ⟨[], _, 0, _, rfl, .nil, .same hab h, Nat.zero_add _⟩
    | cons x r1 =>
      obtain ⟨rfl, e2⟩ := List.cons.inj e
      obtain ⟨t1, t2, c1, c2, rfl, h1, h2, rfl⟩ := ih r1 r2 e2
      exact ⟨_ :: t1, t2, c1, c2, rfl, .same hab h1, h2, rfl⟩
  | repl h ih =>
    intro r1 r2 e
    cases r1 with
    | nil =>
      subst e
      exact ⟨[], _, 0, _, rfl, .nil, .repl h, Nat.zero_add _⟩
    | cons x r1 =>
      obtain ⟨rfl, e2⟩ := List.cons.inj e
      obtain ⟨t1, t2, c1, c2, rfl, h1, h2, rfl⟩ := ih r1 r2 e2
      exact ⟨_ :: t1, t2, c1 + 1, c2, rfl, .repl h1, h2, by omega⟩
  | ins h ih =>
    intro r1 r2 e
    cases r1 with
    | nil =>
      subst e
      exact ⟨[], _, 0, _, rfl, .nil, .ins h, Nat.zero_add _⟩
    | cons x r1 =>
      obtain ⟨rfl, e2⟩ := List.cons.inj e
      obtain ⟨t1, t2, c1, c2, rfl, h1, h2, rfl⟩ := ih r1 r2 e2
      exact ⟨t1, t2, c1 + 1, c2, rfl, .ins h1, h2, by omega⟩
  | del h ih =>
    intro r1 r2 e
    obtain ⟨t1, t2, c1, c2, rfl, h1, h2, rfl⟩ := ih r1 r2 e
    exact ⟨_ :: t1, t2, c1 + 1, c2, rfl, .del h1, h2, by omega⟩
theorem Al.app : ∀ {r1 t1 : List Nat} {c1 : Nat}, Al r1 t1 c1 → ∀ {r2 t2 : List Nat} {c2 : Nat}, Al r2 t2 c2 → Al (r1 ++ r2) (t1 ++ t2) (c1 + c2) := by
  intro r1 t1 c1 h
  induction h with
  | nil =>
    intro r2 t2 c2 k
    rw [Nat.zero_add]
    exact k
  | same hab _ ih => exact fun k => .same hab (ih k)
  | repl _ ih =>
    intro r2 t2 c2 k
    rw [Nat.add_right_comm]
    exact .repl (ih k)
  | ins _ ih =>
    intro r2 t2 c2 k
    rw [Nat.add_right_comm]
    exact .ins (ih k)
  | del _ ih =>
    intro r2 t2 c2 k
    rw [Nat.add_right_comm]
    exact .del (ih k)
theorem Al.lens {r t : List Nat} {c : Nat} (h : Al r t c) : t.length ≤ r.length + c ∧ r.length ≤ t.length + c := by
  induction h with
  | nil => exact ⟨Nat.le_refl _, Nat.le_refl _⟩
  | same _ _ ih => simp only [List.length_cons]; omega
  | repl _ ih => simp only [List.length_cons]; omega
  | ins _ ih => simp only [List.length_cons]; omega
  | del _ ih => simp only [List.length_cons]; omega
theorem Al.zero {r t : List Nat} {c : Nat} (h : Al r t c) : c = 0 → t = r ∧ 78 ∉ r := by
  induction h with
  | nil => exact fun _ => ⟨rfl, List.not_mem_nil⟩
  | same hab _ ih =>
    intro e
    obtain ⟨rfl, hn⟩ := ih e
    unfold agB at hab
    rw [Bool.and_eq_true, decide_eq_true_iff, decide_eq_true_iff] at hab
    obtain ⟨rfl, h78⟩ := hab
    refine ⟨rfl, fun z => ?_⟩
    rcases List.mem_cons.mp z with y | y
    · exact h78 y.symm
    · exact hn y
  | repl _ _ => exact fun e => absurd e (Nat.succ_ne_zero _)
  | ins _ _ => exact fun e => absurd e (Nat.succ_ne_zero _)
  | del _ _ => exact fun e => absurd e (Nat.succ_ne_zero _)
/-- fewer changes than parts: a part lies whole -/
theorem Al.part : ∀ (ps : List (List Nat)) {t : List Nat} {c : Nat}, Al ps.flatten t c → c < ps.length → ∃ j p u v c1 c2, ps[j]? = some p ∧ t = u ++ p ++ v ∧ 78 ∉ p ∧ Al (ps.take j).flatten u c1 ∧ Al (ps.drop (j + 1)).flatten v c2 ∧ c1 + c2 = c
  | [], _, _, _, h => absurd h (Nat.not_lt_zero _)
  | p :: ps, t, c, h, hc => by
    obtain ⟨t1, t2, c1, c2, rfl, h1, h2, rfl⟩ := h.split p ps.flatten (by rw [List.flatten_cons])
    by_cases e : c1 = 0
    · obtain ⟨rfl, hn⟩ := h1.zero e
      exact ⟨0, t1, [], t2, 0, c2, rfl, rfl, hn, .nil, h2, by omega⟩
    · obtain ⟨j, q, u, v, d1, d2, hj, rfl, hn, hu, hv, rfl⟩ := Al.part ps h2 (by rw [List.length_cons] at hc; omega)
      refine ⟨j + 1, q, t1 ++ u, v, c1 + d1, d2, hj, by simp only [List.append_assoc], hn, ?_, hv, by omega⟩
      rw [List.take_succ_cons, List.flatten_cons]
      exact h1.app hu
/-! ### the column is the least of the alignments that end there -/
inductive AlS : List Nat → List Nat → Nat → Prop
  | nil : AlS [] [] 0
  | same {a b : Nat} {r t : List Nat} {c : Nat} : agB a b = true → AlS r t c → AlS (r ++ [a]) (t ++ [b]) c
  | repl {a b : Nat} {r t : List Nat} {c : Nat} : AlS r t c → AlS (r ++ [a]) (t ++ [b]) (c + 1)
  | ins {a : Nat} {r t : List Nat} {c : Nat} : AlS r t c → AlS (r ++ [a]) t (c + 1)
  | del {b : Nat} {r t : List Nat} {c : Nat} : AlS r t c → AlS r (t ++ [b]) (c + 1)
theorem AlS.csame {a b : Nat} (hab : agB a b = true) {r t : List Nat} {c : Nat} (h : AlS r t c) : AlS (a :: r) (b :: t) c := by
  induction h with
  | nil => exact AlS.same (r := []) (t := []) hab .nil
  | same k _ ih => exact AlS.same k ih
  | repl _ ih => exact AlS.repl ih
  | ins _ ih => exact AlS.ins ih
  | del _ ih => exact AlS.del ih
theorem AlS.crepl {a b : Nat} {r t : List Nat} {c : Nat} (h : AlS r t c) : AlS (a :: r) (b :: t) (c + 1) := by
  induction h with
  | nil => exact AlS.repl (r := []) (t := []) .nil
  | same k _ ih => exact AlS.same k ih
  | repl _ ih => exact AlS.repl ih
  | ins _ ih => exact AlS.ins ih
  | del _ ih => exact AlS.del ih
theorem AlS.cins {a : Nat} {r t : List Nat} {c : Nat} (h : AlS r t c) : AlS (a :: r) t (c + 1) := by
  induction h with
  | nil => exact AlS.ins (r := []) (t := []) .nil
  | same k _ ih => exact AlS.same k ih
  | repl _ ih => exact AlS.repl ih
  | ins _ ih => exact AlS.ins ih
  | del _ ih => exact AlS.del ih
theorem AlS.cdel {b : Nat} {r t : List Nat} {c : Nat} (h : AlS r t c) : AlS r (b :: t) (c + 1) := by
  induction h with
  | nil => exact AlS.del (r := []) (t := []) .nil
  | same k _ ih => exact AlS.same k ih
  | repl _ ih => exact AlS.repl ih
  | ins _ ih => exact AlS.ins ih
  | del _ ih => exact AlS.del ih
theorem Al.toS {r t : List Nat} {c : Nat} (h : Al r t c) : AlS r t c := by
  induction h with
  | nil => exact .nil
  | same k _ ih => exact ih.csame k
  | repl _ ih => exact ih.crepl
  | ins _ ih => exact ih.cins
  | del _ ih => exact ih.cdel
theorem snoc_ex {l : List Nat} (h : l ≠ []) : ∃ m x, l = m ++ [x] := ⟨l.dropLast, l.getLast h, (List.dropLast_concat_getLast h).symm⟩
theorem colT_z (r t : List Nat) : colT r 0 t 0 = 0 := by
  suffices h : ∀ n (t : List Nat), t.length = n → colT r 0 t 0 = 0 from h t.length t rfl
  intro n
  induction n with
  | zero =>
    intro t ht
    obtain rfl := List.length_eq_zero_iff.mp ht
    rfl
  | succ n ih =>
    intro t ht
    obtain ⟨m, x, rfl⟩ := snoc_ex (l := t) (fun z => by rw [z] at ht; cases ht)
    rw [colT_snoc]
    show colT r 0 m 0 + 0 = 0
    rw [ih m (by rw [List.length_append, List.length_singleton] at ht; omega)]
    rfl
theorem colT_up (r t : List Nat) (i : Nat) : colT r 0 t (i + 1) ≤ colT r 0 t i + 1 := by
  by_cases h : t = []
  · subst h
    show ((i + 1 : Nat) : Int) ≤ ((i : Nat) : Int) + 1
    omega
  · obtain ⟨m, x, rfl⟩ := snoc_ex h
    rw [colT_snoc]
    show min _ (min _ (stepf 0 _ _ i + 1)) ≤ stepf 0 _ _ i + 1
    omega
theorem colT_del (r t : List Nat) (b i : Nat) : colT r 0 (t ++ [b]) i ≤ colT r 0 t i + 1 := by
  rw [colT_snoc]
  cases i with
  | zero =>
    show colT r 0 t 0 + 0 ≤ _
    omega
  | succ i =>
    show min _ (min (colT r 0 t (i + 1) + 1) _) ≤ _
    omega
theorem take_snoc {r r' : List Nat} {a i : Nat} (h : r' ++ [a] = r.take i) (hi : i ≤ r.length) : ∃ j, i = j + 1 ∧ r' = r.take j ∧ r.getD j 0 = a ∧ j < r.length := by
  have hl := congrArg List.length h
  rw [List.length_append, List.length_singleton, List.length_take] at hl
  have hj : r'.length < r.length := by omega
  have e : i = r'.length + 1 := by omega
  refine ⟨r'.length, e, ?_, ?_, hj⟩
  · have := congrArg (List.take r'.length) h
    rw [List.take_left, List.take_take, Nat.min_eq_left (by omega)] at this
    exact this
  · have h2 : (r' ++ [a])[r'.length]? = (r.take i)[r'.length]? := by rw [h]
    rw [List.getElem?_append_right (Nat.le_refl _), Nat.sub_self, List.getElem?_take, if_pos (by omega)] at h2
    rw [List.getD_eq_getElem?_getD, ← h2]
    rfl
theorem colT_le {r : List Nat} : ∀ {r1 v : List Nat} {c : Nat}, AlS r1 v c → ∀ (u : List Nat) (i : Nat), r1 = r.take i → i ≤ r.length → colT r 0 (u ++ v) i ≤ (c : Int) := by
  intro r1 v c h
  induction h with
  | nil =>
    intro u i e hi
    have := congrArg List.length e
    rw [List.length_take] at this
    have e0 : i = 0 := by
      have h2 : ([] : List Nat).length = 0 := rfl
      omega
    rw [e0, colT_z]
    exact Int.le_refl _
  | same k _ ih =>
    intro u i e hi
    obtain ⟨j, rfl, e2, ha, hj⟩ := take_snoc e hi
    have h1 := ih u j e2 (by omega)
    rw [← List.append_assoc, colT_snoc]
    show min (colT r 0 _ j + 1 - if agB (r.getD j 0) _ = true then 1 else 0) _ ≤ _
    rw [ha, if_pos k]
    omega
  | repl _ ih =>
    intro u i e hi
    obtain ⟨j, rfl, e2, ha, hj⟩ := take_snoc e hi
    have h1 := ih u j e2 (by omega)
    rw [← List.append_assoc, colT_snoc]
    show min (colT r 0 _ j + 1 - if agB (r.getD j 0) _ = true then 1 else 0) _ ≤ _
    split <;> omega
  | @ins a' r' t' c' _ ih =>
    intro u i e hi
    obtain ⟨j, rfl, e2, ha, hj⟩ := take_snoc e hi
    have h1 := ih u j e2 (by omega)
    have h2 := colT_up r (u ++ t') j
    omega
  | @del b' r' t' c' _ ih =>
    intro u i e hi
    have h1 := ih u i e hi
    rw [← List.append_assoc]
    have h2 := colT_del r (u ++ t') b' i
    omega
/-- an alignment that is as good as the column says -/
theorem colT_ex (r : List Nat) : ∀ (t : List Nat) (i : Nat), i ≤ r.length → ∃ u v c, t = u ++ v ∧ Al (r.take i) v c ∧ (c : Int) = colT r 0 t i := by
  have base : ∀ l : List Nat, Al l [] l.length := fun l => by
    induction l with
    | nil => exact .nil
    | cons a l ih => exact .ins ih
  intro t
  suffices h : ∀ n (t : List Nat), t.length = n → ∀ i, i ≤ r.length → ∃ u v c, t = u ++ v ∧ Al (r.take i) v c ∧ (c : Int) = colT r 0 t i from h t.length t rfl
  intro n
  induction n with
  | zero =>
    intro t ht i hi
    obtain rfl := List.length_eq_zero_iff.mp ht
    refine ⟨[], [], (r.take i).length, rfl, base _, ?_⟩
    rw [List.length_take, Nat.min_eq_left hi]
    rfl
  | succ n ih =>
    intro t ht
    obtain ⟨m, x, rfl⟩ := snoc_ex (l := t) (fun z => by rw [z] at ht; cases ht)
    have hm : m.length = n := by
      rw [List.length_append, List.length_singleton] at ht
      omega
    intro i
    induction i with
    | zero =>
      intro _
      exact ⟨m ++ [x], [], 0, (List.append_nil _).symm, .nil, (colT_z r _).symm⟩
    | succ i ihi =>
      intro hi
      have htk : r.take (i + 1) = r.take i ++ [r.getD i 0] := by
        have hlt : i < r.length := hi
        rw [List.take_add_one, List.getElem?_eq_getElem hlt, List.getD_eq_getElem?_getD, List.getElem?_eq_getElem hlt]
        rfl
      obtain ⟨u1, v1, c1, e1, h1, k1⟩ := ih m hm i (by omega)
      obtain ⟨u2, v2, c2, e2, h2, k2⟩ := ih m hm (i + 1) hi
      obtain ⟨u3, v3, c3, e3, h3, k3⟩ := ihi (by omega)
      have one1 : ∀ a b : Nat, Al [a] [b] (if agB a b = true then 0 else 1) := fun a b => by
        split
        · exact .same ‹_› .nil
        · exact .repl .nil
      have key : colT r 0 (m ++ [x]) (i + 1) = min (colT r 0 m i + 1 - if agB (r.getD i 0) x = true then 1 else 0) (min (colT r 0 m (i + 1) + 1) (colT r 0 (m ++ [x]) i + 1)) := by
        rw [colT_snoc]
        rfl
      rw [key]
      by_cases a1 : colT r 0 m i + 1 - (if agB (r.getD i 0) x = true then 1 else 0) ≤ min (colT r 0 m (i + 1) + 1) (colT r 0 (m ++ [x]) i + 1)
      · refine ⟨u1, v1 ++ [x], c1 + (if agB (r.getD i 0) x = true then 0 else 1), by rw [e1, List.append_assoc], by rw [htk]; exact h1.app (one1 _ _), ?_⟩
        rw [Int.min_eq_left a1, ← k1]
        split <;> omega
      · rw [Int.min_eq_right (by omega)]
        by_cases a2 : colT r 0 m (i + 1) + 1 ≤ colT r 0 (m ++ [x]) i + 1
        · refine ⟨u2, v2 ++ [x], c2 + 1, by rw [e2, List.append_assoc], ?_, by rw [Int.min_eq_left a2, ← k2]; rfl⟩
          have := h2.app (Al.del (b := x) .nil)
          rw [List.append_nil] at this
          exact this
        · refine ⟨u3, v3, c3 + 1, e3, ?_, by rw [Int.min_eq_right (by omega), ← k3]; rfl⟩
          rw [htk]
          have := h3.app (Al.ins (a := r.getD i 0) .nil)
          rw [List.append_nil] at this
          exact this
/-! ### a hit lies in the window of a part that lies whole -/
theorem colT_longer (r a b : List Nat) (i : Nat) (hi : i ≤ r.length) : colT r 0 (a ++ b) i ≤ colT r 0 b i := by
  obtain ⟨u, v, c, rfl, hA, e⟩ := colT_ex r b i hi
  rw [← e, ← List.append_assoc]
  exact colT_le hA.toS (a ++ u) i rfl hi
theorem win {r t : List Nat} {ps : List (List Nat)} (hps : ps.flatten = r) {k e : Nat} (hk : k < ps.length) (he : e ≤ t.length) (hc : colT r 0 (t.take e) r.length ≤ (k : Int)) :
    ∃ (j : Nat) (p : List Nat) (P s : Nat), ps[j]? = some p ∧ 78 ∉ p ∧ (t.drop P).take p.length = p ∧ P + p.length ≤ e ∧ s ≤ e ∧ P ≤ s + (ps.take j).flatten.length + k ∧ e + (ps.take j).flatten.length ≤ P + r.length + k ∧
      ∀ lo, lo ≤ s → colT r 0 ((t.take e).drop lo) r.length = colT r 0 (t.take e) r.length := by
  obtain ⟨u, v, c, et, hA, hcc⟩ := colT_ex r (t.take e) r.length (Nat.le_refl _)
  rw [List.take_length] at hA
  have hA0 := hA
  rw [← hps] at hA
  obtain ⟨j, p, u', v', c1, c2, hj, hv, hn, hu1, hv1, hcs⟩ := Al.part ps hA (by omega)
  have l1 := hu1.lens
  have l2 := hv1.lens
  have hr : r.length = (ps.take j).flatten.length + p.length + (ps.drop (j + 1)).flatten.length := by
    have hjl := (List.getElem?_eq_some_iff.mp hj)
    obtain ⟨hlt, hpe⟩ := hjl
    have e1 : ps = ps.take j ++ p :: ps.drop (j + 1) := by
      rw [← hpe, ← List.drop_eq_getElem_cons hlt, List.take_append_drop]
    have e2 := congrArg (fun l => l.flatten.length) e1
    rw [List.flatten_append, List.flatten_cons, List.length_append, List.length_append, hps] at e2
    omega
  have hel : e = u.length + (u'.length + p.length + v'.length) := by
    have := congrArg List.length et
    rw [List.length_take, List.length_append, hv, List.length_append, List.length_append] at this
    omega
  refine ⟨j, p, u.length + u'.length, u.length, hj, hn, ?_, by omega, by omega, by omega, by omega, fun lo hlo => ?_⟩
  · have e3 : t = (u ++ u') ++ (p ++ (v' ++ t.drop e)) := by
      have := List.take_append_drop e t
      rw [et, hv] at this
      simp only [List.append_assoc] at this ⊢
      exact this.symm
    have e4 : t.drop (u.length + u'.length) = p ++ (v' ++ t.drop e) := by
      have h := List.drop_left (l₁ := u ++ u') (l₂ := p ++ (v' ++ t.drop e))
      rw [← e3, List.length_append] at h
      exact h
    rw [e4, List.take_left]
  · have a1 : colT r 0 (t.take e) r.length ≤ colT r 0 ((t.take e).drop lo) r.length := by
      have := colT_longer r ((t.take e).take lo) ((t.take e).drop lo) r.length (Nat.le_refl _)
      rw [List.take_append_drop] at this
      exact this
    have a2 : colT r 0 ((t.take e).drop lo) r.length ≤ colT r 0 (t.take e) r.length := by
      rw [← hcc, et]
      have e5 : (u ++ v).drop lo = u.drop lo ++ v := List.drop_append_of_le_length hlo
      rw [e5]
      exact colT_le hA0.toS (u.drop lo) r.length (List.take_length).symm (Nat.le_refl _)
    omega
/-! ### windows that are joined; hits in order -/
theorem sorted_ext {α : Type} : ∀ {l1 l2 : List (Nat × α)}, l1.Pairwise (fun x y => x.1 < y.1) → l2.Pairwise (fun x y => x.1 < y.1) → (∀ x, x ∈ l1 ↔ x ∈ l2) → l1 = l2
  | [], [], _, _, _ => rfl
  | [], y :: _, _, _, h => absurd ((h y).mpr List.mem_cons_self) List.not_mem_nil
  | x :: _, [], _, _, h => absurd ((h x).mp List.mem_cons_self) List.not_mem_nil
  | x :: l1, y :: l2, p1, p2, h => by
    obtain ⟨q1, t1⟩ := List.pairwise_cons.mp p1
    obtain ⟨q2, t2⟩ := List.pairwise_cons.mp p2
    have e : x = y := by
      rcases List.mem_cons.mp ((h x).mp List.mem_cons_self) with z | z
      · exact z
      · rcases List.mem_cons.mp ((h y).mpr List.mem_cons_self) with w | w
        · exact w.symm
        · have a1 := q2 x z
          have a2 := q1 y w
          omega
    subst e
    have ht : l1 = l2 := sorted_ext t1 t2 fun z => by
      constructor
      · intro hz
        rcases List.mem_cons.mp ((h z).mp (List.mem_cons_of_mem _ hz)) with w | w
        · have := q1 z hz
          rw [w] at this
          omega
        · exact w
      · intro hz
        rcases List.mem_cons.mp ((h z).mpr (List.mem_cons_of_mem _ hz)) with w | w
        · have := q2 z hz
          rw [w] at this
          omega
        · exact w
    rw [ht]
abbrev Wn := Nat × Nat
/-- one more window, that begins and ends no earlier than those before it -/
def wjoin (acc : List Wn) (w : Wn) : List Wn := match acc.getLast? with
  | some l => if w.1 ≤ l.2 then acc.dropLast ++ [(l.1, w.2)] else acc ++ [w]
  | none => [w]
structure WJ (ws acc : List Wn) : Prop where
  apart : acc.Pairwise fun a b => a.2 < b.1
  up : ∀ a ∈ acc, a.1 ≤ a.2
  cover : ∀ w ∈ ws, ∃ a ∈ acc, a.1 ≤ w.1 ∧ w.2 ≤ a.2
  last : ∀ l, acc.getLast? = some l → ∃ w ∈ ws, w.2 = l.2
  nil : ws = [] → acc = []
  ends : ∀ a ∈ acc, (∃ w ∈ ws, w.1 = a.1) ∧ ∃ w ∈ ws, w.2 = a.2
theorem WJ.snoc {ws acc : List Wn} {w : Wn} (h : WJ ws acc) (hw : w.1 ≤ w.2) (hs : ∀ v ∈ ws, v.1 ≤ w.1 ∧ v.2 ≤ w.2) : WJ (ws ++ [w]) (wjoin acc w) := by
  have mw : w ∈ ws ++ [w] := List.mem_append_right _ (List.mem_singleton.mpr rfl)
  have ml : ∀ {v}, v ∈ ws → v ∈ ws ++ [w] := fun z => List.mem_append_left _ z
  by_cases hn : acc = []
  · subst hn
    have e : wjoin [] w = [w] := rfl
    rw [e]
    refine ⟨List.pairwise_singleton _ _, fun a ha => by rw [List.mem_singleton.mp ha]; exact hw, fun v hv => ?_, fun l hl => ⟨w, mw, by
      have : w = l := by simpa using hl
      rw [this]⟩, fun z => absurd z (by simp), fun a ha => by rw [List.mem_singleton.mp ha]; exact ⟨⟨w, mw, rfl⟩, w, mw, rfl⟩⟩
    rcases List.mem_append.mp hv with z | z
    · obtain ⟨a, ha, _⟩ := h.cover v z
      cases ha
    · exact ⟨w, List.mem_singleton.mpr rfl, by rw [List.mem_singleton.mp z]; exact ⟨Nat.le_refl _, Nat.le_refl _⟩⟩
  · obtain ⟨m, l, rfl⟩ : ∃ m l, acc = m ++ [l] := ⟨acc.dropLast, acc.getLast hn, (List.dropLast_concat_getLast hn).symm⟩
    have hlast : (m ++ [l]).getLast? = some l := by simp
    have hdrop : (m ++ [l]).dropLast = m := by simp
    have hap := List.pairwise_append.mp h.apart
    obtain ⟨wl, hwl, ewl⟩ := h.last l hlast
    have hl2 : l.2 ≤ w.2 := by rw [← ewl]; exact (hs wl hwl).2
    have hlm : l ∈ m ++ [l] := List.mem_append_right _ (List.mem_singleton.mpr rfl)
    have hl1 : l.1 ≤ w.1 := by
      obtain ⟨⟨v, hv, e⟩, _⟩ := h.ends l hlm
      rw [← e]
      exact (hs v hv).1
    unfold wjoin
    rw [hlast]
    dsimp only
    split
    · rw [hdrop]
      refine ⟨List.pairwise_append.mpr ⟨hap.1, List.pairwise_singleton _ _, fun a ha b hb => by rw [List.mem_singleton.mp hb]; exact hap.2.2 a ha l (List.mem_singleton.mpr rfl)⟩, fun a ha => ?_, fun v hv => ?_, fun l' hl' => ?_, fun z => absurd z (by simp), fun a ha => ?_⟩
      · rcases List.mem_append.mp ha with z | z
        · exact h.up a (List.mem_append_left _ z)
        · rw [List.mem_singleton.mp z]
          show l.1 ≤ w.2
          omega
      · have top : ∀ x y : Nat, l.1 ≤ x → y ≤ w.2 → ∃ a ∈ m ++ [(l.1, w.2)], a.1 ≤ x ∧ y ≤ a.2 := fun x y h1 h2 => ⟨(l.1, w.2), List.mem_append_right _ (List.mem_singleton.mpr rfl), h1, h2⟩
        rcases List.mem_append.mp hv with z | z
        · obtain ⟨a, ha, h1, h2⟩ := h.cover v z
          rcases List.mem_append.mp ha with y | y
          · exact ⟨a, List.mem_append_left _ y, h1, h2⟩
          · rw [List.mem_singleton.mp y] at h1 h2
            exact top _ _ h1 (by omega)
        · rw [List.mem_singleton.mp z]
          exact top _ _ hl1 (Nat.le_refl _)
      · have : l' = (l.1, w.2) := by simpa using hl'.symm
        exact ⟨w, mw, by rw [this]⟩
      · rcases List.mem_append.mp ha with z | z
        · obtain ⟨⟨v, hv, e1⟩, v2, hv2, e2⟩ := h.ends a (List.mem_append_left _ z)
          exact ⟨⟨v, ml hv, e1⟩, v2, ml hv2, e2⟩
        · rw [List.mem_singleton.mp z]
          obtain ⟨⟨v, hv, e1⟩, _⟩ := h.ends l hlm
          exact ⟨⟨v, ml hv, e1⟩, w, mw, rfl⟩
    · refine ⟨List.pairwise_append.mpr ⟨h.apart, List.pairwise_singleton _ _, fun a ha b hb => ?_⟩, fun a ha => ?_, fun v hv => ?_, fun l' hl' => ?_, fun z => absurd z (by simp), fun a ha => ?_⟩
      · rw [List.mem_singleton.mp hb]
        rcases List.mem_append.mp ha with z | z
        · have a1 := hap.2.2 a z l (List.mem_singleton.mpr rfl)
          have a2 := h.up l hlm
          omega
        · rw [List.mem_singleton.mp z]
          omega
      · rcases List.mem_append.mp ha with z | z
        · exact h.up a z
        · rw [List.mem_singleton.mp z]
          exact hw
      · rcases List.mem_append.mp hv with z | z
        · obtain ⟨a, ha, k⟩ := h.cover v z
          exact ⟨a, List.mem_append_left _ ha, k⟩
        · exact ⟨w, List.mem_append_right _ (List.mem_singleton.mpr rfl), by rw [List.mem_singleton.mp z]; exact ⟨Nat.le_refl _, Nat.le_refl _⟩⟩
      · have : l' = w := by simpa using hl'.symm
        exact ⟨w, mw, by rw [this]⟩
      · rcases List.mem_append.mp ha with z | z
        · obtain ⟨⟨v, hv, e1⟩, v2, hv2, e2⟩ := h.ends a z
          exact ⟨⟨v, ml hv, e1⟩, v2, ml hv2, e2⟩
        · rw [List.mem_singleton.mp z]
          exact ⟨⟨w, mw, rfl⟩, w, mw, rfl⟩
/-! ### the hits within the joined windows are the hits of the text -/
def hitsIn (r t : List Nat) (k : Int) (w : Wn) : List (Nat × Int) := (endsTo r ((t.drop w.1).take (w.2 - w.1)) k (w.2 - w.1)).map fun p => (w.1 + p.1, p.2)
theorem mem_ends {r t : List Nat} {k : Int} {j e : Nat} {v : Int} : (e, v) ∈ endsTo r t k j ↔ e ≤ j ∧ v = colT r 0 (t.take e) r.length ∧ v ≤ k := by
  unfold endsTo
  rw [List.mem_filter, List.mem_map]
  constructor
  · rintro ⟨⟨x, hx, e1⟩, h⟩
    obtain ⟨rfl, rfl⟩ := Prod.mk.inj e1
    exact ⟨by have := List.mem_range.mp hx; omega, rfl, of_decide_eq_true h⟩
  · rintro ⟨h1, rfl, h2⟩
    exact ⟨⟨e, List.mem_range.mpr (by omega), rfl⟩, decide_eq_true h2⟩
theorem ends_asc (r t : List Nat) (k : Int) (j : Nat) : (endsTo r t k j).Pairwise fun x y => x.1 < y.1 := by
  unfold endsTo
  refine List.Pairwise.filter _ ?_
  rw [List.pairwise_map]
  exact List.pairwise_lt_range
theorem cut_take (t : List Nat) (a b x : Nat) (h : x ≤ b - a) : ((t.drop a).take (b - a)).take x = (t.take (a + x)).drop a := by
  rw [List.take_take, Nat.min_eq_left h, List.drop_take, Nat.add_sub_cancel_left]
theorem mem_hitsIn {r t : List Nat} {k : Int} {w : Wn} {e : Nat} {v : Int} (hw : w.1 ≤ w.2) : (e, v) ∈ hitsIn r t k w ↔ w.1 ≤ e ∧ e ≤ w.2 ∧ v = colT r 0 ((t.take e).drop w.1) r.length ∧ v ≤ k := by
  unfold hitsIn
  rw [List.mem_map]
  constructor
  · rintro ⟨⟨x, v'⟩, hx, e1⟩
    obtain ⟨rfl, rfl⟩ := Prod.mk.inj e1
    obtain ⟨h1, h2, h3⟩ := mem_ends.mp hx
    refine ⟨by omega, ?_, ?_, h3⟩
    · show w.1 + x ≤ w.2
      omega
    · rw [cut_take t w.1 w.2 x h1] at h2
      exact h2
  · rintro ⟨h1, h2, h3, h4⟩
    refine ⟨(e - w.1, v), mem_ends.mpr ⟨by omega, ?_, h4⟩, ?_⟩
    · rw [cut_take t w.1 w.2 (e - w.1) (by omega), show w.1 + (e - w.1) = e by omega]
      exact h3
    · show (w.1 + (e - w.1), v) = (e, v)
      rw [show w.1 + (e - w.1) = e by omega]
theorem hits_joined {r t : List Nat} {ps : List (List Nat)} (hps : ps.flatten = r) {k : Nat} (hk : k < ps.length) {acc : List Wn} (apart : acc.Pairwise fun a b => a.2 < b.1) (up : ∀ a ∈ acc, a.1 ≤ a.2) (top : ∀ a ∈ acc, a.2 ≤ t.length)
    (cov : ∀ (j : Nat) (p : List Nat) (P : Nat), ps[j]? = some p → 78 ∉ p → (t.drop P).take p.length = p → P + p.length ≤ t.length → ∃ a ∈ acc, (a.1 = 0 ∨ a.1 + (ps.take j).flatten.length + k ≤ P) ∧ (t.length ≤ a.2 ∨ P + r.length + k ≤ a.2 + (ps.take j).flatten.length)) :
    acc.flatMap (hitsIn r t k) = endsTo r t k t.length := by
  refine sorted_ext ?_ (ends_asc ..) fun ⟨e, v⟩ => ?_
  · have gen : ∀ l : List Wn, l.Pairwise (fun a b => a.2 < b.1) → (∀ a ∈ l, a.1 ≤ a.2) → (l.flatMap (hitsIn r t k)).Pairwise fun x y => x.1 < y.1 := by
      intro l
      induction l with
      | nil => exact fun _ _ => .nil
      | cons w l ih =>
        intro hp hu
        obtain ⟨h1, h2⟩ := List.pairwise_cons.mp hp
        rw [List.flatMap_cons, List.pairwise_append]
        refine ⟨?_, ih h2 fun a ha => hu a (List.mem_cons_of_mem _ ha), fun x hx y hy => ?_⟩
        · unfold hitsIn
          rw [List.pairwise_map]
          exact (ends_asc ..).imp fun h => by
            dsimp only
            omega
        · obtain ⟨w2, hw2, hy⟩ := List.mem_flatMap.mp hy
          have a1 := (mem_hitsIn (e := x.1) (v := x.2) (hu w List.mem_cons_self)).mp hx
          have a2 := (mem_hitsIn (e := y.1) (v := y.2) (hu w2 (List.mem_cons_of_mem _ hw2))).mp hy
          have a3 := h1 w2 hw2
          omega
    exact gen acc apart up
  · rw [List.mem_flatMap, mem_ends]
    have same : ∀ a ∈ acc, ∀ b ∈ acc, ∀ e : Nat, a.1 ≤ e → e ≤ a.2 → b.1 ≤ e → e ≤ b.2 → a = b := by
      intro a ha b hb e h1 h2 h3 h4
      obtain ⟨i, hi, rfl⟩ := List.mem_iff_getElem.mp ha
      obtain ⟨j, hj, rfl⟩ := List.mem_iff_getElem.mp hb
      have hpw := List.pairwise_iff_getElem.mp apart
      rcases Nat.lt_trichotomy i j with z | z | z
      · have := hpw i j hi hj z
        omega
      · subst z
        rfl
      · have := hpw j i hj hi z
        omega
    have inw : e ≤ t.length → colT r 0 (t.take e) r.length ≤ (k : Int) → ∃ a ∈ acc, a.1 ≤ e ∧ e ≤ a.2 ∧ colT r 0 ((t.take e).drop a.1) r.length = colT r 0 (t.take e) r.length := fun he hc => by
      obtain ⟨j, p, P, s, hj, hn, hp, hPe, hse, hs1, hs2, hlo⟩ := win hps hk he hc
      obtain ⟨a, ha, c1, c2⟩ := cov j p P hj hn hp (by omega)
      exact ⟨a, ha, by omega, by omega, hlo a.1 (by omega)⟩
    constructor
    · rintro ⟨w, hw, hx⟩
      obtain ⟨h1, h2, h3, h4⟩ := (mem_hitsIn (up w hw)).mp hx
      have he : e ≤ t.length := Nat.le_trans h2 (top w hw)
      have hle : colT r 0 (t.take e) r.length ≤ colT r 0 ((t.take e).drop w.1) r.length := by
        have := colT_longer r ((t.take e).take w.1) ((t.take e).drop w.1) r.length (Nat.le_refl _)
        rw [List.take_append_drop] at this
        exact this
      obtain ⟨a, ha, g1, g2, g3⟩ := inw he (by omega)
      obtain rfl := same a ha w hw e g1 g2 h1 h2
      exact ⟨he, by rw [h3, g3], h4⟩
    · rintro ⟨he, rfl, hv⟩
      obtain ⟨a, ha, g1, g2, g3⟩ := inw he hv
      exact ⟨a, ha, (mem_hitsIn (up a ha)).mpr ⟨g1, g2, g3.symm, hv⟩⟩
/-! ### the pieces that are looked up -/
theorem T_pos {l : List Nat} (h : 1 ≤ l.length) : l ≠ [] := fun z => by
  rw [z] at h
  exact absurd h (by decide)
def kP (l : List Nat) : Key := .inr (T l)
theorem kP_inj : ∀ a b, kP a = kP b → a = b := fun a b h => T_inj (Sum.inr.inj h)
def kN (n : Nat) : Key := .inl (n : Int)
theorem kN_inj : ∀ a b, kN a = kN b → a = b := fun a b h => by
  have := Sum.inl.inj h
  omega
/-- the pieces without N, with their offsets -/
def knw (l : List Nat) (k i : Nat) : List (Nat × List Nat) := ((pcsOf l k).take i).filter fun r => decide (78 ∉ r.2)
def NKn : List Str := ["read", "k", "offsets", "offset", "part"]
theorem scKnown : FnScope NKn ["read", "k"] (defScope sKnown) := ⟨rfl, rfl, rfl, by decide +kernel, rfl, by decide +kernel, by decide +kernel⟩
theorem scLenOf : FnScope ["index", "reference"] ["index", "reference"] (defScope sLenOf) := ⟨rfl, rfl, rfl, by decide +kernel, rfl, by decide +kernel, by decide +kernel⟩
theorem scEmptyP : FnScope ["read", "k"] ["read", "k"] (defScope sEmptyP) := ⟨rfl, rfl, rfl, by decide +kernel, rfl, by decide +kernel, by decide +kernel⟩
theorem pcs_len (l : List Nat) (k : Nat) : (pcsOf l k).length = k + 1 := by
  unfold pcsOf
  rw [List.length_map, List.length_range]
theorem knw_succ {l : List Nat} {k i : Nat} {r : Nat × List Nat} (h : (pcsOf l k)[i]? = some r) : knw l k (i + 1) = if 78 ∈ r.2 then knw l k i else knw l k i ++ [r] := by
  unfold knw
  rw [List.take_add_one, h, Option.toList_some, List.filter_append]
  by_cases c : 78 ∈ r.2
  · rw [if_pos c]
    simp [List.filter, c]
  · rw [if_neg c]
    simp [List.filter, c]
theorem knw_len (l : List Nat) (k i : Nat) : (knw l k i).length ≤ i := by
  unfold knw
  refine Nat.le_trans (List.length_filter_le _ _) ?_
  rw [List.length_take]
  omega
theorem tups_at {α : Type} {l : List α} {i : Nat} {x : α} (h : l[i]? = some x) : i < l.length := (List.getElem?_eq_some_iff.mp h).1
section
variable {P : Program} {w : World} {K : PySem.W.Frag} {mg : Str → Option Value} {base : Heap}
def spLenOf (C : Addr) : Sp := fun vs H Q _ => ∃ (x : Addr) (rs : List Rf) (b s r : Nat), vs = [.ref x, .int (r : Int)] ∧ Ixd C H x rs b s ∧ IxOk rs b s ∧ r < rs.length ∧ Q (.int ((txt rs r).length : Nat)) H
theorem txt_le {rs : List Rf} {r : Nat} (h : r < rs.length) : (txt rs r).length < jl rs := by
  have h1 := bg_succ h
  have h2 := bg_mono (rs := rs) (show r + 1 ≤ rs.length by omega) (Nat.le_refl _)
  rw [bg_all, jn_len] at h2
  omega
theorem ref_at {H : Hp} {rs : List Rf} {xs : List V} (h : Tups H xs rs) {r : Nat} (hr : r < rs.length) : ∃ q, xs[r]? = some (.ref q) ∧ H q = some (.tup [.str (T (rs.getD r ([], [])).1), .str (T (txt rs r))]) := by
  have hx : r < xs.length := by rw [paired_len h]; exact hr
  obtain ⟨p, hp, q, hq, e⟩ := paired_get h (List.getElem?_eq_getElem hx)
  rw [List.getElem?_eq_getElem hr] at hp
  obtain rfl := Option.some.inj hp
  refine ⟨q, by rw [List.getElem?_eq_getElem hx, hq], ?_⟩
  have ht : txt rs r = rs[r].2 := by
    have := txt_at hr
    rw [List.getElem?_map, List.getElem?_eq_getElem hr] at this
    exact (Option.some.inj this).symm
  rw [ht, List.getD_eq_getElem?_getD, List.getElem?_eq_getElem hr]
  exact e
theorem ok_lenof {f C : Addr} {fd : FuncData} {m : Nat} (F : Fun K "_length_of" "_length_of" sLenOf f fd) (X : IxT K mg C) (mlen : mg "len" = none) : FnOk P w K mg base CX0 (m + 1) f fd ["index", "reference"] (spLenOf C) := by
  refine F.ok scLenOf (fun vs H Q E h => ?_) (fun cdv A outer s H vs Q E hr h => ?_)
  · obtain ⟨x, rs, b, s, r, rfl, _⟩ := h
    rfl
  · obtain ⟨x, rs, b, s, r, rfl, hI, hk, hr', q⟩ := h
    refine ⟨_, pss_one (ps_ret (pe_callB call_len_str (by rfl) mlen PySem.boot_len (pa_cons (pe_ix ix_tup (pe_ix ix_list (pe_fld (pv 0) rfl) (pv 1) (fun _ _ => rfl)) pe_int (fun _ _ => rfl)) pa_nil))), ?_⟩
    obtain ⟨dx, aR, xs, aL, aM, aC, cs, aS, aB, I⟩ := id hI
    obtain ⟨z, hz, e⟩ := ref_at I.tu hr'
    have hlt := txt_le hr'
    refine ⟨.ref x, rfl, x, C, dx, _, _, rfl, I.ob, X.cl, X.n1, ixl (i := 0) rfl (by decide +kernel), _, rfl, aR, _, _, _, rfl, rfl, .inl (.inl I.rf), atI_nat hz, z, _, 1, .str (T (txt rs r)), rfl, rfl, .inl (.inl e), atI_nat (j := 1) rfl, T (txt rs r), rfl, line_ok (by rw [T_len]; have := hk.2.2.1; omega), ?_⟩
    rw [T_len]
    exact q
def spEmptyP : Sp := fun vs H Q _ => ∃ (l : List Nat) (k : Nat), vs = [.str (T l), .int (k : Int)] ∧ l.length ≤ 100000 ∧ Q (.bl (decide (l.length ≤ k))) H
theorem ok_emptyp {f : Addr} {fd : FuncData} {m : Nat} (F : Fun K "_has_empty_part" "_has_empty_part" sEmptyP f fd) (mlen : mg "len" = none) : FnOk P w K mg base CX0 (m + 1) f fd ["read", "k"] spEmptyP := by
  refine F.ok scEmptyP (fun vs H Q E h => ?_) (fun cdv A outer s H vs Q E hr h => ?_)
  · obtain ⟨l, k, rfl, _⟩ := h
    rfl
  · obtain ⟨l, k, rfl, hl, q⟩ := h
    refine ⟨_, pss_one (ps_ret (pe_cmpR op_le (pe_callB call_len_str (by rfl) mlen PySem.boot_len (pa_cons (pv 0) pa_nil)) (pv 1) (nomark _))), ?_⟩
    refine ⟨.str (T l), rfl, T l, rfl, line_ok (by rw [T_len]; exact hl), .int k, rfl, _, _, rfl, rfl, ?_⟩
    show Q (.bl (decide (((T l).length : Int) ≤ (k : Int)))) H
    rw [T_len, show decide ((l.length : Int) ≤ (k : Int)) = decide (l.length ≤ k) from decide_eq_decide.mpr (by omega)]
    exact q
def spKnown : Sp := fun vs H Q _ => ∃ (l : List Nat) (k : Nat), vs = [.str (T l), .int (k : Int)] ∧ l.length ≤ 100000 ∧ k ≤ 1000 ∧ ∀ (H' : Hp) (d : Addr) (ts : List (Tr (List Nat))), Same H H' → DL kP H H' d ts → (flatE (ent ts)).Perm ((knw l k (k + 1)).map fun r => (r.2, (r.1 : Int))) → (∀ e ∈ ent ts, ∃ r ∈ knw l k (k + 1), e.1 = r.2) → ts.length ≤ k + 1 → Q (.ref d) H'
theorem ok_known {f : Addr} {fd : FuncData} {m : Nat} (F : Fun K "_known_parts" "_known_parts" sKnown f fd) (hP : Has P w K mg base (m + 1) "pieces" ["read", "k"] spPcs) : FnOk P w K mg base CX0 (m + 2) f fd ["read", "k"] spKnown := by
  obtain ⟨fP, dP', GP, gP, kP', bP⟩ := hP
  refine F.ok scKnown (fun vs H Q E h => ?_) (fun cdv A outer s H vs Q E hr h => ?_)
  · obtain ⟨l, k, rfl, _⟩ := h
    rfl
  · obtain ⟨l, k, rfl, hl, hk, q⟩ := h
    have hr1 : Room (m + 1) _ := hr.mono (by omega)
    refine ⟨_, pss_cons (ps_set (i := 2) scKnown.nd rfl (.inl rfl) pe_dnewK)
      (pss_cons (ps_for PassesOwn.never rfl (pi_list (pe_call GP hr1 (by rfl) gP kP' bP .nil pass0 (pa_cons (pv 0) (pa_cons (pv 1) pa_nil)))) (pg_tup rfl (pgs_cons (pg_name (i := 3) scKnown.nd rfl (.inl rfl)) (pgs_cons (pg_name (i := 4) scKnown.nd rfl (.inl rfl)) pgs_nil)))
        (pss_one (ps_if (pt_cmpR op_notIn_sign pe_str (pv 4) rfl)
          (pss_one (ps_expr (pe_bm PySem.F.plainAttrs_list PySem.F.slot_list_append PySem.F.type_list_append mt_append (pe_dsetd (pv 2) (pv 4) (pe_lst pa_nil) ⟨rfl, rfl, rfl, rfl⟩) (pa_cons (pv 3) pa_nil))))
          pss_nil)))
      (pss_one (ps_ret (pv 2)))), ?_⟩
    intro d hd
    have sd : Same H (upd H d (.dK [])) := same_upd hd
    refine ⟨.str (T l), rfl, .int k, rfl, l, k, rfl, hl, hk, fun H1 p xs s1 hp hx hxs => ?_⟩
    have hd1 := s1 _ _ (upd_same (H := H) (a := d) (o := .dK []))
    have ndp : p ≠ d := (ne_of_none (upd_same (H := H) (a := d) (o := .dK [])) hp).symm
    have hxl := paired_len hxs
    rw [pcs_len] at hxl
    refine ⟨p, rfl, ⟨_, .inl (.inl hx)⟩, ?_⟩
    refine for_list (K := K) (xs := xs) (fun i σ H' => ∃ (ts : List (Tr (List Nat))) (v3 v4 : Option V), σ = [some (.str (T l)), some (.int (k : Int)), some (.ref d), v3, v4] ∧ Same (del H1 d) H' ∧ DL kP (del H1 d) H' d ts ∧ (flatE (ent ts)).Perm ((knw l k i).map fun r => (r.2, (r.1 : Int))) ∧ (∀ e ∈ ent ts, ∃ r ∈ knw l k i, e.1 = r.2) ∧ ts.length ≤ i) ?_ ?_ ?_ ?_
    · exact ⟨[], none, none, rfl, del_same, .nil hd1 (del_none _ _), .refl _, fun e he => (List.not_mem_nil he).elim, Nat.le_refl _⟩
    · rintro i σ H' _ ⟨ts, v3, v4, rfl, s0, D, _⟩
      exact .inl (.inl (s0 _ _ (del_at hx ndp)))
    · rintro i x σ H' hi ⟨ts, v3, v4, rfl, s0, D, pm, ks, tl⟩
      obtain ⟨r, hr', qa, rfl, e⟩ := paired_get hxs hi
      have hik : i < k + 1 := by
        have := tups_at hi
        omega
      have ndq : qa ≠ d := fun z => by
        rw [z, hd1] at e
        cases e
      have eq' := s0 _ _ (del_at e ndq)
      refine ⟨qa, _, rfl, .inl (.inl eq'), rfl, _, _, rfl, _, _, rfl, rfl, ?_⟩
      refine ⟨.str (T r.2), rfl, 78, T r.2, rfl, rfl, _, rfl, ite2 (fun c => ?_) (fun c => ?_)⟩
      · have nc : 78 ∉ r.2 := by
          rw [T_list] at c
          simpa using c
        show tDSetd _ _ _ _ _ _
        refine D.setdE kP_inj s0 (line_lt (by omega)) (k := r.2) rfl rfl fun q2 l2 H2 ts2 e2 D2 m2 s2 fr2 tl2 => ?_
        have hq2 := D2.row _ m2
        obtain ⟨ts3, e3, D3⟩ := D2.put m2 [(r.1 : Int)]
        have n0 := D2.newr _ m2
        have ndq2 : q2 ≠ d := fun z => by
          have := D2.top
          rw [← z, hq2] at this
          cases this
        refine ⟨.inl ⟨rfl, _, .inl (.inl hq2)⟩, .int r.1, rfl, q2, _, _, rfl, rfl, hq2, ?_, ts3, _, _, rfl, same_new s2 n0, ?_, ?_, ?_, ?_⟩
        · have h1 := D2.len m2
          have h2 := (flat_addL (ent ts) r.2 []).length_eq
          have h3 := pm.length_eq
          have h4 := knw_len l k i
          rw [← e2, List.length_append, List.length_map] at h2
          rw [List.length_map] at h3
          refine line_lt ?_
          rw [List.length_map]
          rw [List.length_nil] at h2
          show l2.length ≤ _
          have h1' : l2.length ≤ _ := h1
          omega
        · rw [← LI_snoc]
          exact D3
        · rw [knw_succ hr', if_neg nc, e3, e2, addL_two, List.map_append]
          exact (flat_addL _ _ _).trans (pm.append_right _)
        · intro e he
          rw [knw_succ hr', if_neg nc]
          rw [e3, e2, addL_two] at he
          rcases mem_addL he with z | z
          · exact ⟨r, List.mem_append_right _ (List.mem_singleton.mpr rfl), z⟩
          · obtain ⟨r', h1, h2⟩ := ks e z
            exact ⟨r', List.mem_append_left _ h1, h2⟩
        · rw [e2, addL_two] at e3
          have e4 := congrArg List.length e3
          have h5 := addL_len (ent ts) r.2 ([] ++ [(r.1 : Int)])
          rw [ent_len] at e4 h5
          omega
      · refine ⟨ts, _, _, rfl, s0, D, ?_⟩
        have yc : 78 ∈ r.2 := by
          rw [T_list] at c
          simpa using c
        rw [knw_succ hr', if_pos yc]
        exact ⟨pm, ks, by omega⟩
    · rintro σ H' ⟨ts, v3, v4, rfl, s0, D, pm, ks, tl⟩
      rw [hxl] at pm ks tl
      exact ⟨_, rfl, q H' d ts ((same_del (sd.trans s1) hd).trans s0) (D.weak (same_del (sd.trans s1) hd)) pm ks tl⟩
end
/-! ### windows of sorted beginnings -/
theorem perm_up {a b : List Int} (h : a.Perm b) (ha : a.Pairwise (· ≤ ·)) (hb : b.Pairwise (· ≤ ·)) : a = b :=
  List.Perm.eq_of_pairwise (fun x y _ _ h1 h2 => by omega) ha hb h
def srt (bs : List Int) : List Int := bs.mergeSort fun a b => decide (a ≤ b)
theorem srt_perm (bs : List Int) : (srt bs).Perm bs := List.mergeSort_perm _ _
theorem srt_up (bs : List Int) : (srt bs).Pairwise (· ≤ ·) := by
  have h := List.pairwise_mergeSort (le := fun a b : Int => decide (a ≤ b)) (fun a b c h1 h2 => decide_eq_true (Int.le_trans (of_decide_eq_true h1) (of_decide_eq_true h2))) (fun a b => by
    rcases Int.le_total a b with z | z
    · rw [decide_eq_true z]
      rfl
    · rw [decide_eq_true (p := b ≤ a) z, Bool.or_true]) bs
  exact h.imp of_decide_eq_true
theorem srt_eq {bs cs : List Int} (h : cs.Perm bs) (hs : cs.Pairwise (· ≤ ·)) : cs = srt bs := perm_up (h.trans (srt_perm bs).symm) hs (srt_up bs)
theorem srt_same {a b : List Int} (h : a.Perm b) : srt a = srt b := srt_eq ((srt_perm a).trans h) (srt_up a)
def rawW (n L k : Nat) (b : Int) : Wn := ((max 0 (b - k)).toNat, (min (n : Int) (b + L + k)).toNat)
def winL (n L k : Nat) (bs : List Int) : List Wn := ((srt bs).map (rawW n L k)).foldl wjoin []
theorem wjoin_nil (w : Wn) : wjoin [] w = [w] := rfl
theorem wjoin_snoc (m : List Wn) (l w : Wn) : wjoin (m ++ [l]) w = if w.1 ≤ l.2 then m ++ [(l.1, w.2)] else m ++ [l] ++ [w] := by
  unfold wjoin
  rw [show (m ++ [l]).getLast? = some l by simp]
  dsimp only
  split
  · rw [show (m ++ [l]).dropLast = m by simp]
  · rfl
/-- a beginning at which the piece lies within the text -/
def BOk (n L : Nat) (b : Int) : Prop := -(L : Int) ≤ b ∧ b ≤ n
theorem raw_up {n L k : Nat} {a b : Int} (h : a ≤ b) : (rawW n L k a).1 ≤ (rawW n L k b).1 ∧ (rawW n L k a).2 ≤ (rawW n L k b).2 := by
  unfold rawW
  dsimp only
  omega
theorem raw_le {n L k : Nat} {b : Int} (h : BOk n L b) : (rawW n L k b).1 ≤ (rawW n L k b).2 := by
  obtain ⟨h1, h2⟩ := h
  unfold rawW
  dsimp only
  omega
theorem raw_fst (n L k : Nat) (b : Int) : ((rawW n L k b).1 : Int) = if 0 < b - k then b - k else 0 := by
  unfold rawW
  dsimp only
  split <;> omega
theorem raw_snd {n L k : Nat} {b : Int} (h : BOk n L b) : ((rawW n L k b).2 : Int) = if b + L + k < n then b + L + k else (n : Int) := by
  obtain ⟨h1, h2⟩ := h
  unfold rawW
  dsimp only
  split <;> omega
theorem fold_snoc (ws : List Wn) (w : Wn) : (ws ++ [w]).foldl wjoin [] = wjoin (ws.foldl wjoin []) w := by
  rw [List.foldl_append]
  rfl
theorem wj_foldN {n L k : Nat} : ∀ (m : Nat) (cs : List Int), cs.length = m → cs.Pairwise (· ≤ ·) → (∀ b ∈ cs, BOk n L b) → WJ (cs.map (rawW n L k)) ((cs.map (rawW n L k)).foldl wjoin [])
  | 0, cs, e, _, _ => by
    obtain rfl : cs = [] := List.eq_nil_of_length_eq_zero e
    exact ⟨.nil, fun a ha => (List.not_mem_nil ha).elim, fun a ha => (List.not_mem_nil ha).elim, fun l hl => (by cases hl), fun _ => rfl, fun a ha => (List.not_mem_nil ha).elim⟩
  | m + 1, cs, e, hp, hb => by
    obtain ⟨ds, c, rfl⟩ : ∃ m x, cs = m ++ [x] := ⟨cs.dropLast, cs.getLast (fun z => by rw [z] at e; cases e), (List.dropLast_concat_getLast _).symm⟩
    obtain ⟨p1, _, p2⟩ := List.pairwise_append.mp hp
    rw [List.map_append]
    show WJ (_ ++ [rawW n L k c]) ((_ ++ [rawW n L k c]).foldl wjoin [])
    rw [fold_snoc]
    refine (wj_foldN m ds (by rw [List.length_append] at e; exact Nat.succ.inj e) p1 fun b h => hb b (List.mem_append_left _ h)).snoc (raw_le (hb c (List.mem_append_right _ (List.mem_singleton.mpr rfl)))) fun v hv => ?_
    obtain ⟨b, hb', rfl⟩ := List.mem_map.mp hv
    exact raw_up (p2 b hb' c (List.mem_singleton.mpr rfl))
theorem wj_fold {n L k : Nat} (cs : List Int) (hp : cs.Pairwise (· ≤ ·)) (hb : ∀ b ∈ cs, BOk n L b) : WJ (cs.map (rawW n L k)) ((cs.map (rawW n L k)).foldl wjoin []) := wj_foldN _ cs rfl hp hb
theorem wjoin_len (a : List Wn) (w : Wn) : (wjoin a w).length ≤ a.length + 1 := by
  by_cases h : a = []
  · subst h
    exact Nat.le_refl _
  · obtain ⟨m, l, rfl⟩ : ∃ m l, a = m ++ [l] := ⟨a.dropLast, a.getLast h, (List.dropLast_concat_getLast h).symm⟩
    rw [wjoin_snoc]
    split <;> simp
theorem foldw_len : ∀ (ws a : List Wn), (ws.foldl wjoin a).length ≤ a.length + ws.length
  | [], a => Nat.le_refl _
  | w :: ws, a => by
    have h1 := foldw_len ws (wjoin a w)
    have h2 := wjoin_len a w
    show (ws.foldl wjoin (wjoin a w)).length ≤ _
    rw [List.length_cons]
    omega
theorem paired_snoc_inv {α β : Type} {F : α → β → Prop} : ∀ {xs : List α} {ys : List β} {y : β}, Paired F xs (ys ++ [y]) → ∃ zs x, xs = zs ++ [x] ∧ Paired F zs ys ∧ F x y
  | _, [], y, h => by
    cases h with
    | cons r t =>
      cases t
      exact ⟨[], _, rfl, .nil, r⟩
  | _, b :: ys, y, h => by
    cases h with
    | cons r t =>
      obtain ⟨zs, x, rfl, h1, h2⟩ := paired_snoc_inv t
      exact ⟨_ :: zs, x, rfl, .cons r h1, h2⟩
theorem paired_app {α β : Type} {F : α → β → Prop} : ∀ {a c : List α} {b d : List β}, Paired F a b → Paired F c d → Paired F (a ++ c) (b ++ d)
  | _, _, _, _, .nil, h => h
  | _, _, _, _, .cons x h, k => .cons x (paired_app h k)
def NAr : List Str := ["begins", "length", "many", "k", "found", "begin", "low", "high"]
theorem scAround : FnScope NAr ["begins", "length", "many", "k"] (defScope sAround) := ⟨rfl, rfl, rfl, by decide +kernel, rfl, by decide +kernel, by decide +kernel⟩
section
variable {P : Program} {w : World} {K : PySem.W.Frag} {mg : Str → Option Value} {base : Heap}
def spAround (K : PySem.W.Frag) : Sp := fun vs H Q _ => ∃ (a : Addr) (bs : List Int) (n L k : Nat), vs = [.ref a, .int (n : Int), .int (L : Int), .int (k : Int)] ∧ SqL K H a (bs.map V.int) ∧ bs.length ≤ 9000000 ∧ (∀ b ∈ bs, BOk n L b) ∧
  ∀ (H' : Hp) (p : Addr) (xs : List V), Same H H' → H p = none → H' p = some (.lst xs) → Plc H' xs (winL n L k bs) → Q (.ref p) H'
theorem ok_around {f : Addr} {fd : FuncData} {m : Nat} (F : Fun K "_windows_around" "_windows_around" sAround f fd) (msort : mg "sorted" = none) (mmax : mg "max" = none) (mmin : mg "min" = none) : FnOk P w K mg base CX0 (m + 1) f fd ["begins", "length", "many", "k"] (spAround K) := by
  refine F.ok scAround (fun vs H Q E h => ?_) (fun cdv A outer s H vs Q E hr h => ?_)
  · obtain ⟨a, bs, n, L, k, rfl, _⟩ := h
    rfl
  · obtain ⟨a, bs, n, L, k, rfl, hs, hbl, hb, q⟩ := h
    refine ⟨_, (pss_cons (ps_set (i := 4) scAround.nd rfl (.inl rfl) (pe_lst pa_nil))
      (pss_cons (ps_for PassesOwn.never rfl (pi_list (pe_callB cr_sortedI (by rfl) msort (by decide +kernel) (pa_cons (pv 0) pa_nil))) (pg_name (i := 5) scAround.nd rfl (.inl rfl))
        (pss_cons (ps_set (i := 6) scAround.nd rfl (.inl rfl) (pe_callB (call_max2 rfl) (by rfl) mmax (by decide +kernel) (pa_cons pe_int (pa_cons (pe_op op_sub (pv 5) (pv 3)) pa_nil))))
      (C8.pss_cut (ps_set (i := 7) scAround.nd rfl (.inl rfl) (pe_callB (call_min2 rfl) (by rfl) mmin (by decide +kernel) (pa_cons (pv 1) (pa_cons (pe_op op_add (pe_op op_add (pv 5) (pv 2)) (pv 3)) pa_nil))))
      (pss_one (ps_if (PW.pt (pw_and (pt_truth (pv 4) (by intro _; rfl)) (pw_and1 (pt_cmpR op_le (pv 6) (pe_ix ix_tup (pe_ix ix_list (pv 4) (pe_un un_neg pe_int) (fun _ _ => rfl)) pe_int (fun _ _ => rfl)) (nomark _))))) (pss_one (ps_asg (pe_tup (pa_cons (pe_ix ix_tup (pe_ix ix_list (pv 4) (pe_un un_neg pe_int) (fun _ _ => rfl)) pe_int (fun _ _ => rfl)) (pa_cons (pv 7) pa_nil))) (pg_sub (pv 4) (pe_un un_neg pe_int) set_list))) (pss_one (ps_expr (pe_bm PySem.F.plainAttrs_list PySem.F.slot_list_append PySem.F.type_list_append mt_append (pv 4) (pa_cons (pe_tup (pa_cons (pv 6) (pa_cons (pv 7) pa_nil))) pa_nil)))))))))
      (pss_one (ps_ret (pv 4))))), ?_⟩
    refine ⟨Nat.zero_le _, fun p hp => ?_⟩
    have s0 : Same H (upd H p (.lst [])) := same_upd hp
    refine ⟨.ref a, rfl, a, bs, rfl, s0.seq hs, fun cs pc hperm hup hpc => ?_⟩
    have s1 : Same (upd H p (.lst [])) (upd (upd H p (.lst [])) pc (.lst (cs.map V.int))) := same_upd hpc
    have ecs := srt_eq hperm hup
    have hcb : ∀ b ∈ cs, BOk n L b := fun b h => hb b (hperm.mem_iff.mp h)
    have hcl := hperm.length_eq
    have npc : p ≠ pc := ne_of_none upd_same hpc
    refine ⟨pc, rfl, ⟨_, .inl (.inl upd_same)⟩, ?_⟩
    refine for_list (K := K) (xs := cs.map V.int) (fun i σ H' => ∃ (xs : List V) (v5 v6 v7 : Option V), σ = [some (.ref a), some (.int (n : Int)), some (.int (L : Int)), some (.int (k : Int)), some (.ref p), v5, v6, v7] ∧ Same H H' ∧ H' pc = some (LI cs) ∧ H' p = some (.lst xs) ∧ Plc H' xs (((cs.take i).map (rawW n L k)).foldl wjoin [])) ?_ ?_ ?_ ?_
    · exact ⟨[], none, none, none, rfl, s0.trans s1, upd_same, by rw [upd_ne npc, upd_same], .nil⟩
    · rintro i σ H' _ ⟨xs, v5, v6, v7, rfl, sm, hc, hx, ht⟩
      exact .inl (.inl hc)
    · rintro i v σ H' hv ⟨xs, v5, v6, v7, rfl, sm, hc, hx, ht⟩
      rw [List.getElem?_map] at hv
      obtain ⟨b, hbi, rfl⟩ := Option.map_eq_some_iff.mp hv
      have hbo := hcb b (List.mem_of_getElem? hbi)
      have hi := tups_at hbi
      have hxl := paired_len ht
      have hxn : xs.length ≤ i := by
        have h1 := foldw_len ((cs.take i).map (rawW n L k)) []
        rw [List.length_map, List.length_take] at h1
        simp only [List.length_nil] at h1
        omega
      obtain ⟨lo, hlo⟩ : ∃ z, z = (rawW n L k b).1 := ⟨_, rfl⟩
      obtain ⟨hh, hhi⟩ : ∃ z, z = (rawW n L k b).2 := ⟨_, rfl⟩
      have e1 := raw_fst n L k b
      have e2 := raw_snd (k := k) hbo
      rw [← hlo] at e1
      rw [← hhi] at e2
      have eraw : rawW n L k b = (lo, hh) := by rw [hlo, hhi]
      rw [List.take_add_one, hbi, Option.toList_some, List.map_append, List.map_cons, List.map_nil, fold_snoc, eraw]
      refine ⟨.int b, rfl, .int k, rfl, _, _, rfl, rfl, _, _, rfl, ?_⟩
      refine ⟨fun σ H2 => H2 = H' ∧ σ = [some (.ref a), some (.int (n : Int)), some (.int (L : Int)), some (.int (k : Int)), some (.ref p), some (.int b), some (.int (lo : Int)), some (.int (hh : Int))], ?_, ?_⟩
      · refine ⟨.int n, rfl, .int b, rfl, .int L, rfl, _, _, rfl, rfl, .int k, rfl, _, _, rfl, rfl, _, _, rfl, rfl, ?_⟩
        rw [e1, e2]
        rfl
      rintro σ H2 ⟨rfl, rfl⟩
      generalize ((cs.take i).map (rawW n L k)).foldl wjoin [] = acc at ht hxl ⊢
      have npc' : pc ≠ p := npc.symm
      have fin : ∀ (q2 : Addr) (o o2 : HO), H2 q2 = none → Same H (upd (upd H2 q2 o) p o2) ∧ (upd (upd H2 q2 o) p o2) pc = some (LI cs) := fun q2 o o2 hq2 =>
        ⟨same_new (sm.trans (same_upd hq2)) hp, by rw [upd_ne npc', upd_ne (ne_of_none hc hq2)]; exact hc⟩
      by_cases ha : acc = []
      · subst ha
        obtain rfl : xs = [] := List.eq_nil_of_length_eq_zero hxl
        refine ⟨.ref p, rfl, false, .inl ⟨[], .inl (.inl hx), rfl⟩, iteF ?_⟩
        refine ⟨.ref p, rfl, .inl ⟨rfl, _, .inl (.inl hx)⟩, .int lo, rfl, .int hh, rfl, by show 2 ≤ sizeLine; decide, fun q2 hq2 => ?_⟩
        have npq : p ≠ q2 := ne_of_none hx hq2
        refine ⟨p, [], _, rfl, rfl, by rw [upd_ne npq]; exact hx, line_lt7 (by decide), [.ref q2], _, _, _, rfl, (fin q2 _ _ hq2).1, (fin q2 _ _ hq2).2, upd_same, ?_⟩
        rw [wjoin_nil]
        refine .cons ⟨q2, rfl, ?_⟩ .nil
        rw [upd_ne npq.symm, upd_same]
      · obtain ⟨m', l, rfl⟩ : ∃ m l, acc = m ++ [l] := ⟨acc.dropLast, acc.getLast ha, (List.dropLast_concat_getLast ha).symm⟩
        obtain ⟨ys, y, rfl, ht', ql, rfl, hql⟩ := paired_snoc_inv ht
        have npl : ql ≠ p := fun z => by
          rw [z, hx] at hql
          cases hql
        have hat : atI (ys ++ [V.ref ql]) (-1) = some (.ref ql) := atI_last ys _
        rw [wjoin_snoc]
        refine ⟨.ref p, rfl, true, .inl ⟨_, .inl (.inl hx), by cases ys <;> rfl⟩, iteT ?_⟩
        refine ⟨.int lo, rfl, .ref p, rfl, _, rfl, p, _, _, .ref ql, rfl, rfl, .inl (.inl hx), hat, ql, _, 1, .int l.2, rfl, rfl, .inl (.inl hql), atI_nat (j := 1) rfl, _, _, rfl, rfl, _, rfl, ite2 (fun c => ?_) (fun c => ?_)⟩
        · have le : lo ≤ l.2 := by
            have := of_decide_eq_true c
            omega
          rw [if_pos le]
          have hix : ixN (ys ++ [V.ref ql]).length (-1) = some ys.length := by
            unfold ixN
            rw [if_neg (by decide), if_pos (by rw [List.length_append, List.length_singleton]; omega)]
            congr 1
            rw [List.length_append, List.length_singleton]
            omega
          refine ⟨.ref p, rfl, _, rfl, p, _, _, .ref ql, rfl, rfl, .inl (.inl hx), hat, ql, _, 0, .int l.1, rfl, rfl, .inl (.inl hql), atI_nat (j := 0) rfl, .int hh, rfl, by show 2 ≤ sizeLine; decide, fun q2 hq2 => ?_⟩
          have npq : p ≠ q2 := ne_of_none hx hq2
          refine ⟨.ref p, rfl, _, rfl, p, _, _, _, rfl, rfl, by rw [upd_ne npq]; exact hx, hix, ?_⟩
          refine ⟨ys ++ [.ref q2], _, _, _, rfl, (fin q2 _ _ hq2).1, (fin q2 _ _ hq2).2, ?_, ?_⟩
          · rw [upd_same, List.set_append_right _ _ (Nat.le_refl _), Nat.sub_self]
            rfl
          · refine Plc.snoc (Plc.mono ht' fun b zs hb => ?_) ?_
            · rw [upd_ne (fun z => by rw [z, hx] at hb; cases hb), upd_ne (ne_of_none hb hq2)]
              exact hb
            · rw [upd_ne npq.symm, upd_same]
        · have nle : ¬ lo ≤ l.2 := fun z => c (decide_eq_true (by omega))
          rw [if_neg nle]
          refine ⟨.ref p, rfl, .inl ⟨rfl, _, .inl (.inl hx)⟩, .int lo, rfl, .int hh, rfl, by show 2 ≤ sizeLine; decide, fun q2 hq2 => ?_⟩
          have npq : p ≠ q2 := ne_of_none hx hq2
          refine ⟨p, _, _, rfl, rfl, by rw [upd_ne npq]; exact hx, line_lt7 (by omega), ys ++ [.ref ql] ++ [.ref q2], _, _, _, rfl, ?_, ?_, upd_same, ?_⟩
          · exact (fin q2 _ _ hq2).1
          · exact (fin q2 _ _ hq2).2
          · refine Plc.snoc (ht.mono fun b zs hb => ?_) ?_
            · rw [upd_ne (fun z => by rw [z, hx] at hb; cases hb), upd_ne (ne_of_none hb hq2)]
              exact hb
            · rw [upd_ne npq.symm, upd_same]
    · rintro σ H' ⟨xs, v5, v6, v7, rfl, sm, hc, hx, ht⟩
      rw [List.length_map, List.take_length, ecs] at ht
      exact ⟨_, rfl, q H' p xs sm hp hx ht⟩
end
/-! ### beginnings -/
def posn (t p : List Nat) : List Nat := (List.range t.length).filter fun a => decide ((t.drop a).take p.length = p)
theorem posn_mem {t p : List Nat} {a : Nat} : a ∈ posn t p ↔ a < t.length ∧ (t.drop a).take p.length = p := by
  unfold posn
  rw [List.mem_filter, List.mem_range, decide_eq_true_iff]
theorem posn_len (t p : List Nat) : (posn t p).length ≤ t.length := by
  unfold posn
  have := List.length_filter_le (fun a => decide ((t.drop a).take p.length = p)) (List.range t.length)
  rw [List.length_range] at this
  exact this
theorem plc_posn (rs : List Rf) (p : List Nat) : plc rs p = (List.range rs.length).flatMap fun k => (posn (txt rs k) p).map fun a => (k, a) := rfl
theorem txt_out {rs : List Rf} {r : Nat} (h : rs.length ≤ r) : txt rs r = [] := by
  unfold txt
  rw [List.getD_eq_getElem?_getD, List.getElem?_eq_none (by rw [List.length_map]; exact h)]
  rfl
theorem fm_row (f : Nat → List Nat) (r : Nat) : ∀ n, (((List.range n).flatMap fun k => (f k).map fun a => (k, a)).filter fun P => decide (P.1 = r)) = if r < n then (f r).map fun a => (r, a) else []
  | 0 => rfl
  | n + 1 => by
    rw [List.range_succ, List.flatMap_append, List.filter_append, fm_row f r n]
    show _ ++ List.filter _ (((f n).map fun a => (n, a)) ++ []) = _
    rw [List.append_nil, List.filter_map]
    by_cases h : r = n
    · subst h
      rw [if_neg (Nat.lt_irrefl _), if_pos (Nat.lt_succ_self _), List.nil_append]
      congr 1
      exact List.filter_eq_self.mpr fun a _ => decide_eq_true rfl
    · have e : List.filter ((fun P : Nat × Nat => decide (P.1 = r)) ∘ fun a => (n, a)) (f n) = [] := List.filter_eq_nil_iff.mpr fun a _ => by
        show ¬ decide (n = r) = true
        rw [decide_eq_false (fun z => h z.symm)]
        decide
      rw [e, List.map_nil, List.append_nil]
      by_cases h2 : r < n
      · rw [if_pos h2, if_pos (by omega)]
      · rw [if_neg h2, if_neg (by omega)]
theorem plc_row (rs : List Rf) (p : List Nat) (r : Nat) : (plc rs p).filter (fun P => decide (P.1 = r)) = (posn (txt rs r) p).map fun a => (r, a) := by
  rw [plc_posn, fm_row]
  by_cases h : r < rs.length
  · rw [if_pos h]
  · rw [if_neg h, txt_out (by omega)]
    rfl
theorem plc_len {rs : List Rf} {p : List Nat} : (plc rs p).length ≤ jl rs := by
  have gen : ∀ n, n ≤ rs.length → ((List.range n).flatMap fun k => (posn (txt rs k) p).map fun a => (k, a)).length ≤ bg rs n := by
    intro n
    induction n with
    | zero => exact fun _ => Nat.zero_le _
    | succ n ih =>
      intro h
      have h1 := ih (by omega)
      have h2 := bg_succ (rs := rs) (k := n) (by omega)
      have h3 := posn_len (txt rs n) p
      rw [List.range_succ, List.flatMap_append, List.length_append]
      show _ + (((posn (txt rs n) p).map fun a => (n, a)) ++ []).length ≤ _
      rw [List.append_nil, List.length_map]
      omega
  have h := gen rs.length (Nat.le_refl _)
  rw [bg_all, jn_len] at h
  exact h
/-- what one piece with its offsets gives, at the positions ps -/
def bego (ps : List Nat) (os : List Int) : List Int := ps.flatMap fun (P : Nat) => os.map fun o => (P : Int) - o
def begT (es : List (List Nat × List Int)) (t : List Nat) : List Int := es.flatMap fun e => bego (posn t e.1) e.2
def begs (t l : List Nat) (k : Nat) : List Int := (knw l k (k + 1)).flatMap fun r => (posn t r.2).map fun (P : Nat) => (P : Int) - (r.1 : Int)
theorem flatMap_cons_perm {α β : Type} (f : α → β) (g : α → List β) : ∀ ys : List α, (ys.flatMap fun y => f y :: g y).Perm (ys.map f ++ ys.flatMap g)
  | [] => .refl _
  | y :: ys => by
    rw [List.flatMap_cons, List.flatMap_cons, List.map_cons, List.cons_append, List.cons_append]
    refine .cons _ (((flatMap_cons_perm f g ys).append_left (g y)).trans ?_)
    rw [← List.append_assoc, ← List.append_assoc]
    exact List.Perm.append_right _ List.perm_append_comm
theorem flatMap_swap {α β γ : Type} (f : α → β → γ) (ys : List β) : ∀ xs : List α, (xs.flatMap fun x => ys.map (f x)).Perm (ys.flatMap fun y => xs.map fun x => f x y)
  | [] => by
    have e : (ys.flatMap fun y => List.map (fun x => f x y) []) = [] := List.flatMap_eq_nil_iff.mpr fun _ _ => rfl
    rw [e]
    exact .refl _
  | x :: xs => by
    rw [List.flatMap_cons]
    exact ((flatMap_swap f ys xs).append_left _).trans (flatMap_cons_perm (f x) (fun y => xs.map fun x => f x y) ys).symm
theorem flatMap_pm {α β : Type} (f g : α → List β) : ∀ xs : List α, (∀ x, (f x).Perm (g x)) → (xs.flatMap f).Perm (xs.flatMap g)
  | [], _ => .refl _
  | x :: xs, h => by
    rw [List.flatMap_cons, List.flatMap_cons]
    exact (h x).append (flatMap_pm f g xs h)
theorem begT_perm {es : List (List Nat × List Int)} {l : List Nat} {k : Nat} (h : (flatE es).Perm ((knw l k (k + 1)).map fun r => (r.2, (r.1 : Int)))) (t : List Nat) : (begT es t).Perm (begs t l k) := by
  have e1 : (begT es t).Perm ((flatE es).flatMap fun e => (posn t e.1).map fun (P : Nat) => (P : Int) - e.2) := by
    unfold begT flatE
    rw [List.flatMap_assoc]
    refine flatMap_pm _ _ es fun e => ?_
    rw [List.flatMap_map]
    exact flatMap_swap (fun (P : Nat) (o : Int) => (P : Int) - o) e.2 (posn t e.1)
  have e2 : begs t l k = ((knw l k (k + 1)).map fun r => (r.2, (r.1 : Int))).flatMap fun e => (posn t e.1).map fun (P : Nat) => (P : Int) - e.2 := by
    unfold begs
    rw [List.flatMap_map]
  rw [e2]
  exact e1.trans (List.Perm.flatMap_right _ h)
theorem bego_len (ps : List Nat) (os : List Int) : (bego ps os).length = ps.length * os.length := by
  unfold bego
  induction ps with
  | nil => rw [List.flatMap_nil, List.length_nil, List.length_nil, Nat.zero_mul]
  | cons p ps ih => rw [List.flatMap_cons, List.length_append, ih, List.length_map, List.length_cons, Nat.succ_mul, Nat.add_comm]
theorem begT_len (t : List Nat) : ∀ es : List (List Nat × List Int), (begT es t).length ≤ t.length * (flatE es).length
  | [] => Nat.zero_le _
  | e :: es => by
    have h := begT_len t es
    have h2 := posn_len t e.1
    have h3 := Nat.mul_le_mul_right e.2.length h2
    unfold begT flatE at h ⊢
    rw [List.flatMap_cons, List.flatMap_cons, List.length_append, List.length_append, bego_len, List.length_map, Nat.mul_add]
    omega
theorem pe_frz {X : Cx} {e : Expr} {td : TE} (he : PE X e td) : PE X e (fun σ H Q => td σ H fun x H1 => ∃ d u, x = .ref d ∧ H1 d = some u ∧ Mut (some u) ∧ ∀ od, Q x (upd H1 d (.frz od u))) :=
  ⟨fun pins s σ H Q I h => thn (he.run pins s σ H _ I h) fun v s1 ⟨x, H1, I1, rx, d, u, ex, hd, mu, q⟩ => by
    obtain ⟨od, I2⟩ := I1.lock hd mu
    exact ⟨x, _, I2, rx, q od⟩⟩
def NBg : List Str := ["index", "read", "k", "begins", "part", "offsets", "reference", "position", "offset"]
theorem scBegRef : FnScope NBg ["index", "read", "k"] (defScope sBegRef) := ⟨rfl, rfl, rfl, by decide +kernel, rfl, by decide +kernel, by decide +kernel⟩
theorem knw_part {l : List Nat} {k : Nat} (hd : Dna l) (hl : l.length ≤ 100000) (hk : k < l.length) {r : Nat × List Nat} (h : r ∈ knw l k (k + 1)) : Dna r.2 ∧ r.2.length ≤ 100000 ∧ r.2 ≠ [] := by
  have h1 := List.mem_of_mem_take (List.mem_filter.mp h).1
  unfold pcsOf at h1
  obtain ⟨i, hi, rfl⟩ := List.mem_map.mp h1
  have hi' := List.mem_range.mp hi
  have e := pcAt_len (l := l) hi'
  have hq : 1 ≤ l.length / (k + 1) := (Nat.le_div_iff_mul_le (Nat.succ_pos k)).mpr (by omega)
  refine ⟨fun c hc => hd c ?_, ?_, fun z => ?_⟩
  · unfold pcAt at hc
    exact List.mem_of_mem_drop (List.mem_of_mem_take hc)
  · unfold pcAt
    dsimp only
    rw [List.length_take, List.length_drop]
    omega
  · rw [z, List.length_nil] at e
    omega
section
variable {P : Program} {w : World} {K : PySem.W.Frag} {mg : Str → Option Value} {base : Heap}
def spBegRef (C : Addr) : Sp := fun vs H Q _ => ∃ (x : Addr) (rs : List Rf) (b s : Nat) (l : List Nat) (k : Nat), vs = [.ref x, .str (T l), .int (k : Int)] ∧ Ixd C H x rs b s ∧ IxOk rs b s ∧ Dna l ∧ l.length ≤ 100000 ∧ k ≤ 1000 ∧ k < l.length ∧
  ∀ (H' : Hp) (d : Addr) (ts : List (Tr Nat)), Same H H' → DL kN H H' d ts → (∀ r, (look (ent ts) r).Perm (begs (txt rs r) l k)) → (∀ e ∈ ent ts, e.1 < rs.length) → ts.length ≤ 5000000 → Q (.ref d) H'
theorem ok_begref {f C : Addr} {fd : FuncData} (F : Fun K "_begins_by_reference" "_begins_by_reference" sBegRef f fd) (X : IxT K mg C) (hKn : Has P w K mg base 3 "_known_parts" ["read", "k"] spKnown) (hPl : HasM P w K mg base C 6 "places" ["self", "piece"] (spPlaces C)) :
    FnOk P w K mg base CX0 7 f fd ["index", "read", "k"] (spBegRef C) := by
  obtain ⟨fK, dK, GK, gK, kK, bK⟩ := hKn
  obtain ⟨f2, d2, G2, m2, b2⟩ := hPl
  refine F.ok scBegRef (fun vs H Q E h => ?_) (fun cdv A outer s H vs Q E hr h => ?_)
  · obtain ⟨x, rs, b, s, l, k, rfl, _⟩ := h
    rfl
  · obtain ⟨x, rs, b, s, l, k, rfl, hI, hok, hd, hl, hk, hkl, q⟩ := h
    have hr6 : Room 6 _ := hr.mono (by decide)
    have hr3 : Room 3 _ := hr.mono (by decide)
    refine ⟨_, (pss_cons (ps_set (i := 3) scBegRef.nd rfl (.inl rfl) pe_dnewK)
      (pss_cons (ps_for PassesOwn.never rfl (pi_items (pe_frz (pe_call GK hr3 (by rfl) gK kK bK .nil pass0 (pa_cons (pv 1) (pa_cons (pv 2) pa_nil))))) (pg_tup rfl (pgs_cons (pg_name (i := 4) scBegRef.nd rfl (.inl rfl)) (pgs_cons (pg_name (i := 5) scBegRef.nd rfl (.inl rfl)) pgs_nil)))
        (pss_one (ps_for PassesOwn.never rfl (pi_list (pe_meth (pv 0) X.cl m2 G2 hr6 b2 .nil pass0 (pa_cons (pv 4) pa_nil))) (pg_tup rfl (pgs_cons (pg_name (i := 6) scBegRef.nd rfl (.inl rfl)) (pgs_cons (pg_name (i := 7) scBegRef.nd rfl (.inr rfl)) pgs_nil)))
        (pss_one (ps_expr (pe_bm PySem.F.plainAttrs_list PySem.F.slot_list_extend PySem.F.type_list_extend mt_extend (pe_dsetd (pv 3) (pv 6) (pe_lst pa_nil) ⟨rfl, rfl, rfl, rfl⟩) (pa_cons (pe_lc (own := [("offset", 8)]) (g := gName 8) (tt := tYes) (te := tOp (rI0 fun i j => V.int (i - j)) (tVar 7) (tVar 8)) (by rfl) scBegRef.nd (pi_list (pv 5)) (blkOk_by (own := [("offset", 8)]) (N := NBg) (sc := defScope sBegRef) (by decide +kernel)) (fun _ _ _ _ _ => pg_name (i := 8) scBegRef.nd rfl (Or.inl rfl)) (fun _ _ _ _ _ => pts_nil) (fun _ _ _ _ _ => (pe_op op_sub (pv 7) (pv 8)))) pa_nil)))))))
      (pss_one (ps_ret (pv 3))))), ?_⟩
    intro d hdn
    have sd : Same H (upd H d (.dK [])) := same_upd hdn
    refine ⟨.str (T l), rfl, .int k, rfl, l, k, rfl, hl, hk, fun H1 p ps s1 D1 pm hkn tl => ?_⟩
    obtain ⟨ks, hks⟩ : ∃ ks, ks = kvs kP ps := ⟨_, rfl⟩
    have hkl' : ks.length = ps.length := by rw [hks]; exact List.length_map _
    have htop := D1.top
    rw [← hks] at htop
    refine ⟨p, _, rfl, htop, True.intro, fun od => ?_⟩
    obtain ⟨Hf, hHf⟩ : ∃ Hf, Hf = upd H1 p (.frz od (.dK ks)) := ⟨_, rfl⟩
    rw [← hHf]
    have hfp : Hf p = some (.frz od (.dK ks)) := by rw [hHf, upd_same]
    have hd1 : H1 d = some (.dK []) := s1 _ _ upd_same
    have npd : p ≠ d := fun z => by
      have := D1.newd
      rw [z, upd_same] at this
      cases this
    have hfd : Hf d = some (.dK []) := by rw [hHf, upd_ne npd.symm]; exact hd1
    have sf : Same (upd H d (.dK [])) Hf := fun b o e => by
      rw [hHf, upd_ne (ne_of_none e D1.newd)]
      exact s1 b o e
    have sH : Same H (del Hf d) := same_del (sd.trans sf) hdn
    have hrow : ∀ t ∈ ps, del Hf d t.2.1 = some (LI t.2.2) := fun t ht => by
      have e := D1.row t ht
      refine del_at ?_ (fun z => ?_)
      · rw [hHf, upd_ne fun z => by rw [z, D1.top] at e; cases e]
        exact e
      · rw [z, hd1] at e
        cases e
    refine ⟨p, od, ks, rfl, hfp, ?_⟩
    refine for_gen (n := ks.length) (fun i σ H' => ∃ (ts : List (Tr Nat)) (v4 v5 v6 v7 : Option V), σ = [some (.ref x), some (.str (T l)), some (.int (k : Int)), some (.ref d), v4, v5, v6, v7, none] ∧ Same (del Hf d) H' ∧ DL kN (del Hf d) H' d ts ∧ (∀ r, look (ent ts) r = begT ((ent ps).take i) (txt rs r)) ∧ (∀ e ∈ ent ts, e.1 < rs.length) ∧ ts.length ≤ 4000 * i) ?_ ?_ ?_ ?_ ?_
    · exact ⟨[], none, none, none, none, rfl, del_same, .nil hfd (del_none _ _), fun r => rfl, fun e he => (List.not_mem_nil he).elim, Nat.zero_le _⟩
    · rintro i σ H' hi ⟨ts, v4, v5, v6, v7, rfl, s2, D2, hlk, hrg, htl⟩
      exact ⟨s2 _ _ (del_at hfp npd), hi⟩
    · rintro σ H' ⟨ts, v4, v5, v6, v7, rfl, s2, D2, hlk, hrg, htl⟩
      exact ⟨s2 _ _ (del_at hfp npd), Nat.le_refl _⟩
    · rintro i σ H' v H2 hi ⟨ts, v4, v5, v6, v7, rfl, s2, D2, hlk, hrg, htl⟩ ⟨T', kk, vv, hkv, rfl, hT', rfl⟩
      have hip : i < ps.length := by omega
      rw [hks] at hkv
      obtain ⟨t, ht⟩ : ∃ t, ps[i]? = some t := ⟨_, List.getElem?_eq_getElem hip⟩
      have ekv : (kP t.1, V.ref t.2.1) = (kk, vv) := by
        unfold kvs at hkv
        rw [List.getElem?_map, ht] at hkv
        exact Option.some.inj hkv
      obtain ⟨rfl, rfl⟩ := Prod.mk.inj ekv
      have htm := List.mem_of_getElem? ht
      obtain ⟨part, qo, offs⟩ := t
      have sT : Same H' (upd H' T' (.tup [kV (kP part), V.ref qo])) := same_upd hT'
      refine ⟨T', _, rfl, .inl (.inl upd_same), rfl, _, _, rfl, _, _, rfl, rfl, ?_⟩
      have hpt : Dna part ∧ part.length ≤ 100000 ∧ part ≠ [] := by
        obtain ⟨r, hr', e⟩ := hkn (part, offs) (List.mem_map_of_mem (f := fun t : Tr (List Nat) => (t.1, t.2.2)) htm)
        dsimp only at e
        subst e
        exact knw_part hd hl hkl hr'
      have D3 := D2.same sT
      have s3 := s2.trans sT
      have hI3 := hI.same (sH.trans s3)
      obtain ⟨dx, aR, xs, aL, aM, aC, cs, aS, aB, I⟩ := id hI3
      refine ⟨.ref x, rfl, x, dx, _, rfl, I.ob, lookup_no (ixF_names ..) (by decide +kernel), .str (T part), rfl, x, rs, b, s, part, rfl, hI3, hok, hpt.1, by have := hpt.2.1; omega, hpt.2.2, fun H4 pq ys s34 hpq hq4 hys => ?_⟩
      have D4 := D3.same s34
      have s4 := s3.trans s34
      have hqo : H4 qo = some (LI offs) := s4 _ _ (hrow _ htm)
      obtain ⟨B, hB⟩ : ∃ B, B = delT H4 d ts := ⟨_, rfl⟩
      have sB : Same (del Hf d) B := by rw [hB]; exact D4.under s4
      have DB := D4.rebase
      rw [← hB] at DB
      have hBq : B pq = some (.lst ys) := by
        rw [hB]
        exact delT_at hq4 (ne_of_none D3.top hpq).symm fun t ht => (ne_of_none (D3.row t ht) hpq).symm
      have hBy : Plc B ys (plc rs part) := hys.mono fun z zs e => by rw [hB]; exact D4.tup e
      have hBo : B qo = some (LI offs) := sB _ _ (hrow _ htm)
      have hyl := paired_len hys
      have hpl := plc_len (rs := rs) (p := part)
      have hj4 := hok.2.2.1
      refine ⟨pq, rfl, ⟨_, .inl (.inl hq4)⟩, ?_⟩
      refine for_list (K := K) (xs := ys) (fun j σ H' => ∃ (ts : List (Tr Nat)) (v6 v7 : Option V), σ = [some (.ref x), some (.str (T l)), some (.int (k : Int)), some (.ref d), some (.str (T part)), some (.ref qo), v6, v7, none] ∧ Same B H' ∧ DL kN B H' d ts ∧ (∀ r, look (ent ts) r = begT ((ent ps).take i) (txt rs r) ++ (((plc rs part).take j).filter fun P => decide (P.1 = r)).flatMap fun P => offs.map fun o => (P.2 : Int) - o) ∧ (∀ e ∈ ent ts, e.1 < rs.length) ∧ ts.length ≤ 4000 * i + j) ?_ ?_ ?_ ?_
      · exact ⟨ts, _, _, rfl, by rw [hB]; exact delT_same, DB, fun r => by rw [hlk r]; exact (List.append_nil _).symm, hrg, htl⟩
      · rintro j σ H5 _ ⟨ts', v6', v7', rfl, s5, _⟩
        exact .inl (.inl (s5 _ _ hBq))
      · rintro j v σ H5 hjv ⟨ts', v6', v7', rfl, s5, D5, hlk5, hrg5, htl5⟩
        obtain ⟨⟨r, a⟩, hra, qa, rfl, hqa⟩ := paired_get hBy hjv
        have hjl := tups_at hjv
        have hq5 := s5 _ _ hqa
        have hoffs : offs.length ≤ k + 1 := by
          have h1 := flat_len (e := (part, offs)) (List.mem_map_of_mem (f := fun t : Tr (List Nat) => (t.1, t.2.2)) htm)
          have h2 := pm.length_eq
          have h3 := knw_len l k (k + 1)
          rw [List.length_map] at h2
          have h4 : offs.length ≤ (flatE (ent ps)).length := h1
          omega
        refine ⟨qa, _, rfl, .inl (.inl hq5), rfl, _, _, rfl, _, _, rfl, rfl, ?_⟩
        show tDSetd _ _ _ _ _ _
        refine D5.setdE kN_inj s5 (line_lt7 (by omega)) (k := r) rfl rfl fun q2 l2 H6 ts2 e2 D6 m2 s6 fr6 tl6 => ?_
        have hq2 := D6.row _ m2
        refine ⟨.inl ⟨rfl, _, .inl (.inl hq2)⟩, .ref qo, rfl, qo, rfl, ⟨_, .inl (.inl (s6 _ _ hBo))⟩, fun D0 hD0 => ?_⟩
        refine lc_list (K := K) (xs := offs.map V.int) (fun m H7 => Same H6 H7 ∧ H7 D0 = some (LI ((offs.take m).map fun o => (a : Int) - o))) ⟨same_upd hD0, upd_same⟩ (fun m H7 _ h => .inl (.inl (h.1 _ _ (s6 _ _ hBo)))) ?_ ?_
        · rintro m y H7 hmy ⟨s7, hd7⟩
          rw [List.getElem?_map] at hmy
          obtain ⟨o, ho, rfl⟩ := Option.map_eq_some_iff.mp hmy
          refine ⟨rfl, ?_⟩
          dsimp only [tYes]
          rw [if_pos rfl]
          refine ⟨.int a, rfl, .int o, rfl, _, _, rfl, rfl, _, hd7, line_lt7 (by rw [List.length_map, List.length_map, List.length_take]; omega), fun b o e => ?_, ?_⟩
          · rw [upd_ne (ne_of_none e hD0)]
            exact s7 b o e
          · rw [upd_same, List.take_add_one, ho, Option.toList_some, List.map_append]
            exact congrArg some (LI_snoc _ _).symm
        · rintro H7 ⟨s7, hd7⟩
          rw [List.length_map, List.take_length] at hd7
          have D7 := D6.same s7
          have hq7 := D7.row _ m2
          obtain ⟨ts3, e3, D8⟩ := D7.put m2 (offs.map fun o => (a : Int) - o)
          have hl2 : l2.length ≤ 9000000 := by
            have h1 : look (ent ts2) r = l2 := D6.look m2
            rw [e2, look_addL, if_pos rfl, List.append_nil, hlk5 r] at h1
            have h2 := begT_len (txt rs r) ((ent ps).take i)
            have h3 := flat_take (ent ps) i
            have h4 := pm.length_eq
            have h5 := knw_len l k (k + 1)
            rw [List.length_map] at h4
            have h6 := fm_len (fun (P : Nat × Nat) (o : Int) => (P.2 : Int) - o) offs (((plc rs part).take j).filter fun P => decide (P.1 = r))
            have h7 : (((plc rs part).take j).filter fun P => decide (P.1 = r)).length ≤ 4000 := by
              refine Nat.le_trans (List.length_filter_le _ _) ?_
              rw [List.length_take]
              omega
            have h8 : (txt rs r).length ≤ 4000 := by
              by_cases c : r < rs.length
              · have := txt_le c
                omega
              · rw [txt_out (by omega)]
                exact Nat.zero_le _
            have h9 := Nat.mul_le_mul h8 (show (flatE ((ent ps).take i)).length ≤ 1001 by omega)
            have h10 := Nat.mul_le_mul h7 (show offs.length ≤ 1001 by omega)
            rw [← h1, List.length_append]
            omega
          rw [e2, addL_two] at e3
          refine ⟨q2, D0, _, _, rfl, rfl, hq7, hd7, line_ok7 (by rw [List.length_map, List.length_map, List.length_map]; show l2.length + _ ≤ _; omega), ts3, _, _, rfl, same_new (s6.trans s7) (D6.newr _ m2), ?_, fun r' => ?_, fun e he => ?_, ?_⟩
          · rw [← List.map_append]
            exact D8
          · rw [e3, look_addL, hlk5 r, hlk5 r', List.take_add_one, hra, Option.toList_some, List.filter_append, List.flatMap_append, List.nil_append]
            by_cases c : r' = r
            · subst c
              rw [if_pos rfl, List.append_assoc]
              simp [List.filter]
            · rw [if_neg c]
              have : ¬ r = r' := fun z => c z.symm
              simp [List.filter, this]
          · rw [e3] at he
            rcases mem_addL he with z | z
            · rw [z]
              exact (plc_mem.mp (List.mem_of_getElem? hra)).1
            · exact hrg5 e z
          · have e4 := congrArg List.length e3
            have h5 := addL_len (ent ts') r ([] ++ offs.map fun o => (a : Int) - o)
            rw [ent_len] at e4 h5
            omega
      · rintro σ H5 ⟨ts', v6', v7', rfl, s5, D5, hlk5, hrg5, htl5⟩
        refine ⟨ts', _, _, _, _, rfl, sB.trans s5, D5.weak sB, fun r => ?_, hrg5, by omega⟩
        rw [hlk5 r, hyl, List.take_length, plc_row, List.flatMap_map, List.take_add_one]
        have e : (ent ps)[i]? = some (part, offs) := by
          unfold ent
          rw [List.getElem?_map, ht]
          rfl
        rw [e, Option.toList_some]
        unfold begT
        rw [List.flatMap_append, List.flatMap_cons, List.flatMap_nil, List.append_nil]
        rfl
    · rintro σ H' ⟨ts, v4, v5, v6, v7, rfl, s2, D2, hlk, hrg, htl⟩
      refine ⟨.ref d, rfl, q H' d ts (sH.trans s2) (D2.weak sH) (fun r => ?_) hrg (by omega)⟩
      rw [hlk r, List.take_of_length_le (by rw [ent_len]; omega)]
      exact begT_perm pm _
end
def winsOf (t l : List Nat) (k : Nat) : List Wn := if l.length ≤ k then [(0, t.length)] else winL t.length l.length k (begs t l k)
theorem off_knw {l : List Nat} {k : Nat} {r : Nat × List Nat} (h : r ∈ knw l k (k + 1)) : r.1 ≤ l.length := by
  have h1 := List.mem_of_mem_take (List.mem_filter.mp h).1
  unfold pcsOf at h1
  obtain ⟨i, hi, rfl⟩ := List.mem_map.mp h1
  exact off_le (by have := List.mem_range.mp hi; omega)
theorem begs_ok {t l : List Nat} {k : Nat} {b : Int} (h : b ∈ begs t l k) : BOk t.length l.length b := by
  unfold begs at h
  obtain ⟨r, hr, hb⟩ := List.mem_flatMap.mp h
  obtain ⟨P, hP, rfl⟩ := List.mem_map.mp hb
  have h1 := (posn_mem.mp hP).1
  have h2 := off_knw hr
  exact ⟨by omega, by omega⟩
theorem begs_len (t l : List Nat) (k : Nat) : (begs t l k).length ≤ (k + 1) * t.length := by
  have gen : ∀ ks : List (Nat × List Nat), (ks.flatMap fun r => (posn t r.2).map fun (P : Nat) => (P : Int) - (r.1 : Int)).length ≤ ks.length * t.length := by
    intro ks
    induction ks with
    | nil => exact Nat.zero_le _
    | cons r ks ih =>
      have := posn_len t r.2
      rw [List.flatMap_cons, List.length_append, List.length_map, List.length_cons, Nat.succ_mul]
      omega
  exact Nat.le_trans (gen _) (Nat.mul_le_mul_right _ (knw_len l k (k + 1)))
theorem winL_same {n L k : Nat} {a b : List Int} (h : a.Perm b) : winL n L k a = winL n L k b := by
  unfold winL
  rw [srt_same h]
/-! ### the hits within the windows are the hits of the text -/
theorem pcs_whole (l : List Nat) (k : Nat) : ((pcsOf l k).map (·.2)).flatten = l := by
  have h := pcs_flat l k (k + 1) (Nat.le_refl _)
  rw [off_end, List.take_length] at h
  exact h
theorem pcs_before (l : List Nat) (k j : Nat) (hj : j ≤ k + 1) : ((((pcsOf l k).map (·.2)).take j).flatten).length = off l.length k j := by
  have h := pcs_flat l k j hj
  have e : ((pcsOf l k).map (·.2)).take j = ((List.range j).map (pcAt l k)).map (·.2) := by
    unfold pcsOf
    rw [← List.map_take, ← List.map_take, List.take_range, Nat.min_eq_left hj]
  rw [e, h, List.length_take, Nat.min_eq_left (off_le hj)]
theorem wins_ok (t l : List Nat) (k : Nat) : (winsOf t l k).Pairwise (fun a b => a.2 < b.1) ∧ (∀ a ∈ winsOf t l k, a.1 ≤ a.2) ∧ ∀ a ∈ winsOf t l k, a.2 ≤ t.length := by
  unfold winsOf
  by_cases h : l.length ≤ k
  · rw [if_pos h]
    refine ⟨List.pairwise_singleton _ _, fun a ha => ?_, fun a ha => ?_⟩
    · rw [List.mem_singleton.mp ha]
      exact Nat.zero_le _
    · rw [List.mem_singleton.mp ha]
      exact Nat.le_refl _
  · rw [if_neg h]
    have W := wj_fold (n := t.length) (L := l.length) (k := k) (srt (begs t l k)) (srt_up _) fun b hb => begs_ok ((srt_perm _).mem_iff.mp hb)
    refine ⟨W.apart, W.up, fun a ha => ?_⟩
    obtain ⟨_, w, hw, e⟩ := W.ends a ha
    obtain ⟨b, _, rfl⟩ := List.mem_map.mp hw
    rw [← e]
    unfold rawW
    dsimp only
    omega
theorem wins_hits (t l : List Nat) (k : Nat) : (winsOf t l k).flatMap (hitsIn l t (k : Int)) = endsTo l t (k : Int) t.length := by
  obtain ⟨h1, h2, h3⟩ := wins_ok t l k
  have hlen : ((pcsOf l k).map (·.2)).length = k + 1 := by rw [List.length_map, pcs_len]
  refine hits_joined (pcs_whole l k) (by rw [hlen]; exact Nat.lt_succ_self k) h1 h2 h3 fun j p P hj hn hp hP => ?_
  have hjk : j < k + 1 := by
    have := tups_at hj
    omega
  rw [pcs_before l k j (by omega)]
  have hpc : (pcAt l k j).2 = p := by
    unfold pcsOf at hj
    rw [List.getElem?_map, List.getElem?_map, List.getElem?_range hjk] at hj
    exact Option.some.inj hj
  unfold winsOf
  by_cases h : l.length ≤ k
  · rw [if_pos h]
    exact ⟨(0, t.length), List.mem_singleton.mpr rfl, .inl rfl, .inl (Nat.le_refl _)⟩
  · rw [if_neg h]
    have W := wj_fold (n := t.length) (L := l.length) (k := k) (srt (begs t l k)) (srt_up _) fun b hb => begs_ok ((srt_perm _).mem_iff.mp hb)
    have hq : 1 ≤ l.length / (k + 1) := (Nat.le_div_iff_mul_le (Nat.succ_pos k)).mpr (by omega)
    have hpl := pcAt_len (l := l) hjk
    rw [hpc] at hpl
    have hbm : ((P : Int) - ((off l.length k j : Nat) : Int)) ∈ begs t l k := by
      unfold begs
      refine List.mem_flatMap.mpr ⟨pcAt l k j, ?_, List.mem_map.mpr ⟨P, ?_, rfl⟩⟩
      · unfold knw
        rw [List.take_of_length_le (by rw [pcs_len]; exact Nat.le_refl _)]
        refine List.mem_filter.mpr ⟨List.mem_map.mpr ⟨j, List.mem_range.mpr hjk, rfl⟩, decide_eq_true (by rw [hpc]; exact hn)⟩
      · rw [hpc]
        refine posn_mem.mpr ⟨?_, hp⟩
        generalize l.length / (k + 1) = zz at hq hpl
        omega
    obtain ⟨a, ha, g1, g2⟩ := W.cover _ (List.mem_map_of_mem ((srt_perm _).mem_iff.mpr hbm))
    refine ⟨a, ha, ?_, ?_⟩
    · unfold rawW at g1
      dsimp only at g1
      omega
    · unfold rawW at g2
      dsimp only at g2
      have := off_le (n := l.length) (k := k) (i := j) (by omega)
      omega
/-! ### rules: sorted tuples of ints, min with a default -/
section
open Srt
variable {prog : Program} {w : World} {A : Around} {E : Value → Shared → Prop} {s : Shared}
theorem not_tup {h : Heap} {a : Addr} {vs : Array Value} {n : Nat} (e : h.get? a = some (seqObj "list" vs n)) : ∀ o, h.get? a = some o → o.cls ≠ .type "tuple" := fun o e2 c => by
  rw [e] at e2
  cases e2
  exact absurd (Value.type.inj c) (by decide)
theorem tups_sortable {a : Addr} {vs : List Value} {d : Nat} {B : Int} {r : Value → Int} (h0 : 0 < vs.length) (hd : 1 ≤ d) (x : TS.TupsOk s.heap d B vs) (hr : ∀ v ∈ vs, ∀ ns, TS.TupInts s.heap v ns → r v = TS.code B ns)
    (ha : ∀ o, s.heap.get? a = some o → o.cls ≠ .type "tuple") : SrtO.SortableO prog w A s a vs fun v u => decide (r v < r u) := by
  intro hp kp
  have kk : ∀ b o, s.heap.get? b = some o → o.cls = .type "tuple" → hp.get? b = some o := fun b o e c => kp b o (fun z => by subst z; exact ha o e c) e
  obtain ⟨fs, g1, g2, g3⟩ := TS.firsts_of hd vs (x.keeps kk)
  refine ⟨tuples' true, fun Q E hq => ?_, fun p q hm1 hm2 => ?_⟩
  · refine PySem.W.kat_kind (T := .type "int") g1 (by omega) (fun f hm => ?_) (by rfl) ?_
    · obtain ⟨y, t, rfl⟩ := g3 f hm
      exact PySem.W.Looks.now
    · rw [show (Value.type "int" != Value.type "tuple") = true by first | decide +kernel | rfl | decide]
      exact hq
  · obtain ⟨ns, t1, l1, b1⟩ := x _ hm1
    obtain ⟨ms, t2, l2, b2⟩ := x _ hm2
    show wpAny (model prog w) A (keyLt' (tuples' true) p.1 q.1) (fun z s' => s' = { s with heap := hp } ∧ z = decide (r p.1 < r q.1)) (fun _ _ => False) { s with heap := hp }
    rw [hr _ hm1 _ t1, hr _ hm2 _ t2]
    obtain ⟨a1, xs, e1, ⟨o1, ho1, hc1, n1, hd1⟩, i1⟩ := t1.keeps kk
    obtain ⟨a2, ys, e2, ⟨o2, ho2, hc2, n2, hd2⟩, i2⟩ := t2.keeps kk
    rw [e1, e2]
    refine PySem.W.kat_lt ho1 hd1 ho2 hd2 ?_
    have z1 := i1.length
    have z2 := i2.length
    rw [Array.length_toList] at z1 z2
    rw [decide_eq_false (show ¬ xs.size < ys.size by omega)]
    exact TS.lex_ints 0 i1 i2 (by omega) b1 b2 ⟨rfl, rfl⟩
theorem swo_dec (r : Value → Int) : SrtO.Swo fun v u => decide (r v < r u) := by
  refine ⟨fun x y h => ?_, fun x y z h1 h2 => ?_⟩
  · have := of_decide_eq_true h
    exact decide_eq_false (by omega)
  · have a1 := of_decide_eq_false h1
    have a2 := of_decide_eq_false h2
    exact decide_eq_false (by omega)
theorem sorted_tups {l : Addr} {vs : List Value} {d : Nat} {B : Int} {Q : Value → Shared → Prop} {r : Value → Int} (hl : s.heap.IsList l vs.toArray) (hz : vs.length ≤ sizeLine) (hd : 1 ≤ d) (x : TS.TupsOk s.heap d B vs) (hr : ∀ v ∈ vs, ∀ ns, TS.TupInts s.heap v ns → r v = TS.code B ns)
    (h : ∀ (h' : Heap) (p : Addr) (out : List Value), SrtO.Srtd (fun v u => decide (r v < r u)) out → out.Perm vs → (∀ b o, s.heap.get? b = some o → h'.get? b = some o) → s.heap.objs.size ≤ p → (∃ n, h'.get? p = some (seqObj "list" out.toArray n)) → Q (.ref p) { s with heap := h' }) :
    wpAny (model prog w) A (call (.builtin "sorted") [.ref l]) Q E s := by
  refine SrtO.sorted_ord (swo_dec r) hl hz (fun h2 g a hg kk => ?_) fun out hs hb => ?_
  · refine tups_sortable (s := { s with heap := g }) (by omega) hd (x.keeps fun b o e _ => (kk b o e).2) (fun v hv ns t => ?_) (not_tup hg)
    obtain ⟨ms, t2, _, _⟩ := x v hv
    have t3 : TS.TupInts g v ms := t2.keeps fun b o e _ => (kk b o e).2
    have e : ns = ms := t.ints.symm.trans t3.ints
    rw [e]
    exact hr v hv ms t2
  · exact h _ _ out hs hb.perm (fun b o e => sortedAll_old e) (Nat.le_succ _) (sortedAll_at s.heap vs out.toArray)
end
/-- sorted(xs), xs a list of tuples of d ints of [0, B), any number of them -/
def rSortedN (d : Nat) (B : Int) (K : PySem.W.Frag) : List V → Hp → VK → Prop := fun vs H Q => ∃ (a : Addr) (xs : List V) (k : V → List Int), vs = [V.ref a] ∧ SqL K H a xs ∧ (∀ x ∈ xs, ∃ t, x = V.ref t ∧ H t = some (.tup ((k x).map V.int)) ∧ (k x).length = d ∧ TS.Bd B (k x)) ∧
  ∀ ys p, ys.Perm xs → ys.Pairwise (fun x y => TS.code B (k x) ≤ TS.code B (k y)) → H p = none → Q (.ref p) (upd H p (.lst ys))
theorem cr_sortedN {X : Cx} {d : Nat} {B : Int} (hd : 1 ≤ d) : CallR X (.builtin "sorted") (rSortedN d B X.K) := by
  intro pins s σ H vs us Q I r h
  obtain ⟨a, xs, k, rfl, hs, hx, q⟩ := h
  obtain ⟨its, rv, hl, hz⟩ := I.list hs
  obtain rfl := Vals.ref1 r
  obtain ⟨e1, e2⟩ := refs_back rv fun x m => by
    obtain ⟨t, e, _⟩ := hx x m
    exact ⟨t, e⟩
  have tup : ∀ v ∈ its, TS.TupInts s.heap v (k (backV v)) ∧ (k (backV v)).length = d ∧ TS.Bd B (k (backV v)) := fun v hv => by
    obtain ⟨t, rfl⟩ := e2 v hv
    have hm : V.ref t ∈ xs := by
      rw [e1]
      exact List.mem_map.mpr ⟨_, hv, rfl⟩
    obtain ⟨t', e, ht, hl', hb⟩ := hx _ hm
    cases e
    obtain ⟨_, its2, r2, o, ho, hc, n, hd'⟩ := I.hok _ _ ht
    exact ⟨⟨t, its2.toArray, rfl, ⟨o, ho, hc, n, hd'⟩, by rw [show k (backV (Value.ref t)) = k (V.ref t) from rfl]; simpa using r2.ints⟩, hl', hb⟩
  refine sorted_tups (r := fun v => TS.code B (k (backV v))) hl.isList (by rw [← rv.length]; exact hz) hd (fun v hv => ⟨_, tup v hv⟩) (fun v hv ns t => ?_) fun h' p out h1 h2 kp hp hn => ?_
  · rw [← t.ints, (tup v hv).1.ints]
  · have h3 : ∀ u ∈ out, ∃ a, u = Value.ref a := fun u hu => e2 u (h2.mem_iff.mp hu)
    obtain ⟨n, hn⟩ := hn
    have hb : (out.map backV).Perm xs := by
      rw [e1]
      exact h2.map _
    refine ⟨.ref p, upd H p (.lst (out.map backV)), I.laid (t' := s.toks) kp hp ⟨by rw [hb.length_eq]; exact hz, out, n, vals_back h3, hn⟩, rfl, q _ p hb ?_ (I.hok.fresh hp)⟩
    rw [List.pairwise_map]
    refine h1.imp fun h => ?_
    have := of_decide_eq_false h
    omega
/-- min(xs, default=d), xs a list of ints -/
def rMinD (K : PySem.W.Frag) : List V → List V → Hp → VK → Prop := fun vs zs H Q => ∃ (a : Addr) (ns : List Int) (d : Int), vs = [V.ref a] ∧ zs = [.int d] ∧ SqL K H a (ns.map V.int) ∧ (ns = [] → Q (.int d) H) ∧ ∀ m, m ∈ ns → (∀ y ∈ ns, m ≤ y) → Q (.int m) H
open PySem.W PySem.SeqAt in
theorem alike_ints (ns : List Int) : AlikeAll (ns.map PyData.int) := by
  refine ⟨fun x hx y hy => ?_, fun x hx => ?_⟩
  · obtain ⟨a, _, rfl⟩ := List.mem_map.mp hx
    obtain ⟨b, _, rfl⟩ := List.mem_map.mp hy
    simp only [alike]
  · obtain ⟨a, _, rfl⟩ := List.mem_map.mp hx
    exact fun z => by cases z
theorem depth_ints : ∀ ns : List Int, PyData.depthAll (ns.map PyData.int) = 0
  | [] => rfl
  | n :: ns => by
    show max (PyData.depth (.int n)) (PyData.depthAll (ns.map PyData.int)) = 0
    rw [depth_ints ns]
    rfl
theorem foldl_min (ns : List Int) : ∀ n : Int, (ns.foldl min n = n ∨ ns.foldl min n ∈ ns) ∧ ns.foldl min n ≤ n ∧ ∀ y ∈ ns, ns.foldl min n ≤ y := by
  induction ns with
  | nil => exact fun n => ⟨.inl rfl, Int.le_refl _, fun y hy => (List.not_mem_nil hy).elim⟩
  | cons m ns ih =>
    intro n
    obtain ⟨h1, h2, h3⟩ := ih (min n m)
    have e : (m :: ns).foldl min n = ns.foldl min (min n m) := rfl
    rw [e]
    refine ⟨?_, by omega, fun y hy => ?_⟩
    · rcases h1 with z | z
      · by_cases c : n ≤ m
        · exact .inl (by rw [z]; omega)
        · exact .inr (by rw [z, show min n m = m by omega]; exact List.mem_cons_self)
      · exact .inr (List.mem_cons_of_mem _ z)
    · rcases List.mem_cons.mp hy with z | z
      · omega
      · exact h3 y z
open PySem.W PySem.SeqAt in
theorem cr_minD {X : Cx} (hc : X.calm = true) (hu : X.A.units + 64 < cLine) : CallRK X (.builtin "min") [Str.ofString "default"] (rMinD X.K) := by
  intro pins s σ H vs zs us ws Q I r rz h
  obtain ⟨a, ns, d, rfl, rfl, hs, q0, q⟩ := h
  obtain ⟨its, rv, hl, _⟩ := I.list hs
  obtain rfl := Vals.ref1 r
  obtain ⟨w1, rfl, e1⟩ := vals1 rz
  refine min_list_default (I.ok.hd hc) hl.isList (by simpa using ints_readAll s.heap rv.ints) (alike_ints ns) (by rw [depth_ints]; omega) (fun e h' tk kp => ?_) fun y ys i v h' tk bs e hv hr kp => ?_
  · exact ⟨.int d, H, I.kept kp, e1, q0 (List.map_eq_nil_iff.mp e)⟩
  · cases ns with
    | nil => cases e
    | cons n ms =>
      obtain ⟨rfl, rfl⟩ := List.cons.inj e
      rw [minD_ints] at hr
      cases hr
      obtain ⟨g1, g2, g3⟩ := foldl_min ms n
      refine ⟨.int _, H, I.kept kp, ⟨_, rfl⟩, q _ ?_ fun y hy => ?_⟩
      · rcases g1 with z | z
        · rw [z]
          exact List.mem_cons_self
        · exact List.mem_cons_of_mem _ z
      · rcases List.mem_cons.mp hy with z | z
        · rw [z]
          exact g2
        · exact g3 y z
/-! ### numbers as texts -/
open TL in
theorem num_T (n : Nat) : (Str.ofString (toString ((n : Nat) : Int)) : Str) = T (numL n) := by
  have e : (Str.ofString (toString ((n : Nat) : Int))).cps.toList = numL n := tl_num n
  rw [← e]
  show _ = Str.mk _
  rw [Array.toArray_toList]
theorem log_ok {n : Nat} (h : n < 10 ^ 9) : n.log2 < 1920 := by
  by_cases h0 : n = 0
  · subst h0
    decide
  · exact Nat.lt_of_lt_of_le ((Nat.log2_lt h0).mpr (Nat.lt_of_lt_of_le h (show 10 ^ 9 ≤ 2 ^ 30 by decide))) (by decide)
def rStrN : List V → Hp → VK → Prop := fun xs H Q => ∃ n : Nat, xs = [.int (n : Int)] ∧ n < 10 ^ 9 ∧ Q (.str (T (TL.numL n))) H
theorem call_strN {X : Cx} : CallR X (.type "str") rStrN := by
  intro pins s σ H xs us Q I r h
  obtain ⟨n, e, hn, q⟩ := h
  exact call_str_int pins s σ H xs us Q I r ⟨n, e, log_ok hn, by rw [← num_T] at q; exact q⟩
def NLr : List Str := ["script", "at", "count", "found", "k", "cell", "text"]
theorem scLRefs : FnScope NLr ["script", "at", "count"] (defScope sLRefs) := ⟨rfl, rfl, rfl, by decide +kernel, rfl, by decide +kernel, by decide +kernel⟩
def RfOk (r : Rf) : Prop := Asc r.1 ∧ Dna r.2 ∧ 1 ≤ r.2.length ∧ r.2.length ≤ 45
theorem nm_asc (n : Nat) : Asc ([114] ++ TL.numL (n % 2)) := by
  have h : n % 2 = 0 ∨ n % 2 = 1 := by omega
  rcases h with h | h <;> rw [h]
  · show ∀ c ∈ ([114] ++ TL.numL 0), c < 128
    decide +kernel
  · show ∀ c ∈ ([114] ++ TL.numL 1), c < 128
    decide +kernel
theorem r_text : Str.ofString "r" = T [114] := by decide +kernel
theorem nm_len (n : Nat) : (Str.ofString "r").length + (T (TL.numL (n % 2))).length ≤ sizeLine := by
  have h : n % 2 = 0 ∨ n % 2 = 1 := by omega
  rcases h with h | h <;> rw [h] <;> exact line_ok (by decide +kernel)
section
variable {P : Program} {w : World} {K : PySem.W.Frag} {mg : Str → Option Value} {base : Heap}
def spLRefs (K : PySem.W.Frag) : Sp := fun vs H Q _ => ∃ (a : Addr) (ns : List Int) (c : Nat) (n : Nat), vs = [.ref a, .int (c : Int), .int (n : Int)] ∧ SqL K H a (ns.map V.int) ∧ n ≤ 50 ∧
  ∀ (H' : Hp) (p : Addr) (xs : List V) (rs : List Rf), Same H H' → H p = none → H' p = some (.lst xs) → Tups H' xs rs → rs.length = n → (∀ r ∈ rs, RfOk r) → Q (.ref p) H'
theorem ok_lrefs {f : Addr} {fd : FuncData} {m : Nat} (F : Fun K "_law_references" "_law_references" sLRefs f fd) (B : Bl mg) (mstr : mg "str" = none) (hC : Has P w K mg base (m + 1) "_law_cell" ["script", "k"] (spCell K)) (hT : Has P w K mg base (m + 2) "_law_text" ["cell", "size"] (spText K)) :
    FnOk P w K mg base CX0 (m + 3) f fd ["script", "at", "count"] (spLRefs K) := by
  obtain ⟨fC, dC, GC, gC, kC, bC⟩ := hC
  obtain ⟨fT, dT, GT, gT, kT, bT⟩ := hT
  refine F.ok scLRefs (fun vs H Q E h => ?_) (fun cdv A outer s H vs Q E hr h => ?_)
  · obtain ⟨a, ns, c, n, rfl, _⟩ := h
    rfl
  · obtain ⟨a, ns, c, n, rfl, hs, hn, q⟩ := h
    have hr1 : Room (m + 1) _ := hr.mono (by omega)
    have hr2 : Room (m + 2) _ := hr.mono (by omega)
    refine ⟨_, (pss_cons (ps_set (i := 3) scLRefs.nd rfl (.inl rfl) (pe_lst pa_nil))
      (pss_cons (ps_for PassesOwn.never rfl (pi_range1 rfl B.range (pa_cons (pv 2) pa_nil)) (pg_name (i := 4) scLRefs.nd rfl (.inl rfl))
        (C8.pss_cut (ps_set (i := 5) scLRefs.nd rfl (.inl rfl) (pe_call GC hr1 (by rfl) gC kC bC .nil pass0 (pa_cons (pv 0) (pa_cons (pe_op op_add (pv 1) (pe_op op_mul pe_int (pv 4))) pa_nil))))
      (C8.pss_cut (ps_set (i := 6) scLRefs.nd rfl (.inl rfl) (pe_call GT hr2 (by rfl) gT kT bT .nil pass0 (pa_cons (pe_call GC hr1 (by rfl) gC kC bC .nil pass0 (pa_cons (pv 0) (pa_cons (pe_op op_add (pe_op op_add (pv 1) pe_int) (pe_op op_mul pe_int (pv 4))) pa_nil))) (pa_cons (pe_op op_add pe_int (pe_op op_mod (pv 5) pe_int)) pa_nil))))
      (C8.pss_cut (ps_if (PW.pt (pw_and (pt_cmpR op_gt (pv 4) pe_int (nomark _)) (pw_and1 (pt_cmpR op_eq (pe_op op_mod (pe_op op_fdiv (pv 5) pe_int) pe_int) pe_int (nomark _))))) (pss_one (ps_set (i := 6) scLRefs.nd rfl (.inl rfl) (pe_ix ix_tup (pe_ix ix_list (pv 3) pe_int (fun _ _ => rfl)) pe_int (fun _ _ => rfl)))) pss_nil)
      (pss_one (ps_expr (pe_bm PySem.F.plainAttrs_list PySem.F.slot_list_append PySem.F.type_list_append mt_append (pv 3) (pa_cons (pe_tup (pa_cons (pe_op op_add_str pe_str (pe_callTy call_strN (by rfl) mstr (by decide +kernel) (pa_cons (pe_op op_mod (pe_callTy call_int1 (by rfl) B.int (by decide +kernel) (pa_cons (pe_callB call_len_str (by rfl) B.len PySem.boot_len (pa_cons (pv 6) pa_nil)) pa_nil)) pe_int) pa_nil))) (pa_cons (pv 6) pa_nil))) pa_nil))))))))
      (pss_one (ps_ret (pv 3))))), ?_⟩
    refine ⟨Nat.zero_le _, fun p hp => ⟨.int n, rfl, n, rfl, by omega, by omega, ?_⟩⟩
    have s0 : Same H (upd H p (.lst [])) := same_upd hp
    refine for_range (lo := 0) (n := (n : Int).toNat) (fun i σ H' => ∃ (xs : List V) (rs : List Rf) (v4 v5 v6 : Option V), σ = [some (.ref a), some (.int (c : Int)), some (.int (n : Int)), some (.ref p), v4, v5, v6] ∧ Same H H' ∧ H' p = some (.lst xs) ∧ Tups H' xs rs ∧ rs.length = i ∧ ∀ r ∈ rs, RfOk r) ?_ ?_ ?_
    · exact ⟨[], [], none, none, none, rfl, s0, upd_same, .nil, rfl, fun r hr => (List.not_mem_nil hr).elim⟩
    · rintro i σ H' hi ⟨xs, rs, v4, v5, v6, rfl, sm, hx, ht, hrl, hrs⟩
      refine ⟨fun σ H2 => H2 = H' ∧ ∃ z : Int, σ = [some (.ref a), some (.int (c : Int)), some (.int (n : Int)), some (.ref p), some (.int (0 + (i : Nat))), some (.int z), v6], ?_, ?_⟩
      · exact ⟨.ref a, rfl, .int c, rfl, .int (0 + (i : Nat)), rfl, 2, _, rfl, rfl, .inl ⟨by decide, by decide⟩, c, _, rfl, rfl, a, ns, c + 2 * i, cell_arg2 a c 2 i, sm.seq hs, fun z => ⟨rfl, z, rfl⟩⟩
      rintro σ H2 ⟨rfl, z, rfl⟩
      refine ⟨fun σ H3 => Same H2 H3 ∧ ∃ l : List Nat, Dna l ∧ 1 ≤ l.length ∧ l.length ≤ 45 ∧ σ = [some (.ref a), some (.int (c : Int)), some (.int (n : Int)), some (.ref p), some (.int (0 + (i : Nat))), some (.int z), some (.str (Hr.T l))], ?_, ?_⟩
      · refine ⟨.ref a, rfl, .int c, rfl, c, 1, rfl, rfl, .int (0 + (i : Nat)), rfl, 2, _, rfl, rfl, .inl ⟨by decide, by decide⟩, ((c + 1 : Nat) : Int), _, rfl, rfl, a, ns, (c + 1) + 2 * i, cell_arg2 a (c + 1) 2 i, sm.seq hs, fun y => ?_⟩
        refine ⟨.int z, rfl, z, 45, rfl, rfl, (show (0 : Int) < 45 by decide), 1, _, rfl, rfl, y, 1 + z % 45, rfl, by omega, by omega, fun H3 l s3 dl ll => ⟨s3, l, dl, by omega, by omega, rfl⟩⟩
      rintro σ H3 ⟨s3, l0, dl0, l01, l02, rfl⟩
      have hx3 := s3 _ _ hx
      have ht3 := ht.same s3
      have sm3 := sm.trans s3
      refine ⟨fun σ H4 => H4 = H3 ∧ ∃ l : List Nat, Dna l ∧ 1 ≤ l.length ∧ l.length ≤ 45 ∧ σ = [some (.ref a), some (.int (c : Int)), some (.int (n : Int)), some (.ref p), some (.int (0 + (i : Nat))), some (.int z), some (.str (Hr.T l))], ?_, ?_⟩
      · refine ⟨_, rfl, _, 0, rfl, rfl, _, rfl, ite2 (fun e => ?_) (fun e => iteF ⟨rfl, l0, dl0, l01, l02, rfl⟩)⟩
        refine ⟨.int z, rfl, z, 45, rfl, rfl, ⟨by decide, by decide⟩, _, 4, rfl, rfl, (show (0 : Int) < 4 by decide), rfl, _, rfl, ite2 (fun e2 => ?_) (fun e2 => ⟨rfl, l0, dl0, l01, l02, rfl⟩)⟩
        have hi0 : 0 < i := by
          have := of_decide_eq_true e
          omega
        have h0 : 0 < xs.length := by
          rw [paired_len ht3]
          omega
        obtain ⟨r, hr0, qa, ea, hqa⟩ := paired_get ht3 (List.getElem?_eq_getElem h0)
        obtain ⟨_, g1, g2, g3⟩ := hrs r (List.mem_of_getElem? hr0)
        exact ⟨.ref p, rfl, p, _, 0, .ref qa, rfl, rfl, .inl (.inl hx3), atI_nat (j := 0) (by rw [List.getElem?_eq_getElem h0, ea]), qa, _, 1, .str (Hr.T r.2), rfl, rfl, .inl (.inl hqa), atI_nat (j := 1) rfl, rfl, r.2, g1, g2, g3, rfl⟩
      rintro σ H4 ⟨rfl, l, dl, l1, l2, rfl⟩
      have hz : (Hr.T l).length ≤ sizeLine := line_ok (by rw [T_len]; omega)
      have em : (((Hr.T l).length : Nat) : Int) % 2 = ((l.length % 2 : Nat) : Int) := by
        rw [T_len]
        rfl
      refine ⟨.ref p, rfl, .inl ⟨rfl, _, .inl (.inl hx3)⟩, .str (Hr.T l), rfl, Hr.T l, rfl, hz, .inl ⟨_, rfl, _, 2, rfl, rfl, (show (0 : Int) < 2 by decide), l.length % 2, congrArg (fun z => [V.int z]) em, by omega, _, _, rfl, rfl, nm_len l.length, .str (Hr.T l), rfl, by show 2 ≤ sizeLine; decide, fun q2 hq2 => ?_⟩⟩
      have npq : p ≠ q2 := ne_of_none hx3 hq2
      have hxl := paired_len ht3
      refine ⟨p, xs, _, rfl, rfl, by rw [upd_ne npq]; exact hx3, line_lt (by omega), xs ++ [.ref q2], rs ++ [([114] ++ TL.numL (l.length % 2), l)], _, _, _, rfl, same_new (sm3.trans (same_upd hq2)) hp, upd_same, ?_, by rw [List.length_append, hrl]; rfl, fun r hr' => ?_⟩
      · refine Tups.snoc (ht3.mono fun b ys hb => ?_) ?_
        · rw [upd_ne (fun z => by rw [z, hx3] at hb; cases hb), upd_ne (ne_of_none hb hq2)]
          exact hb
        · rw [upd_ne npq.symm, upd_same, r_text, T_app]
      · rcases List.mem_append.mp hr' with y | y
        · exact hrs r y
        · rw [List.mem_singleton.mp y]
          exact ⟨nm_asc _, dl, l1, l2⟩
    · rintro σ H' ⟨xs, rs, v4, v5, v6, rfl, sm, hx, ht, hrl, hrs⟩
      exact ⟨_, rfl, q H' p xs rs sm hp hx ht (by omega) hrs⟩
end
/-! ### hits -/
abbrev Ht := Int × Int × Int × Int
def it4 (h : Ht) : List Int := [h.1, h.2.1, h.2.2.1, h.2.2.2]
def Hts (H : Hp) : List V → List Ht → Prop := Paired fun v h => ∃ q, v = .ref q ∧ H q = some (.tup ((it4 h).map V.int))
theorem Hts.mono {H H' : Hp} {xs : List V} {hs : List Ht} (h : Hts H xs hs) (k : ∀ q ys, H q = some (.tup ys) → H' q = some (.tup ys)) : Hts H' xs hs := Paired.mapP h fun _ _ ⟨q, e, t⟩ => ⟨q, e, k q _ t⟩
theorem Hts.same {H H' : Hp} {xs : List V} {hs : List Ht} (h : Hts H xs hs) (s : Same H H') : Hts H' xs hs := h.mono fun q ys e => s _ _ e
theorem Hts.snoc {H : Hp} {xs : List V} {hs : List Ht} {q : Addr} {r : Ht} (h : Hts H xs hs) (e : H q = some (.tup ((it4 r).map V.int))) : Hts H (xs ++ [.ref q]) (hs ++ [r]) := Paired.snoc h ⟨q, rfl, e⟩
/-- the hits of a text on a strand of one reference -/
def hRow (l t : List Nat) (k : Nat) (r s : Int) : List Ht := (endsTo l t (k : Int) t.length).map fun e => (r, s, (e.1 : Int), e.2)
def hStr (rs : List Rf) (l : List Nat) (k : Nat) (s : Int) : List Ht := (List.range rs.length).flatMap fun r => hRow l (txt rs r) k (r : Int) s
/-- all hits, reference by reference -/
def hAll (rs : List Rf) (l : List Nat) (k : Nat) : List Ht := (List.range rs.length).flatMap fun r => hRow l (txt rs r) k (r : Int) 0 ++ hRow (turn l) (txt rs r) k (r : Int) 1
theorem flatMap_two {α β : Type} (f g : α → List β) : ∀ l : List α, (l.flatMap f ++ l.flatMap g).Perm (l.flatMap fun x => f x ++ g x)
  | [] => .refl _
  | x :: l => by
    rw [List.flatMap_cons, List.flatMap_cons, List.flatMap_cons, List.append_assoc, List.append_assoc]
    refine List.Perm.append_left _ ?_
    refine List.Perm.trans ?_ (List.Perm.append_left _ (flatMap_two f g l))
    rw [← List.append_assoc, ← List.append_assoc]
    exact List.Perm.append_right _ List.perm_append_comm
theorem hAll_perm (rs : List Rf) (l : List Nat) (k : Nat) : (hStr rs l k 0 ++ hStr rs (turn l) k 1).Perm (hAll rs l k) := flatMap_two _ _ _
theorem flatMap_filter {α β : Type} (f : α → List β) (p : α → Bool) : ∀ l : List α, (∀ x ∈ l, p x = false → f x = []) → l.flatMap f = (l.filter p).flatMap f
  | [], _ => rfl
  | x :: l, h => by
    have ih := flatMap_filter f p l fun y hy => h y (List.mem_cons_of_mem _ hy)
    rw [List.filter_cons]
    cases e : p x
    · rw [List.flatMap_cons, h x List.mem_cons_self e, List.nil_append, ih]
      rfl
    · rw [List.flatMap_cons, ih]
      rfl
theorem keys_perm {β : Type} {ks : List Nat} {n : Nat} {f : Nat → List β} (nd : ks.Nodup) (lt : ∀ x ∈ ks, x < n) (out : ∀ x, x < n → x ∉ ks → f x = []) : (ks.flatMap f).Perm ((List.range n).flatMap f) := by
  rw [flatMap_filter f (fun x => decide (x ∈ ks)) (List.range n) fun x hx e => out x (List.mem_range.mp hx) (of_decide_eq_false e)]
  refine List.Perm.flatMap_right _ ((List.perm_ext_iff_of_nodup nd (List.nodup_range.filter _)).mpr fun x => ?_)
  rw [List.mem_filter, List.mem_range, decide_eq_true_iff]
  exact ⟨fun h => ⟨lt x h, h⟩, fun h => h.2⟩
/-! ### their order -/
def MB : Int := 1000000
theorem code4 (h : Ht) : TS.code MB (it4 h) = h.1 * 1000000000000000000 + (h.2.1 * 1000000000000 + (h.2.2.1 * 1000000 + h.2.2.2)) := by
  show h.1 * MB ^ 3 + (h.2.1 * MB ^ 2 + (h.2.2.1 * MB ^ 1 + (h.2.2.2 * MB ^ 0 + 0))) = _
  rw [show MB ^ 3 = 1000000000000000000 by decide +kernel, show MB ^ 2 = 1000000000000 by decide +kernel, show MB ^ 1 = 1000000 by decide +kernel, show MB ^ 0 = 1 by decide +kernel]
  omega
def HB (h : Ht) : Prop := TS.Bd MB (it4 h)
theorem hb_of {h : Ht} (h1 : 0 ≤ h.1 ∧ h.1 < MB) (h2 : 0 ≤ h.2.1 ∧ h.2.1 < MB) (h3 : 0 ≤ h.2.2.1 ∧ h.2.2.1 < MB) (h4 : 0 ≤ h.2.2.2 ∧ h.2.2.2 < MB) : HB h := fun m hm => by
  rcases List.mem_cons.mp hm with z | hm
  · rw [z]
    exact h1
  rcases List.mem_cons.mp hm with z | hm
  · rw [z]
    exact h2
  rcases List.mem_cons.mp hm with z | hm
  · rw [z]
    exact h3
  · rw [List.mem_singleton.mp hm]
    exact h4
theorem hb_get {h : Ht} (b : HB h) : (0 ≤ h.1 ∧ h.1 < 1000000) ∧ (0 ≤ h.2.1 ∧ h.2.1 < 1000000) ∧ (0 ≤ h.2.2.1 ∧ h.2.2.1 < 1000000) ∧ 0 ≤ h.2.2.2 ∧ h.2.2.2 < 1000000 :=
  ⟨b _ List.mem_cons_self, b _ (List.mem_cons_of_mem _ List.mem_cons_self), b _ (List.mem_cons_of_mem _ (List.mem_cons_of_mem _ List.mem_cons_self)), b _ (List.mem_cons_of_mem _ (List.mem_cons_of_mem _ (List.mem_cons_of_mem _ List.mem_cons_self)))⟩
theorem code_inj4 {a b : Ht} (ha : HB a) (hb : HB b) (h1 : TS.code MB (it4 a) ≤ TS.code MB (it4 b)) (h2 : TS.code MB (it4 b) ≤ TS.code MB (it4 a)) : a = b := by
  rw [code4, code4] at h1 h2
  obtain ⟨a1, a2, a3, a4⟩ := hb_get ha
  obtain ⟨b1, b2, b3, b4⟩ := hb_get hb
  obtain ⟨x1, x2, x3, x4⟩ := a
  obtain ⟨y1, y2, y3, y4⟩ := b
  dsimp only at *
  have e1 : x1 = y1 := by omega
  have e2 : x2 = y2 := by omega
  have e3 : x3 = y3 := by omega
  have e4 : x4 = y4 := by omega
  rw [e1, e2, e3, e4]
theorem colT_nn (r t : List Nat) : 0 ≤ colT r 0 t r.length := by
  obtain ⟨u, v, c, _, _, e⟩ := colT_ex r t r.length (Nat.le_refl _)
  rw [← e]
  exact Int.natCast_nonneg _
theorem hRow_mem {l t : List Nat} {k : Nat} {r s : Int} {h : Ht} (m : h ∈ hRow l t k r s) : h.1 = r ∧ h.2.1 = s ∧ (∃ e : Nat, e ≤ t.length ∧ h.2.2.1 = (e : Int)) ∧ 0 ≤ h.2.2.2 ∧ h.2.2.2 ≤ (k : Int) := by
  unfold hRow at m
  obtain ⟨⟨e, v⟩, he, rfl⟩ := List.mem_map.mp m
  obtain ⟨h1, h2, h3⟩ := mem_ends.mp he
  refine ⟨rfl, rfl, ⟨e, h1, rfl⟩, ?_, h3⟩
  rw [h2]
  exact colT_nn _ _
theorem hRow_hb {l t : List Nat} {k r s : Nat} {h : Ht} (m : h ∈ hRow l t k (r : Int) (s : Int)) (hr : r < 10000) (hs : s < 10) (ht : t.length ≤ 90000) (hk : k ≤ 1000) : HB h := by
  obtain ⟨e1, e2, ⟨e, he, e3⟩, h4, h5⟩ := hRow_mem m
  have b : MB = 1000000 := rfl
  exact hb_of (by omega) (by omega) (by omega) (by omega)
theorem hRow_up {l t : List Nat} {k r s : Nat} (hr : r < 10000) (hs : s < 10) (ht : t.length ≤ 90000) (hk : k ≤ 1000) : (hRow l t k (r : Int) (s : Int)).Pairwise fun a b => TS.code MB (it4 a) ≤ TS.code MB (it4 b) := by
  refine List.Pairwise.imp_of_mem (R := fun a b => a.2.2.1 < b.2.2.1) (fun {a b} ma mb h => ?_) ?_
  · rw [code4, code4]
    obtain ⟨a1, a2, _, a4, a5⟩ := hRow_mem ma
    obtain ⟨b1, b2, _, b4, b5⟩ := hRow_mem mb
    omega
  · unfold hRow
    rw [List.pairwise_map]
    exact (ends_asc ..).imp fun h => by
      dsimp only
      omega
theorem hAll_hb {rs : List Rf} {l : List Nat} {k : Nat} (hr : rs.length ≤ 4000) (ht : ∀ r, (txt rs r).length ≤ 4000) (hk : k ≤ 1000) : ∀ h ∈ hAll rs l k, HB h := fun h m => by
  unfold hAll at m
  obtain ⟨r, mr, m⟩ := List.mem_flatMap.mp m
  have lt := List.mem_range.mp mr
  have tl := ht r
  rcases List.mem_append.mp m with z | z
  · exact hRow_hb (s := 0) z (by omega) (by decide) (by omega) hk
  · exact hRow_hb (s := 1) z (by omega) (by decide) (by omega) hk
theorem hAll_up {rs : List Rf} {l : List Nat} {k : Nat} (hr : rs.length ≤ 4000) (ht : ∀ r, (txt rs r).length ≤ 4000) (hk : k ≤ 1000) : (hAll rs l k).Pairwise fun a b => TS.code MB (it4 a) ≤ TS.code MB (it4 b) := by
  unfold hAll
  rw [List.pairwise_flatMap]
  refine ⟨fun r mr => ?_, ?_⟩
  · have lt := List.mem_range.mp mr
    have tl := ht r
    refine List.pairwise_append.mpr ⟨hRow_up (s := 0) (by omega) (by decide) (by omega) hk, hRow_up (s := 1) (by omega) (by decide) (by omega) hk, fun a ma b mb => ?_⟩
    obtain ⟨a1, a2, ⟨e, he, a3⟩, a4, a5⟩ := hRow_mem ma
    obtain ⟨b1, b2, ⟨e', he', b3⟩, b4, b5⟩ := hRow_mem mb
    rw [code4, code4]
    omega
  · refine List.Pairwise.imp_of_mem (R := fun a b => a < b) (fun {r q} mr mq h x hx y hy => ?_) List.pairwise_lt_range
    have l1 := List.mem_range.mp mr
    have l2 := List.mem_range.mp mq
    have t1 := ht r
    have t2 := ht q
    have ex : x.1 = (r : Int) ∧ HB x := by
      rcases List.mem_append.mp hx with z | z
      · exact ⟨(hRow_mem z).1, hRow_hb (s := 0) z (by omega) (by decide) (by omega) hk⟩
      · exact ⟨(hRow_mem z).1, hRow_hb (s := 1) z (by omega) (by decide) (by omega) hk⟩
    have ey : y.1 = (q : Int) ∧ HB y := by
      rcases List.mem_append.mp hy with z | z
      · exact ⟨(hRow_mem z).1, hRow_hb (s := 0) z (by omega) (by decide) (by omega) hk⟩
      · exact ⟨(hRow_mem z).1, hRow_hb (s := 1) z (by omega) (by decide) (by omega) hk⟩
    obtain ⟨x1, x2, x3, x4⟩ := hb_get ex.2
    obtain ⟨y1, y2, y3, y4⟩ := hb_get ey.2
    rw [code4, code4]
    have := ex.1
    have := ey.1
    omega
theorem hits_sorted {a b : List Ht} (hp : a.Perm b) (hb : ∀ h ∈ b, HB h) (sa : a.Pairwise fun x y => TS.code MB (it4 x) ≤ TS.code MB (it4 y)) (sb : b.Pairwise fun x y => TS.code MB (it4 x) ≤ TS.code MB (it4 y)) : a = b :=
  List.Perm.eq_of_pairwise (le := fun x y => TS.code MB (it4 x) ≤ TS.code MB (it4 y)) (fun x y mx my h1 h2 => code_inj4 (hb x (hp.mem_iff.mp mx)) (hb y my) h1 h2) sa sb hp
/-! ### the windows that are searched -/
def NCo : List Str := ["index", "read", "k", "many", "part", "low", "high"]
theorem scCommon : FnScope NCo ["index", "read", "k"] (defScope sCommon) := ⟨rfl, rfl, rfl, by decide +kernel, rfl, by decide +kernel, by decide +kernel⟩
def NSe : List Str := ["index", "read", "k", "reference", "begins"]
theorem scSearch : FnScope NSe ["index", "read", "k"] (defScope sSearch) := ⟨rfl, rfl, rfl, by decide +kernel, rfl, by decide +kernel, by decide +kernel⟩
def rLen1 : List V → Hp → VK → Prop := fun xs H Q => ∃ z, xs = [.str z] ∧ z.length ≤ sizeLine ∧ Q (.int z.length) H
abbrev Ws := Nat × Addr × List V × List Wn
structure SWd (H : Hp) (d : Addr) (rs : List Rf) (l : List Nat) (k : Nat) (ts : List Ws) : Prop where
  top : H d = some (.dK (ts.map fun t => (kN t.1, V.ref t.2.1)))
  nk : (ts.map (·.1)).Nodup
  row : ∀ t ∈ ts, t.1 < rs.length ∧ H t.2.1 = some (.lst t.2.2.1) ∧ Plc H t.2.2.1 t.2.2.2 ∧ (∀ w ∈ t.2.2.2, w.1 ≤ w.2 ∧ w.2 ≤ (txt rs t.1).length) ∧ t.2.2.2.flatMap (hitsIn l (txt rs t.1) (k : Int)) = endsTo l (txt rs t.1) (k : Int) (txt rs t.1).length
  out : ∀ r, r < rs.length → r ∉ ts.map (·.1) → endsTo l (txt rs r) (k : Int) (txt rs r).length = []
abbrev SRow (H : Hp) (rs : List Rf) (l : List Nat) (k : Nat) (t : Ws) : Prop := t.1 < rs.length ∧ H t.2.1 = some (.lst t.2.2.1) ∧ Plc H t.2.2.1 t.2.2.2 ∧ (∀ w ∈ t.2.2.2, w.1 ≤ w.2 ∧ w.2 ≤ (txt rs t.1).length) ∧ t.2.2.2.flatMap (hitsIn l (txt rs t.1) (k : Int)) = endsTo l (txt rs t.1) (k : Int) (txt rs t.1).length
theorem SRow.same {H H' : Hp} {rs : List Rf} {l : List Nat} {k : Nat} {t : Ws} (h : SRow H rs l k t) (s : Same H H') : SRow H' rs l k t := ⟨h.1, s _ _ h.2.1, h.2.2.1.same s, h.2.2.2⟩
theorem SRow.off {H : Hp} {rs : List Rf} {l : List Nat} {k : Nat} {t : Ws} {d : Addr} {ks ks' : List (Key × V)} (h : SRow H rs l k t) (e : H d = some (.dK ks)) : SRow (upd H d (.dK ks')) rs l k t :=
  ⟨h.1, (upd_ne (fun z => by have := h.2.1; rw [z, e] at this; cases this)).trans h.2.1, h.2.2.1.mono fun q ys z => (upd_ne (fun y => by rw [y, e] at z; cases z)).trans z, h.2.2.2⟩
theorem winL_nil (n L k : Nat) : winL n L k [] = [] := by
  unfold winL
  rw [show srt [] = [] from List.Perm.eq_nil (srt_perm [])]
  rfl
theorem val_new {ts : List Ws} {r : Nat} (h : ∀ t ∈ ts, t.1 ≠ r) : valV (ts.map fun t => (kN t.1, V.ref t.2.1)) (kN r) = none := by
  induction ts with
  | nil => rfl
  | cons t ts ih =>
    rw [List.map_cons, valV_neg (fun z => h t List.mem_cons_self (kN_inj _ _ z))]
    exact ih fun u hu => h u (List.mem_cons_of_mem _ hu)
theorem same_drop {H H' : Hp} {D : Addr} {o : HO} (hD : H D = none) (s : Same H H') : Same H (upd H' D o) := same_new s hD
theorem hitsIn_all (l t : List Nat) (k : Int) : hitsIn l t k (0, t.length) = endsTo l t k t.length := by
  unfold hitsIn
  rw [List.drop_zero, Nat.sub_zero, List.take_length]
  have : (fun p : Nat × Int => (0 + p.1, p.2)) = id := funext fun p => by rw [Nat.zero_add]; rfl
  show (endsTo l t k t.length).map (fun p : Nat × Int => (0 + p.1, p.2)) = _
  rw [this, List.map_id]
theorem jl_many : ∀ rs : List Rf, rs.length ≤ jl rs
  | [] => Nat.zero_le _
  | r :: rs => by
    have := jl_many rs
    show rs.length + 1 ≤ r.2.length + 1 + jl rs
    omega
section
variable {P : Program} {w : World} {K : PySem.W.Frag} {mg : Str → Option Value} {base : Heap}
def spCommon (C : Addr) : Sp := fun vs H Q _ => ∃ (x : Addr) (rs : List Rf) (b s : Nat) (l : List Nat) (k : Nat), vs = [.ref x, .str (T l), .int (k : Int)] ∧ Ixd C H x rs b s ∧ IxOk rs b s ∧ Dna l ∧ l.length ≤ 100000 ∧ k ≤ 1000 ∧ k < l.length ∧ ∀ (H' : Hp) (c : Bool), Same H H' → Q (.bl c) H'
theorem ok_common {f C : Addr} {fd : FuncData} (F : Fun K "_is_common" "_is_common" sCommon f fd) (X : IxT K mg C) (hKn : Has P w K mg base 3 "_known_parts" ["read", "k"] spKnown) (hIv : HasM P w K mg base C 5 "interval" ["self", "piece"] (spIval C)) (hLn : HasM P w K mg base C 2 "length" ["self"] (spLen C)) :
    FnOk P w K mg base CX0 6 f fd ["index", "read", "k"] (spCommon C) := by
  obtain ⟨fK, dK, GK, gK, kK, bK⟩ := hKn
  obtain ⟨f1, d1, G1, m1, b1⟩ := hIv
  obtain ⟨f2, d2, G2, m2, b2⟩ := hLn
  refine F.ok scCommon (fun vs H Q E h => ?_) (fun cdv A outer s H vs Q E hr h => ?_)
  · obtain ⟨x, rs, b, s, l, k, rfl, _⟩ := h
    rfl
  · obtain ⟨x, rs, b, s, l, k, rfl, hI, hok, hd, hl, hk, hkl, q⟩ := h
    have hr5 : Room 5 _ := hr.mono (by decide)
    have hr3 : Room 3 _ := hr.mono (by decide)
    have hr2 : Room 2 _ := hr.mono (by decide)
    refine ⟨_, (pss_cons (ps_set (i := 3) scCommon.nd rfl (.inl rfl) pe_int)
      (pss_cons (ps_for PassesOwn.never rfl (pi_keys (pe_frz (pe_call GK hr3 (by rfl) gK kK bK .nil pass0 (pa_cons (pv 1) (pa_cons (pv 2) pa_nil))))) (pg_name (i := 4) scCommon.nd rfl (.inl rfl))
        (pss_cons (ps_asg (pe_meth (pv 0) X.cl m1 G1 hr5 b1 .nil pass0 (pa_cons (pv 4) pa_nil)) (pg_tup rfl (pgs_cons (pg_name (i := 5) scCommon.nd rfl (.inl rfl)) (pgs_cons (pg_name (i := 6) scCommon.nd rfl (.inl rfl)) pgs_nil))))
      (pss_one (ps_aug (i := 3) scCommon.nd rfl (.inl rfl) (pe_op op_sub (pv 6) (pv 5)) ip_add))))
      (pss_one (ps_ret (pe_cmpR op_gt (pe_op op_mul (pv 3) (pe_fld (pv 0) rfl)) (pe_meth0 (pv 0) X.cl m2 G2 hr2 b2 .nil pass0) (nomark _)))))), ?_⟩
    refine ⟨.str (T l), rfl, .int k, rfl, l, k, rfl, hl, hk, fun H1 p ps s1 D1 pm hkn tl => ?_⟩
    obtain ⟨ks, hks⟩ : ∃ ks, ks = kvs kP ps := ⟨_, rfl⟩
    have hkl' : ks.length = ps.length := by rw [hks]; exact List.length_map _
    have htop := D1.top
    rw [← hks] at htop
    refine ⟨p, _, rfl, htop, True.intro, fun od => ?_⟩
    obtain ⟨Hf, hHf⟩ : ∃ Hf, Hf = upd H1 p (.frz od (.dK ks)) := ⟨_, rfl⟩
    rw [← hHf]
    have hfp : Hf p = some (.frz od (.dK ks)) := by rw [hHf, upd_same]
    have sf : Same H Hf := fun b o e => by
      rw [hHf, upd_ne (ne_of_none e D1.newd)]
      exact s1 b o e
    refine ⟨p, od, rfl, .inl ⟨ks, hfp, ?_⟩⟩
    refine for_gen (n := ks.length) (fun i σ H' => ∃ (mny : Int) (v4 v5 v6 : Option V), σ = [some (.ref x), some (.str (T l)), some (.int (k : Int)), some (.int mny), v4, v5, v6] ∧ Same Hf H') ?_ ?_ ?_ ?_ ?_
    · exact ⟨0, none, none, none, rfl, Same.refl _⟩
    · rintro i σ H' hi ⟨mny, v4, v5, v6, rfl, s2⟩
      exact ⟨s2 _ _ hfp, hi⟩
    · rintro σ H' ⟨mny, v4, v5, v6, rfl, s2⟩
      exact ⟨s2 _ _ hfp, Nat.le_refl _⟩
    · rintro i σ H' v H2 hi ⟨mny, v4, v5, v6, rfl, s2⟩ ⟨rfl, kk, vv, hkv, rfl⟩
      have hip : i < ps.length := by omega
      rw [hks] at hkv
      obtain ⟨t, ht⟩ : ∃ t, ps[i]? = some t := ⟨_, List.getElem?_eq_getElem hip⟩
      have ekv : (kP t.1, V.ref t.2.1) = (kk, vv) := by
        unfold kvs at hkv
        rw [List.getElem?_map, ht] at hkv
        exact Option.some.inj hkv
      obtain ⟨rfl, rfl⟩ := Prod.mk.inj ekv
      have htm := List.mem_of_getElem? ht
      have hpt : Dna t.1 ∧ t.1.length ≤ 100000 ∧ t.1 ≠ [] := by
        obtain ⟨r, hr', e⟩ := hkn (t.1, t.2.2) (List.mem_map_of_mem (f := fun t : Tr (List Nat) => (t.1, t.2.2)) htm)
        dsimp only at e
        rw [e]
        exact knw_part hd hl hkl hr'
      have hI2 := hI.same (sf.trans s2)
      obtain ⟨dx, aR, xs, aL, aM, aC, cs, aS, aB, I⟩ := id hI2
      refine ⟨.ref x, rfl, x, dx, _, rfl, I.ob, lookup_no (ixF_names ..) (by decide +kernel), .str (T t.1), rfl, x, rs, b, s, t.1, rfl, hI2, hok, hpt.1, by have := hpt.2.1; omega, fun H3 pt s3 hpt3 ht3 => ?_⟩
      exact ⟨pt, _, rfl, .inl (.inl ht3), rfl, _, _, rfl, _, _, rfl, rfl, .int mny, rfl, _, rfl, _, rfl, _, _, rfl, rfl, _, _, rfl, rfl, _, _, _, _, rfl, s2.trans s3⟩
    · rintro σ H' ⟨mny, v4, v5, v6, rfl, s2⟩
      have hI2 := hI.same (sf.trans s2)
      obtain ⟨dx, aR, xs, aL, aM, aC, cs, aS, aB, I⟩ := id hI2
      have hsm := hok.2.2.2.2.2
      exact ⟨.int mny, rfl, .ref x, rfl, x, C, dx, _, _, rfl, I.ob, X.cl, X.n3, ixl (i := 2) rfl (by decide +kernel), _, _, rfl, rfl, .inr ⟨by omega, by omega⟩, .ref x, rfl, x, dx, _, rfl, I.ob, lookup_no (ixF_names ..) (by decide +kernel), x, rs, b, s, rfl, hI2, _, _, rfl, rfl, q _ _ (sf.trans s2)⟩
def spSearch (C : Addr) : Sp := fun vs H Q _ => ∃ (x : Addr) (rs : List Rf) (b s : Nat) (l : List Nat) (k : Nat), vs = [.ref x, .str (T l), .int (k : Int)] ∧ Ixd C H x rs b s ∧ IxOk rs b s ∧ Dna l ∧ l.length ≤ 100000 ∧ k ≤ 1000 ∧ ∀ (H' : Hp) (d : Addr) (ts : List Ws), Same H H' → H d = none → SWd H' d rs l k ts → (∀ t ∈ ts, H t.2.1 = none) → Q (.ref d) H'
theorem ok_search {f C : Addr} {fd : FuncData} (F : Fun K "search_windows" "search_windows" sSearch f fd) (X : IxT K mg C) (mlen : mg "len" = none) (mrange : mg "range" = none) (hLO : Has P w K mg base 2 "_length_of" ["index", "reference"] (spLenOf C)) (hEP : Has P w K mg base 2 "_has_empty_part" ["read", "k"] spEmptyP) (hCm : Has P w K mg base 6 "_is_common" ["index", "read", "k"] (spCommon C))
    (hBR : Has P w K mg base 7 "_begins_by_reference" ["index", "read", "k"] (spBegRef C)) (hAr : Has P w K mg base 2 "_windows_around" ["begins", "length", "many", "k"] (spAround K)) : FnOk P w K mg base CX0 8 f fd ["index", "read", "k"] (spSearch C) := by
  obtain ⟨fLO, dLO, GLO, gLO, kLO, bLO⟩ := hLO
  obtain ⟨fEP, dEP, GEP, gEP, kEP, bEP⟩ := hEP
  obtain ⟨fCm, dCm, GCm, gCm, kCm, bCm⟩ := hCm
  obtain ⟨fBR, dBR, GBR, gBR, kBR, bBR⟩ := hBR
  obtain ⟨fAr, dAr, GAr, gAr, kAr, bAr⟩ := hAr
  refine F.ok scSearch (fun vs H Q E h => ?_) (fun cdv A outer s H vs Q E hr h => ?_)
  · obtain ⟨x, rs, b, s, l, k, rfl, _⟩ := h
    rfl
  · obtain ⟨x, rs, b, s, l, k, rfl, hI, hok, hd, hl, hk, q⟩ := h
    have hr7 : Room 7 _ := hr.mono (by decide)
    have hr6 : Room 6 _ := hr.mono (by decide)
    have hr2 : Room 2 _ := hr.mono (by decide)
    refine ⟨_, (pss_cons (ps_if (PW.pt (pw_or (pt_val (pe_call GEP hr2 (by rfl) gEP kEP bEP .nil pass0 (pa_cons (pv 1) (pa_cons (pv 2) pa_nil)))) (pw_or1 (pt_val (pe_call GCm hr6 (by rfl) gCm kCm bCm .nil pass0 (pa_cons (pv 0) (pa_cons (pv 1) (pa_cons (pv 2) pa_nil)))))))) (pss_one (ps_ret (pe_dc (own := [("reference", 3)]) (g := gName 3) (tt := tYes) (tk := tVar 3) (tv := tLst (tCons (tTup (tCons (tC (.int 0)) (tCons (tCall (spLenOf C) [] E0 (tCons (tVar 0) (tCons (tVar 3) tNil))) tNil))) tNil)) (by rfl) scSearch.nd (pi_range1 rfl mrange (pa_cons (pe_callB call_len_seq (by rfl) mlen PySem.boot_len (pa_cons (pe_fld (pv 0) rfl) pa_nil)) pa_nil)) (blkOk_by (own := [("reference", 3)]) (N := NSe) (sc := defScope sSearch) (by decide +kernel)) (fun _ _ _ _ _ => pg_name (i := 3) scSearch.nd rfl (Or.inl rfl)) (fun _ _ _ _ _ => pts_nil) (fun _ _ _ _ _ => (pv 3)) (fun _ _ _ _ _ => (pe_lst (pa_cons (pe_tup (pa_cons pe_int (pa_cons (pe_call GLO hr2 (by rfl) gLO kLO bLO .nil pass0 (pa_cons (pv 0) (pa_cons (pv 3) pa_nil))) pa_nil))) pa_nil)))))) pss_nil)
      (pss_one (ps_ret (pe_dc (own := [("reference", 3), ("begins", 4)]) (g := gTup K 2 (gCons (gName 3) (gCons (gName 4) gNil))) (tt := tYes) (tk := tVar 3) (tv := tCall (spAround K) [] E0 (tCons (tVar 4) (tCons (tCall (spLenOf C) [] E0 (tCons (tVar 0) (tCons (tVar 3) tNil))) (tCons (tCB rLen1 (tCons (tVar 1) tNil)) (tCons (tVar 2) tNil))))) (by rfl) scSearch.nd (pi_items (pe_frz (pe_call GBR hr7 (by rfl) gBR kBR bBR .nil pass0 (pa_cons (pv 0) (pa_cons (pv 1) (pa_cons (pv 2) pa_nil)))))) (blkOk_by (own := [("reference", 3), ("begins", 4)]) (N := NSe) (sc := defScope sSearch) (by decide +kernel)) (fun _ _ _ _ _ => pg_tup rfl (pgs_cons (pg_name (i := 3) scSearch.nd rfl (Or.inl rfl)) (pgs_cons (pg_name (i := 4) scSearch.nd rfl (Or.inl rfl)) pgs_nil))) (fun _ _ _ _ _ => pts_nil) (fun _ _ _ _ _ => (pv 3)) (fun _ _ _ _ _ => (pe_call GAr hr2 (by rfl) gAr kAr bAr .nil pass0 (pa_cons (pv 4) (pa_cons (pe_call GLO hr2 (by rfl) gLO kLO bLO .nil pass0 (pa_cons (pv 0) (pa_cons (pv 3) pa_nil))) (pa_cons (pe_callB (r := rLen1) call_len_str (by rfl) mlen PySem.boot_len (pa_cons (pv 1) pa_nil)) (pa_cons (pv 2) pa_nil)))))))))), ?_⟩
    have hr4 : rs.length ≤ 4000 := by
      have := hok.2.2.1
      have := jl_many rs
      omega
    refine ⟨.str (T l), rfl, .int k, rfl, l, k, rfl, hl, _, rfl, ite2 (fun c => ?_) (fun c => ?_)⟩
    · obtain ⟨dx, aR, xs, aL, aM, aC, cs, aS, aB, I⟩ := id hI
      have hxl := paired_len I.tu
      refine ⟨.ref x, rfl, x, C, dx, _, _, rfl, I.ob, X.cl, X.n1, ixl (i := 0) rfl (by decide +kernel), aR, xs, rfl, .inl (.inl (.inl I.rf)), _, rfl, by rw [hxl]; omega, by rw [hxl]; omega, fun D hD => ?_⟩
      rw [hxl, Int.toNat_natCast]
      refine dc_gen (n := rs.length) (fun i H' => Same H H' ∧ ∃ ts : List Ws, H' D = some (.dK (ts.map fun t => (kN t.1, V.ref t.2.1))) ∧ ts.map (·.1) = List.range i ∧ ∀ t ∈ ts, SRow H' rs l k t ∧ H t.2.1 = none) ⟨same_upd hD, [], upd_same, rfl, fun t ht => (List.not_mem_nil ht).elim⟩ (fun i H' hi _ => hi) (fun H' _ => Nat.le_refl _) ?_ ?_
      · rintro i H' v H'' hi ⟨s2, ts, hd2, hk2, hrow⟩ ⟨rfl, rfl⟩
        refine ⟨rfl, ?_⟩
        dsimp only [tYes]
        rw [if_pos rfl]
        refine ⟨.int (0 + (i : Nat)), rfl, .ref x, rfl, .int (0 + (i : Nat)), rfl, x, rs, b, s, i, by rw [Int.zero_add]; rfl, hI.same ((Same.refl H).trans s2), hok, hi, by show 2 ≤ sizeLine; decide, fun q2 hq2 => ⟨by show 1 ≤ sizeLine; decide, fun q3 hq3 => ?_⟩⟩
        have sq := (same_upd (o := .tup [.int 0, .int ((txt rs i).length : Nat)]) hq2).trans (same_upd (o := .lst [.ref q2]) hq3)
        have few : ts.length = i := by
          have := congrArg List.length hk2
          rw [List.length_map, List.length_range] at this
          exact this
        have hd3 := sq _ _ hd2
        have nD : D ≠ q3 := ne_of_none (same_upd (o := .tup [.int 0, .int ((txt rs i).length : Nat)]) hq2 _ _ hd2) hq3
        refine ⟨_, kN i, by rw [Int.zero_add]; rfl, hd3, line_lt7 (by rw [List.length_map]; omega), same_drop hD (s2.trans sq), ts ++ [(i, q3, [.ref q2], [(0, (txt rs i).length)])], ?_, ?_, fun t ht => ?_⟩
        · rw [upd_same, putK_new _ (val_new fun t ht z => absurd (List.mem_range.mp (hk2 ▸ List.mem_map_of_mem ht : t.1 ∈ List.range i)) (by rw [z]; exact Nat.lt_irrefl _)), List.map_append]
          rfl
        · rw [List.map_append, hk2, List.range_succ]
          rfl
        · rcases List.mem_append.mp ht with z | z
          · exact ⟨((hrow t z).1.same sq).off hd3, (hrow t z).2⟩
          · rw [List.mem_singleton.mp z]
            refine ⟨SRow.off (d := D) ?_ hd3, s2.free (new_old hq3)⟩
            refine ⟨hi, upd_same, .cons ⟨q2, rfl, by rw [upd_ne (ne_of_none upd_same hq3), upd_same]; rfl⟩ .nil, fun w hw => ?_, ?_⟩
            · rw [List.mem_singleton.mp hw]
              exact ⟨Nat.zero_le _, Nat.le_refl _⟩
            · rw [List.flatMap_cons, List.flatMap_nil, List.append_nil]
              exact hitsIn_all _ _ _
      · rintro H' ⟨s2, ts, hd2, hk2, hrow⟩
        exact q H' D ts ((Same.refl H).trans s2) ((Same.refl H).free hD) ⟨hd2, by rw [hk2]; exact List.nodup_range, fun t ht => (hrow t ht).1, fun r hr hn => absurd (hk2 ▸ List.mem_range.mpr hr) hn⟩ fun t ht => (hrow t ht).2
    · have c' : k < l.length := by
        have : ¬ l.length ≤ k := fun z => c (decide_eq_true z)
        omega
      refine ⟨.ref x, rfl, .str (T l), rfl, .int k, rfl, x, rs, b, s, l, k, rfl, hI, hok, hd, hl, hk, c', fun H1 cm s1 => ⟨_, rfl, ?_⟩⟩
      have hI1 := hI.same s1
      cases cm
      · refine iteF ?_
        have hwin : ∀ r, winsOf (txt rs r) l k = winL (txt rs r).length l.length k (begs (txt rs r) l k) := fun r => if_neg (by omega)
        refine ⟨.ref x, rfl, .str (T l), rfl, .int k, rfl, x, rs, b, s, l, k, rfl, hI1, hok, hd, hl, hk, c', fun H2 d ts s2 D2 hlk hrg htl => ?_⟩
        have htop := D2.top
        refine ⟨d, _, rfl, htop, True.intro, fun od => ?_⟩
        obtain ⟨Hf, hHf⟩ : ∃ Hf, Hf = upd H2 d (.frz od (.dK (kvs kN ts))) := ⟨_, rfl⟩
        rw [← hHf]
        have hfp : Hf d = some (.frz od (.dK (kvs kN ts))) := by rw [hHf, upd_same]
        have sf : Same H1 Hf := fun b o e => by
          rw [hHf, upd_ne (ne_of_none e D2.newd)]
          exact s2 b o e
        have hfr : ∀ t ∈ ts, Hf t.2.1 = some (LI t.2.2) := fun t ht => by
          have e := D2.row t ht
          rw [hHf, upd_ne fun z => by rw [z, htop] at e; cases e]
          exact e
        have hkl : (kvs kN ts).length = ts.length := List.length_map _
        refine ⟨d, od, kvs kN ts, rfl, hfp, fun D hD => ?_⟩
        refine dc_gen (n := (kvs kN ts).length) (fun i H' => Same Hf H' ∧ ∃ us : List Ws, H' D = some (.dK (us.map fun t => (kN t.1, V.ref t.2.1))) ∧ us.map (·.1) = (ts.take i).map (·.1) ∧ ∀ t ∈ us, SRow H' rs l k t ∧ Hf t.2.1 = none) ⟨same_upd hD, [], upd_same, rfl, fun t ht => (List.not_mem_nil ht).elim⟩ (fun i H' hi h => ⟨h.1 _ _ hfp, hi⟩) (fun H' h => ⟨h.1 _ _ hfp, Nat.le_refl _⟩) ?_ ?_
        · rintro i H' v H'' hi ⟨s3, us, hd3, hk3, hrow⟩ ⟨T', kk, vv, hkv, rfl, hT', rfl⟩
          have hip : i < ts.length := by omega
          obtain ⟨t, ht⟩ : ∃ t, ts[i]? = some t := ⟨_, List.getElem?_eq_getElem hip⟩
          have ekv : (kN t.1, V.ref t.2.1) = (kk, vv) := by
            unfold kvs at hkv
            rw [List.getElem?_map, ht] at hkv
            exact Option.some.inj hkv
          obtain ⟨rfl, rfl⟩ := Prod.mk.inj ekv
          have htm := List.mem_of_getElem? ht
          obtain ⟨r, qo, bs⟩ := t
          have hrr : r < rs.length := hrg (r, bs) (List.mem_map_of_mem (f := fun t : Tr Nat => (t.1, t.2.2)) htm)
          have sT : Same H' (upd H' T' (.tup [kV (kN r), V.ref qo])) := same_upd hT'
          have hbs : look (ent ts) r = bs := D2.look htm
          have hpm := hlk r
          rw [hbs] at hpm
          have hbl : bs.length ≤ 9000000 := by
            have h0 := hpm.length_eq
            have h1 := begs_len (txt rs r) l k
            have h2 := txt_le hrr
            have h3 := Nat.mul_le_mul (show k + 1 ≤ 1001 by omega) (show (txt rs r).length ≤ 4000 by have := hok.2.2.1; omega)
            omega
          refine ⟨T', _, rfl, .inl (.inl upd_same), rfl, _, _, rfl, _, _, rfl, rfl, rfl, ?_⟩
          dsimp only [tYes]
          rw [if_pos rfl]
          refine ⟨.int r, rfl, .ref qo, rfl, .ref x, rfl, .int r, rfl, x, rs, b, s, r, rfl, hI1.same (sf.trans (s3.trans sT)), hok, hrr, .str (T l), rfl, T l, rfl, line_ok (by rw [T_len]; exact hl), .int k, rfl, qo, bs, (txt rs r).length, l.length, k, by rw [T_len]; rfl, .inl (.inl (sT _ _ (s3 _ _ (hfr _ htm)))), hbl, fun z hz => begs_ok (hpm.mem_iff.mp hz), fun H4 p xs s4 hp hx hxs => ?_⟩
          have hd4 := s4 _ _ (sT _ _ hd3)
          have nD : D ≠ p := ne_of_none (sT _ _ hd3) hp
          have few : us.length = (ts.take i).length := by
            have := congrArg List.length hk3
            rw [List.length_map, List.length_map] at this
            exact this
          rw [List.length_take] at few
          have fresh : ∀ t ∈ us, t.1 ≠ r := fun t ht' z => by
            have h1 : t.1 ∈ (ts.take i).map (·.1) := hk3 ▸ List.mem_map_of_mem ht'
            rw [z] at h1
            obtain ⟨u, hu, e⟩ := List.mem_map.mp h1
            have nk := D2.nk
            rw [← List.take_append_drop i ts, List.map_append, List.nodup_append] at nk
            have h2 : (r, qo, bs) ∈ ts.drop i := List.mem_of_getElem? (i := 0) (by rw [List.getElem?_drop, Nat.add_zero]; exact ht)
            exact nk.2.2 u.1 (List.mem_map_of_mem hu) r (List.mem_map_of_mem (f := fun t : Tr Nat => t.1) h2) e
          obtain ⟨w1, w2, w3⟩ := wins_ok (txt rs r) l k
          have wh := wins_hits (txt rs r) l k
          have ew : winsOf (txt rs r) l k = winL (txt rs r).length l.length k bs := by rw [hwin r, winL_same hpm]
          rw [ew] at w2 w3 wh
          refine ⟨_, kN r, rfl, hd4, line_lt7 (by rw [List.length_map]; omega), same_drop hD (s3.trans (sT.trans s4)), us ++ [(r, p, xs, winL (txt rs r).length l.length k bs)], ?_, ?_, fun t ht' => ?_⟩
          · rw [upd_same, putK_new _ (val_new fresh), List.map_append]
            rfl
          · rw [List.map_append, hk3, List.take_add_one, ht, Option.toList_some, List.map_append]
            rfl
          · rcases List.mem_append.mp ht' with z | z
            · exact ⟨((hrow t z).1.same (sT.trans s4)).off hd4, (hrow t z).2⟩
            · rw [List.mem_singleton.mp z]
              exact ⟨SRow.off (d := D) ⟨hrr, hx, hxs, fun w hw => ⟨w2 w hw, w3 w hw⟩, wh⟩ hd4, s3.free (sT.free hp)⟩
        · rintro H' ⟨s3, us, hd3, hk3, hrow⟩
          rw [hkl, List.take_length] at hk3
          refine q H' D us (s1.trans (sf.trans s3)) (s1.free (sf.free hD)) ⟨hd3, by rw [hk3]; exact D2.nk, fun t ht => (hrow t ht).1, fun r hr hn => ?_⟩ fun t ht => s1.free (sf.free (hrow t ht).2)
          have wh := wins_hits (txt rs r) l k
          have hlook : look (ent ts) r = [] := look_none fun e he z => by
            obtain ⟨u, hu, rfl⟩ := List.mem_map.mp he
            exact hn (hk3 ▸ List.mem_map.mpr ⟨u, hu, z⟩)
          have hpm := hlk r
          rw [hlook] at hpm
          rw [hwin r, ← winL_same hpm] at wh
          rw [← wh, winL_nil]
          rfl
      · refine iteT ?_
        obtain ⟨dx, aR, xs, aL, aM, aC, cs, aS, aB, I⟩ := id hI1
        have hxl := paired_len I.tu
        refine ⟨.ref x, rfl, x, C, dx, _, _, rfl, I.ob, X.cl, X.n1, ixl (i := 0) rfl (by decide +kernel), aR, xs, rfl, .inl (.inl (.inl I.rf)), _, rfl, by rw [hxl]; omega, by rw [hxl]; omega, fun D hD => ?_⟩
        rw [hxl, Int.toNat_natCast]
        refine dc_gen (n := rs.length) (fun i H' => Same H1 H' ∧ ∃ ts : List Ws, H' D = some (.dK (ts.map fun t => (kN t.1, V.ref t.2.1))) ∧ ts.map (·.1) = List.range i ∧ ∀ t ∈ ts, SRow H' rs l k t ∧ H1 t.2.1 = none) ⟨same_upd hD, [], upd_same, rfl, fun t ht => (List.not_mem_nil ht).elim⟩ (fun i H' hi _ => hi) (fun H' _ => Nat.le_refl _) ?_ ?_
        · rintro i H' v H'' hi ⟨s2, ts, hd2, hk2, hrow⟩ ⟨rfl, rfl⟩
          refine ⟨rfl, ?_⟩
          dsimp only [tYes]
          rw [if_pos rfl]
          refine ⟨.int (0 + (i : Nat)), rfl, .ref x, rfl, .int (0 + (i : Nat)), rfl, x, rs, b, s, i, by rw [Int.zero_add]; rfl, hI.same (s1.trans s2), hok, hi, by show 2 ≤ sizeLine; decide, fun q2 hq2 => ⟨by show 1 ≤ sizeLine; decide, fun q3 hq3 => ?_⟩⟩
          have sq := (same_upd (o := .tup [.int 0, .int ((txt rs i).length : Nat)]) hq2).trans (same_upd (o := .lst [.ref q2]) hq3)
          have few : ts.length = i := by
            have := congrArg List.length hk2
            rw [List.length_map, List.length_range] at this
            exact this
          have hd3 := sq _ _ hd2
          have nD : D ≠ q3 := ne_of_none (same_upd (o := .tup [.int 0, .int ((txt rs i).length : Nat)]) hq2 _ _ hd2) hq3
          refine ⟨_, kN i, by rw [Int.zero_add]; rfl, hd3, line_lt7 (by rw [List.length_map]; omega), same_drop hD (s2.trans sq), ts ++ [(i, q3, [.ref q2], [(0, (txt rs i).length)])], ?_, ?_, fun t ht => ?_⟩
          · rw [upd_same, putK_new _ (val_new fun t ht z => absurd (List.mem_range.mp (hk2 ▸ List.mem_map_of_mem ht : t.1 ∈ List.range i)) (by rw [z]; exact Nat.lt_irrefl _)), List.map_append]
            rfl
          · rw [List.map_append, hk2, List.range_succ]
            rfl
          · rcases List.mem_append.mp ht with z | z
            · exact ⟨((hrow t z).1.same sq).off hd3, (hrow t z).2⟩
            · rw [List.mem_singleton.mp z]
              refine ⟨SRow.off (d := D) ?_ hd3, s2.free (new_old hq3)⟩
              refine ⟨hi, upd_same, .cons ⟨q2, rfl, by rw [upd_ne (ne_of_none upd_same hq3), upd_same]; rfl⟩ .nil, fun w hw => ?_, ?_⟩
              · rw [List.mem_singleton.mp hw]
                exact ⟨Nat.zero_le _, Nat.le_refl _⟩
              · rw [List.flatMap_cons, List.flatMap_nil, List.append_nil]
                exact hitsIn_all _ _ _
        · rintro H' ⟨s2, ts, hd2, hk2, hrow⟩
          exact q H' D ts (s1.trans s2) (s1.free hD) ⟨hd2, by rw [hk2]; exact List.nodup_range, fun t ht => (hrow t ht).1, fun r hr hn => absurd (hk2 ▸ List.mem_range.mpr hr) hn⟩ fun t ht => s1.free (hrow t ht).2
end
namespace HRev
open PySem PySem.Spec PyProof.Rows L2
theorem str_noRev : typeLookup (.type "str") "__reversed__" = pure none := by
  rw [typeLookup_type, builtinLookup_eq_fast]
  kernel_rfl
theorem str_hasItem : typeLookup (.type "str") "__getitem__" = pure (some (.builtin "str.__getitem__")) := by
  rw [typeLookup_type, builtinLookup_eq_fast]
  kernel_rfl
theorem str_noDict : isSubtype (.type "str") (.type "dict") = pure false := by
  rw [isSubtype_type]
  kernel_rfl
/-- what reversed(text) makes -/
def made (z : Str) (tk : Tok) (j : Int) : Obj := { cls := .type "reversed", data := .fields #[.str z tk, rawInt j] }
def At (hp : Heap) (it : Addr) (z : Str) (tk : Tok) (j : Int) : Prop :=
  ∃ ob, hp.get? it = some ob ∧ ob.cls = .type "reversed" ∧ ob.data = .fields #[.str z tk, rawInt j]
theorem At.carry {hp hp' : Heap} {it : Addr} {z : Str} {tk : Tok} {j : Int} (q : At hp it z tk j) (k : ∀ ob, hp.get? it = some ob → hp'.get? it = some ob) : At hp' it z tk j := by
  obtain ⟨ob, e, r⟩ := q
  exact ⟨ob, k _ e, r⟩
theorem twice_but (it : Addr) (hp : Heap) (f g : Obj → Obj) : Heap.ExtBut it hp ((hp.update it f).update it g) := by
  intro b o hb hbo
  rw [Heap.get?_update_other _ _ (Ne.symm hb), Heap.get?_update_other _ _ (Ne.symm hb)]
  exact hbo
section
variable {prog : Program} {w : World} {A : Around} {E : Value → Shared → Prop} {s : Shared}
theorem At.ty {it : Addr} {z : Str} {tk : Tok} {j : Int} (q : At s.heap it z tk j) : s.TypeIs (.ref it) "reversed" := by
  obtain ⟨ob, e, c, _⟩ := q
  exact ⟨ob, e, c⟩
theorem code_new {z : Str} {tk : Tok} {W : Value → Shared → Prop} (hz : z.length ≤ sizeLine)
    (q : W (.ref s.heap.objs.size) { s with heap := s.heap.push (made z tk ((z.length : Int) - 1)), toks := s.toks + 1 + 1 }) :
    codeAny (model prog w) A (.call (.builtin "reversed.__new__") ⟨[.type "reversed", .str z tk], []⟩) (wants W E) s := by
  have ln := line63
  have ty : s.TypeIs (.str z tk) "str" := typeIs_str s z tk
  refine codeAny_of_tree ?_
  show wpAny _ A.in1 (do
    checkBuiltinCall "reversed.__new__" ⟨[.type "reversed", .str z tk], []⟩
    again (.builtin "reversed.__new__" ⟨[.type "reversed", .str z tk], []⟩)) _ _ s
  refine wpAny_bind (wpAny_of_eq (F.newCall_reversed_1 _) ?_)
  refine wpAny_pure ⟨plainId_quiet F.plain_reversed_new _, codeAny_builtin F.entry_reversed_new ?_⟩
  rw [Around.under_plainId F.plain_reversed_new _]
  unfold Builtin.«reversed.__new__»
  refine wpAny_bind (wpAny_of_eq (newClass_reversed _) ?_)
  dsimp only
  refine wpAny_bind (wpAny_of_eq (a := ()) (by first | rfl | kernel_rfl) ?_)
  refine wpAny_bind (wpAny_of_eq (a := ()) (by first | rfl | kernel_rfl) ?_)
  try dsimp only
  refine wpAny_bind (wpAny_specialOf ty str_noRev ?_)
  try dsimp only
  refine wpAny_bind ?_
  wp_delta
  refine wpAny_bind (wpAny_isInstance (T := "str") (U := "dict") (b := false) ty str_noDict ?_)
  try dsimp only
  try rw [if_neg Bool.false_ne_true]
  try dsimp only
  refine wpAny_bind (wpAny_specialOf ty str_hasItem ?_)
  try dsimp only
  try rw [if_pos (by decide +kernel)]
  refine wpAny_pure ?_
  try dsimp only
  try rw [if_neg (by decide)]
  try dsimp only
  refine wpAny_bind (PyProof.Rows.len_str (by omega) ?_)
  refine wpAny_bind (wpAny_of_eq (a := some ((z.length : Nat) : Int)) rfl ?_)
  try dsimp only
  refine wpAny_bind ?_
  show wpAny _ _ (newObj (.type "reversed") (.fields #[.str z tk, rawInt ((z.length : Int) - 1)])) _ _ _
  refine wpAny_newObj_type ?_
  exact wpAny_pure q
theorem call_new {z : Str} {tk : Tok} {Q : Value → Shared → Prop} (hz : z.length ≤ sizeLine)
    (q : Q (.ref s.heap.objs.size) { s with heap := s.heap.push (made z tk ((z.length : Int) - 1)), toks := s.toks + 1 + 1 }) : wpAny (model prog w) A (call (.type "reversed") [.str z tk]) Q E s := by
  refine callType_codes (Q₁ := fun ob s1 => s1.TypeIs ob "reversed" ∧ Q ob s1) RT.called_rt (F.typeCall_reversed_1 _) F.entry_object_init (code_new (A := A.in1) hz ⟨⟨_, Heap.get?_push_size _ rfl, rfl⟩, q⟩) ?_
  intro ob s1 k
  exact ⟨k.1, F.args_object_init_2 ob _, object_init_meets RT.called_rt.init.lookup RT.called_rt.made (by decide) prog w A.in1 _ s1 ⟨k.1, rfl, k.2⟩⟩
theorem step_item {it : Addr} {z : Str} {tk : Tok} {i c : Nat} {Q : Option Value → Shared → Prop} (q : At s.heap it z tk (i : Int)) (hc : z.cps[i]? = some c) (hz : z.length ≤ sizeLine)
    (hQ : ∀ hp', At hp' it z tk ((i : Int) - 1) → Heap.SameBut it s.heap hp' → Q (some (.str ⟨#[c]⟩ (s.toks + 1))) { s with heap := hp', toks := s.toks + 1 + 1 }) : wpAny (model prog w) A (pyNext (.ref it)) Q E s := by
  obtain ⟨ob, e, cl, dt⟩ := id q
  have ln := line63
  have hi : i < z.length := (Array.getElem?_eq_some_iff.mp hc).1
  have ty : s.TypeIs (.str z tk) "str" := typeIs_str s z tk
  unfold pyNext
  refine wpAny_bind (wpAny_attempt (wpAny_callSpecial?_slot (name := Str.ofString "__next__") q.ty RT.slot_rt_next ?_))
  refine wpAny_call_entry RT.slot_rt_next q.ty RT.entry_rt_next ?_ (RT.args_rt_next _)
  unfold Builtin.«reversed.__next__»
  refine wpAny_bind (wpAny_of_eq (a := (Value.ref it, [])) rfl ?_)
  dsimp only
  refine wpAny_bind (wpAny_field e dt (x := .str z tk) rfl ?_)
  try dsimp only
  refine wpAny_bind (wpAny_field e dt (x := rawInt (i : Int)) rfl ?_)
  show wpAny _ _ (if (i : Int) < 0 then _ else _) _ _ s
  rw [if_neg (show ¬ (i : Int) < 0 by omega)]
  try dsimp only
  refine wpAny_bind (wpAny_specialOf ty str_hasItem ?_)
  try dsimp only
  try rw [if_neg (by decide)]
  try dsimp only
  refine wpAny_bind (wpAny_mkInt ?_)
  refine wpAny_bind (wpAny_attempt ?_)
  have sx : seqIndex? (i : Int) z.length = some i := seqIndex_of (by omega) (by omega)
  refine PyProof.Rows.getItem_str (s := { s with toks := s.toks + 1 }) (c := c) ?_ ?_ ?_
  · have e1 : decide ((i : Int) < -(2 ^ 63 : Int)) = false := decide_eq_false (by omega)
    have e2 : decide ((i : Int) ≥ 2 ^ 63) = false := decide_eq_false (by omega)
    rw [e1, e2, Bool.or_false]
  · rw [sx]
    exact hc
  try dsimp only
  refine wpAny_bind (wpAny_field (s := { s with toks := s.toks + 1 + 1 }) e dt (x := rawInt (i : Int)) rfl ?_)
  try dsimp only
  refine wpAny_bind (wpAny_setField (s := { s with toks := s.toks + 1 + 1 }) e dt (by simp) ?_)
  first
  | refine wpAny_pure ⟨_, rfl, wpAny_pure (hQ _ ?_ (Heap.SameBut.update ..))⟩
  | refine wpAny_bind (wpAny_pure (wpAny_pure ⟨_, rfl, wpAny_pure (hQ _ ?_ (Heap.SameBut.update ..))⟩))
  refine ⟨_, Heap.get?_update_self _ e (Obj.isFreed_of_fields (Obj.data_mapFields dt _)), (Obj.cls_mapFields ..).trans cl, ?_⟩
  rw [Obj.data_mapFields dt]
  simp
theorem step_end {it : Addr} {z : Str} {tk : Tok} {Q : Option Value → Shared → Prop} (hh : A.handled = none) (q : At s.heap it z tk (-1))
    (hQ : ∀ hp', Heap.ExtBut it s.heap hp' → Q none { s with heap := hp' }) : wpAny (model prog w) A (pyNext (.ref it)) Q E s := by
  obtain ⟨ob, e, cl, dt⟩ := id q
  unfold pyNext
  refine wpAny_bind (wpAny_attempt (wpAny_callSpecial?_slot (name := Str.ofString "__next__") q.ty RT.slot_rt_next ?_))
  refine wpAny_call_entry RT.slot_rt_next q.ty RT.entry_rt_next ?_ (RT.args_rt_next _)
  unfold Builtin.«reversed.__next__»
  refine wpAny_bind (wpAny_of_eq (a := (Value.ref it, [])) rfl ?_)
  dsimp only
  refine wpAny_bind (wpAny_field e dt (x := .str z tk) rfl ?_)
  try dsimp only
  refine wpAny_bind (wpAny_field e dt (x := rawInt (-1)) rfl ?_)
  show wpAny _ _ (if (-1 : Int) < 0 then _ else _) _ _ s
  rw [if_pos (show (-1 : Int) < 0 by decide)]
  try dsimp only
  refine wpAny_bind (wpAny_rule ?_)
  refine wpAny_bind ?_
  wp_delta
  refine wpAny_bind (wpAny_setField e dt (by simp) ?_)
  have e2 := Heap.get?_update_self (Obj.mapFields (·.setIfInBounds 1 (rawInt (-1)))) e (Obj.isFreed_of_fields (Obj.data_mapFields dt _))
  refine wpAny_setField (s := { s with heap := s.heap.update it (Obj.mapFields (·.setIfInBounds 1 (rawInt (-1)))) }) e2 (Obj.data_mapFields dt _) (by simp) ?_
  try dsimp only
  first
  | show wpAny _ _ (newExc (.type "StopIteration") [] >>= _) _ _ _
  | (refine wpAny_bind ?_
     show wpAny _ _ (newExc (.type "StopIteration") [] >>= _) _ _ _)
  | (refine wpAny_bind ?_
     wp_delta
     show wpAny _ _ (newExc (.type "StopIteration") [] >>= _) _ _ _)
  refine wpAny_bind ?_
  simp only [newExc, newTuple]
  refine wpAny_bind (wpAny_newObj_type ?_ (by size_fits))
  refine wpAny_bind (m := firstArgMember _ _) (wpAny_of_eq (a := Value.none) (by first | rfl | (simp only [firstArgMember]; rfl)) ?_)
  refine wpAny_newObj_type ?_ (by size_fits)
  simp only [raiseNew]
  refine wpAny_bind (wpAny_handled ?_)
  first | rw [show A.in1.handled = none from hh] | rw [hh]
  refine wpAny_bind (wpAny_pure (wpAny_throw ?_))
  refine wpAny_bind (wpAny_isInstance (T := "StopIteration") (b := true) ⟨_, Heap.get?_push_size _ rfl, rfl⟩ isSubtype_stop ?_)
  refine wpAny_pure (hQ _ ?_)
  exact ((twice_but it s.heap _ _).push _).push _
theorem self_iter {it : Addr} {z : Str} {tk : Tok} {j : Int} {Q : Value → Shared → Prop} (q : At s.heap it z tk j) (k : Q (.ref it) s) : wpAny (model prog w) A (pyIter (.ref it)) Q E s := by
  refine wpAny_pyIter_slot q.ty RT.slot_rt_iter (wpAny_call_entry RT.slot_rt_iter q.ty RT.entry_rt_iter ?_ (RT.args_rt_iter _))
  show wpAny _ _ (ret (.ref it)) _ _ s
  exact wpAny_pure ⟨_, rfl, "reversed", _, q.ty, RT.slot_rt_next.lookup, k⟩
end
/-- the turns of a walk over reversed(z) -/
def Itb (z : Str) : It := ⟨fun i _ => i < z.cps.size, fun i H v H' => H' = H ∧ ∃ c, z.cps[z.cps.size - 1 - i]? = some c ∧ v = .str ⟨#[c]⟩, fun i _ => z.cps.size ≤ i⟩
theorem turn_b {P : Program} {w : World} {K : PySem.W.Frag} {tg : Expr} (it : Addr) (z : Str) (tk : Tok) (hz : z.length ≤ sizeLine) :
    Turn P w K tg (Itb z) [it] it (fun i h => i ≤ z.cps.size ∧ At h it z tk ((z.cps.size : Int) - 1 - (i : Nat))) where
  mem := by simp
  obj := fun i h st b hb => by
    obtain rfl : b = it := by simpa using hb
    obtain ⟨_, ob, e, _, d⟩ := st
    exact ⟨ob, e, fun v y => by rw [d] at y; cases y⟩
  keep := fun i h h' st k => ⟨st.1, st.2.carry fun o e => k it (by simp) o e⟩
  item := by
    intro X hP hw hK hc i pins s σ H E I hf st hg
    subst hP hw hK
    have hi : i < z.cps.size := hg
    obtain ⟨f0, f1, f2, f3, f4, f5⟩ := hf it (by simp)
    obtain ⟨_, q⟩ := st
    have lt : z.cps.size - 1 - i < z.cps.size := by omega
    have e1 : (z.cps.size : Int) - 1 - ((i : Nat) : Int) = ((z.cps.size - 1 - i : Nat) : Int) := by omega
    rw [e1] at q
    have hcx : z.cps[z.cps.size - 1 - i]? = some z.cps[z.cps.size - 1 - i] := Array.getElem?_eq_getElem lt
    refine step_item q hcx hz fun hp' st' sb => ?_
    have e2 : ((z.cps.size - 1 - i : Nat) : Int) - 1 = (z.cps.size : Int) - 1 - ((i + 1 : Nat) : Int) := by omega
    rw [e2] at st'
    have I1 : Inv X pins σ H { s with heap := hp', toks := s.toks + 1 + 1 } := I.turned (t' := s.toks + 1 + 1) (fun b o hb e => (sb.2 b hb).trans e) f0 f1 f3 f4 f5
    obtain ⟨ob, e, cl, dt⟩ := id st'
    refine ⟨_, rfl, go_of (s := { s with heap := hp', toks := s.toks + 1 + 1 }) e cl dt (by decide) ⟨.str ⟨#[_]⟩, H, I1, ⟨_, rfl⟩, ⟨rfl, _, hcx, rfl⟩, ⟨by omega, st'⟩, fun b hb => (hf b hb).1⟩⟩
  done := by
    intro X hP hw hK hc i pins s σ H E I hf st hg
    subst hP hw hK
    have hi : z.cps.size ≤ i := hg
    obtain ⟨f0, f1, f2, f3, f4, f5⟩ := hf it (by simp)
    obtain ⟨le, q⟩ := st
    have e1 : (z.cps.size : Int) - 1 - ((i : Nat) : Int) = -1 := by omega
    rw [e1] at q
    exact step_end (I.ok.hd hc) q fun hp' eb => ⟨rfl, I.turned (t' := s.toks) (fun b o hb e => eb b o hb e) f0 f1 f3 f4 f5⟩
  self := fun A i s Q E st h => self_iter st.2 h
def iRevS (te : TE) : TI := fun σ H R => te σ H fun v H1 => ∃ z : Str, v = .str z ∧ z.length ≤ sizeLine ∧ R (Itb z) H1
theorem pi_revS {X : Cx} {tg e : Expr} {te : TE} {p pos : Pos} (hg : Gl X "reversed") (hm : X.mg "reversed" = none) (he : PE X e te)
    (hs : starEach [e] X.env = (false, eval e X.env) :: starEach [] X.env := by rfl) : PI X tg (.Call (.Name "reversed" p) [e] [] pos) (iRevS te) := by
  refine ⟨fun pins s σ H R I h => ?_⟩
  refine Call_ (ld_blt I hg hm PyProof.Rows.boot_reversed (PyProof.Rows.callWith_type1 (args_cons (thn (he.run pins s σ H _ I h) fun u s1 ⟨v, H1, I1, r1, q1⟩ => args_nil ?_) hs) hs rfl))
  obtain ⟨z, ev, hz, q⟩ := q1
  subst ev
  obtain ⟨tk, rfl⟩ := r1
  refine call_new hz (self_iter (z := z) (tk := tk) (j := (z.length : Int) - 1) ⟨_, Heap.get?_push_size _ rfl, rfl, rfl⟩ ?_)
  refine pi_one (tk := s1.toks + 1 + 1) I1 _ (turn_b _ z tk hz) ⟨Nat.zero_le _, ?_⟩ q
  have e1 : (z.cps.size : Int) - 1 - ((0 : Nat) : Int) = (z.length : Int) - 1 := by
    show ((z.cps.size : Nat) : Int) - 1 - 0 = ((z.cps.size : Nat) : Int) - 1
    omega
  rw [e1]
  exact ⟨_, Heap.get?_push_size _ rfl, rfl, rfl⟩
end HRev
/-! ### turned texts -/
theorem scTurned : FnScope ["text", "letter"] ["text"] (defScope sTurned) := ⟨rfl, rfl, rfl, by decide +kernel, rfl, by decide +kernel, by decide +kernel⟩
section
variable {P : Program} {w : World} {K : PySem.W.Frag} {mg : Str → Option Value} {base : Heap}
def spTurned : Sp := fun vs H Q _ => ∃ l : List Nat, vs = [.str (T l)] ∧ Dna l ∧ l.length ≤ 100000 ∧ ∀ H' : Hp, Same H H' → Q (.str (T (turn l))) H'
theorem ok_turned {f d : Addr} {fd : FuncData} {k : Nat} (F : Fun K "turned" "turned" sTurned f fd) (mr : mg "reversed" = none) (gd : mg "_TURNED" = some (.ref d)) (D : KD K w d fun c => .str (T [opp c])) : FnOk P w K mg base CX0 (k + 1) f fd ["text"] spTurned := by
  refine F.ok scTurned (fun vs H Q E h => ?_) (fun cdv A outer s H vs Q E hr h => ?_)
  · obtain ⟨c, rfl, _⟩ := h
    rfl
  · obtain ⟨l, rfl, hd, hl, q⟩ := h
    refine ⟨_, pss_one (ps_ret (pe_join pe_str (pe_lc (own := [("letter", 1)]) (g := gName 1) (tt := tYes) rfl scTurned.nd (HRev.pi_revS rfl mr (pv 0)) (blkOk_by (own := [("letter", 1)]) (N := ["text", "letter"]) (sc := defScope sTurned) (by decide +kernel))
      (fun _ _ _ _ _ => pg_name (i := 1) scTurned.nd rfl (Or.inl rfl)) (fun _ _ _ _ _ => pts_nil) (fun _ _ _ _ _ => pe_ix (r := rIxD K w) ix_kdict (pe_glob (v := .ref d) (by rfl) gd rfl) (pv 1) (fun _ _ => rfl))))), ?_⟩
    refine ⟨⟨_, rfl⟩, .str (T l), rfl, T l, rfl, line_ok (by rw [T_len]; omega), fun D hD => ?_⟩
    refine lc_gen (n := l.length) (fun i H' => Same H H' ∧ H' D = some (.lst ((((turn l).take i).map fun c => T [c]).map V.str))) ?_ ?_ ?_ ?_ ?_
    · exact ⟨same_upd hD, upd_same⟩
    · intro i H' hi _
      show i < (T l).cps.size
      rw [T_size]
      exact hi
    · intro H' _
      show (T l).cps.size ≤ l.length
      rw [T_size]
      exact Nat.le_refl _
    · rintro i H' x H'' hi ⟨sm, hx⟩ ⟨rfl, c, hc, rfl⟩
      rw [T_size, T_at] at hc
      obtain ⟨hlt, hce⟩ := List.getElem?_eq_some_iff.mp hc
      have hsc : Sg c := by
        rw [← hce]
        exact hd _ (List.getElem_mem hlt)
      refine ⟨rfl, ?_⟩
      dsimp only [tYes]
      rw [if_pos rfl]
      refine ⟨.str (T [c]), rfl, d, T [c], .str (T [opp c]), rfl, rfl, ‹KD K w d _› c hsc, _, hx, ?_, ?_, ?_⟩
      · refine line_lt ?_
        rw [List.length_map, List.length_map, List.length_take, turn_len]
        omega
      · intro b o e
        rw [upd_ne (ne_of_none e hD)]
        exact sm b o e
      · have e1 : (turn l)[i]? = some (opp c) := by
          unfold turn
          rw [List.getElem?_reverse (by rw [List.length_map]; exact hi), List.length_map, List.getElem?_map, hc]
          rfl
        rw [upd_same, List.take_add_one, e1, List.map_append, List.map_append]
        rfl
    · rintro H' ⟨sm, hx⟩
      rw [List.take_of_length_le (by rw [turn_len]; exact Nat.le_refl _)] at hx
      refine ⟨_, D, (turn l).map fun c => T [c], rfl, rfl, .inl (.inl (.inl hx)), ?_, ?_⟩
      · rw [sum_ones, turn_len, show (Str.ofString "").length = 0 by decide +kernel]
        omega
      · rw [TL.join_eq, T_nil, join_ones]
        exact q H' sm
end
/-! ### rows of hits in the heap -/
def kh (H : Hp) : V → List Int
  | .ref q => match H q with
    | some (.tup xs) => xs.map fun | .int i => i | _ => 0
    | _ => []
  | _ => []
theorem kh_at {H : Hp} {q : Addr} {ns : List Int} (h : H q = some (.tup (ns.map V.int))) : kh H (.ref q) = ns := by
  show (match H q with
    | some (.tup xs) => xs.map fun | .int i => i | _ => (0 : Int)
    | _ => []) = ns
  rw [h]
  show (ns.map V.int).map _ = ns
  rw [List.map_map]
  exact (List.map_congr_left fun _ _ => rfl).trans (List.map_id ns)
def un4 (l : List Int) : Ht := (l.getD 0 0, l.getD 1 0, l.getD 2 0, l.getD 3 0)
theorem un4_it4 (h : Ht) : un4 (it4 h) = h := rfl
theorem hts_key {H : Hp} : ∀ {xs : List V} {hs : List Ht}, Hts H xs hs → xs.map (kh H) = hs.map it4 ∧ ∀ x ∈ xs, ∃ t h, x = V.ref t ∧ H t = some (.tup ((it4 h).map V.int)) ∧ kh H x = it4 h ∧ h ∈ hs
  | _, _, .nil => ⟨rfl, fun x hx => (List.not_mem_nil hx).elim⟩
  | _, _, .cons (b := h) ⟨q, e, t⟩ r => by
    obtain ⟨h1, h2⟩ := hts_key r
    subst e
    have e := kh_at t
    refine ⟨?_, fun x hx => ?_⟩
    · rw [List.map_cons, List.map_cons, h1, e]
    · rcases List.mem_cons.mp hx with z | z
      · subst z
        exact ⟨q, h, rfl, t, e, List.mem_cons_self⟩
      · obtain ⟨t', h', z1, z2, z3, z4⟩ := h2 x z
        exact ⟨t', h', z1, z2, z3, List.mem_cons_of_mem _ z4⟩
theorem hts_un {H : Hp} : ∀ xs : List V, (∀ x ∈ xs, ∃ t h, x = V.ref t ∧ H t = some (.tup ((it4 h).map V.int)) ∧ kh H x = it4 h) → Hts H xs (xs.map fun x => un4 (kh H x))
  | [], _ => .nil
  | x :: xs, g => by
    obtain ⟨t, h, e, ht, ek⟩ := g x List.mem_cons_self
    refine .cons ⟨t, e, ?_⟩ (hts_un xs fun y hy => g y (List.mem_cons_of_mem _ hy))
    show H t = some (.tup ((it4 (un4 (kh H x))).map V.int))
    rw [ek]
    exact ht
theorem un_map {H : Hp} {xs : List V} {hs : List Ht} (h : xs.map (kh H) = hs.map it4) : (xs.map fun x => un4 (kh H x)) = hs := by
  have e : (xs.map (kh H)).map un4 = (hs.map it4).map un4 := congrArg _ h
  rw [List.map_map, List.map_map] at e
  have e2 : hs.map (un4 ∘ it4) = hs := (List.map_congr_left fun x _ => un4_it4 x).trans (List.map_id hs)
  rw [e2] at e
  exact e
theorem fm_take_len {α β : Type} (f : α → List β) {l : List α} {i : Nat} {x : α} (h : l[i]? = some x) : ((l.take i).flatMap f).length + (f x).length ≤ (l.flatMap f).length := by
  have e : l.flatMap f = ((l.take i).flatMap f ++ f x) ++ (l.drop (i + 1)).flatMap f := by
    conv => lhs; rw [← List.take_append_drop (i + 1) l, List.take_add_one, h, Option.toList_some]
    rw [List.flatMap_append, List.flatMap_append, List.flatMap_cons, List.flatMap_nil, List.append_nil]
  have h2 := congrArg List.length e
  rw [List.length_append, List.length_append] at h2
  omega
theorem hStr_len (rs : List Rf) (l : List Nat) (k : Nat) (s : Int) : (hStr rs l k s).length ≤ jl rs := by
  have gen : ∀ n, n ≤ rs.length → ((List.range n).flatMap fun r => hRow l (txt rs r) k (r : Int) s).length ≤ bg rs n := by
    intro n
    induction n with
    | zero => exact fun _ => Nat.zero_le _
    | succ n ih =>
      intro h
      have h1 := ih (by omega)
      have h2 := bg_succ (rs := rs) (k := n) (by omega)
      have h3 := endsTo_len l (txt rs n) (k : Int) (txt rs n).length
      rw [List.range_succ, List.flatMap_append, List.length_append, List.flatMap_cons, List.flatMap_nil, List.append_nil]
      unfold hRow at h1 ⊢
      rw [List.length_map]
      omega
  have h := gen rs.length (Nat.le_refl _)
  rw [bg_all, jn_len] at h
  exact h
/-! ### hits on a strand, and all hits -/
def NHo : List Str := ["index", "strand", "text", "k", "found", "reference", "parts", "letters", "begin", "behind", "end", "changes"]
theorem scHitsOn : FnScope NHo ["index", "strand", "text", "k"] (defScope sHitsOn) := ⟨rfl, rfl, rfl, by decide +kernel, rfl, by decide +kernel, by decide +kernel⟩
theorem scHits : FnScope ["index", "read", "k"] ["index", "read", "k"] (defScope sHits) := ⟨rfl, rfl, rfl, by decide +kernel, rfl, by decide +kernel, by decide +kernel⟩
section
variable {P : Program} {w : World} {K : PySem.W.Frag} {mg : Str → Option Value} {base : Heap}
def spHitsOn (C : Addr) : Sp := fun vs H Q _ => ∃ (x : Addr) (rs : List Rf) (b s st : Nat) (l : List Nat) (k : Nat), vs = [.ref x, .int (st : Int), .str (T l), .int (k : Int)] ∧ Ixd C H x rs b s ∧ IxOk rs b s ∧ Dna l ∧ l.length ≤ 10000 ∧ k ≤ 1000 ∧
  ∀ (H' : Hp) (p : Addr) (xs : List V) (hs : List Ht), Same H H' → H p = none → H' p = some (.lst xs) → Hts H' xs hs → hs.Perm (hStr rs l k (st : Int)) → Q (.ref p) H'
theorem ok_hitson {f C : Addr} {fd : FuncData} (F : Fun K "_hits_on_strand" "_hits_on_strand" sHitsOn f fd) (X : IxT K mg C) (hSe : Has P w K mg base 8 "search_windows" ["index", "read", "k"] (spSearch C)) (hE : Has P w K mg base 3 "ends" ["read", "text", "k"] spEnds) :
    FnOk P w K mg base CX0 9 f fd ["index", "strand", "text", "k"] (spHitsOn C) := by
  obtain ⟨fS, dS', GS, gS, kS, bS⟩ := hSe
  obtain ⟨fE, dE, GE, gE, kE, bE⟩ := hE
  refine F.ok scHitsOn (fun vs H Q E h => ?_) (fun cdv A outer s H vs Q E hr h => ?_)
  · obtain ⟨x, rs, b, s, st, l, k, rfl, _⟩ := h
    rfl
  · obtain ⟨x, rs, b, s, st, l, k, rfl, hI, hok, hd, hl, hk, q⟩ := h
    have hr8 : Room 8 _ := hr
    have hr3 : Room 3 _ := hr.mono (by decide)
    refine ⟨_, (pss_cons (ps_set (i := 4) scHitsOn.nd rfl (.inl rfl) (pe_lst pa_nil))
      (pss_cons (ps_for PassesOwn.never rfl (pi_items (pe_frz (pe_call GS hr8 (by rfl) gS kS bS .nil pass0 (pa_cons (pv 0) (pa_cons (pv 2) (pa_cons (pv 3) pa_nil)))))) (pg_tup rfl (pgs_cons (pg_name (i := 5) scHitsOn.nd rfl (.inl rfl)) (pgs_cons (pg_name (i := 6) scHitsOn.nd rfl (.inl rfl)) pgs_nil)))
        (pss_cons (ps_set (i := 7) scHitsOn.nd rfl (.inl rfl) (pe_ix ix_tup (pe_ix ix_list (pe_fld (pv 0) rfl) (pv 5) (fun _ _ => rfl)) pe_int (fun _ _ => rfl)))
      (pss_one (ps_for PassesOwn.never rfl (pi_list (pv 6)) (pg_tup rfl (pgs_cons (pg_name (i := 8) scHitsOn.nd rfl (.inl rfl)) (pgs_cons (pg_name (i := 9) scHitsOn.nd rfl (.inl rfl)) pgs_nil)))
        (pss_one (ps_for PassesOwn.never rfl (pi_list (pe_call GE hr3 (by rfl) gE kE bE .nil pass0 (pa_cons (pv 2) (pa_cons (pe_slice sl_str (pv 7) (po_some (pv 8)) (po_some (pv 9))) (pa_cons (pv 3) pa_nil))))) (pg_tup rfl (pgs_cons (pg_name (i := 10) scHitsOn.nd rfl (.inl rfl)) (pgs_cons (pg_name (i := 11) scHitsOn.nd rfl (.inl rfl)) pgs_nil)))
        (pss_one (ps_expr (pe_bm PySem.F.plainAttrs_list PySem.F.slot_list_append PySem.F.type_list_append mt_append (pv 4) (pa_cons (pe_tup (pa_cons (pv 5) (pa_cons (pv 1) (pa_cons (pe_op op_add (pv 8) (pv 10)) (pa_cons (pv 11) pa_nil))))) pa_nil))))))))))
      (pss_one (ps_ret (pv 4))))), ?_⟩
    refine ⟨Nat.zero_le _, fun pf hpf => ?_⟩
    have s0 : Same H (upd H pf (.lst [])) := same_upd hpf
    have hjl := hok.2.2.1
    refine ⟨.ref x, rfl, .str (T l), rfl, .int k, rfl, x, rs, b, s, l, k, rfl, hI.same s0, hok, hd, by omega, hk, fun H1 d ts s1 hdn S hnew => ?_⟩
    obtain ⟨ks, hks⟩ : ∃ ks, ks = ts.map fun t : Ws => (kN t.1, V.ref t.2.1) := ⟨_, rfl⟩
    have hkl : ks.length = ts.length := by rw [hks]; exact List.length_map _
    have htop := S.top
    rw [← hks] at htop
    refine ⟨d, _, rfl, htop, True.intro, fun od => ?_⟩
    obtain ⟨Hf, hHf⟩ : ∃ Hf, Hf = upd H1 d (.frz od (.dK ks)) := ⟨_, rfl⟩
    rw [← hHf]
    have hfp : Hf d = some (.frz od (.dK ks)) := by rw [hHf, upd_same]
    have hf1 : H1 pf = some (.lst []) := s1 _ _ upd_same
    have ndp : d ≠ pf := fun z => by
      rw [z, upd_same] at hdn
      cases hdn
    have hff : Hf pf = some (.lst []) := by rw [hHf, upd_ne ndp.symm]; exact hf1
    have sf : Same (upd H pf (.lst [])) Hf := fun b o e => by
      rw [hHf, upd_ne (ne_of_none e hdn)]
      exact s1 b o e
    have sH : Same H Hf := s0.trans sf
    have hrow : ∀ t ∈ ts, SRow Hf rs l k t := fun t ht => by
      rw [hHf]
      have r := S.row t ht
      exact ⟨r.1, (upd_ne (fun z => by have := r.2.1; rw [z, htop] at this; cases this)).trans r.2.1, r.2.2.1.mono fun q ys z => (upd_ne (fun y => by rw [y, htop] at z; cases z)).trans z, r.2.2.2⟩
    have npr : ∀ t ∈ ts, t.2.1 ≠ pf := fun t ht z => by
      have := hnew t ht
      rw [z, upd_same] at this
      cases this
    have base0 : Same H (del Hf pf) := same_del sH hpf
    obtain ⟨R, hR⟩ : ∃ R : Ws → List Ht, R = fun t => hRow l (txt rs t.1) k (t.1 : Int) (st : Int) := ⟨_, rfl⟩
    have hperm : (ts.flatMap R).Perm (hStr rs l k (st : Int)) := by
      have := keys_perm (f := fun r => hRow l (txt rs r) k ((r : Nat) : Int) (st : Int)) S.nk (fun r hr => by
        obtain ⟨t, ht, rfl⟩ := List.mem_map.mp hr
        exact (S.row t ht).1) fun r hr hn => by
        unfold hRow
        rw [S.out r hr hn]
        rfl
      rw [List.flatMap_map] at this
      rw [hR]
      exact this
    have htot : (ts.flatMap R).length ≤ 4000 := by
      have h1 := hperm.length_eq
      have h2 := hStr_len rs l k (st : Int)
      omega
    refine ⟨d, od, ks, rfl, hfp, ?_⟩
    refine for_gen (n := ks.length) (fun i σ H' => ∃ (xs : List V) (hs : List Ht) (v5 v6 v7 v8 v9 v10 v11 : Option V), σ = [some (.ref x), some (.int (st : Int)), some (.str (T l)), some (.int (k : Int)), some (.ref pf), v5, v6, v7, v8, v9, v10, v11] ∧ Same (del Hf pf) H' ∧ H' pf = some (.lst xs) ∧ Hts H' xs hs ∧ hs = (ts.take i).flatMap R) ?_ ?_ ?_ ?_ ?_
    · exact ⟨[], [], none, none, none, none, none, none, none, rfl, del_same, hff, .nil, rfl⟩
    · rintro i σ H' hi ⟨xs, hs, v5, v6, v7, v8, v9, v10, v11, rfl, s2, _⟩
      exact ⟨s2 _ _ (del_at hfp ndp), hi⟩
    · rintro σ H' ⟨xs, hs, v5, v6, v7, v8, v9, v10, v11, rfl, s2, _⟩
      exact ⟨s2 _ _ (del_at hfp ndp), Nat.le_refl _⟩
    · rintro i σ H' v H2 hi ⟨xs, hs, v5, v6, v7, v8, v9, v10, v11, rfl, s2, hx, hht, ehs⟩ ⟨T', kk, vv, hkv, rfl, hT', rfl⟩
      have hip : i < ts.length := by omega
      rw [hks] at hkv
      obtain ⟨t, ht⟩ : ∃ t, ts[i]? = some t := ⟨_, List.getElem?_eq_getElem hip⟩
      have ekv : (kN t.1, V.ref t.2.1) = (kk, vv) := by
        rw [List.getElem?_map, ht] at hkv
        exact Option.some.inj hkv
      obtain ⟨rfl, rfl⟩ := Prod.mk.inj ekv
      have htm := List.mem_of_getElem? ht
      have hRt := hrow t htm
      have hnp := npr t htm
      have hft := fm_take_len R ht
      rw [List.take_add_one, ht, Option.toList_some, List.flatMap_append, List.flatMap_cons, List.flatMap_nil, List.append_nil, ← ehs]
      have ehl := congrArg List.length ehs
      obtain ⟨r, qw, wx, ws⟩ := t
      obtain ⟨hrr, hqw, hwx, hww, hwe⟩ := hRt
      dsimp only at hrr hqw hwx hww hwe hnp
      have hRr : R (r, qw, wx, ws) = (ws.flatMap (hitsIn l (txt rs r) (k : Int))).map fun p => ((r : Int), (st : Int), (p.1 : Int), p.2) := by
        rw [hR, hwe]
        rfl
      rw [hRr] at hft ⊢
      have sT : Same H' (upd H' T' (.tup [kV (kN r), V.ref qw])) := same_upd hT'
      have s3 := s2.trans sT
      have hI3 := hI.same (base0.trans s3)
      obtain ⟨dx, aR, xr, aL, aM, aC, cs, aS, aB, I⟩ := id hI3
      obtain ⟨z, hz, ez⟩ := ref_at I.tu hrr
      have hdt : Dna (txt rs r) := txt_dna hok.2.1 r
      have htl := txt_le hrr
      have hzt : (T (txt rs r)).length ≤ sizeLine := line_ok (by rw [T_len]; omega)
      refine ⟨T', _, rfl, .inl (.inl upd_same), rfl, _, _, rfl, _, _, rfl, rfl, ?_⟩
      refine ⟨.ref x, rfl, x, C, dx, _, _, rfl, I.ob, X.cl, X.n1, ixl (i := 0) rfl (by decide +kernel), .int r, rfl, aR, _, _, _, rfl, rfl, .inl (.inl I.rf), atI_nat hz, z, _, 1, .str (T (txt rs r)), rfl, rfl, .inl (.inl ez), atI_nat (j := 1) rfl, ?_⟩
      have hq2 := s3 _ _ (del_at hqw hnp)
      have hwx2 : Plc (del Hf pf) wx ws := hwx.mono fun b zs e => del_at e fun y => by rw [y, hff] at e; cases e
      refine ⟨.ref qw, rfl, qw, rfl, ⟨_, .inl (.inl hq2)⟩, ?_⟩
      refine for_list (K := K) (xs := wx) (fun j σ HA => ∃ (xs2 : List V) (v8 v9 v10 v11 : Option V), σ = [some (.ref x), some (.int (st : Int)), some (.str (T l)), some (.int (k : Int)), some (.ref pf), some (.int (r : Nat)), some (.ref qw), some (.str (T (txt rs r))), v8, v9, v10, v11] ∧ Same (del Hf pf) HA ∧ HA pf = some (.lst xs2) ∧ Hts HA xs2 (hs ++ ((ws.take j).flatMap (hitsIn l (txt rs r) (k : Int))).map fun p => ((r : Int), (st : Int), (p.1 : Int), p.2))) ?_ ?_ ?_ ?_
      · exact ⟨xs, v8, v9, v10, v11, rfl, s3, sT _ _ hx, by rw [List.take_zero, List.flatMap_nil, List.map_nil, List.append_nil]; exact hht.same sT⟩
      · rintro j σ HA _ ⟨xs2, v8, v9, v10, v11, rfl, sA, _⟩
        exact .inl (.inl (sA _ _ (del_at hqw hnp)))
      · rintro j v σ HA hv ⟨xs2, v8, v9, v10, v11, rfl, sA, hxA, htA⟩
        obtain ⟨w0, hw0, qa, rfl, hqa⟩ := paired_get (hwx2.same sA) hv
        have hwm := List.mem_of_getElem? hw0
        obtain ⟨w12, w2t⟩ := hww w0 hwm
        have hfw := fm_take_len (hitsIn l (txt rs r) (k : Int)) hw0
        refine ⟨qa, _, rfl, .inl (.inl hqa), rfl, _, _, rfl, _, _, rfl, rfl, ?_⟩
        refine ⟨.str (T l), rfl, .str (T (txt rs r)), rfl, .int (w0.1 : Nat), rfl, _, rfl, .int (w0.2 : Nat), rfl, _, rfl, T (txt rs r), rfl, hzt, .int (k : Int), rfl, ?_⟩
        rw [cut_mid]
        obtain ⟨t', ht'⟩ : ∃ t', t' = ((txt rs r).drop w0.1).take (w0.2 - w0.1) := ⟨_, rfl⟩
        have htl' : t'.length = w0.2 - w0.1 := by
          rw [ht', List.length_take, List.length_drop]
          omega
        have dt' : Dna t' := fun c hc => hdt c (by rw [ht'] at hc; exact List.mem_of_mem_drop (List.mem_of_mem_take hc))
        rw [← ht']
        refine ⟨l, t', (k : Int), rfl, hd, dt', hl, by omega, fun HF pe es sF hpe he hev => ?_⟩
        rw [htl'] at hev
        have hel := paired_len hev
        have hin : hitsIn l (txt rs r) (k : Int) w0 = (endsTo l t' (k : Int) (w0.2 - w0.1)).map fun p => (w0.1 + p.1, p.2) := by
          rw [ht']
          rfl
        generalize endsTo l t' (k : Int) (w0.2 - w0.1) = el at hev hel hin
        have hxF := sF _ _ hxA
        have npe : pe ≠ pf := (ne_of_none hxA hpe).symm
        have hevB : Evs (del HF pf) es el := Evs.mono hev fun b zs e => del_at e fun y => by rw [y, hxF] at e; cases e
        have sB : Same (del Hf pf) (del HF pf) := fun b o e => by
          have nb : b ≠ pf := fun y => by rw [y, del_none] at e; cases e
          exact del_at (sF _ _ (sA _ _ e)) nb
        rw [List.take_add_one, hw0, Option.toList_some, List.flatMap_append, List.flatMap_cons, List.flatMap_nil, List.append_nil, hin, List.map_append, ← List.append_assoc]
        have hcl : (hs ++ ((ws.take j).flatMap (hitsIn l (txt rs r) (k : Int))).map fun p => ((r : Int), (st : Int), (p.1 : Int), p.2)).length + el.length ≤ 4000 := by
          rw [List.length_append, List.length_map]
          rw [List.length_map] at hft
          rw [hin, List.length_map] at hfw
          omega
        generalize (hs ++ ((ws.take j).flatMap (hitsIn l (txt rs r) (k : Int))).map fun p => ((r : Int), (st : Int), (p.1 : Int), p.2)) = hc at htA hcl ⊢
        refine ⟨pe, rfl, ⟨_, .inl (.inl he)⟩, ?_⟩
        refine for_list (K := K) (xs := es) (fun m σ HG => ∃ (xs3 : List V) (v10 v11 : Option V), σ = [some (.ref x), some (.int (st : Int)), some (.str (T l)), some (.int (k : Int)), some (.ref pf), some (.int (r : Nat)), some (.ref qw), some (.str (T (txt rs r))), some (.int (w0.1 : Nat)), some (.int (w0.2 : Nat)), v10, v11] ∧ Same (del HF pf) HG ∧ HG pf = some (.lst xs3) ∧ Hts HG xs3 (hc ++ (el.take m).map fun p => ((r : Int), (st : Int), ((w0.1 + p.1 : Nat) : Int), p.2))) ?_ ?_ ?_ ?_
        · exact ⟨xs2, v10, v11, rfl, del_same, hxF, by rw [List.take_zero, List.map_nil, List.append_nil]; exact htA.same sF⟩
        · rintro m σ HG _ ⟨xs3, v10, v11, rfl, sG, _⟩
          exact .inl (.inl (sG _ _ (del_at he npe)))
        · rintro m v σ HG hv ⟨xs3, v10, v11, rfl, sG, hxG, htG⟩
          obtain ⟨e, he0, qe, rfl, hqe⟩ := paired_get (Evs.mono hevB fun b zs h => sG _ _ h) hv
          have hm := tups_at hv
          have hlG := paired_len htG
          rw [List.length_append, List.length_map, List.length_take] at hlG
          refine ⟨qe, _, rfl, .inl (.inl hqe), rfl, _, _, rfl, _, _, rfl, rfl, ?_⟩
          refine ⟨.ref pf, rfl, .inl ⟨rfl, _, .inl (.inl hxG)⟩, .int (r : Nat), rfl, .int (st : Nat), rfl, .int (w0.1 : Nat), rfl, .int (e.1 : Nat), rfl, _, _, rfl, rfl, .int e.2, rfl, by show 4 ≤ sizeLine; decide, fun q2 hq2 => ?_⟩
          have npq : pf ≠ q2 := ne_of_none hxG hq2
          refine ⟨pf, xs3, _, rfl, rfl, by rw [upd_ne npq]; exact hxG, line_lt (by omega), xs3 ++ [.ref q2], _, _, rfl, same_new (sG.trans (same_upd hq2)) (del_none _ _), upd_same, ?_⟩
          rw [List.take_add_one, he0, Option.toList_some, List.map_append, ← List.append_assoc]
          refine Hts.snoc (htG.mono fun b zs hb => ?_) ?_
          · rw [upd_ne (fun y => by rw [y, hxG] at hb; cases hb), upd_ne (ne_of_none hb hq2)]
            exact hb
          · rw [upd_ne npq.symm, upd_same]
            rfl
        · rintro σ HG ⟨xs3, v10, v11, rfl, sG, hxG, htG⟩
          rw [hel, List.take_length] at htG
          refine ⟨xs3, _, _, _, _, rfl, sB.trans sG, hxG, ?_⟩
          rw [List.map_map]
          exact htG
      · rintro σ HA ⟨xs2, v8, v9, v10, v11, rfl, sA, hxA, htA⟩
        rw [paired_len hwx, List.take_length] at htA
        exact ⟨xs2, _, _, _, _, _, _, _, _, rfl, sA, hxA, htA, rfl⟩
    · rintro σ H' ⟨xs, hs, v5, v6, v7, v8, v9, v10, v11, rfl, s2, hx, hht, ehs⟩
      rw [hkl, List.take_length] at ehs
      refine ⟨.ref pf, rfl, q H' pf xs hs (base0.trans s2) hpf hx hht (by rw [ehs]; exact hperm)⟩
def spHits (C : Addr) : Sp := fun vs H Q _ => ∃ (x : Addr) (rs : List Rf) (b s : Nat) (l : List Nat) (k : Nat), vs = [.ref x, .str (T l), .int (k : Int)] ∧ Ixd C H x rs b s ∧ IxOk rs b s ∧ Dna l ∧ l.length ≤ 10000 ∧ k ≤ 1000 ∧
  ∀ (H' : Hp) (p : Addr) (xs : List V), Same H H' → H p = none → H' p = some (.lst xs) → Hts H' xs (hAll rs l k) → Q (.ref p) H'
theorem ok_hits {f C : Addr} {fd : FuncData} (F : Fun K "hits" "hits" sHits f fd) (msort : mg "sorted" = none) (hHo : Has P w K mg base 9 "_hits_on_strand" ["index", "strand", "text", "k"] (spHitsOn C)) (hTu : Has P w K mg base 2 "turned" ["text"] spTurned) : FnOk P w K mg base CX0 10 f fd ["index", "read", "k"] (spHits C) := by
  obtain ⟨fHo, dHo, GHo, gHo, kHo, bHo⟩ := hHo
  obtain ⟨fTu, dTu, GTu, gTu, kTu, bTu⟩ := hTu
  refine F.ok scHits (fun vs H Q E h => ?_) (fun cdv A outer s H vs Q E hr h => ?_)
  · obtain ⟨x, rs, b, s, l, k, rfl, _⟩ := h
    rfl
  · obtain ⟨x, rs, b, s, l, k, rfl, hI, hok, hd, hl, hk, q⟩ := h
    have hr9 : Room 9 _ := hr
    have hr2 : Room 2 _ := hr.mono (by decide)
    refine ⟨_, (pss_one (ps_ret (pe_callB (cr_sortedN (d := 4) (B := MB) (by decide)) (by rfl) msort (by decide +kernel) (pa_cons (pe_op op_cat (pe_call GHo hr9 (by rfl) gHo kHo bHo .nil pass0 (pa_cons (pv 0) (pa_cons pe_int (pa_cons (pv 1) (pa_cons (pv 2) pa_nil))))) (pe_call GHo hr9 (by rfl) gHo kHo bHo .nil pass0 (pa_cons (pv 0) (pa_cons pe_int (pa_cons (pe_call GTu hr2 (by rfl) gTu kTu bTu .nil pass0 (pa_cons (pv 1) pa_nil)) (pa_cons (pv 2) pa_nil)))))) pa_nil)))), ?_⟩
    refine ⟨.ref x, rfl, .str (T l), rfl, .int k, rfl, x, rs, b, s, 0, l, k, rfl, hI, hok, hd, hl, hk, fun H1 p1 xs1 hs1 s1 hp1 hx1 ht1 pm1 => ?_⟩
    refine ⟨.ref x, rfl, .str (T l), rfl, l, rfl, hd, by omega, fun H2 s2 => ?_⟩
    have hI2 := (hI.same s1).same s2
    refine ⟨.int k, rfl, x, rs, b, s, 1, turn l, k, rfl, hI2, hok, turn_dna hd, by rw [turn_len]; exact hl, hk, fun H3 p2 xs2 hs2 s3 hp2 hx2 ht2 pm2 => ?_⟩
    have hjl := hok.2.2.1
    have hx1' := s3 _ _ (s2 _ _ hx1)
    have ht1' := ht1.same (s2.trans s3)
    have l1 := (hStr_len rs l k ((0 : Nat) : Int))
    have l2 := (hStr_len rs (turn l) k ((1 : Nat) : Int))
    have l3 := pm1.length_eq
    have l4 := pm2.length_eq
    have l5 := paired_len ht1
    have l6 := paired_len ht2
    refine ⟨p1, p2, _, _, rfl, rfl, hx1', hx2, line_ok (by omega), fun pc hpc => ?_⟩
    have sc := same_upd (o := .lst (xs1 ++ xs2)) hpc
    obtain ⟨HS, hHS⟩ : ∃ HS, HS = upd H3 pc (.lst (xs1 ++ xs2)) := ⟨_, rfl⟩
    rw [← hHS] at sc ⊢
    have hxc : HS pc = some (.lst (xs1 ++ xs2)) := by rw [hHS, upd_same]
    have hts : Hts HS (xs1 ++ xs2) (hs1 ++ hs2) := paired_app (ht1'.same sc) (ht2.same sc)
    have hpm : (hs1 ++ hs2).Perm (hAll rs l k) := (pm1.append pm2).trans (hAll_perm rs l k)
    have hrl := jl_many rs
    have htx : ∀ r, (txt rs r).length ≤ 4000 := fun r => by
      by_cases c : r < rs.length
      · have := txt_le c
        omega
      · rw [txt_out (by omega)]
        exact Nat.zero_le _
    have hbd := hAll_hb (l := l) (k := k) (rs := rs) (by omega) htx hk
    obtain ⟨key1, key2⟩ := hts_key hts
    refine ⟨pc, xs1 ++ xs2, kh HS, rfl, .inl (.inl hxc), fun y hy => ?_, fun ys p hperm hsort hp => ?_⟩
    · obtain ⟨t, h, e1, e2, e3, e4⟩ := key2 y hy
      rw [e3]
      exact ⟨t, e1, e2, rfl, hbd h (hpm.mem_iff.mp e4)⟩
    · have hys : Hts HS ys (ys.map fun y => un4 (kh HS y)) := hts_un ys fun y hy => by
        obtain ⟨t, h, e1, e2, e3, _⟩ := key2 y (hperm.mem_iff.mp hy)
        exact ⟨t, h, e1, e2, e3⟩
      have hzp : (ys.map fun y => un4 (kh HS y)).Perm (hAll rs l k) := by
        have h1 := hperm.map fun y => un4 (kh HS y)
        rw [un_map key1] at h1
        exact h1.trans hpm
      have hz : (ys.map fun y => un4 (kh HS y)) = hAll rs l k := by
        refine hits_sorted hzp hbd ?_ (hAll_up (by omega) htx hk)
        rw [List.pairwise_map]
        refine List.Pairwise.imp_of_mem (fun {a b} ma mb h => ?_) hsort
        obtain ⟨_, ha, _, _, ea, _⟩ := key2 a (hperm.mem_iff.mp ma)
        obtain ⟨_, hb', _, _, eb, _⟩ := key2 b (hperm.mem_iff.mp mb)
        rw [ea, eb] at h ⊢
        exact h
      rw [hz] at hys
      have s03 := s1.trans (s2.trans (s3.trans sc))
      exact q _ p ys (s03.trans (same_upd hp)) (s03.free hp) upd_same (hys.same (same_upd hp))
end
/-! ### the law's hits -/
def NLh : List Str := ["references", "read", "k", "found", "r", "strand", "letters", "row", "e"]
theorem scLHits : FnScope NLh ["references", "read", "k"] (defScope sLHits) := ⟨rfl, rfl, rfl, by decide +kernel, rfl, by decide +kernel, by decide +kernel⟩
theorem fm_le {α β : Type} (f : α → List β) (B : Nat) : ∀ l : List α, (∀ x ∈ l, (f x).length ≤ B) → (l.flatMap f).length ≤ l.length * B
  | [], _ => Nat.zero_le _
  | x :: l, h => by
    have ih := fm_le f B l fun y hy => h y (List.mem_cons_of_mem _ hy)
    have hx := h x List.mem_cons_self
    rw [List.flatMap_cons, List.length_append, List.length_cons, Nat.succ_mul]
    omega
theorem hRow_len (l t : List Nat) (k : Nat) (r s : Int) : (hRow l t k r s).length ≤ t.length + 1 := by
  unfold hRow
  rw [List.length_map]
  exact endsTo_len l t (k : Int) t.length
/-- the rows of the first strands of one reference -/
def hSt (rs : List Rf) (l : List Nat) (k r j : Nat) : List Ht := (List.range j).flatMap fun (s : Nat) => hRow (if s = 0 then l else turn l) (txt rs r) k (r : Int) (s : Int)
theorem hSt_two (rs : List Rf) (l : List Nat) (k r : Nat) : hSt rs l k r 2 = hRow l (txt rs r) k (r : Int) 0 ++ hRow (turn l) (txt rs r) k (r : Int) 1 := by
  unfold hSt
  rw [List.range_succ, List.range_succ, List.range_zero, List.nil_append, List.flatMap_append, List.flatMap_cons, List.flatMap_cons, List.flatMap_nil, List.append_nil, List.append_nil]
  rfl
theorem hSt_succ (rs : List Rf) (l : List Nat) (k r j : Nat) : hSt rs l k r (j + 1) = hSt rs l k r j ++ hRow (if j = 0 then l else turn l) (txt rs r) k (r : Int) (j : Int) := by
  unfold hSt
  rw [List.range_succ, List.flatMap_append, List.flatMap_cons, List.flatMap_nil, List.append_nil]
def hAllN (rs : List Rf) (l : List Nat) (k n : Nat) : List Ht := (List.range n).flatMap fun r => hSt rs l k r 2
theorem hAllN_all (rs : List Rf) (l : List Nat) (k : Nat) : hAllN rs l k rs.length = hAll rs l k := by
  unfold hAllN hAll
  congr 1
  exact funext fun r => hSt_two rs l k r
section
variable {P : Program} {w : World} {K : PySem.W.Frag} {mg : Str → Option Value} {base : Heap}
def spLHits (K : PySem.W.Frag) : Sp := fun vs H Q _ => ∃ (a : Addr) (xs : List V) (rs : List Rf) (l : List Nat) (k : Nat), vs = [.ref a, .str (T l), .int (k : Int)] ∧ SqL K H a xs ∧ Tups H xs rs ∧ Dna l ∧ rs.length ≤ 50 ∧ (∀ r, (txt rs r).length ≤ 1000) ∧ l.length ≤ 1000 ∧ k ≤ 1000 ∧
  ∀ (H' : Hp) (p : Addr) (ys : List V), Same H H' → H p = none → H' p = some (.lst ys) → Hts H' ys (hAll rs l k) → Q (.ref p) H'
theorem ok_lhits {f : Addr} {fd : FuncData} {m : Nat} (F : Fun K "_law_hits" "_law_hits" sLHits f fd) (B : Bl mg) (hU : Has P w K mg base (m + 1) "_law_turned" ["text"] spLTurned) (hLE : Has P w K mg base (m + 2) "_law_ends" ["read", "text"] spLEnds) : FnOk P w K mg base CX0 (m + 3) f fd ["references", "read", "k"] (spLHits K) := by
  obtain ⟨fU, dU, GU, gU, kU, bU⟩ := hU
  obtain ⟨fLE, dLE, GLE, gLE, kLE, bLE⟩ := hLE
  refine F.ok scLHits (fun vs H Q E h => ?_) (fun cdv A outer s H vs Q E hr h => ?_)
  · obtain ⟨a, xs, rs, l, k, rfl, _⟩ := h
    rfl
  · obtain ⟨a, xs, rs, l, k, rfl, hsq, htu, hd, hrl, htx, hl, hk, q⟩ := h
    have hr2 : Room (m + 2) _ := hr
    have hr1 : Room (m + 1) _ := hr.mono (by omega)
    refine ⟨_, (pss_cons (ps_set (i := 3) scLHits.nd rfl (.inl rfl) (pe_lst pa_nil))
      (pss_cons (ps_for PassesOwn.never rfl (pi_range1 rfl B.range (pa_cons (pe_callB call_len_seq (by rfl) B.len PySem.boot_len (pa_cons (pv 0) pa_nil)) pa_nil)) (pg_name (i := 4) scLHits.nd rfl (.inl rfl))
        (pss_one (ps_for PassesOwn.never rfl (pi_range1 rfl B.range (pa_cons pe_int pa_nil)) (pg_name (i := 5) scLHits.nd rfl (.inl rfl))
        (pss_cons (ps_set (i := 6) scLHits.nd rfl (.inl rfl) (pe_ix ix_list (pe_lst (pa_cons (pv 1) (pa_cons (pe_call GU hr1 (by rfl) gU kU bU .nil pass0 (pa_cons (pv 1) pa_nil)) pa_nil))) (pv 5) (fun _ _ => rfl)))
      (pss_cons (ps_set (i := 7) scLHits.nd rfl (.inl rfl) (pe_call GLE hr2 (by rfl) gLE kLE bLE .nil pass0 (pa_cons (pv 6) (pa_cons (pe_ix ix_tup (pe_ix ix_list (pv 0) (pv 4) (fun _ _ => rfl)) pe_int (fun _ _ => rfl)) pa_nil))))
      (pss_one (ps_for PassesOwn.never rfl (pi_range1 rfl B.range (pa_cons (pe_callB call_len_seq (by rfl) B.len PySem.boot_len (pa_cons (pv 7) pa_nil)) pa_nil)) (pg_name (i := 8) scLHits.nd rfl (.inl rfl))
        (pss_one (ps_if (pt_cmpR op_le (pe_ix ix_list (pv 7) (pv 8) (fun _ _ => rfl)) (pv 2) (nomark _)) (pss_one (ps_expr (pe_bm PySem.F.plainAttrs_list PySem.F.slot_list_append PySem.F.type_list_append mt_append (pv 3) (pa_cons (pe_tup (pa_cons (pv 4) (pa_cons (pv 5) (pa_cons (pv 8) (pa_cons (pe_ix ix_list (pv 7) (pv 8) (fun _ _ => rfl)) pa_nil))))) pa_nil)))) pss_nil)))))))))
      (pss_one (ps_ret (pv 3))))), ?_⟩
    refine ⟨Nat.zero_le _, fun pf hpf => ?_⟩
    have s0 : Same H (upd H pf (.lst [])) := same_upd hpf
    have hxl := paired_len htu
    have npa : ∀ {H' : Hp}, Same H H' → SqL K H' a xs := fun s => s.seq hsq
    refine ⟨.ref a, rfl, a, xs, rfl, .inl (s0.seq hsq), _, rfl, by rw [hxl]; omega, by rw [hxl]; omega, ?_⟩
    rw [hxl, Int.toNat_natCast]
    refine for_range (lo := 0) (n := rs.length) (fun i σ H' => ∃ (ys : List V) (v4 v5 v6 v7 v8 : Option V), σ = [some (.ref a), some (.str (T l)), some (.int (k : Int)), some (.ref pf), v4, v5, v6, v7, v8] ∧ Same H H' ∧ H' pf = some (.lst ys) ∧ Hts H' ys (hAllN rs l k i)) ?_ ?_ ?_
    · exact ⟨[], none, none, none, none, none, rfl, s0, upd_same, .nil⟩
    · rintro i σ H' hi ⟨ys, v4, v5, v6, v7, v8, rfl, s1, hy, hts⟩
      have hbase : (hAllN rs l k i).length ≤ i * 2002 := by
        have := fm_le (fun r => hSt rs l k r 2) 2002 (List.range i) fun r _ => by
          rw [hSt_two, List.length_append]
          have h1 := hRow_len l (txt rs r) k (r : Int) 0
          have h2 := hRow_len (turn l) (txt rs r) k (r : Int) 1
          have h3 := htx r
          omega
        rw [List.length_range] at this
        exact this
      refine ⟨_, rfl, by decide, by decide, ?_⟩
      refine for_range (lo := 0) (n := (2 : Int).toNat) (fun j σ H' => ∃ (ys : List V) (v5 v6 v7 v8 : Option V), σ = [some (.ref a), some (.str (T l)), some (.int (k : Int)), some (.ref pf), some (.int (0 + (i : Nat))), v5, v6, v7, v8] ∧ Same H H' ∧ H' pf = some (.lst ys) ∧ Hts H' ys (hAllN rs l k i ++ hSt rs l k i j)) ?_ ?_ ?_
      · exact ⟨ys, v5, v6, v7, v8, rfl, s1, hy, by rw [show hSt rs l k i 0 = [] from rfl, List.append_nil]; exact hts⟩
      · rintro j σ H2 hj ⟨ys, v5, v6, v7, v8, rfl, s2, hy2, hts2⟩
        have hj2 : j < 2 := hj
        obtain ⟨lt, hlt⟩ : ∃ lt, lt = if j = 0 then l else turn l := ⟨_, rfl⟩
        have hlt2 : Dna lt ∧ lt.length ≤ 1000 := by
          rw [hlt]
          split
          · exact ⟨hd, hl⟩
          · exact ⟨turn_dna hd, by rw [turn_len]; exact hl⟩
        have hat0 : atI [V.str (T l), V.str (T (turn l))] (0 + (j : Nat)) = some (.str (T lt)) := by
          rw [Int.zero_add]
          refine atI_nat ?_
          have : j = 0 ∨ j = 1 := by omega
          rcases this with z | z <;> subst z <;> rw [hlt] <;> rfl
        have hil : i < rs.length := hi
        obtain ⟨qa, ea, hqa⟩ := ref_at (htu.same s2) hil
        have htxi := htx i
        refine ⟨.str (T l), rfl, .str (T l), rfl, l, rfl, hd, by omega, by show 2 ≤ sizeLine; decide, fun pq hpq => ?_⟩
        have sq := same_upd (o := .lst [.str (T l), .str (T (turn l))]) hpq
        refine ⟨.int (0 + (j : Nat)), rfl, pq, _, _, .str (T lt), rfl, rfl, .inl (.inl upd_same), hat0, ?_⟩
        refine ⟨.str (T lt), rfl, .ref a, rfl, .int (0 + (i : Nat)), rfl, a, _, _, .ref qa, rfl, rfl, npa (s2.trans sq), by rw [Int.zero_add]; exact atI_nat ea, qa, _, 1, .str (T (txt rs i)), rfl, rfl, .inl (.inl (sq _ _ hqa)), atI_nat (j := 1) rfl, lt, txt rs i, rfl, by omega, by omega, fun H4 pw s4 hpw hrow => ?_⟩
        have hyb := s4 _ _ (sq _ _ hy2)
        have npw : pw ≠ pf := fun z => by
          have := sq _ _ hy2
          rw [← z, hpw] at this
          cases this
        have hrl' : ((rowE lt (txt rs i) ((txt rs i).length + 1)).map V.int).length = (txt rs i).length + 1 := by rw [List.length_map, rowE, List.length_map, List.length_range]
        refine ⟨.ref pw, rfl, pw, _, rfl, .inl (.inl (.inl hrow)), _, rfl, by rw [hrl']; omega, by rw [hrl']; omega, ?_⟩
        rw [hrl', Int.toNat_natCast]
        have sD : Same H (del H4 pf) := same_del (s2.trans (sq.trans s4)) hpf
        have hsl : (hSt rs l k i j).length ≤ 2002 := by
          have := fm_le (fun (s : Nat) => hRow (if s = 0 then l else turn l) (txt rs i) k (i : Int) (s : Int)) 1001 (List.range j) fun s _ => by
            have := hRow_len (if s = 0 then l else turn l) (txt rs i) k (i : Int) (s : Int)
            omega
          rw [List.length_range] at this
          unfold hSt
          omega
        refine for_range (lo := 0) (n := (txt rs i).length + 1) (fun e σ H5 => ∃ (ys : List V) (v8 : Option V), σ = [some (.ref a), some (.str (T l)), some (.int (k : Int)), some (.ref pf), some (.int (0 + (i : Nat))), some (.int (0 + (j : Nat))), some (.str (T lt)), some (.ref pw), v8] ∧ Same (del H4 pf) H5 ∧ H5 pf = some (.lst ys) ∧ Hts H5 ys (hAllN rs l k i ++ hSt rs l k i j ++ (endsN lt (txt rs i) (k : Int) e).map fun p => ((i : Int), (j : Int), (p.1 : Int), p.2))) ?_ ?_ ?_
        · exact ⟨ys, v8, rfl, del_same, hyb, by rw [show endsN lt (txt rs i) (k : Int) 0 = [] from rfl, List.map_nil, List.append_nil]; exact hts2.same (sq.trans s4)⟩
        · rintro e σ H5 he ⟨ys, v8, rfl, s5, hy5, hts5⟩
          have hlen := paired_len hts5
          have hel := endsN_len lt (txt rs i) (k : Int) e
          rw [List.length_append, List.length_append, List.length_map] at hlen
          have hrow5 := s5 _ _ (del_at hrow npw)
          have hat : atI ((rowE lt (txt rs i) ((txt rs i).length + 1)).map V.int) (0 + (e : Nat)) = some (.int (colT lt 0 ((txt rs i).take e) lt.length)) := by
            rw [Int.zero_add]
            refine atI_nat ?_
            rw [List.getElem?_map, rowE, List.getElem?_map, List.getElem?_range he]
            rfl
          refine ⟨.ref pw, rfl, .int (0 + (e : Nat)), rfl, pw, _, _, _, rfl, rfl, .inl (.inl hrow5), hat, .int (k : Int), rfl, _, _, rfl, rfl, _, rfl, ite2 (fun c => ?_) (fun c => ?_)⟩
          · have hle : colT lt 0 ((txt rs i).take e) lt.length ≤ (k : Int) := of_decide_eq_true c
            refine ⟨.ref pf, rfl, .inl ⟨rfl, _, .inl (.inl hy5)⟩, .int (0 + (i : Nat)), rfl, .int (0 + (j : Nat)), rfl, .int (0 + (e : Nat)), rfl, .ref pw, rfl, .int (0 + (e : Nat)), rfl, pw, _, _, _, rfl, rfl, .inl (.inl hrow5), hat, by show 4 ≤ sizeLine; decide, fun q2 hq2 => ?_⟩
            have npq : pf ≠ q2 := ne_of_none hy5 hq2
            refine ⟨pf, ys, _, rfl, rfl, by rw [upd_ne npq]; exact hy5, line_lt7 (by omega), ys ++ [.ref q2], _, rfl, same_new (s5.trans (same_upd hq2)) (del_none _ _), upd_same, ?_⟩
            rw [endsN_succ, if_pos hle, List.map_append, ← List.append_assoc]
            refine Hts.snoc (hts5.mono fun b zs hb => ?_) ?_
            · rw [upd_ne (fun z => by rw [z, hy5] at hb; cases hb), upd_ne (ne_of_none hb hq2)]
              exact hb
            · rw [upd_ne npq.symm, upd_same]
              show some (HO.tup [V.int (0 + (i : Nat)), V.int (0 + (j : Nat)), V.int (0 + (e : Nat)), _]) = some (HO.tup [V.int (i : Nat), V.int (j : Nat), V.int (e : Nat), _])
              rw [Int.zero_add, Int.zero_add, Int.zero_add]
          · have hle : ¬ colT lt 0 ((txt rs i).take e) lt.length ≤ (k : Int) := fun z => c (decide_eq_true z)
            refine ⟨ys, _, rfl, s5, hy5, ?_⟩
            rw [endsN_succ, if_neg hle, List.append_nil]
            exact hts5
        · rintro σ H5 ⟨ys, v8, rfl, s5, hy5, hts5⟩
          refine ⟨ys, _, _, _, _, rfl, sD.trans s5, hy5, ?_⟩
          rw [hSt_succ, ← hlt, ← List.append_assoc]
          exact hts5
      · rintro σ H2 ⟨ys, v5, v6, v7, v8, rfl, s2, hy2, hts2⟩
        refine ⟨ys, _, _, _, _, _, rfl, s2, hy2, ?_⟩
        unfold hAllN
        rw [List.range_succ, List.flatMap_append, List.flatMap_cons, List.flatMap_nil, List.append_nil]
        exact hts2
    · rintro σ H' ⟨ys, v4, v5, v6, v7, v8, rfl, s1, hy, hts⟩
      rw [hAllN_all] at hts
      exact ⟨_, rfl, q H' pf ys s1 hpf hy hts⟩
end
/-! ### hits as data -/
def dT4 (h : Ht) : PyData := .tuple [.int h.1, .int h.2.1, .int h.2.2.1, .int h.2.2.2]
def dHs (hs : List Ht) : PyData := .list (hs.map dT4)
theorem can_dHs (hs : List Ht) : (dHs hs).canLay0 = true := by
  show PyData.canLayAll0 (hs.map dT4) = true
  induction hs with
  | nil => rfl
  | cons h hs ih => exact ih
theorem shaped_dT4 (h : Ht) : SeqAt.shaped (dT4 h) = true := rfl
theorem shaped_dHs (hs : List Ht) : SeqAt.shaped (dHs hs) = true := by
  have h : PyData.depthAll (hs.map dT4) ≤ 1 := by
    induction hs with
    | nil => exact Nat.zero_le _
    | cons h hs ih =>
      show max (max 0 (max 0 (max 0 (max 0 0))) + 1) (PyData.depthAll (hs.map dT4)) ≤ 1
      omega
  have h2 : PyData.depth (dHs hs) ≤ 64 := by
    show PyData.depthAll (hs.map dT4) + 1 ≤ 64
    omega
  unfold SeqAt.shaped
  rw [can_dHs, decide_eq_true h2]
  rfl
theorem eqv_dHs (hs : List Ht) : PyData.eqv (dHs hs) (dHs hs) = true := SeqAt.eqv_refl _ (can_dHs hs)
theorem dp_hts {K : PySem.W.Frag} {H : Hp} : ∀ {xs : List V} {hs : List Ht}, Hts H xs hs → DpAll K H xs (hs.map dT4)
  | _, _, .nil => .nil
  | _, _, .cons ⟨q, e, h⟩ t => by
    subst e
    exact .cons (.tup (.inl (.inl h)) (.cons (.int _) (.cons (.int _) (.cons (.int _) (.cons (.int _) .nil))))) (dp_hts t)
theorem dp_dHs {K : PySem.W.Frag} {H : Hp} {a : Addr} {xs : List V} {hs : List Ht} (h : SqL K H a xs) (t : Hts H xs hs) : Dp K H (.ref a) (dHs hs) := .lst h (dp_hts t)
theorem eqv_dT4 (a b : Ht) : PyData.eqv (dT4 a) (dT4 b) = decide (a = b) := by
  obtain ⟨a1, a2, a3, a4⟩ := a
  obtain ⟨b1, b2, b3, b4⟩ := b
  simp only [dT4, PyData.eqv, PyData.eqvAll]
  rw [Bool.eq_iff_iff]
  simp [Prod.mk.injEq, and_assoc]
theorem any_dT4 (hs : List Ht) (h : Ht) : ((hs.map dT4).any fun z => PyData.eqv z (dT4 h)) = decide (h ∈ hs) := by
  rw [List.any_map, Bool.eq_iff_iff, List.any_eq_true, decide_eq_true_iff]
  constructor
  · rintro ⟨x, hx, e⟩
    have e2 : PyData.eqv (dT4 x) (dT4 h) = true := e
    rw [eqv_dT4, decide_eq_true_iff] at e2
    exact e2 ▸ hx
  · intro hx
    refine ⟨h, hx, ?_⟩
    show PyData.eqv (dT4 h) (dT4 h) = true
    rw [eqv_dT4]
    exact decide_eq_true rfl
/-! ### rules: setdefault with a tuple as key -/
section
variable {X : Cx} {o e f : Expr} {td ty tx : TE} {apos cpos : Pos}
def tDSetdT (td ty tx : TE) : TE := fun σ H Q => td σ H fun x H1 => ∃ a, x = .ref a ∧ IsD H1 a ∧ ty σ H1 fun y H2 => tx σ H2 fun z H3 => ∃ (ks : List (List Key × V)) (k : List Key) (b : Addr),
  H3 a = some (.dT ks) ∧ y = .ref b ∧ H3 b = some (.tup (k.map kV)) ∧ ks.length < sizeLine ∧ (∀ v, valV ks k = some v → Q v H3) ∧ (valV ks k = none → Q z (upd H3 a (.dT (putK ks k z))))
theorem setd_tup {pins : List (Addr × Obj)} {σ : L2.St} {H : Hp} {s : Shared} {a b : Addr} {ks : List (List Key × V)} {k : List Key} {d : V} {r : Value} {Q : Value → Shared → Prop} {E : Value → Shared → Prop} (hu : X.A.units + 1 < cLine) (I : Inv X pins σ H s) (ha : H a = some (.dT ks)) (hb : H b = some (.tup (k.map kV))) (few : ks.length < sizeLine) (rd : RelV d r)
    (h1 : ∀ v, valV ks k = some v → ∀ (w' : Value) (s' : Shared), Inv X pins σ H s' → RelV v w' → Q w' s') (h2 : valV ks k = none → ∀ (w' : Value) (s' : Shared), Inv X pins σ (upd H a (.dT (putK ks k d))) s' → RelV d w' → Q w' s') :
    wpAny (model X.prog X.w) X.A (call (.builtin "dict.setdefault") [.ref a, .ref b, r]) Q E s := by
  obtain ⟨z, nd, es, rel, dd⟩ := dt_of I.hok ha
  have hv := rel.val k
  refine call_setdefault_heap (hsz := (Paired.length rel) ▸ z) (tupleKind_room_in1 hu) (key_of I.hok hb) nd dd (fun p hp => ?_) fun hn h' d2 same => ?_
  · rw [hp] at hv
    cases q0 : valV ks k with
    | none =>
      rw [q0] at hv
      exact (show False from hv).elim
    | some v0 =>
      rw [q0] at hv
      exact h1 v0 q0 _ _ (I.tok _) hv
  · rw [hn] at hv
    cases q0 : valV ks k with
    | some v0 =>
      rw [q0] at hv
      exact (show False from hv).elim
    | none =>
      obtain ⟨ob, es2, ep2, p1, p2, p3, p4, _, p5⟩ := d2
      have few2 := length_putK ks k d
      refine h2 q0 _ _ (d_write I (by rw [ha]; exact True.intro) same ⟨ob, p1⟩ ⟨by omega, nd, _, (rel.put k hb rd).keeps fun c ys ec => ?_, ob, es2, ep2, p1, p2, p3, p4, p5⟩) rd
      exact (upd_ne (ne_of ec ha fun z => nomatch z)).trans ec
theorem pe_dsetdT (hu : X.A.units + 1 < cLine) (ho : PE X o td) (he : PE X e ty) (hf : PE X f tx) (m : M2 X o "setdefault" apos e f cpos) : PE X (.Call (.Attribute o "setdefault" apos) [e, f] [] cpos) (tDSetdT td ty tx) := by
  refine ⟨fun pins s σ H Q I h => wpAny_Call_method m.base m.few m.line PySem.F.plainAttrs_dict PySem.F.slot_dict_setdefault PySem.F.type_dict_setdefault (thn (ho.run pins s σ H _ I h) ?_)⟩
  rintro u s1 ⟨x, H1, I1, rx, a, rfl, d, q1⟩
  obtain rfl : u = Value.ref a := rx
  obtain ⟨g1, g2, _⟩ := isD_at I1 d
  refine ⟨g1, g2, ?_⟩
  rw [m.trees]
  refine Calls.callWith_builtin rfl (Calls.evalArgs_plain (Calls.spliced_cons (thn (he.run pins s1 σ H1 _ I1 q1) ?_)))
  rintro _ s2 ⟨y, H2, I2, ry, q2⟩
  refine Calls.spliced_cons (thn (hf.run pins s2 σ H2 _ I2 q2) ?_)
  rintro _ s3 ⟨z, H3, I3, rz, ks, k, b, ea, rfl, hb, few, q3, q4⟩
  cases ry
  exact Calls.spliced_nil (setd_tup hu I3 ea hb few rz (fun v hv w' s4 I4 rw' => ⟨v, _, I4, rw', q3 v hv⟩) fun hn w' s4 I4 rw' => ⟨z, _, I4, rw', q4 hn⟩)
end
/-! ### sorted data of any depth -/
section
open PySem.W PySem.SeqAt
/-- sorted(xs), xs a list of things that read as alike data -/
def rSortedD {β : Type} (enc : β → PyData) (K : PySem.W.Frag) : List V → Hp → VK → Prop := fun vs H Q => ∃ (a : Addr) (xs : List V) (bs : List β) (R : V → β → Prop), vs = [V.ref a] ∧ SqL K H a xs ∧ Paired (fun x b => R x b ∧ Dp K H x (enc b)) xs bs ∧ AllAlike (bs.map enc) ∧ Sortable (bs.map enc) ∧ (∀ b ∈ bs, (enc b).depth ≤ 60) ∧
  ∀ ys p, Paired R ys (bs.mergeSort (dataLe false enc)) → H p = none → Q (.ref p) (upd H p (.lst ys))
theorem each_vals {β : Type} {R : V → β → Prop} : ∀ {xs : List V} {us : List Value} {bs : List β}, Vals xs us → Paired R xs bs → EachIs (fun u b => ∃ x, RelV x u ∧ R x b ∧ x ∈ xs) us bs
  | _, _, _, .nil, .nil => .nil
  | _, _, _, .cons r t, .cons p q => .cons ⟨_, r, p, List.mem_cons_self⟩ ((each_vals t q).mono fun _ _ ⟨x, h1, h2, h3⟩ => ⟨x, h1, h2, List.mem_cons_of_mem _ h3⟩)
theorem vals_each {β : Type} {R : V → β → Prop} : ∀ {us : List Value} {bs : List β}, EachIs (fun u b => ∃ x, RelV x u ∧ R x b) us bs → ∃ xs, Vals xs us ∧ Paired R xs bs
  | _, _, .nil => ⟨[], .nil, .nil⟩
  | _, _, .cons ⟨x, h1, h2⟩ t => by
    obtain ⟨xs, g1, g2⟩ := vals_each t
    exact ⟨x :: xs, .cons h1 g1, .cons h2 g2⟩
theorem cr_sortedD {X : Cx} {β : Type} {enc : β → PyData} (hu : X.A.units + 64 < cLine) : CallR X (.builtin "sorted") (rSortedD enc X.K) := by
  intro pins s σ H vs us Q I r h
  obtain ⟨a, xs, bs, R, rfl, hs, hp, hal, hk, hdp, q⟩ := h
  obtain ⟨its, rv, hl, hz⟩ := I.list hs
  obtain rfl := Vals.ref1 r
  have each := each_vals rv hp
  have hlen : xs.length = bs.length := paired_len hp
  have reads : EachIs (fun u b => ∃ as, Reads s.heap u (enc b) as) its bs := each.mono fun u b ⟨x, h1, h2, _⟩ => by
    obtain ⟨as, r1⟩ := Dp.reads I (enc b) x u h2.2 h1
    exact ⟨as, r1⟩
  have room : ∀ b, b ∈ bs → X.A.units + 2 + (enc b).depth < cLine := fun b hb => by
    have := hdp b hb
    omega
  refine sorted_data (R := fun u b => ∃ x, RelV x u ∧ R x b) hl.isList (each.mono fun u b ⟨x, h1, h2, h3⟩ => ⟨x, h1, h2.1⟩) reads hal hk (by rw [← hlen]; exact hz) room ?_
  intro out ho eo
  obtain ⟨ys, g1, g2⟩ := vals_each eo
  have hsz : ys.length ≤ sizeLine := by
    rw [paired_len g2, List.length_mergeSort, ← hlen]
    exact hz
  obtain ⟨ep, he'⟩ := PyProof.Rows.sortedAll_at s.heap its out.toArray
  exact ⟨.ref _, upd H (s.heap.objs.size + 1) (.lst ys), I.laid (t' := s.toks) (fun _ _ => PyProof.Rows.sortedAll_old) (Nat.le_succ _) ⟨hsz, out, ep, g1, he'⟩, rfl, q ys _ g2 (I.hok.fresh (Nat.le_succ _))⟩
end
/-! ### for (a, b, c), v in d.items(), the keys tuples -/
section
variable {P : Program} {w : World} {K : PySem.W.Frag}
theorem frz_tups {X : Cx} {pins : List (Addr × Obj)} {s : Shared} {σ : L2.St} {H : Hp} {d : Addr} {o : Obj} {ks : List (List Key × V)} (I : Inv X pins σ H s) (h : H d = some (.frz o (.dT ks))) :
    (d == sysModules) = false ∧ s.heap.get? d = some o ∧ o.ExactDict ∧ ∃ (es : Array DictEntry) (ep : Nat), o.data = .dict es ep ∧ es.size = ks.length ∧ ∀ (i : Nat) (hi : i < es.size) (k : List Key) (v : V), ks[i]? = some (k, v) → ∃ q : Addr, es[i].key = .ref q ∧ H q = some (.tup (k.map kV)) ∧ RelV v es[i].val := by
  have hf := I.frzT h
  obtain ⟨hs, hd, hx, es, ep, hdt, hsz, _⟩ := hf
  refine ⟨hs, hd, hx, es, ep, hdt, hsz, fun i hi k v e => ?_⟩
  obtain ⟨hd', _, _, xs, pr, o', es', ep', ho, _, hdt', he, _⟩ := I.hok d _ h
  rw [hd'] at ho
  cases ho
  rw [hdt] at hdt'
  cases hdt'
  obtain ⟨b, hb, e1, e2, e3⟩ := L2.paired_get pr e
  have q := entry_at he i
  rw [hb, Array.getElem?_eq_getElem hi] at q
  have q2 := Option.some.inj q
  exact ⟨b.2.1, by rw [q2]; rfl, e2, by rw [q2]; exact e3⟩
/-- the items of the locked dict at d, each a new pair of the key's own tuple and the value -/
def Itit (d : Addr) (o : Obj) (ks : List (List Key × V)) : It :=
  ⟨fun i H => H d = some (.frz o (.dT ks)) ∧ i < ks.length, fun i H x H' => ∃ (t : Addr) (k : List Key) (v : V) (q : Addr), ks[i]? = some (k, v) ∧ x = .ref t ∧ H q = some (.tup (k.map kV)) ∧ H t = none ∧ H' = upd H t (.tup [.ref q, v]), fun i H => H d = some (.frz o (.dT ks)) ∧ ks.length ≤ i⟩
theorem turn_itemsT {ks : List (List Key × V)} {elts : List Expr} {kk : Nat} {tpos : Pos} {d : Addr} {o : Obj} {es : Array DictEntry} {ep : Nat} (it : Addr) (hod : o.data = .dict es ep) :
    Turn P w K (.Tuple elts kk tpos) (Itit d o ks) [it] it (fun i h => ∃ ok ov, IsItemIter h it d i ks.length ep ok ov) where
  mem := List.mem_singleton.mpr rfl
  obj := fun i h st b hb => by
    obtain ⟨ok, ov, e⟩ := st
    rw [List.mem_singleton.mp hb]
    exact ⟨_, e, fun v z => nomatch z⟩
  keep := fun i h h' st kp => st.imp fun ok z => z.imp fun ov e => kp it (List.mem_singleton.mpr rfl) _ e
  item := by
    intro X hP hw hK hc i pins s σ H E I hf st hg
    subst hP hw hK
    obtain ⟨hd, hi⟩ := hg
    obtain ⟨hs, hgd, hx, es', ep', hdt, hsz, rel⟩ := frz_tups I hd
    obtain ⟨rfl, rfl⟩ := dict_ep hod hdt
    have hi' : i < es'.size := by omega
    obtain ⟨q, eq', hq, rv⟩ := rel i hi' _ _ (List.getElem?_eq_getElem hi)
    obtain ⟨ok, ov, he⟩ := st
    have lt : it < s.heap.objs.size := Heap.lt_size he
    rw [← hsz] at he
    refine wpAny_pyNext_items_item_raw he ⟨o, hgd, hx, hdt⟩ hi' fun h1 ho hT hz kp => ⟨_, rfl, wpAny_letOwnedTupleGo_items (s := { s with heap := h1 }) ho fun h2 he2 sb => ?_⟩
    have hT2 := (sb.2 _ (Nat.ne_of_gt lt)).trans hT
    obtain ⟨v, hv⟩ : ∃ v, v = ks[i].2 := ⟨_, rfl⟩
    have ok2 : ObjOk X.prog X.w (upd H s.heap.objs.size (.tup [.ref q, ks[i].2])) h2 s.heap.objs.size (.tup [.ref q, ks[i].2]) :=
      ⟨by show 2 ≤ sizeLine; decide, [es'[i].key, es'[i].val], .cons eq' (.cons rv .nil), ⟨_, hT2, rfl, _, rfl⟩⟩
    refine ⟨.ref s.heap.objs.size, _, I.turnedNew (t' := s.toks) (ch := [it]) (fun b ob hb e => ?_) hf (Nat.le_refl _) ok2, rfl, ⟨_, ks[i].1, ks[i].2, q, List.getElem?_eq_getElem hi, rfl, hq, I.hok.fresh (Nat.le_refl _), rfl⟩, ⟨es'[i].key, es'[i].val, ?_⟩, fun b hb => ?_⟩
    · have nb : b ≠ it := fun z => hb (List.mem_singleton.mpr z)
      exact (sb.2 b nb).trans (kp b ob nb e)
    · rw [← hsz]
      exact he2
    · rw [List.mem_singleton.mp hb]
      exact (upd_ne (Nat.ne_of_lt lt)).trans (hf it (List.mem_singleton.mpr rfl)).1
  done := by
    intro X hP hw hK hc i pins s σ H E I hf st hg
    subst hP hw hK
    obtain ⟨hd, hi⟩ := hg
    obtain ⟨z0, z1, z2, z3, z4, z5⟩ := hf it (List.mem_singleton.mpr rfl)
    obtain ⟨hs, hgd, hx, es', ep', hdt, hsz, rel⟩ := frz_tups I hd
    obtain ⟨rfl, rfl⟩ := dict_ep hod hdt
    obtain ⟨ok, ov, he⟩ := st
    rw [← hsz] at he
    exact wpAny_pyNext_items_end_raw (I.ok.hd hc) he ⟨o, hgd, hx, hdt⟩ (by omega) fun h1 eb => ⟨rfl, I.turned (t' := s.toks) (fun b ob hb e => eb b ob hb e) z0 z1 z3 z4 z5⟩
  self := fun A i s Q E st h => by
    obtain ⟨ok, ov, e⟩ := st
    exact PySem.W.kcp_self e h
end
def iItemsT (td : TE) : TI := fun σ H R => td σ H fun x H1 => ∃ d o ks, x = .ref d ∧ H1 d = some (.frz o (.dT ks)) ∧ R (Itit d o ks) H1
theorem pi_itemsT {X : Cx} {e : Expr} {td : TE} {apos cpos : Pos} {elts : List Expr} {kk : Nat} {tpos : Pos} (he : PE X e td) (hbase : attributeBase e "items" X.env (eval e X.env) = eval e X.env := by rfl) (hline : (apos.endLine == cpos.line) = true := by rfl) :
    PI X (.Tuple elts kk tpos) (.Call (.Attribute e "items" apos) [] [] cpos) (iItemsT td) := by
  refine ⟨fun pins s σ H R I h => wpAny_Call_method (T := "dict") (id := "dict.items") hbase rfl hline F.plainAttrs_dict F.slot_dict_items F.type_dict_items (thn (he.run pins s σ H _ I h) ?_)⟩
  rintro u s1 ⟨x, H1, I1, rx, d, o, ks, rfl, hd, q⟩
  obtain rfl : u = Value.ref d := rx
  obtain ⟨hs, hgd, hx, es, ep, hdt, hsz, _⟩ := frz_tups I1 hd
  have raw : s1.heap.DictRaw d es ep := ⟨o, hgd, hx, hdt⟩
  refine ⟨raw.typeIs, fun b z => ?_, ?_⟩
  · cases z
    exact ⟨o, hgd, hx.2.1⟩
  have I2 : Inv X pins σ H1 { s1 with heap := s1.heap.push { cls := .type "dict_items", data := .fields #[.ref d] } } := I1.kept (t' := s1.toks) fun b ob z => Heap.get?_push_of_some _ z
  have go : wpAny (model X.prog X.w) X.A (pyIter (.ref s1.heap.objs.size)) (PIE X pins σ (.Tuple elts kk tpos) R) X.xe { s1 with heap := s1.heap.push { cls := .type "dict_items", data := .fields #[.ref d] } } := by
    refine wpAny_pyIter_items_raw (d := d) ⟨_, Heap.get?_push_size _ rfl, rfl, rfl⟩ (raw.at fun o' z => Heap.get?_push_of_some _ z) (pi_one (tk := s1.toks) I2 _ (turn_itemsT _ hdt) ⟨.none, .none, ?_⟩ q)
    rw [← hsz]
    exact Heap.get?_push_size _ rfl
  show wpAny _ _ (callWith cpos (.builtin "dict.items") [.ref d] [] []) _ X.xe s1
  exact method_meetsIn F.slot_dict_items F.entry_dict_items rfl (PySem.evalArgs_none ⟨rfl, raw.typeIs, F.args_dict_items_1 _, _, meets_dict_items_raw d hs, ⟨es, ep, raw⟩, go⟩)
/-! ### dicts of lists of numbers, filled list by list -/
section
variable {κ : Type} [DecidableEq κ]
def lookG (es : List (κ × List V)) (k : κ) : List V := ((es.find? fun e => decide (e.1 = k)).map (·.2)).getD []
def addG : List (κ × List V) → κ → List V → List (κ × List V)
  | [], k, m => [(k, m)]
  | e :: es, k, m => if e.1 = k then (e.1, e.2 ++ m) :: es else e :: addG es k m
theorem look_nilG (k : κ) : lookG ([] : List (κ × List V)) k = [] := rfl
theorem look_consG (e : κ × List V) (es : List (κ × List V)) (k : κ) : lookG (e :: es) k = if e.1 = k then e.2 else lookG es k := by
  unfold lookG
  rw [List.find?_cons]
  by_cases h : e.1 = k
  · rw [if_pos h, decide_eq_true h]
    rfl
  · rw [if_neg h, decide_eq_false h]
theorem look_addLG (es : List (κ × List V)) (k k' : κ) (m : List V) : lookG (addG es k m) k' = if k' = k then lookG es k ++ m else lookG es k' := by
  induction es with
  | nil =>
    show lookG [(k, m)] k' = _
    rw [look_consG]
    by_cases h : k' = k
    · rw [if_pos h, if_pos h.symm]
      rfl
    · rw [if_neg h, if_neg (fun z => h z.symm)]
  | cons e es ih =>
    unfold addG
    by_cases h : e.1 = k
    · rw [if_pos h, look_consG, look_consG, look_consG]
      dsimp only
      by_cases h2 : k' = k
      · rw [if_pos h2, if_pos (h.trans h2.symm), if_pos h]
      · rw [if_neg h2, if_neg (fun z => h2 (z.symm.trans h)), if_neg (fun z => h2 (z.symm.trans h))]
    · rw [if_neg h, look_consG, ih, look_consG, look_consG]
      by_cases h2 : k' = k
      · subst h2
        rw [if_neg h, if_pos rfl, if_pos rfl, if_neg h]
      · rw [if_neg h2, if_neg h2]
def flatG (es : List (κ × List V)) : List (κ × V) := es.flatMap fun e => e.2.map fun x => (e.1, x)
theorem flat_addG (es : List (κ × List V)) (k : κ) (m : List V) : (flatG (addG es k m)).Perm (flatG es ++ m.map fun x => (k, x)) := by
  induction es with
  | nil =>
    show ((m.map fun x => (k, x)) ++ []).Perm _
    rw [List.append_nil]
    exact .refl _
  | cons e es ih =>
    unfold addG
    by_cases h : e.1 = k
    · rw [if_pos h]
      unfold flatG
      rw [List.flatMap_cons, List.flatMap_cons, List.map_append, List.append_assoc, List.append_assoc, h]
      exact List.Perm.append_left _ List.perm_append_comm
    · rw [if_neg h]
      unfold flatG at ih ⊢
      rw [List.flatMap_cons, List.flatMap_cons, List.append_assoc]
      exact List.Perm.append_left _ ih
theorem mem_addG {es : List (κ × List V)} {k : κ} {m : List V} {e : κ × List V} (h : e ∈ addG es k m) : e.1 = k ∨ e ∈ es := by
  induction es with
  | nil =>
    rw [List.mem_singleton.mp h]
    exact .inl rfl
  | cons f es ih =>
    unfold addG at h
    by_cases c : f.1 = k
    · rw [if_pos c] at h
      rcases List.mem_cons.mp h with z | z
      · rw [z]
        exact .inl c
      · exact .inr (List.mem_cons_of_mem _ z)
    · rw [if_neg c] at h
      rcases List.mem_cons.mp h with z | z
      · rw [z]
        exact .inr List.mem_cons_self
      · exact (ih z).imp id (List.mem_cons_of_mem _)
theorem addL_midG {a : List (κ × List V)} {k : κ} (h : ∀ e ∈ a, e.1 ≠ k) (l m : List V) (b : List (κ × List V)) : addG (a ++ (k, l) :: b) k m = a ++ (k, l ++ m) :: b := by
  induction a with
  | nil => exact if_pos rfl
  | cons e a ih =>
    rw [List.cons_append, List.cons_append]
    unfold addG
    rw [if_neg (h e List.mem_cons_self), ih fun x hx => h x (List.mem_cons_of_mem _ hx)]
theorem addL_newG {a : List (κ × List V)} {k : κ} (h : ∀ e ∈ a, e.1 ≠ k) (m : List V) : addG a k m = a ++ [(k, m)] := by
  induction a with
  | nil => rfl
  | cons e a ih =>
    rw [List.cons_append]
    unfold addG
    rw [if_neg (h e List.mem_cons_self), ih fun x hx => h x (List.mem_cons_of_mem _ hx)]
theorem addL_posG {e : κ × List V} {es : List (κ × List V)} {k : κ} (c : e.1 = k) (m : List V) : addG (e :: es) k m = (e.1, e.2 ++ m) :: es := if_pos c
theorem addL_negG {e : κ × List V} {es : List (κ × List V)} {k : κ} (c : ¬ e.1 = k) (m : List V) : addG (e :: es) k m = e :: addG es k m := if_neg c
theorem addL_twoG (es : List (κ × List V)) (k : κ) (a b : List V) : addG (addG es k a) k b = addG es k (a ++ b) := by
  induction es with
  | nil => exact addL_posG rfl _
  | cons e es ih =>
    by_cases c : e.1 = k
    · rw [addL_posG c, addL_posG (e := (e.1, e.2 ++ a)) c, addL_posG c, List.append_assoc]
    · rw [addL_negG c, addL_negG c, addL_negG c, ih]
/-- an entry: its key, the address of its list, the list -/
abbrev TrG (κ : Type) := κ × Addr × List V
def entG (ts : List (TrG κ)) : List (κ × List V) := ts.map fun t => (t.1, t.2.2)
def kvsG (kf : κ → List Key) (ts : List (TrG κ)) : List (List Key × V) := ts.map fun t => (kf t.1, V.ref t.2.1)
structure DG (kf : κ → List Key) (H0 H : Hp) (d : Addr) (ts : List (TrG κ)) : Prop where
  top : H d = some (.dT (kvsG kf ts))
  nd : (ts.map (·.2.1)).Nodup
  nk : (ts.map (·.1)).Nodup
  row : ∀ t ∈ ts, H t.2.1 = some (.lst t.2.2)
  newd : H0 d = none
  newr : ∀ t ∈ ts, H0 t.2.1 = none
theorem DG.keep {kf : κ → List Key} {H0 H H' : Hp} {d : Addr} {ts : List (TrG κ)} (h : DG kf H0 H d ts) (k : ∀ b o, b = d ∨ (∃ t ∈ ts, b = t.2.1) → H b = some o → H' b = some o) : DG kf H0 H' d ts :=
  ⟨k _ _ (.inl rfl) h.top, h.nd, h.nk, fun t ht => k _ _ (.inr ⟨t, ht, rfl⟩) (h.row t ht), h.newd, h.newr⟩
theorem DG.same {kf : κ → List Key} {H0 H H' : Hp} {d : Addr} {ts : List (TrG κ)} (h : DG kf H0 H d ts) (s : Same H H') : DG kf H0 H' d ts := h.keep fun b o _ e => s b o e
theorem DG.nil {kf : κ → List Key} {H0 H : Hp} {d : Addr} (h : H d = some (.dT [])) (h0 : H0 d = none) : DG kf H0 H d [] :=
  ⟨h, .nil, .nil, fun t ht => (List.not_mem_nil ht).elim, h0, fun t ht => (List.not_mem_nil ht).elim⟩
theorem val_entG {kf : κ → List Key} (inj : ∀ a b, kf a = kf b → a = b) (k : κ) : ∀ ts : List (TrG κ), ((∀ t ∈ ts, t.1 ≠ k) ∧ valV (kvsG kf ts) (kf k) = none) ∨ ∃ t ∈ ts, t.1 = k ∧ valV (kvsG kf ts) (kf k) = some (.ref t.2.1)
  | [] => .inl ⟨fun t ht => (List.not_mem_nil ht).elim, rfl⟩
  | t :: ts => by
    by_cases e : t.1 = k
    · exact .inr ⟨t, List.mem_cons_self, e, valV_pos (p := (kf t.1, V.ref t.2.1)) (congrArg kf e)⟩
    · have en : valV (kvsG kf (t :: ts)) (kf k) = valV (kvsG kf ts) (kf k) := valV_neg (p := (kf t.1, V.ref t.2.1)) fun z => e (inj _ _ z)
      rcases val_entG inj k ts with ⟨h1, h2⟩ | ⟨u, hu, h1, h2⟩
      · refine .inl ⟨fun x hx => ?_, en.trans h2⟩
        rcases List.mem_cons.mp hx with z | z
        · rw [z]
          exact e
        · exact h1 x z
      · exact .inr ⟨u, List.mem_cons_of_mem _ hu, h1, en.trans h2⟩
theorem entG_split {ts : List (TrG κ)} {t : TrG κ} (ht : t ∈ ts) (nk : (ts.map (·.1)).Nodup) (nd : (ts.map (·.2.1)).Nodup) : ∃ a b, ts = a ++ t :: b ∧ (∀ u ∈ a, u.1 ≠ t.1) ∧ ∀ u ∈ a ++ b, u.2.1 ≠ t.2.1 := by
  obtain ⟨a, b, rfl⟩ := List.append_of_mem ht
  refine ⟨a, b, rfl, fun u hu e => ?_, fun u hu e => ?_⟩
  · rw [List.map_append, List.map_cons, List.nodup_append] at nk
    exact nk.2.2 u.1 (List.mem_map_of_mem hu) t.1 List.mem_cons_self e
  · rw [List.map_append, List.map_cons, List.nodup_append] at nd
    rcases List.mem_append.mp hu with z | z
    · exact nd.2.2 u.2.1 (List.mem_map_of_mem z) t.2.1 List.mem_cons_self e
    · exact (List.nodup_cons.mp nd.2.1).1 (e ▸ List.mem_map_of_mem z)
theorem DG.put {kf : κ → List Key} {H0 H : Hp} {d : Addr} {ts : List (TrG κ)} (h : DG kf H0 H d ts) {t : TrG κ} (ht : t ∈ ts) (m : List V) : ∃ ts', entG ts' = addG (entG ts) t.1 m ∧ DG kf H0 (upd H t.2.1 (.lst (t.2.2 ++ m))) d ts' := by
  obtain ⟨a, b, rfl, h1, h2⟩ := entG_split ht h.nk h.nd
  have nq : d ≠ t.2.1 := fun z => by
    have e1 := h.top
    have e2 := h.row t ht
    rw [← z, e1] at e2
    cases e2
  have mm : ∀ {β : Type} (f : TrG κ → β) (x : TrG κ), f x = f t → (a ++ x :: b).map f = (a ++ t :: b).map f := fun f x e => by rw [List.map_append, List.map_append, List.map_cons, List.map_cons, e]
  refine ⟨a ++ (t.1, t.2.1, t.2.2 ++ m) :: b, ?_, ?_, ?_, ?_, fun u hu => ?_, h.newd, fun u hu => ?_⟩
  · unfold entG
    rw [List.map_append, List.map_append, List.map_cons, List.map_cons]
    exact (addL_midG (fun e he => by
      obtain ⟨u, hu, rfl⟩ := List.mem_map.mp he
      exact h1 u hu) t.2.2 m _).symm
  · rw [upd_ne nq, h.top]
    exact congrArg (fun z => some (HO.dT z)) (mm (fun t => (kf t.1, V.ref t.2.1)) (t.1, t.2.1, t.2.2 ++ m) rfl).symm
  · rw [mm (·.2.1) (t.1, t.2.1, t.2.2 ++ m) rfl]
    exact h.nd
  · rw [mm (·.1) (t.1, t.2.1, t.2.2 ++ m) rfl]
    exact h.nk
  · rcases List.mem_append.mp hu with z | z
    · rw [upd_ne (h2 u (List.mem_append_left _ z))]
      exact h.row u (List.mem_append_left _ z)
    · rcases List.mem_cons.mp z with z | z
      · rw [z, upd_same]
      · rw [upd_ne (h2 u (List.mem_append_right _ z))]
        exact h.row u (List.mem_append_right _ (List.mem_cons_of_mem _ z))
  · rcases List.mem_append.mp hu with z | z
    · exact h.newr u (List.mem_append_left _ z)
    · rcases List.mem_cons.mp z with z | z
      · rw [z]
        exact h.newr t ht
      · exact h.newr u (List.mem_append_right _ (List.mem_cons_of_mem _ z))
/-- d.setdefault(k, []): an entry for k stands, and its list comes back -/
theorem DG.setd {kf : κ → List Key} (inj : ∀ a b, kf a = kf b → a = b) {H0 H : Hp} {d p b : Addr} {ts : List (TrG κ)} (h : DG kf H0 H d ts) (s : Same H0 H) (hp : H p = none) (hl : ts.length < sizeLine) (k : κ) (hb : H b = some (.tup ((kf k).map kV))) {R : V → Hp → Prop}
    (q : ∀ (qa : Addr) (l : List V) (H' : Hp) (ts' : List (TrG κ)), entG ts' = addG (entG ts) k [] → DG kf H0 H' d ts' → (k, qa, l) ∈ ts' → Same H0 H' → (∀ b o, b ≠ d → H b = some o → H' b = some o) → ts'.length ≤ ts.length + 1 → R (.ref qa) H') :
    ∃ (ks : List (List Key × V)) (k' : List Key) (b' : Addr), upd H p (.lst []) d = some (.dT ks) ∧ V.ref b = .ref b' ∧ upd H p (.lst []) b' = some (.tup (k'.map kV)) ∧ ks.length < sizeLine ∧ (∀ v, valV ks k' = some v → R v (upd H p (.lst []))) ∧ (valV ks k' = none → R (.ref p) (upd (upd H p (.lst [])) d (.dT (putK ks k' (.ref p))))) := by
  have sp : Same H (upd H p (.lst [])) := same_upd hp
  have ndp : d ≠ p := ne_of_none h.top hp
  have h1 := h.same sp
  refine ⟨kvsG kf ts, kf k, b, h1.top, rfl, sp _ _ hb, by unfold kvsG; rw [List.length_map]; exact hl, fun v hv => ?_, fun hn => ?_⟩
  · rcases val_entG inj k ts with ⟨_, e⟩ | ⟨t, ht, e, e2⟩
    · rw [hv] at e
      cases e
    · rw [hv] at e2
      cases e2
      refine q t.2.1 t.2.2 _ ts ?_ h1 (by rw [← e]; exact ht) (s.trans sp) (fun b o _ e => sp b o e) (Nat.le_succ _)
      obtain ⟨a, b, rfl, n1, n2⟩ := entG_split ht h.nk h.nd
      unfold entG
      rw [List.map_append, List.map_cons, ← e, addL_midG (fun e he => by
        obtain ⟨u, hu, rfl⟩ := List.mem_map.mp he
        exact n1 u hu), List.append_nil]
  · rcases val_entG inj k ts with ⟨hk, e⟩ | ⟨t, ht, e, e2⟩
    · have hnew : ∀ t ∈ ts, t.2.1 ≠ p := fun t ht => ne_of_none (h.row t ht) hp
      have hd0 : ∀ t ∈ ts, t.2.1 ≠ d := fun t ht z => by
        have e1 := h.row t ht
        rw [z, h.top] at e1
        cases e1
      have h0p : H0 p = none := s.free hp
      refine q p [] _ (ts ++ [(k, p, [])]) ?_ ⟨?_, ?_, ?_, fun t ht => ?_, h.newd, fun t ht => ?_⟩ (List.mem_append_right _ (List.mem_singleton.mpr rfl)) (same_new (s.trans sp) h.newd) (fun b o nb e => ?_) (by rw [List.length_append]; exact Nat.le_refl _)
      · unfold entG
        rw [List.map_append, addL_newG fun e he => by
          obtain ⟨u, hu, rfl⟩ := List.mem_map.mp he
          exact hk u hu]
        rfl
      · rw [upd_same, putK_new _ e]
        unfold kvsG
        rw [List.map_append]
        rfl
      · rw [List.map_append]
        refine List.nodup_append.mpr ⟨h.nd, List.nodup_cons.mpr ⟨List.not_mem_nil, .nil⟩, fun x hx y hy e => ?_⟩
        obtain ⟨t, ht, rfl⟩ := List.mem_map.mp hx
        rw [List.mem_singleton.mp hy] at e
        exact hnew t ht e
      · rw [List.map_append]
        refine List.nodup_append.mpr ⟨h.nk, List.nodup_cons.mpr ⟨List.not_mem_nil, .nil⟩, fun x hx y hy e => ?_⟩
        obtain ⟨t, ht, rfl⟩ := List.mem_map.mp hx
        rw [List.mem_singleton.mp hy] at e
        exact hk t ht e
      · rcases List.mem_append.mp ht with z | z
        · rw [upd_ne (hd0 t z), upd_ne (hnew t z)]
          exact h.row t z
        · rw [List.mem_singleton.mp z, upd_ne ndp.symm, upd_same]
      · rcases List.mem_append.mp ht with z | z
        · exact h.newr t z
        · rw [List.mem_singleton.mp z]
          exact h0p
      · rw [upd_ne nb]
        exact sp b o e
    · rw [hn] at e2
      cases e2
theorem entG_len {ts : List (TrG κ)} : (entG ts).length = ts.length := List.length_map _
theorem DG.setdE {kf : κ → List Key} (inj : ∀ a b, kf a = kf b → a = b) {H0 H : Hp} {d : Addr} {ts : List (TrG κ)} (h : DG kf H0 H d ts) (s : Same H0 H) (hl : ts.length < sizeLine) {k : κ} {i a b c : Nat} {x y z : Int} {σ : L2.St} {Q : VK} (hi : σ[i]? = some (some (.ref d))) (ha : σ[a]? = some (some (.int x))) (hb : σ[b]? = some (some (.int y))) (hc : σ[c]? = some (some (.int z))) (hk : kf k = [.inl x, .inl y, .inl z])
    (q : ∀ (qa : Addr) (l : List V) (H' : Hp) (ts' : List (TrG κ)), entG ts' = addG (entG ts) k [] → DG kf H0 H' d ts' → (k, qa, l) ∈ ts' → Same H0 H' → (∀ b o, b ≠ d → H b = some o → H' b = some o) → ts'.length ≤ ts.length + 1 → Q (.ref qa) H') : tDSetdT (tVar i) (tTup (tCons (tVar a) (tCons (tVar b) (tCons (tVar c) tNil)))) (tLst tNil) σ H Q :=
  ⟨.ref d, hi, d, rfl, .inr ⟨_, .inl h.top⟩, _, ha, _, hb, _, hc, by show 3 ≤ sizeLine; decide, fun q2 hq2 => ⟨Nat.zero_le _, fun p hp =>
    (h.same (same_upd hq2)).setd inj (s.trans (same_upd hq2)) hp hl k (by rw [upd_same, hk]; rfl) fun qa l H' ts' g1 g2 g3 g4 g5 g6 => q qa l H' ts' g1 g2 g3 g4 (fun b o nb e => g5 b o nb (same_upd hq2 _ _ e)) g6⟩⟩
theorem addL_lenG (es : List (κ × List V)) (k : κ) (m : List V) : (addG es k m).length ≤ es.length + 1 := by
  induction es with
  | nil => exact Nat.le_refl _
  | cons e es ih =>
    unfold addG
    split
    · exact Nat.le_succ _
    · rw [List.length_cons, List.length_cons]
      omega
theorem DG.weak {kf : κ → List Key} {H0 H0' H : Hp} {d : Addr} {ts : List (TrG κ)} (s : Same H0 H0') (h : DG kf H0' H d ts) : DG kf H0 H d ts :=
  ⟨h.top, h.nd, h.nk, h.row, s.free h.newd, fun t ht => s.free (h.newr t ht)⟩
theorem flatG_len {es : List (κ × List V)} {e : κ × List V} (h : e ∈ es) : e.2.length ≤ (flatG es).length := by
  obtain ⟨a, b, rfl⟩ := List.append_of_mem h
  unfold flatG
  rw [List.flatMap_append, List.flatMap_cons, List.length_append, List.length_append, List.length_map]
  omega
theorem DG.len {kf : κ → List Key} {H0 H : Hp} {d : Addr} {ts : List (TrG κ)} (_ : DG kf H0 H d ts) {t : TrG κ} (ht : t ∈ ts) : t.2.2.length ≤ (flatG (entG ts)).length :=
  flatG_len (e := (t.1, t.2.2)) (List.mem_map_of_mem ht)
def delG (H : Hp) (d : Addr) (ts : List (TrG κ)) : Hp := fun b => if b = d ∨ b ∈ ts.map (·.2.1) then none else H b
theorem delG_at {H : Hp} {b d : Addr} {ts : List (TrG κ)} {o : HO} (e : H b = some o) (n : b ≠ d) (n2 : ∀ t ∈ ts, b ≠ t.2.1) : delG H d ts b = some o :=
  (if_neg (fun z => z.elim n fun m => by
    obtain ⟨t, ht, e⟩ := List.mem_map.mp m
    exact n2 t ht e.symm)).trans e
theorem delG_same {H : Hp} {d : Addr} {ts : List (TrG κ)} : Same (delG H d ts) H := fun b o e => by
  unfold delG at e
  split at e
  · cases e
  · exact e
theorem DG.rebase {kf : κ → List Key} {H0 H : Hp} {d : Addr} {ts : List (TrG κ)} (h : DG kf H0 H d ts) : DG kf (delG H d ts) H d ts :=
  ⟨h.top, h.nd, h.nk, h.row, if_pos (.inl rfl), fun _ ht => if_pos (.inr (List.mem_map_of_mem ht))⟩
theorem DG.under {kf : κ → List Key} {H0 H : Hp} {d : Addr} {ts : List (TrG κ)} (h : DG kf H0 H d ts) (s : Same H0 H) : Same H0 (delG H d ts) := fun b o e =>
  delG_at (s b o e) (ne_of_none e h.newd) fun t ht => ne_of_none e (h.newr t ht)
theorem DG.tup {kf : κ → List Key} {H0 H : Hp} {d q : Addr} {ts : List (TrG κ)} (h : DG kf H0 H d ts) {ys : List V} (e : H q = some (.tup ys)) : delG H d ts q = some (.tup ys) :=
  delG_at e (fun z => by rw [z, h.top] at e; cases e) fun t ht z => by rw [z, h.row t ht] at e; cases e
theorem look_midG {a : List (κ × List V)} {k : κ} (h : ∀ e ∈ a, e.1 ≠ k) (l : List V) (b : List (κ × List V)) : lookG (a ++ (k, l) :: b) k = l := by
  induction a with
  | nil => rw [List.nil_append, look_consG, if_pos rfl]
  | cons e a ih => rw [List.cons_append, look_consG, if_neg (h e List.mem_cons_self), ih fun x hx => h x (List.mem_cons_of_mem _ hx)]
theorem DG.lookG {kf : κ → List Key} {H0 H : Hp} {d : Addr} {ts : List (TrG κ)} (h : DG kf H0 H d ts) {t : TrG κ} (ht : t ∈ ts) : Hr.lookG (entG ts) t.1 = t.2.2 := by
  obtain ⟨a, b, rfl, h1, _⟩ := entG_split ht h.nk h.nd
  unfold entG
  rw [List.map_append, List.map_cons]
  exact look_midG (fun e he => by
    obtain ⟨u, hu, rfl⟩ := List.mem_map.mp he
    exact h1 u hu) _ _
theorem flatG_take (es : List (κ × List V)) (i : Nat) : (flatG (es.take i)).length ≤ (flatG es).length := by
  have e : flatG es = flatG (es.take i) ++ flatG (es.drop i) := by
    unfold flatG
    rw [← List.flatMap_append, List.take_append_drop]
  rw [e, List.length_append]
  omega
theorem look_noneG {es : List (κ × List V)} {k : κ} (h : ∀ e ∈ es, e.1 ≠ k) : lookG es k = [] := by
  induction es with
  | nil => rfl
  | cons e es ih => rw [look_consG, if_neg (h e List.mem_cons_self), ih fun x hx => h x (List.mem_cons_of_mem _ hx)]
end
/-! ### groups of hits -/
abbrev G3 := Int × Int × Int
def kG (g : G3) : List Key := [.inl g.1, .inl g.2.1, .inl g.2.2]
theorem kG_inj : ∀ a b, kG a = kG b → a = b := fun a b h => by
  obtain ⟨h1, h⟩ := List.cons.inj h
  obtain ⟨h2, h⟩ := List.cons.inj h
  obtain ⟨h3, _⟩ := List.cons.inj h
  exact Prod.ext (Sum.inl.inj h1) (Prod.ext (Sum.inl.inj h2) (Sum.inl.inj h3))
def gOf (h : Ht) : G3 := (h.1, h.2.1, h.2.2.2)
def inG (g : G3) (h : Ht) : Bool := decide (gOf h = g)
theorem keys_addG {ts : List (TrG G3)} {k g : G3} {m : List V} (z : (∃ t ∈ ts, t.1 = g) ∨ g = k) : ∃ e ∈ addG (entG ts) k m, e.1 = g := by
  induction ts with
  | nil =>
    rcases z with ⟨t, ht, _⟩ | z
    · exact (List.not_mem_nil ht).elim
    · exact ⟨(k, m), List.mem_singleton.mpr rfl, z.symm⟩
  | cons t ts ih =>
    show ∃ e ∈ addG ((t.1, t.2.2) :: entG ts) k m, e.1 = g
    by_cases c : t.1 = k
    · rw [addL_posG (e := (t.1, t.2.2)) c]
      rcases z with ⟨u, hu, e⟩ | z
      · rcases List.mem_cons.mp hu with y | y
        · exact ⟨_, List.mem_cons_self, by rw [← e, y]⟩
        · exact ⟨(u.1, u.2.2), List.mem_cons_of_mem _ (List.mem_map_of_mem (f := fun t : TrG G3 => (t.1, t.2.2)) y), e⟩
      · exact ⟨_, List.mem_cons_self, c.trans z.symm⟩
    · rw [addL_negG (e := (t.1, t.2.2)) c]
      rcases z with ⟨u, hu, e⟩ | z
      · rcases List.mem_cons.mp hu with y | y
        · exact ⟨_, List.mem_cons_self, by rw [← e, y]⟩
        · obtain ⟨e', he, eg⟩ := ih (.inl ⟨u, y, e⟩)
          exact ⟨e', List.mem_cons_of_mem _ he, eg⟩
      · obtain ⟨e', he, eg⟩ := ih (.inr z)
        exact ⟨e', List.mem_cons_of_mem _ he, eg⟩
theorem scGroups : FnScope ["found", "groups", "reference", "strand", "end", "changes"] ["found"] (defScope sGroups) := ⟨rfl, rfl, rfl, by decide +kernel, rfl, by decide +kernel, by decide +kernel⟩
section
variable {P : Program} {w : World} {K : PySem.W.Frag} {mg : Str → Option Value} {base : Heap}
def spGroups (K : PySem.W.Frag) : Sp := fun vs H Q _ => ∃ (a : Addr) (xs : List V) (hs : List Ht), vs = [.ref a] ∧ SqL K H a xs ∧ Hts H xs hs ∧ hs.length ≤ 100000 ∧
  ∀ (H' : Hp) (d : Addr) (ts : List (TrG G3)), Same H H' → DG kG H H' d ts → (∀ g, Hts H' (lookG (entG ts) g) (hs.filter (inG g))) → (∀ h ∈ hs, ∃ t ∈ ts, t.1 = gOf h) → Q (.ref d) H'
theorem ok_groups {f : Addr} {fd : FuncData} {m : Nat} (F : Fun K "_groups" "_groups" sGroups f fd) : FnOk P w K mg base CX0 (m + 1) f fd ["found"] (spGroups K) := by
  refine F.ok scGroups (fun vs H Q E h => ?_) (fun cdv A outer s H vs Q E hr h => ?_)
  · obtain ⟨a, xs, hs, rfl, _⟩ := h
    rfl
  · obtain ⟨a, xs, hs, rfl, hsq, hts, hsl, q⟩ := h
    refine ⟨_, (pss_cons (ps_set (i := 1) scGroups.nd rfl (.inl rfl) pe_dnewT)
      (pss_cons (ps_for PassesOwn.never rfl (pi_list (pv 0)) (pg_tup rfl (pgs_cons (pg_name (i := 2) scGroups.nd rfl (.inl rfl)) (pgs_cons (pg_name (i := 3) scGroups.nd rfl (.inl rfl)) (pgs_cons (pg_name (i := 4) scGroups.nd rfl (.inl rfl)) (pgs_cons (pg_name (i := 5) scGroups.nd rfl (.inl rfl)) pgs_nil)))))
        (pss_one (ps_expr (pe_bm PySem.F.plainAttrs_list PySem.F.slot_list_append PySem.F.type_list_append mt_append (pe_dsetdT (hu_of hr) (pv 1) (pe_tup (pa_cons (pv 2) (pa_cons (pv 3) (pa_cons (pv 5) pa_nil)))) (pe_lst pa_nil) ⟨rfl, rfl, rfl, rfl⟩) (pa_cons (pe_tup (pa_cons (pv 2) (pa_cons (pv 3) (pa_cons (pv 4) (pa_cons (pv 5) pa_nil))))) pa_nil)))))
      (pss_one (ps_ret (pv 1))))), ?_⟩
    intro d hd
    have hxl := paired_len hts
    have sd : Same H (upd H d (.dT [])) := same_upd hd
    refine ⟨.ref a, rfl, a, rfl, ⟨_, sd.seq hsq⟩, ?_⟩
    refine for_list (K := K) (xs := xs) (fun i σ H' => ∃ (ts : List (TrG G3)) (v2 v3 v4 v5 : Option V), σ = [some (.ref a), some (.ref d), v2, v3, v4, v5] ∧ Same H H' ∧ DG kG H H' d ts ∧ (∀ g, Hts H' (lookG (entG ts) g) ((hs.take i).filter (inG g))) ∧ (∀ h ∈ hs.take i, ∃ t ∈ ts, t.1 = gOf h) ∧ ts.length ≤ i) ?_ ?_ ?_ ?_
    · exact ⟨[], none, none, none, none, rfl, sd, .nil upd_same hd, fun g => .nil, fun h hh => (List.not_mem_nil hh).elim, Nat.le_refl _⟩
    · rintro i σ H' _ ⟨ts, v2, v3, v4, v5, rfl, s1, _⟩
      exact s1.seq hsq
    · rintro i v σ H' hv ⟨ts, v2, v3, v4, v5, rfl, s1, D, hg, hk, tl⟩
      obtain ⟨h, hh, qa, rfl, hqa⟩ := paired_get (hts.same s1) hv
      have hi := tups_at hv
      refine ⟨qa, _, rfl, .inl (.inl hqa), rfl, _, _, rfl, _, _, rfl, _, _, rfl, _, _, rfl, rfl, ?_⟩
      show tDSetdT _ _ _ _ _ _
      refine D.setdE kG_inj s1 (line_lt (by omega)) (k := gOf h) rfl rfl rfl rfl rfl fun q2 l2 H2 ts2 e2 D2 m2 s2 fr2 tl2 => ?_
      have hq2 := D2.row _ m2
      have hl2 : l2.length ≤ 100000 := by
        have e1 : lookG (entG ts2) (gOf h) = l2 := D2.lookG m2
        rw [e2, look_addLG, if_pos rfl, List.append_nil] at e1
        have e3 := paired_len (hg (gOf h))
        have e4 := List.length_filter_le (inG (gOf h)) (hs.take i)
        rw [List.length_take] at e4
        rw [← e1]
        omega
      refine ⟨.inl ⟨rfl, _, .inl (.inl hq2)⟩, .int h.1, rfl, .int h.2.1, rfl, .int h.2.2.1, rfl, .int h.2.2.2, rfl, by show 4 ≤ sizeLine; decide, fun qt hqt => ?_⟩
      have st := same_upd (o := .tup [.int h.1, .int h.2.1, .int h.2.2.1, .int h.2.2.2]) hqt
      have D3 := D2.same st
      have hq3 := D3.row _ m2
      obtain ⟨ts3, e3, D4⟩ := D3.put m2 [.ref qt]
      refine ⟨q2, _, _, rfl, rfl, hq3, line_lt hl2, ?_⟩
      rw [e2, addL_twoG] at e3
      have kt : ∀ z ys, H' z = some (.tup ys) → (upd (upd H2 qt (.tup [.int h.1, .int h.2.1, .int h.2.2.1, .int h.2.2.2])) q2 (.lst (l2 ++ [.ref qt]))) z = some (.tup ys) := fun z ys e => by
        have e1 := fr2 _ _ (fun y => by rw [y, D.top] at e; cases e) e
        have e2 := st _ _ e1
        exact (upd_ne (fun y => by rw [y, hq3] at e2; cases e2)).trans e2
      refine ⟨ts3, _, _, _, _, rfl, same_new (s2.trans st) (D2.newr _ m2), D4, fun g => ?_, fun h' hh' => ?_, ?_⟩
      · rw [e3, look_addLG, List.take_add_one, hh, Option.toList_some, List.filter_append]
        by_cases c : g = gOf h
        · rw [if_pos c, c]
          have : inG (gOf h) h = true := decide_eq_true rfl
          rw [List.filter_cons, this]
          refine Hts.snoc ((hg (gOf h)).mono kt) ?_
          have nt : qt ≠ q2 := fun y => by
            have := ne_of_none hq2 hqt
            exact this y.symm
          rw [upd_ne nt, upd_same]
          rfl
        · rw [if_neg c]
          have : inG g h = false := decide_eq_false fun z => c z.symm
          rw [List.filter_cons, this]
          show Hts _ _ (_ ++ [])
          rw [List.append_nil]
          exact (hg g).mono kt
      · have key : ∀ g, (∃ t ∈ ts, t.1 = g) ∨ g = gOf h → ∃ t ∈ ts3, t.1 = g := fun g z => by
          have : ∃ e ∈ entG ts3, e.1 = g := by
            rw [e3]
            exact keys_addG z
          obtain ⟨e, he, eg⟩ := this
          obtain ⟨t, ht, rfl⟩ := List.mem_map.mp he
          exact ⟨t, ht, eg⟩
        rw [List.take_add_one, hh, Option.toList_some] at hh'
        rcases List.mem_append.mp hh' with z | z
        · exact key _ (.inl (hk h' z))
        · rw [List.mem_singleton.mp z]
          exact key _ (.inr rfl)
      · have e4 := congrArg List.length e3
        have h5 := addL_lenG (entG ts) (gOf h) ([] ++ [V.ref qt])
        rw [entG_len] at e4 h5
        omega
    · rintro σ H' ⟨ts, v2, v3, v4, v5, rfl, s1, D, hg, hk, tl⟩
      rw [hxl, List.take_length] at hg hk
      exact ⟨_, rfl, q H' d ts s1 D hg hk⟩
end
/-! ### pairs of hits near each other -/
abbrev Pr := Ht × Ht
def Prs (H : Hp) : List V → List Pr → Prop := Paired fun v p => ∃ q a b, v = .ref q ∧ H q = some (.tup [.ref a, .ref b]) ∧ H a = some (.tup ((it4 p.1).map V.int)) ∧ H b = some (.tup ((it4 p.2).map V.int))
theorem Prs.mono {H H' : Hp} {xs : List V} {ps : List Pr} (h : Prs H xs ps) (k : ∀ q ys, H q = some (.tup ys) → H' q = some (.tup ys)) : Prs H' xs ps := Paired.mapP h fun _ _ ⟨q, a, b, e, t, ta, tb⟩ => ⟨q, a, b, e, k q _ t, k a _ ta, k b _ tb⟩
theorem Prs.same {H H' : Hp} {xs : List V} {ps : List Pr} (h : Prs H xs ps) (s : Same H H') : Prs H' xs ps := h.mono fun q ys e => s _ _ e
theorem Prs.snoc {H : Hp} {xs : List V} {ps : List Pr} {q a b : Addr} {p : Pr} (h : Prs H xs ps) (e : H q = some (.tup [.ref a, .ref b])) (ea : H a = some (.tup ((it4 p.1).map V.int))) (eb : H b = some (.tup ((it4 p.2).map V.int))) : Prs H (xs ++ [.ref q]) (ps ++ [p]) := Paired.snoc h ⟨q, a, b, rfl, e, ea, eb⟩
def near (lo hi : Int) (g o : Ht) : Bool := decide (lo ≤ o.2.2.1 - g.2.2.1) && decide (o.2.2.1 - g.2.2.1 ≤ hi)
def nearP (lo hi : Int) (os : List Ht) (g : Ht) : List Pr := (os.filter (near lo hi g)).map fun o => (g, o)
def AscE (hs : List Ht) : Prop := hs.Pairwise fun a b => a.2.2.1 < b.2.2.1
theorem asc_at {hs : List Ht} (h : AscE hs) {i j : Nat} {a b : Ht} (hi : hs[i]? = some a) (hj : hs[j]? = some b) (lt : i < j) : a.2.2.1 < b.2.2.1 := by
  obtain ⟨h1, rfl⟩ := List.getElem?_eq_some_iff.mp hi
  obtain ⟨h2, rfl⟩ := List.getElem?_eq_some_iff.mp hj
  exact List.pairwise_iff_getElem.mp h i j h1 h2 lt
theorem filter_take {α : Type} {p : α → Bool} {l : List α} {n : Nat} (h : ∀ j x, n ≤ j → l[j]? = some x → p x = false) : l.filter p = (l.take n).filter p := by
  have en : (l.drop n).filter p = [] := List.filter_eq_nil_iff.mpr fun x hx e => by
    obtain ⟨j, hj⟩ := List.mem_iff_getElem?.mp hx
    rw [List.getElem?_drop] at hj
    rw [h _ x (Nat.le_add_right _ _) hj] at e
    cases e
  conv => lhs; rw [← List.take_append_drop n l]
  rw [List.filter_append, en, List.append_nil]
theorem filter_none {α : Type} {p : α → Bool} {l : List α} {n : Nat} (h : ∀ j x, j < n → l[j]? = some x → p x = false) : (l.take n).filter p = [] := by
  refine List.filter_eq_nil_iff.mpr fun x hx e => ?_
  obtain ⟨j, hj⟩ := List.mem_iff_getElem?.mp hx
  rw [List.getElem?_take] at hj
  split at hj
  · rename_i lt
    rw [h j x lt hj] at e
    cases e
  · cases hj
theorem hts_at {H : Hp} {xs : List V} {hs : List Ht} (t : Hts H xs hs) {i : Nat} {h : Ht} (e : hs[i]? = some h) : ∃ q, xs[i]? = some (.ref q) ∧ H q = some (.tup ((it4 h).map V.int)) := by
  have hx : i < xs.length := by
    rw [paired_len t]
    exact tups_at e
  obtain ⟨h', e', q, eq, hq⟩ := paired_get t (List.getElem?_eq_getElem hx)
  rw [e] at e'
  cases e'
  exact ⟨q, by rw [List.getElem?_eq_getElem hx, eq], hq⟩
def ME (t : TE) : Prop := ∀ σ H Q Q', (∀ v H1, Q v H1 → Q' v H1) → t σ H Q → t σ H Q'
def MR (r : R2) : Prop := ∀ x y H Q Q', (∀ v H1, Q v H1 → Q' v H1) → r x y H Q → r x y H Q'
def MT (t : TT) : Prop := ∀ σ H Q Q', (∀ b H1, Q b H1 → Q' b H1) → t σ H Q → t σ H Q'
theorem me_var {i : Nat} : ME (tVar i) := fun _ _ _ _ m ⟨v, e, h⟩ => ⟨v, e, m _ _ h⟩
theorem me_c {v : V} : ME (tC v) := fun _ _ _ _ m h => m _ _ h
theorem me_op {r : R2} {ta tb : TE} (hr : MR r) (ha : ME ta) (hb : ME tb) : ME (tOp r ta tb) := fun σ H Q Q' m h => ha σ H _ _ (fun v H1 h1 => hb σ H1 _ _ (fun u H2 h2 => hr _ _ _ _ _ m h2) h1) h
theorem mr_i0 {g : Int → Int → V} : MR (rI0 g) := fun _ _ _ _ _ m ⟨i, j, e, e', h⟩ => ⟨i, j, e, e', m _ _ h⟩
theorem mr_ixL {K : PySem.W.Frag} : MR (rIxL K) := fun _ _ _ _ _ m ⟨p, xs, i, v, e, e', h1, h2, h⟩ => ⟨p, xs, i, v, e, e', h1, h2, m _ _ h⟩
theorem mr_ixT {K : PySem.W.Frag} : MR (rIxT K) := fun _ _ _ _ _ m ⟨p, xs, i, v, e, e', h1, h2, h⟩ => ⟨p, xs, i, v, e, e', h1, h2, m _ _ h⟩
theorem mt_test {t : TE} (h : ME t) : MT (tTest t) := fun σ H Q Q' m z => h σ H _ _ (fun v H1 ⟨k, e, q⟩ => ⟨k, e, m _ _ q⟩) z
theorem mt_and {a b : TT} (ha : MT a) (hb : MT b) : MT (tAnd a b) := fun σ H Q Q' m z => ha σ H _ _ (fun c H1 q => by
  cases c
  · exact m _ _ q
  · exact hb σ H1 _ _ m q) z
def NWn : List Str := ["group", "others", "least", "most", "found", "begin", "hit", "at"]
theorem scPWithin : FnScope NWn ["group", "others", "least", "most"] (defScope sPWithin) := ⟨rfl, rfl, rfl, by decide +kernel, rfl, by decide +kernel, by decide +kernel⟩
section
variable {P : Program} {w : World} {K : PySem.W.Frag} {mg : Str → Option Value} {base : Heap}
def spWithin (K : PySem.W.Frag) : Sp := fun vs H Q _ => ∃ (a b : Addr) (xs ys : List V) (gs os : List Ht) (lo hi : Int), vs = [.ref a, .ref b, .int lo, .int hi] ∧ SqL K H a xs ∧ Hts H xs gs ∧ SqL K H b ys ∧ Hts H ys os ∧ gs.length ≤ 1000 ∧ os.length ≤ 1000 ∧ AscE gs ∧ AscE os ∧
  ∀ (H' : Hp) (p : Addr) (zs : List V), Same H H' → H p = none → H' p = some (.lst zs) → Prs H' zs (gs.flatMap (nearP lo hi os)) → Q (.ref p) H'
theorem ok_within {f : Addr} {fd : FuncData} {m : Nat} (F : Fun K "_pairs_within" "_pairs_within" sPWithin f fd) (mlen : mg "len" = none) : FnOk P w K mg base CX0 (m + 1) f fd ["group", "others", "least", "most"] (spWithin K) := by
  refine F.ok scPWithin (fun vs H Q E h => ?_) (fun cdv A outer s H vs Q E hr h => ?_)
  · obtain ⟨a, b, xs, ys, gs, os, lo, hi, rfl, _⟩ := h
    rfl
  · obtain ⟨a, b, xs, ys, gs, os, lo, hi, rfl, ha, hga, hb, hob, gl, ol, asg, aso, q⟩ := h
    refine ⟨_, (pss_cons (ps_set (i := 4) scPWithin.nd rfl (.inl rfl) (pe_lst pa_nil))
      (pss_cons (ps_set (i := 5) scPWithin.nd rfl (.inl rfl) pe_int)
      (pss_cons (ps_for PassesOwn.never rfl (pi_list (pv 0)) (pg_name (i := 6) scPWithin.nd rfl (.inl rfl))
        (C8.pss_cut (ps_while PassesOwn.never (PW.pt (pw_and (pt_cmpR op_lt (pv 5) (pe_callB call_len_seq (by rfl) mlen PySem.boot_len (pa_cons (pv 1) pa_nil)) (nomark _)) (pw_and1 (pt_cmpR op_lt (pe_op op_sub (pe_ix ix_tup (pe_ix ix_list (pv 1) (pv 5) (fun _ _ => rfl)) pe_int (fun _ _ => rfl)) (pe_ix ix_tup (pv 6) pe_int (fun _ _ => rfl))) (pv 2) (nomark _)))))
        (pss_one (ps_aug (i := 5) scPWithin.nd rfl (.inl rfl) pe_int ip_add)))
      (pss_cons (ps_set (i := 7) scPWithin.nd rfl (.inl rfl) (pv 5))
      (pss_one (ps_while PassesOwn.never (PW.pt (pw_and (pt_cmpR op_lt (pv 7) (pe_callB call_len_seq (by rfl) mlen PySem.boot_len (pa_cons (pv 1) pa_nil)) (nomark _)) (pw_and1 (pt_cmpR op_le (pe_op op_sub (pe_ix ix_tup (pe_ix ix_list (pv 1) (pv 7) (fun _ _ => rfl)) pe_int (fun _ _ => rfl)) (pe_ix ix_tup (pv 6) pe_int (fun _ _ => rfl))) (pv 3) (nomark _)))))
        (pss_cons (ps_expr (pe_bm PySem.F.plainAttrs_list PySem.F.slot_list_append PySem.F.type_list_append mt_append (pv 4) (pa_cons (pe_tup (pa_cons (pv 6) (pa_cons (pe_ix ix_list (pv 1) (pv 7) (fun _ _ => rfl)) pa_nil))) pa_nil)))
      (pss_one (ps_aug (i := 7) scPWithin.nd rfl (.inl rfl) pe_int ip_add))))))))
      (pss_one (ps_ret (pv 4)))))), ?_⟩
    refine ⟨Nat.zero_le _, fun p hp => ?_⟩
    have s0 : Same H (upd H p (.lst [])) := same_upd hp
    have hxl := paired_len hga
    have hyl := paired_len hob
    refine ⟨.ref a, rfl, a, rfl, ⟨_, s0.seq ha⟩, ?_⟩
    refine for_list (K := K) (xs := xs) (fun i σ H' => ∃ (zs : List V) (bg : Nat) (v6 v7 : Option V), σ = [some (.ref a), some (.ref b), some (.int lo), some (.int hi), some (.ref p), some (.int (bg : Nat)), v6, v7] ∧ Same H H' ∧ H' p = some (.lst zs) ∧ Prs H' zs ((gs.take i).flatMap (nearP lo hi os)) ∧ bg ≤ os.length ∧ ∀ j o, j < bg → os[j]? = some o → ∀ i' g, i ≤ i' → gs[i']? = some g → o.2.2.1 - g.2.2.1 < lo) ?_ ?_ ?_ ?_
    · exact ⟨[], 0, none, none, rfl, s0, upd_same, .nil, Nat.zero_le _, fun j o hj => absurd hj (Nat.not_lt_zero _)⟩
    · rintro i σ H' _ ⟨zs, bg, v6, v7, rfl, s1, _⟩
      exact s1.seq ha
    · rintro i v σ H1 hv ⟨zs, bg, v6, v7, rfl, s1, hz, hzs, hbg, hlow⟩
      obtain ⟨g, hg, qg, rfl, hqg⟩ := paired_get (hga.same s1) hv
      have hob1 := hob.same s1
      have hb1 := s1.seq hb
      refine ⟨fun σ H' => H' = H1 ∧ ∃ b2 : Nat, σ = [some (.ref a), some (.ref b), some (.int lo), some (.int hi), some (.ref p), some (.int (b2 : Nat)), some (.ref qg), v7] ∧ b2 ≤ os.length ∧ (∀ j o, j < b2 → os[j]? = some o → o.2.2.1 - g.2.2.1 < lo) ∧ ∀ o, os[b2]? = some o → lo ≤ o.2.2.1 - g.2.2.1, ?_, ?_⟩
      · refine while_by (fun σ H' => H' = H1 ∧ ∃ b2 : Nat, σ = [some (.ref a), some (.ref b), some (.int lo), some (.int hi), some (.ref p), some (.int (b2 : Nat)), some (.ref qg), v7] ∧ b2 ≤ os.length ∧ ∀ j o, j < b2 → os[j]? = some o → o.2.2.1 - g.2.2.1 < lo)
          (fun (σ : L2.St) (_ : Hp) => match σ[5]? with | some (some (V.int x)) => os.length - x.toNat | _ => 0) ⟨rfl, bg, rfl, hbg, fun j o hj ho => hlow j o hj ho i g (Nat.le_refl _) hg⟩ ?_ ?_
        · rintro σ H' ⟨rfl, b2, rfl, hb2, hlo2⟩
          refine ⟨_, rfl, .ref b, rfl, b, _, rfl, .inl hb1, _, _, rfl, rfl, _, rfl, ?_⟩
          by_cases lt : b2 < os.length
          · rw [decide_eq_true (show ((b2 : Nat) : Int) < ((ys.length : Nat) : Int) by omega)]
            obtain ⟨o, ho⟩ : ∃ o, os[b2]? = some o := ⟨_, List.getElem?_eq_getElem lt⟩
            obtain ⟨qo, hy, hqo⟩ := hts_at hob1 ho
            refine iteT ⟨.ref b, rfl, .int (b2 : Nat), rfl, b, _, _, .ref qo, rfl, rfl, hb1, atI_nat hy, qo, _, 2, .int o.2.2.1, rfl, rfl, .inl (.inl hqo), atI_nat (j := 2) rfl, .ref qg, rfl, qg, _, 2, .int g.2.2.1, rfl, rfl, .inl (.inl hqg), atI_nat (j := 2) rfl, _, _, rfl, rfl, .int lo, rfl, _, _, rfl, rfl, _, rfl, ?_⟩
            by_cases c : o.2.2.1 - g.2.2.1 < lo
            · rw [decide_eq_true c]
              refine iteT ⟨.int (b2 : Nat), rfl, _, _, rfl, rfl, ⟨rfl, b2 + 1, rfl, lt, fun j o' hj ho' => ?_⟩, ?_⟩
              · by_cases e : j = b2
                · subst e
                  rw [ho] at ho'
                  exact Option.some.inj ho' ▸ c
                · exact hlo2 j o' (by omega) ho'
              · show os.length - (((b2 : Nat) : Int) + 1).toNat < os.length - ((b2 : Nat) : Int).toNat
                omega
            · rw [decide_eq_false c]
              refine iteF ⟨rfl, b2, rfl, hb2, hlo2, fun o' ho' => ?_⟩
              rw [ho] at ho'
              cases ho'
              omega
          · rw [decide_eq_false (show ¬ ((b2 : Nat) : Int) < ((ys.length : Nat) : Int) by omega)]
            refine iteF (iteF ⟨rfl, b2, rfl, hb2, hlo2, fun o' ho' => ?_⟩)
            have := tups_at ho'
            omega
        · exact mt_and (mt_test (me_op mr_i0 me_var (fun σ H Q Q' m z => by obtain ⟨v, e, xs, ys, e2, h2, h⟩ := z; exact ⟨v, e, xs, ys, e2, h2, m _ _ h⟩))) (mt_test (me_op mr_i0 (me_op mr_i0 (me_op mr_ixT (me_op mr_ixL me_var me_var) me_c) (me_op mr_ixT me_var me_c)) me_var))
      rintro σ H' ⟨rfl, b2, rfl, hb2, hlo2, hhi2⟩
      refine ⟨.int (b2 : Nat), rfl, ?_⟩
      have nqg : qg ≠ p := fun z => by
        rw [z, hz] at hqg
        cases hqg
      have hbase : ((gs.take i).flatMap (nearP lo hi os)).length ≤ i * 1000 := by
        have := fm_le (nearP lo hi os) 1000 (gs.take i) fun x _ => by
          unfold nearP
          rw [List.length_map]
          exact Nat.le_trans (List.length_filter_le _ _) ol
        rw [List.length_take] at this
        refine Nat.le_trans this (Nat.mul_le_mul_right _ (by omega))
      have hi1 := tups_at hg
      obtain ⟨bs0, hbs0⟩ : ∃ b, b = (gs.take i).flatMap (nearP lo hi os) := ⟨_, rfl⟩
      rw [← hbs0] at hzs hbase
      refine while_by (fun σ H' => ∃ (zs : List V) (at' : Nat), σ = [some (.ref a), some (.ref b), some (.int lo), some (.int hi), some (.ref p), some (.int (b2 : Nat)), some (.ref qg), some (.int (at' : Nat))] ∧ Same H H' ∧ H' p = some (.lst zs) ∧ H' qg = some (.tup ((it4 g).map V.int)) ∧ Prs H' zs (bs0 ++ ((os.take at').filter (near lo hi g)).map fun o => (g, o)) ∧ b2 ≤ at' ∧ at' ≤ os.length)
        (fun (σ : L2.St) (_ : Hp) => match σ[7]? with | some (some (V.int x)) => os.length - x.toNat | _ => 0) ⟨zs, b2, rfl, s1, hz, hqg, ?_, Nat.le_refl _, hb2⟩ ?_ ?_
      · rw [filter_none fun j o hj ho => ?_, List.map_nil, List.append_nil]
        · exact hzs
        · unfold near
          rw [decide_eq_false (show ¬ lo ≤ o.2.2.1 - g.2.2.1 by have := hlo2 j o hj ho; omega), Bool.false_and]
      · rintro σ H2 ⟨zs, at', rfl, s2, hz2, hqg2, hzs2, h1, h2⟩
        have fin : (∀ o, os[at']? = some o → hi < o.2.2.1 - g.2.2.1) → os.filter (near lo hi g) = (os.take at').filter (near lo hi g) := fun hst => filter_take fun j o hj ho => by
          have : hi < o.2.2.1 - g.2.2.1 := by
            by_cases e : j = at'
            · exact hst o (e ▸ ho)
            · obtain ⟨o', ho'⟩ : ∃ o', os[at']? = some o' := ⟨_, List.getElem?_eq_getElem (by have := tups_at ho; omega)⟩
              have := hst o' ho'
              have := asc_at aso ho' ho (by omega)
              omega
          unfold near
          rw [decide_eq_false (show ¬ o.2.2.1 - g.2.2.1 ≤ hi by omega), Bool.and_false]
        have leave : (∀ o, os[at']? = some o → hi < o.2.2.1 - g.2.2.1) → ∃ (zs : List V) (bg : Nat) (v6 v7 : Option V), [some (V.ref a), some (.ref b), some (.int lo), some (.int hi), some (.ref p), some (.int (b2 : Nat)), some (.ref qg), some (.int (at' : Nat))] = [some (V.ref a), some (.ref b), some (.int lo), some (.int hi), some (.ref p), some (.int (bg : Nat)), v6, v7] ∧ Same H H2 ∧ H2 p = some (.lst zs) ∧ Prs H2 zs (bs0 ++ nearP lo hi os g) ∧ bg ≤ os.length ∧ ∀ j o, j < bg → os[j]? = some o → ∀ i' g, i + 1 ≤ i' → gs[i']? = some g → o.2.2.1 - g.2.2.1 < lo := fun hst => by
          refine ⟨zs, b2, _, _, rfl, s2, hz2, ?_, hb2, fun j o hj ho i' g' hi' hg' => ?_⟩
          · unfold nearP
            rw [fin hst]
            exact hzs2
          · have h3 := hlo2 j o hj ho
            have h4 := asc_at asg hg hg' (by omega)
            omega
        have hbs2 := s2.seq hb
        have hob2 := hob.same s2
        refine ⟨.int (at' : Nat), rfl, .ref b, rfl, b, _, rfl, .inl hbs2, _, _, rfl, rfl, _, rfl, ?_⟩
        by_cases lt : at' < os.length
        · rw [decide_eq_true (show ((at' : Nat) : Int) < ((ys.length : Nat) : Int) by omega)]
          obtain ⟨o, ho⟩ : ∃ o, os[at']? = some o := ⟨_, List.getElem?_eq_getElem lt⟩
          obtain ⟨qo, hy, hqo⟩ := hts_at hob2 ho
          refine iteT ⟨.ref b, rfl, .int (at' : Nat), rfl, b, _, _, .ref qo, rfl, rfl, hbs2, atI_nat hy, qo, _, 2, .int o.2.2.1, rfl, rfl, .inl (.inl hqo), atI_nat (j := 2) rfl, .ref qg, rfl, qg, _, 2, .int g.2.2.1, rfl, rfl, .inl (.inl hqg2), atI_nat (j := 2) rfl, _, _, rfl, rfl, .int hi, rfl, _, _, rfl, rfl, _, rfl, ?_⟩
          by_cases c : o.2.2.1 - g.2.2.1 ≤ hi
          · rw [decide_eq_true c]
            have hlo : lo ≤ o.2.2.1 - g.2.2.1 := by
              obtain ⟨ob, hob'⟩ : ∃ o', os[b2]? = some o' := ⟨_, List.getElem?_eq_getElem (by omega)⟩
              have g1 := hhi2 ob hob'
              by_cases e : b2 = at'
              · rw [e, ho] at hob'
                cases hob'
                exact g1
              · have := asc_at aso hob' ho (by omega)
                omega
            refine iteT ⟨.ref p, rfl, .inl ⟨rfl, _, .inl (.inl hz2)⟩, .ref qg, rfl, .ref b, rfl, .int (at' : Nat), rfl, b, _, _, .ref qo, rfl, rfl, hbs2, atI_nat hy, by show 2 ≤ sizeLine; decide, fun q2 hq2 => ?_⟩
            have npq : p ≠ q2 := ne_of_none hz2 hq2
            have hzl := paired_len hzs2
            have hfl := List.length_filter_le (near lo hi g) (os.take at')
            rw [List.length_append, List.length_map] at hzl
            rw [List.length_take] at hfl
            refine ⟨p, zs, _, rfl, rfl, by rw [upd_ne npq]; exact hz2, line_lt7 (by omega), .int (at' : Nat), rfl, _, _, rfl, rfl, ⟨zs ++ [.ref q2], at' + 1, rfl, same_new (s2.trans (same_upd hq2)) hp, upd_same, ?_, ?_, by omega, lt⟩, ?_⟩
            · exact (upd_ne nqg).trans (same_upd hq2 _ _ hqg2)
            · rw [List.take_add_one, ho, Option.toList_some, List.filter_append, List.map_append, ← List.append_assoc]
              have en : near lo hi g o = true := by
                unfold near
                rw [decide_eq_true hlo, decide_eq_true c]
                rfl
              have kt : ∀ z ys, H2 z = some (.tup ys) → (upd (upd H2 q2 (.tup [.ref qg, .ref qo])) p (.lst (zs ++ [.ref q2]))) z = some (.tup ys) := fun z ys e =>
                (upd_ne (fun y => by rw [y, hz2] at e; cases e)).trans (same_upd hq2 _ _ e)
              rw [List.filter_cons, en]
              refine Prs.snoc (hzs2.mono kt) (p := (g, o)) ?_ (kt _ _ hqg2) (kt _ _ hqo)
              exact (upd_ne npq.symm).trans upd_same
            · show os.length - (((at' : Nat) : Int) + 1).toNat < os.length - ((at' : Nat) : Int).toNat
              omega
          · rw [decide_eq_false c]
            refine iteF ?_
            rw [List.take_add_one, hg, Option.toList_some, List.flatMap_append, List.flatMap_cons, List.flatMap_nil, List.append_nil, ← hbs0]
            refine leave fun o' ho' => ?_
            rw [ho] at ho'
            cases ho'
            omega
        · rw [decide_eq_false (show ¬ ((at' : Nat) : Int) < ((ys.length : Nat) : Int) by omega)]
          refine iteF (iteF ?_)
          rw [List.take_add_one, hg, Option.toList_some, List.flatMap_append, List.flatMap_cons, List.flatMap_nil, List.append_nil, ← hbs0]
          refine leave fun o' ho' => ?_
          have := tups_at ho'
          omega
      · exact mt_and (mt_test (me_op mr_i0 me_var (fun σ H Q Q' m z => by obtain ⟨v, e, xs, ys, e2, h2, h⟩ := z; exact ⟨v, e, xs, ys, e2, h2, m _ _ h⟩))) (mt_test (me_op mr_i0 (me_op mr_i0 (me_op mr_ixT (me_op mr_ixL me_var me_var) me_c) (me_op mr_ixT me_var me_c)) me_var))
    · rintro σ H' ⟨zs, bg, v6, v7, rfl, s1, hz, hzs, _⟩
      rw [hxl, List.take_length] at hzs
      exact ⟨_, rfl, q H' p zs s1 hp hz hzs⟩
end
/-! ### pairs as data, and their order -/
open PySem.W PySem.SeqAt in
theorem alike_t4 (a b : Ht) : PySem.W.alike (dT4 a) (dT4 b) = true := by
  simp only [dT4, PySem.W.alike, PySem.W.alikeAll]
  rfl
open PySem.W PySem.SeqAt in
theorem lt_t4 (a b : Ht) : dataLt (dT4 a) (dT4 b) = decide (it4 a < it4 b) := by
  show dataLt (.tuple ((it4 a).map .int)) (.tuple ((it4 b).map .int)) = _
  rw [dataLt_tuple]
  exact dataLt_ints _ _
def dPr (p : Pr) : PyData := .tuple [dT4 p.1, dT4 p.2]
open PySem.W PySem.SeqAt in
theorem lt_pr (p q : Pr) : dataLt (dPr p) (dPr q) = if p.1 = q.1 then (if p.2 = q.2 then false else decide (it4 p.2 < it4 q.2)) else decide (it4 p.1 < it4 q.1) := by
  unfold dPr
  rw [dataLt_pair (alike_t4 _ _) (alike_t4 _ _), eqv_dT4, eqv_dT4, lt_t4, lt_t4]
  by_cases c : p.1 = q.1
  · rw [if_pos c, if_pos (decide_eq_true c)]
    by_cases c2 : p.2 = q.2
    · rw [if_pos c2, if_pos (decide_eq_true c2)]
    · rw [if_neg c2, if_neg (by rw [decide_eq_false c2]; decide)]
  · rw [if_neg c, if_neg (by rw [decide_eq_false c]; decide)]
theorem it4_inj {a b : Ht} (h : it4 a = it4 b) : a = b := by rw [← un4_it4 a, h, un4_it4]
open PySem.W PySem.SeqAt in
def leP : Pr → Pr → Bool := dataLe false dPr
open PySem.W PySem.SeqAt in
theorem leP_anti {p q : Pr} (h1 : leP p q = true) (h2 : leP q p = true) : p = q := by
  unfold leP at h1 h2
  rw [dataLe_eq] at h1 h2
  have g1 : dataLt (dPr q) (dPr p) = false := by simpa using h1
  have g2 : dataLt (dPr p) (dPr q) = false := by simpa using h2
  rw [lt_pr] at g1 g2
  have key : ∀ {x y : Ht}, ¬ it4 x < it4 y → ¬ it4 y < it4 x → x = y := fun {x y} a b => it4_inj (List.le_antisymm (List.not_lt.mp b) (List.not_lt.mp a))
  by_cases c : p.1 = q.1
  · rw [if_pos c.symm] at g1
    rw [if_pos c] at g2
    by_cases c2 : p.2 = q.2
    · exact Prod.ext c c2
    · rw [if_neg fun z => c2 z.symm] at g1
      rw [if_neg c2] at g2
      exact Prod.ext c (key (of_decide_eq_false g2) (of_decide_eq_false g1))
  · rw [if_neg fun z => c z.symm] at g1
    rw [if_neg c] at g2
    exact absurd (key (of_decide_eq_false g2) (of_decide_eq_false g1)) c
def srtP (ps : List Pr) : List Pr := ps.mergeSort leP
open PySem.W PySem.SeqAt in
theorem srtP_up (ps : List Pr) : (srtP ps).Pairwise fun a b => leP a b = true :=
  have T := sortLe_total (listOrd itemOrd) false fun b : Pr => keyToks (dPr b)
  List.pairwise_mergeSort (le := leP) T.trans (fun a b => by
    rw [Bool.or_eq_true]
    exact T.total a b) ps
theorem srtP_perm (ps : List Pr) : (srtP ps).Perm ps := List.mergeSort_perm _ _
theorem srtP_same {a b : List Pr} (h : a.Perm b) : srtP a = srtP b :=
  List.Perm.eq_of_pairwise (le := fun a b => leP a b = true) (fun _ _ _ _ h1 h2 => leP_anti h1 h2) (srtP_up a) (srtP_up b) (((srtP_perm a).trans h).trans (srtP_perm b).symm)
open PySem.W PySem.SeqAt in
theorem alike_pr (ps : List Pr) : AllAlike (ps.map dPr) := by
  intro x hx y hy
  obtain ⟨a, _, rfl⟩ := List.mem_map.mp hx
  obtain ⟨b, _, rfl⟩ := List.mem_map.mp hy
  simp only [dPr, dT4, PySem.W.alike, PySem.W.alikeAll]
  rfl
open PySem.W PySem.SeqAt in
theorem sortable_pr (ps : List Pr) : Sortable (ps.map dPr) := .inl fun x hx => by
  obtain ⟨a, _, rfl⟩ := List.mem_map.mp hx
  exact ⟨_, _, rfl⟩
theorem depth_pr (p : Pr) : (dPr p).depth ≤ 60 := by
  show max (max 0 (max 0 (max 0 (max 0 0))) + 1) (max (max 0 (max 0 (max 0 (max 0 0))) + 1) 0) + 1 ≤ 60
  decide
theorem dp_pr {K : PySem.W.Frag} {H : Hp} {q a b : Addr} {p : Pr} (h : H q = some (.tup [.ref a, .ref b])) (ha : H a = some (.tup ((it4 p.1).map V.int))) (hb : H b = some (.tup ((it4 p.2).map V.int))) : Dp K H (.ref q) (dPr p) :=
  .tup (.inl (.inl h)) (.cons (.tup (.inl (.inl ha)) (.cons (.int _) (.cons (.int _) (.cons (.int _) (.cons (.int _) .nil))))) (.cons (.tup (.inl (.inl hb)) (.cons (.int _) (.cons (.int _) (.cons (.int _) (.cons (.int _) .nil))))) .nil))
/-! ### which pairs are asked for -/
def fit (lo hi n1 n2 : Int) (a b : Ht) : Bool := decide (a.1 = b.1) && (decide (a.2.1 ≠ b.2.1) && (decide (lo ≤ if a.2.1 = 1 then a.2.2.1 - b.2.2.1 + n2 else b.2.2.1 - a.2.2.1 + n1) && decide ((if a.2.1 = 1 then a.2.2.1 - b.2.2.1 + n2 else b.2.2.1 - a.2.2.1 + n1) ≤ hi)))
def rowF (lo hi n1 n2 : Int) (hs2 : List Ht) (a : Ht) : List Pr := (hs2.filter (fit lo hi n1 n2 a)).map fun b => (a, b)
def allP (lo hi n1 n2 : Int) (hs1 hs2 : List Ht) : List Pr := hs1.flatMap (rowF lo hi n1 n2 hs2)
def cst (p : Pr) : Int := p.1.2.2.2 + p.2.2.2.2
def atC (ps : List Pr) (c : Int) : List Pr := ps.filter fun p => decide (cst p = c)
def LeastP (ps : List Pr) (c : Int) : Prop := (∃ p ∈ ps, cst p = c) ∧ ∀ p ∈ ps, c ≤ cst p
/-- what best_pairs gives -/
structure BestR (ps R : List Pr) : Prop where
  no : ps = [] → R = []
  yes : ∀ c, LeastP ps c → R = srtP (atC ps c)
theorem groups_perm : ∀ {hs : List Ht} {ks : List G3}, ks.Nodup → (∀ h ∈ hs, gOf h ∈ ks) → (ks.flatMap fun k => hs.filter (inG k)).Perm hs
  | [], ks, _, _ => by
    have : (ks.flatMap fun k => ([] : List Ht).filter (inG k)) = [] := List.flatMap_eq_nil_iff.mpr fun _ _ => rfl
    rw [this]
  | h :: hs, ks, nd, hk => by
    have one : ∀ ks : List G3, ks.Nodup → gOf h ∈ ks → (ks.flatMap fun k => (h :: hs).filter (inG k)).Perm (h :: ks.flatMap fun k => hs.filter (inG k)) := by
      intro ks
      induction ks with
      | nil => exact fun _ m => (List.not_mem_nil m).elim
      | cons k ks ih =>
        intro nd m
        obtain ⟨n1, n2⟩ := List.nodup_cons.mp nd
        rw [List.flatMap_cons, List.flatMap_cons]
        by_cases c : gOf h = k
        · have e1 : inG k h = true := decide_eq_true c
          rw [List.filter_cons, if_pos e1]
          have e2 : (ks.flatMap fun k => (h :: hs).filter (inG k)) = ks.flatMap fun k => hs.filter (inG k) := by
            have gen : ∀ l : List G3, gOf h ∉ l → (l.flatMap fun k => (h :: hs).filter (inG k)) = l.flatMap fun k => hs.filter (inG k) := by
              intro l
              induction l with
              | nil => exact fun _ => rfl
              | cons x l ihl =>
                intro hn
                have e : inG x h = false := decide_eq_false fun z => hn (z ▸ List.mem_cons_self)
                rw [List.flatMap_cons, List.flatMap_cons, List.filter_cons, e, ihl fun z => hn (List.mem_cons_of_mem _ z)]
                rfl
            exact gen ks (c ▸ n1)
          rw [e2]
          exact .refl _
        · have e1 : inG k h = false := decide_eq_false c
          rw [List.filter_cons, e1]
          refine List.Perm.trans (List.Perm.append_left _ (ih n2 ?_)) List.perm_middle
          rcases List.mem_cons.mp m with z | z
          · exact absurd z c
          · exact z
    exact (one ks nd (hk h List.mem_cons_self)).trans (.cons _ (groups_perm nd fun x hx => hk x (List.mem_cons_of_mem _ hx)))
def s01 (h : Ht) : Prop := h.2.1 = 0 ∨ h.2.1 = 1
/-- the bounds that the program asks with -/
def loB (lo hi n1 n2 : Int) (s : Int) : Int := if s = 0 then lo - n1 else n2 - hi
def hiB (lo hi n1 n2 : Int) (s : Int) : Int := if s = 0 then hi - n1 else n2 - lo
theorem near_fit {lo hi n1 n2 c : Int} {g o : Ht} (hg : s01 g) (ho : s01 o) : (inG (g.1, 1 - g.2.1, c - g.2.2.2) o && near (loB lo hi n1 n2 g.2.1) (hiB lo hi n1 n2 g.2.1) g o) = (fit lo hi n1 n2 g o && decide (cst (g, o) = c)) := by
  unfold inG near fit loB hiB cst gOf
  obtain ⟨g1, g2, g3, g4⟩ := g
  obtain ⟨o1, o2, o3, o4⟩ := o
  unfold s01 at hg ho
  dsimp only at hg ho ⊢
  rw [Bool.eq_iff_iff]
  simp only [Bool.and_eq_true, decide_eq_true_eq, Prod.mk.injEq]
  rcases hg with z | z <;> rcases ho with y | y <;> subst z <;> subst y <;> simp <;> omega
theorem row_at {lo hi n1 n2 c : Int} {hs2 : List Ht} {g : Ht} (hg : s01 g) (h2 : ∀ o ∈ hs2, s01 o) : nearP (loB lo hi n1 n2 g.2.1) (hiB lo hi n1 n2 g.2.1) (hs2.filter (inG (g.1, 1 - g.2.1, c - g.2.2.2))) g = atC (rowF lo hi n1 n2 hs2 g) c := by
  unfold nearP atC rowF
  rw [List.filter_filter, List.filter_map, List.filter_filter]
  congr 1
  refine List.filter_congr fun o ho => ?_
  rw [Bool.and_comm, near_fit hg (h2 o ho), Bool.and_comm]
  rfl
theorem found_perm {lo hi n1 n2 c : Int} {hs1 hs2 : List Ht} {ks : List G3} (nd : ks.Nodup) (hk : ∀ h ∈ hs1, gOf h ∈ ks) (h1 : ∀ h ∈ hs1, s01 h) (h2 : ∀ o ∈ hs2, s01 o) :
    (ks.flatMap fun k => (hs1.filter (inG k)).flatMap (nearP (loB lo hi n1 n2 k.2.1) (hiB lo hi n1 n2 k.2.1) (hs2.filter (inG (k.1, 1 - k.2.1, c - k.2.2))))).Perm (atC (allP lo hi n1 n2 hs1 hs2) c) := by
  have e1 : (ks.flatMap fun k => (hs1.filter (inG k)).flatMap (nearP (loB lo hi n1 n2 k.2.1) (hiB lo hi n1 n2 k.2.1) (hs2.filter (inG (k.1, 1 - k.2.1, c - k.2.2))))) = (ks.flatMap fun k => hs1.filter (inG k)).flatMap fun g => atC (rowF lo hi n1 n2 hs2 g) c := by
    rw [List.flatMap_assoc]
    congr 1
    funext k
    have gen : ∀ l : List Ht, (∀ g ∈ l, gOf g = k ∧ s01 g) → l.flatMap (nearP (loB lo hi n1 n2 k.2.1) (hiB lo hi n1 n2 k.2.1) (hs2.filter (inG (k.1, 1 - k.2.1, c - k.2.2)))) = l.flatMap fun g => atC (rowF lo hi n1 n2 hs2 g) c := by
      intro l
      induction l with
      | nil => exact fun _ => rfl
      | cons g l ih =>
        intro h
        obtain ⟨eg, sg⟩ := h g List.mem_cons_self
        rw [List.flatMap_cons, List.flatMap_cons, ih fun x hx => h x (List.mem_cons_of_mem _ hx), ← row_at (c := c) sg h2, ← eg]
        rfl
    exact gen _ fun g hg => ⟨of_decide_eq_true (List.mem_filter.mp hg).2, h1 g (List.mem_filter.mp hg).1⟩
  have e2 : atC (allP lo hi n1 n2 hs1 hs2) c = hs1.flatMap fun g => atC (rowF lo hi n1 n2 hs2 g) c := by
    unfold atC allP
    rw [List.filter_flatMap]
  rw [e1, e2]
  exact List.Perm.flatMap_right _ (groups_perm nd hk)
theorem hRow_lt {l t : List Nat} {k r s : Nat} (hr : r < 10000) (hs : s < 10) (ht : t.length ≤ 90000) (hk : k ≤ 1000) : (hRow l t k (r : Int) (s : Int)).Pairwise fun a b => TS.code MB (it4 a) < TS.code MB (it4 b) := by
  refine List.Pairwise.imp_of_mem (R := fun a b => a.2.2.1 < b.2.2.1) (fun {a b} ma mb h => ?_) ?_
  · rw [code4, code4]
    obtain ⟨a1, a2, _, a4, a5⟩ := hRow_mem ma
    obtain ⟨b1, b2, _, b4, b5⟩ := hRow_mem mb
    omega
  · unfold hRow
    rw [List.pairwise_map]
    exact (ends_asc ..).imp fun h => by
      dsimp only
      omega
theorem hAll_lt {rs : List Rf} {l : List Nat} {k : Nat} (hr : rs.length ≤ 4000) (ht : ∀ r, (txt rs r).length ≤ 4000) (hk : k ≤ 1000) : (hAll rs l k).Pairwise fun a b => TS.code MB (it4 a) < TS.code MB (it4 b) := by
  unfold hAll
  rw [List.pairwise_flatMap]
  refine ⟨fun r mr => ?_, ?_⟩
  · have lt := List.mem_range.mp mr
    have tl := ht r
    refine List.pairwise_append.mpr ⟨hRow_lt (s := 0) (by omega) (by decide) (by omega) hk, hRow_lt (s := 1) (by omega) (by decide) (by omega) hk, fun a ma b mb => ?_⟩
    obtain ⟨a1, a2, ⟨e, he, a3⟩, a4, a5⟩ := hRow_mem ma
    obtain ⟨b1, b2, ⟨e', he', b3⟩, b4, b5⟩ := hRow_mem mb
    rw [code4, code4]
    omega
  · refine List.Pairwise.imp_of_mem (R := fun a b => a < b) (fun {r q} mr mq h x hx y hy => ?_) List.pairwise_lt_range
    have l1 := List.mem_range.mp mr
    have l2 := List.mem_range.mp mq
    have t1 := ht r
    have t2 := ht q
    have ex : x.1 = (r : Int) ∧ HB x := by
      rcases List.mem_append.mp hx with z | z
      · exact ⟨(hRow_mem z).1, hRow_hb (s := 0) z (by omega) (by decide) (by omega) hk⟩
      · exact ⟨(hRow_mem z).1, hRow_hb (s := 1) z (by omega) (by decide) (by omega) hk⟩
    have ey : y.1 = (q : Int) ∧ HB y := by
      rcases List.mem_append.mp hy with z | z
      · exact ⟨(hRow_mem z).1, hRow_hb (s := 0) z (by omega) (by decide) (by omega) hk⟩
      · exact ⟨(hRow_mem z).1, hRow_hb (s := 1) z (by omega) (by decide) (by omega) hk⟩
    obtain ⟨x1, x2, x3, x4⟩ := hb_get ex.2
    obtain ⟨y1, y2, y3, y4⟩ := hb_get ey.2
    rw [code4, code4]
    have := ex.1
    have := ey.1
    omega
theorem hAll_s01 {rs : List Rf} {l : List Nat} {k : Nat} : ∀ h ∈ hAll rs l k, s01 h := fun h m => by
  unfold hAll at m
  obtain ⟨r, mr, m⟩ := List.mem_flatMap.mp m
  rcases List.mem_append.mp m with z | z
  · exact .inl (hRow_mem z).2.1
  · exact .inr (hRow_mem z).2.1
theorem hAll_c {rs : List Rf} {l : List Nat} {k : Nat} : ∀ h ∈ hAll rs l k, 0 ≤ h.2.2.2 ∧ h.2.2.2 ≤ (k : Int) := fun h m => by
  unfold hAll at m
  obtain ⟨r, mr, m⟩ := List.mem_flatMap.mp m
  rcases List.mem_append.mp m with z | z
  · exact (hRow_mem z).2.2.2
  · exact (hRow_mem z).2.2.2
theorem asc_group {rs : List Rf} {l : List Nat} {k : Nat} (hr : rs.length ≤ 4000) (ht : ∀ r, (txt rs r).length ≤ 4000) (hk : k ≤ 1000) (g : G3) : AscE ((hAll rs l k).filter (inG g)) := by
  have h := (hAll_lt (l := l) hr ht hk).filter (inG g)
  refine List.Pairwise.imp_of_mem (fun {a b} ma mb lt => ?_) h
  have ea : gOf a = g := of_decide_eq_true (List.mem_filter.mp ma).2
  have eb : gOf b = g := of_decide_eq_true (List.mem_filter.mp mb).2
  have e := ea.trans eb.symm
  unfold gOf at e
  obtain ⟨e1, e⟩ := Prod.mk.inj e
  obtain ⟨e2, e3⟩ := Prod.mk.inj e
  rw [code4, code4] at lt
  omega
/-! ### the best pairs -/
theorem iteT2 {b : Bool} {P Q : Prop} (h : b = true) (p : P) : if b = true then P else Q := by
  rw [if_pos h]
  exact p
def NBp : List Str := ["index", "first", "second", "k", "low", "high", "first_groups", "second_groups", "changes", "found", "reference", "strand", "own", "group", "others"]
theorem scBPairs : FnScope NBp ["index", "first", "second", "k", "low", "high"] (defScope sBPairs) := ⟨rfl, rfl, rfl, by decide +kernel, rfl, by decide +kernel, by decide +kernel⟩
section
variable {P : Program} {w : World} {K : PySem.W.Frag} {mg : Str → Option Value} {base : Heap}
def spBest (C : Addr) : Sp := fun vs H Q _ => ∃ (x : Addr) (rs : List Rf) (b s : Nat) (l1 l2 : List Nat) (k : Nat) (lo hi : Int), vs = [.ref x, .str (T l1), .str (T l2), .int (k : Int), .int lo, .int hi] ∧ Ixd C H x rs b s ∧ IxOk rs b s ∧ Dna l1 ∧ l1.length ≤ 1000 ∧ Dna l2 ∧ l2.length ≤ 1000 ∧ k ≤ 1000 ∧ (hAll rs l1 k).length ≤ 1000 ∧ (hAll rs l2 k).length ≤ 1000 ∧
  ∀ (H' : Hp) (p : Addr) (zs : List V) (R : List Pr), Same H H' → H p = none → H' p = some (.lst zs) → Prs H' zs R → BestR (allP lo hi (l1.length : Nat) (l2.length : Nat) (hAll rs l1 k) (hAll rs l2 k)) R → Q (.ref p) H'
theorem ok_best {f C : Addr} {fd : FuncData} (F : Fun K "best_pairs" "best_pairs" sBPairs f fd) (mlen : mg "len" = none) (mrange : mg "range" = none) (msort : mg "sorted" = none) (hHi : Has P w K mg base 10 "hits" ["index", "read", "k"] (spHits C)) (hGr : Has P w K mg base 2 "_groups" ["found"] (spGroups K)) (hWi : Has P w K mg base 2 "_pairs_within" ["group", "others", "least", "most"] (spWithin K)) :
    FnOk P w K mg base CX0 11 f fd ["index", "first", "second", "k", "low", "high"] (spBest C) := by
  obtain ⟨fHi, dHi, GHi, gHi, kHi, bHi⟩ := hHi
  obtain ⟨fGr, dGr, GGr, gGr, kGr, bGr⟩ := hGr
  obtain ⟨fWi, dWi, GWi, gWi, kWi, bWi⟩ := hWi
  refine F.ok scBPairs (fun vs H Q E h => ?_) (fun cdv A outer s H vs Q E hr h => ?_)
  · obtain ⟨x, rs, b, s, l1, l2, k, lo, hi, rfl, _⟩ := h
    rfl
  · obtain ⟨x, rs, b, s, l1, l2, k, lo, hi, rfl, hI, hok, hd1, hl1, hd2, hl2, hk, hm1, hm2, q⟩ := h
    have hr10 : Room 10 _ := hr
    have hr2 : Room 2 _ := hr.mono (by decide)
    refine ⟨_, (pss_cons (ps_set (i := 6) scBPairs.nd rfl (.inl rfl) (pe_call GGr hr2 (by rfl) gGr kGr bGr .nil pass0 (pa_cons (pe_call GHi hr10 (by rfl) gHi kHi bHi .nil pass0 (pa_cons (pv 0) (pa_cons (pv 1) (pa_cons (pv 3) pa_nil)))) pa_nil)))
      (pss_cons (ps_set (i := 7) scBPairs.nd rfl (.inl rfl) (pe_call GGr hr2 (by rfl) gGr kGr bGr .nil pass0 (pa_cons (pe_call GHi hr10 (by rfl) gHi kHi bHi .nil pass0 (pa_cons (pv 0) (pa_cons (pv 2) (pa_cons (pv 3) pa_nil)))) pa_nil)))
      (pss_cons (ps_for PassesOwn.never rfl (pi_range1 rfl mrange (pa_cons (pe_op op_add (pe_op op_mul pe_int (pv 3)) pe_int) pa_nil)) (pg_name (i := 8) scBPairs.nd rfl (.inl rfl))
        (pss_cons (ps_set (i := 9) scBPairs.nd rfl (.inl rfl) (pe_lst pa_nil))
      (C8.pss_cut (ps_lock (ps_for PassesOwn.never rfl (pi_itemsT (pv 6)) (pg_tup rfl (pgs_cons (pg_tup rfl (pgs_cons (pg_name (i := 10) scBPairs.nd rfl (.inl rfl)) (pgs_cons (pg_name (i := 11) scBPairs.nd rfl (.inl rfl)) (pgs_cons (pg_name (i := 12) scBPairs.nd rfl (.inl rfl)) pgs_nil)))) (pgs_cons (pg_name (i := 13) scBPairs.nd rfl (.inl rfl)) pgs_nil)))
        (pss_cons (ps_set (i := 14) scBPairs.nd rfl (.inl rfl) (pe_dget2 (hu_of hr) (pv 7) (pe_tup (pa_cons (pv 10) (pa_cons (pe_op op_sub pe_int (pv 11)) (pa_cons (pe_op op_sub (pv 8) (pv 12)) pa_nil)))) (pe_lst pa_nil) ⟨rfl, rfl, rfl, rfl⟩))
      (pss_one (ps_if (pt_cmpR op_eq (pv 11) pe_int (nomark _)) (pss_one (ps_expr (pe_bm PySem.F.plainAttrs_list PySem.F.slot_list_extend PySem.F.type_list_extend mt_extend (pv 9) (pa_cons (pe_call GWi hr2 (by rfl) gWi kWi bWi .nil pass0 (pa_cons (pv 13) (pa_cons (pv 14) (pa_cons (pe_op op_sub (pv 4) (pe_callB call_len_str (by rfl) mlen PySem.boot_len (pa_cons (pv 1) pa_nil))) (pa_cons (pe_op op_sub (pv 5) (pe_callB call_len_str (by rfl) mlen PySem.boot_len (pa_cons (pv 1) pa_nil))) pa_nil))))) pa_nil)))) (pss_one (ps_expr (pe_bm PySem.F.plainAttrs_list PySem.F.slot_list_extend PySem.F.type_list_extend mt_extend (pv 9) (pa_cons (pe_call GWi hr2 (by rfl) gWi kWi bWi .nil pass0 (pa_cons (pv 13) (pa_cons (pv 14) (pa_cons (pe_op op_sub (pe_callB call_len_str (by rfl) mlen PySem.boot_len (pa_cons (pv 2) pa_nil)) (pv 5)) (pa_cons (pe_op op_sub (pe_callB call_len_str (by rfl) mlen PySem.boot_len (pa_cons (pv 2) pa_nil)) (pv 4)) pa_nil))))) pa_nil)))))))))
      (pss_one (ps_if (pt_truth (pv 9) (by intro _; rfl)) (pss_one (ps_ret (pe_callB (cr_sortedD (enc := dPr) hr.units) (by rfl) msort (by decide +kernel) (pa_cons (pv 9) pa_nil)))) pss_nil)))))
      (pss_one (ps_ret (pe_lst pa_nil)))))), ?_⟩
    obtain ⟨hs1, e1⟩ : ∃ hs, hs = hAll rs l1 k := ⟨_, rfl⟩
    obtain ⟨hs2, e2⟩ : ∃ hs, hs = hAll rs l2 k := ⟨_, rfl⟩
    rw [← e1] at hm1 q
    rw [← e2] at hm2 q
    have hz1 : (T l1).length ≤ sizeLine := line_ok (by rw [T_len]; omega)
    have hz2 : (T l2).length ≤ sizeLine := line_ok (by rw [T_len]; omega)
    refine ⟨.ref x, rfl, .str (T l1), rfl, .int k, rfl, x, rs, b, s, l1, k, rfl, hI, hok, hd1, by omega, hk, fun H1 p1 xs1 s1 hp1 hx1 ht1 => ?_⟩
    rw [← e1] at ht1
    refine ⟨p1, xs1, hs1, rfl, .inl (.inl hx1), ht1, by omega, fun H2 d1 ts1 s2 D1 hg1 hk1 => ?_⟩
    refine ⟨.ref x, rfl, .str (T l2), rfl, .int k, rfl, x, rs, b, s, l2, k, rfl, (hI.same s1).same s2, hok, hd2, by omega, hk, fun H3 p2 xs2 s3 hp2 hx2 ht2 => ?_⟩
    rw [← e2] at ht2
    refine ⟨p2, xs2, hs2, rfl, .inl (.inl hx2), ht2, by omega, fun H4 d2 ts2 s4 D2 hg2 hk2 => ?_⟩
    have s34 := s3.trans s4
    have D1' := D1.same s34
    have hg1' : ∀ g, Hts H4 (lookG (entG ts1) g) (hs1.filter (inG g)) := fun g => (hg1 g).same s34
    have n12 : d1 ≠ d2 := ne_of_none (s3 _ _ D1.top) D2.newd
    have s04 := (s1.trans s2).trans s34
    have hrl : rs.length ≤ 4000 := by
      have := jl_many rs
      have := hok.2.2.1
      omega
    have htx : ∀ r, (txt rs r).length ≤ 4000 := fun r => by
      by_cases c : r < rs.length
      · have := txt_le c
        have := hok.2.2.1
        omega
      · rw [txt_out (by omega)]
        exact Nat.zero_le _
    have as1 : ∀ g, AscE (hs1.filter (inG g)) := fun g => by rw [e1]; exact asc_group hrl htx hk g
    have as2 : ∀ g, AscE (hs2.filter (inG g)) := fun g => by rw [e2]; exact asc_group hrl htx hk g
    have h01 : ∀ h ∈ hs1, s01 h := by rw [e1]; exact hAll_s01
    have h02 : ∀ h ∈ hs2, s01 h := by rw [e2]; exact hAll_s01
    have hc1 : ∀ h ∈ hs1, 0 ≤ h.2.2.2 ∧ h.2.2.2 ≤ (k : Int) := by rw [e1]; exact hAll_c
    have hc2 : ∀ h ∈ hs2, 0 ≤ h.2.2.2 ∧ h.2.2.2 ≤ (k : Int) := by rw [e2]; exact hAll_c
    obtain ⟨AP, hAP⟩ : ∃ AP, AP = allP lo hi (l1.length : Nat) (l2.length : Nat) hs1 hs2 := ⟨_, rfl⟩
    rw [← hAP] at q
    have cAP : ∀ p ∈ AP, 0 ≤ cst p ∧ cst p ≤ 2 * (k : Int) := fun p hp => by
      rw [hAP] at hp
      unfold allP rowF at hp
      obtain ⟨g, hg, hp⟩ := List.mem_flatMap.mp hp
      obtain ⟨o, ho, rfl⟩ := List.mem_map.mp hp
      have := hc1 g hg
      have := hc2 o (List.mem_filter.mp ho).1
      unfold cst
      dsimp only
      omega
    obtain ⟨ks, hks⟩ : ∃ ks, ks = kvsG kG ts1 := ⟨_, rfl⟩
    have hkl : ks.length = ts1.length := by rw [hks]; exact List.length_map _
    have hAPl : AP.length ≤ 1000000 := by
      rw [hAP]
      have := fm_le (rowF lo hi (l1.length : Nat) (l2.length : Nat) hs2) 1000 hs1 fun a _ => by
        unfold rowF
        rw [List.length_map]
        exact Nat.le_trans (List.length_filter_le _ _) hm2
      unfold allP
      have h2 := Nat.mul_le_mul_right 1000 hm1
      omega
    refine ⟨.int k, rfl, 2, _, rfl, rfl, .inl ⟨by decide, by decide⟩, _, 1, rfl, rfl, _, rfl, by omega, by omega, ?_⟩
    refine for_range (lo := 0) (n := (2 * (k : Int) + 1).toNat) (fun c σ HA => ∃ v8 v9 v10 v11 v12 v13 v14 : Option V, σ = [some (.ref x), some (.str (T l1)), some (.str (T l2)), some (.int (k : Int)), some (.int lo), some (.int hi), some (.ref d1), some (.ref d2), v8, v9, v10, v11, v12, v13, v14] ∧ Same H4 HA ∧ ∀ p ∈ AP, ((c : Nat) : Int) ≤ cst p) ?_ ?_ ?_
    · exact ⟨none, none, none, none, none, none, none, rfl, Same.refl _, fun p hp => (cAP p hp).1⟩
    · rintro c σ HA hc ⟨v8, v9, v10, v11, v12, v13, v14, rfl, sA, hlow⟩
      refine ⟨Nat.zero_le _, fun pf hpf => ?_⟩
      obtain ⟨HP, hHP⟩ : ∃ HP, HP = upd HA pf (.lst []) := ⟨_, rfl⟩
      have sP : Same HA HP := by rw [hHP]; exact same_upd hpf
      have hpP : HP pf = some (.lst []) := by rw [hHP, upd_same]
      rw [← hHP]
      have D1P := (D1'.same sA).same sP
      have D2P := (D2.same sA).same sP
      have htop := D1P.top
      rw [← hks] at htop
      have npd : pf ≠ d1 := fun z => by
        have := sA _ _ D1'.top
        rw [← z, hpf] at this
        cases this
      obtain ⟨Fk, hFk⟩ : ∃ Fk : TrG G3 → List Pr, Fk = fun t => (hs1.filter (inG t.1)).flatMap (nearP (loB lo hi (l1.length : Nat) (l2.length : Nat) t.1.2.1) (hiB lo hi (l1.length : Nat) (l2.length : Nat) t.1.2.1) (hs2.filter (inG (t.1.1, 1 - t.1.2.1, (c : Int) - t.1.2.2)))) := ⟨_, rfl⟩
      have hfp : (ts1.flatMap Fk).Perm (atC AP (c : Int)) := by
        have h := found_perm (lo := lo) (hi := hi) (n1 := (l1.length : Nat)) (n2 := (l2.length : Nat)) (c := (c : Int)) D1.nk (fun h hh => by
          obtain ⟨t, ht, e⟩ := hk1 h hh
          exact e ▸ List.mem_map_of_mem ht) h01 h02
        rw [List.flatMap_map] at h
        rw [hFk, hAP]
        exact h
      have hftot : (ts1.flatMap Fk).length ≤ 1000000 := by
        rw [hfp.length_eq]
        exact Nat.le_trans (List.length_filter_le _ _) hAPl
      refine ⟨fun σ HB => Same HA HB ∧ ∃ (zs : List V) (fs : List Pr) (v10 v11 v12 v13 v14 : Option V), σ = [some (.ref x), some (.str (T l1)), some (.str (T l2)), some (.int (k : Int)), some (.int lo), some (.int hi), some (.ref d1), some (.ref d2), some (.int (0 + (c : Nat))), some (.ref pf), v10, v11, v12, v13, v14] ∧ HB pf = some (.lst zs) ∧ Prs HB zs fs ∧ fs.Perm (atC AP (c : Int)), ?_, ?_⟩
      · refine ⟨d1, _, htop, True.intro, fun od => ?_⟩
        obtain ⟨Hf, hHf⟩ : ∃ Hf, Hf = upd HP d1 (.frz od (.dT ks)) := ⟨_, rfl⟩
        rw [← hHf]
        have hfd : Hf d1 = some (.frz od (.dT ks)) := by rw [hHf, upd_same]
        have hff : Hf pf = some (.lst []) := by rw [hHf, upd_ne npd]; exact hpP
        have keepP : ∀ {b o}, HP b = some o → b ≠ d1 → b ≠ pf → del Hf pf b = some o := fun e n1 n2 => del_at (by rw [hHf, upd_ne n1]; exact e) n2
        have tupP : ∀ z ys, HP z = some (.tup ys) → del Hf pf z = some (.tup ys) := fun z ys e => keepP e (fun y => by rw [y, htop] at e; cases e) fun y => by rw [y, hpP] at e; cases e
        have rowP1 : ∀ t ∈ ts1, del Hf pf t.2.1 = some (.lst t.2.2) := fun t ht => by
          have e := D1P.row t ht
          refine keepP e (fun y => by rw [y, htop] at e; cases e) fun y => ?_
          have := sA _ _ (D1'.row t ht)
          rw [y, hpf] at this
          cases this
        refine ⟨.ref d1, rfl, d1, od, ks, rfl, hfd, ?_⟩
        refine for_gen (n := ks.length) (fun i σ HB => ∃ (zs : List V) (v10 v11 v12 v13 v14 : Option V), σ = [some (.ref x), some (.str (T l1)), some (.str (T l2)), some (.int (k : Int)), some (.int lo), some (.int hi), some (.ref d1), some (.ref d2), some (.int (0 + (c : Nat))), some (.ref pf), v10, v11, v12, v13, v14] ∧ Same (del Hf pf) HB ∧ HB pf = some (.lst zs) ∧ Prs HB zs ((ts1.take i).flatMap Fk)) ?_ ?_ ?_ ?_ ?_
        · exact ⟨[], v10, v11, v12, v13, v14, rfl, del_same, hff, .nil⟩
        · rintro i σ HB hii ⟨zs, v10, v11, v12, v13, v14, rfl, sB, _⟩
          exact ⟨sB _ _ (del_at hfd npd.symm), hii⟩
        · rintro σ HB ⟨zs, v10, v11, v12, v13, v14, rfl, sB, _⟩
          exact ⟨sB _ _ (del_at hfd npd.symm), Nat.le_refl _⟩
        · rintro i σ HB v HC hii ⟨zs, v10, v11, v12, v13, v14, rfl, sB, hz, hzs⟩ ⟨T', kk, vv, qk, hkv, rfl, hqk, hT', rfl⟩
          have hip : i < ts1.length := by omega
          rw [hks] at hkv
          obtain ⟨t, ht⟩ : ∃ t, ts1[i]? = some t := ⟨_, List.getElem?_eq_getElem hip⟩
          have ekv : (kG t.1, V.ref t.2.1) = (kk, vv) := by
            unfold kvsG at hkv
            rw [List.getElem?_map, ht] at hkv
            exact Option.some.inj hkv
          obtain ⟨rfl, rfl⟩ := Prod.mk.inj ekv
          have htm := List.mem_of_getElem? ht
          have hft := fm_take_len Fk ht
          have hrow := rowP1 t htm
          have hlk : lookG (entG ts1) t.1 = t.2.2 := D1.lookG htm
          obtain ⟨g, q1, gx⟩ := t
          dsimp only at hlk hrow
          have sT : Same HB (upd HB T' (.tup [.ref qk, .ref q1])) := same_upd hT'
          have hqk' := sT _ _ hqk
          refine ⟨T', _, rfl, .inl (.inl upd_same), rfl, _, _, rfl, qk, _, rfl, .inl (.inl hqk'), rfl, _, _, rfl, _, _, rfl, _, _, rfl, rfl, _, _, rfl, rfl, ?_⟩
          obtain ⟨g2, hg2'⟩ : ∃ g2 : G3, g2 = (g.1, 1 - g.2.1, (c : Int) - g.2.2) := ⟨_, rfl⟩
          have keep2 : ∀ {b o}, HP b = some o → b ≠ d1 → b ≠ pf → (upd HB T' (.tup [.ref qk, .ref q1])) b = some o := fun e n1 n2 => sT _ _ (sB _ _ (keepP e n1 n2))
          have d2n : d2 ≠ pf := fun z => by
            have := sA _ _ D2.top
            rw [z, hpf] at this
            cases this
          have D2B : DG kG H3 (upd HB T' (.tup [.ref qk, .ref q1])) d2 ts2 := D2P.keep fun b o hb e => by
            refine keep2 e ?_ ?_
            · rcases hb with z | ⟨u, hu, z⟩
              · rw [z]; exact n12.symm
              · intro y
                have e1 := D2P.row u hu
                rw [← z, y, htop] at e1
                cases e1
            · rcases hb with z | ⟨u, hu, z⟩
              · rw [z]; exact d2n
              · intro y
                have e1 := sA _ _ (D2.row u hu)
                rw [← z, y, hpf] at e1
                cases e1
          refine ⟨.ref d2, rfl, d2, rfl, .inr ⟨_, .inl D2B.top⟩, .int g.1, rfl, .int g.2.1, rfl, _, _, rfl, rfl, .int (0 + (c : Nat)), rfl, .int g.2.2, rfl, _, _, rfl, rfl, by show 3 ≤ sizeLine; decide, fun q3 hq3 => ⟨Nat.zero_le _, fun p3 hp3 => ?_⟩⟩
          generalize hHQ : upd (upd (upd HB T' (.tup [.ref qk, .ref q1])) q3 (.tup [.int g.1, .int (1 - g.2.1), .int (0 + ((c : Nat) : Int) - g.2.2)])) p3 (.lst []) = HQ
          have sQ : Same (upd HB T' (.tup [.ref qk, .ref q1])) HQ := by
            rw [← hHQ]
            exact (same_upd hq3).trans (same_upd hp3)
          have hkey : HQ q3 = some (.tup ((kG g2).map kV)) := by
            rw [← hHQ, upd_ne (ne_of_none upd_same hp3), upd_same, hg2', Int.zero_add]
            rfl
          have hp3Q : HQ p3 = some (.lst []) := by rw [← hHQ, upd_same]
          show ∃ o, DGet HQ d2 (.ref q3) o ∧ _
          have D2Q := D2B.same sQ
          obtain ⟨qo, hval, hqo⟩ : ∃ qo, (valV (kvsG kG ts2) (kG g2)).getD (.ref p3) = .ref qo ∧ HQ qo = some (.lst (lookG (entG ts2) g2)) := by
            rcases val_entG kG_inj g2 ts2 with ⟨h1, h2⟩ | ⟨u, hu, e, h2⟩
            · refine ⟨p3, by rw [h2]; rfl, ?_⟩
              rw [hp3Q, look_noneG fun e he => by
                obtain ⟨u, hu, rfl⟩ := List.mem_map.mp he
                exact h1 u hu]
            · refine ⟨u.2.1, by rw [h2]; rfl, ?_⟩
              rw [← e, D2.lookG hu]
              exact D2Q.row u hu
          refine ⟨valV (kvsG kG ts2) (kG g2), DGet.t (k := kG g2) D2Q.top hkey, ?_⟩
          rw [hval]
          have hz3 : HQ pf = some (.lst zs) := sQ _ _ (sT _ _ hz)
          have hl3 : HQ q1 = some (.lst (lookG (entG ts1) g)) := by
            rw [hlk]
            exact sQ _ _ (sT _ _ (sB _ _ hrow))
          have hg3 : Hts HQ (lookG (entG ts1) g) (hs1.filter (inG g)) := ((hg1' g).same sA).same sP |>.mono fun z ys e => sQ _ _ (sT _ _ (sB _ _ (tupP z ys e)))
          have hg4 : Hts HQ (lookG (entG ts2) g2) (hs2.filter (inG g2)) := ((hg2 g2).same sA).same sP |>.mono fun z ys e => sQ _ _ (sT _ _ (sB _ _ (tupP z ys e)))
          have hFt : Fk (g, q1, gx) = (hs1.filter (inG g)).flatMap (nearP (loB lo hi (l1.length : Nat) (l2.length : Nat) g.2.1) (hiB lo hi (l1.length : Nat) (l2.length : Nat) g.2.1) (hs2.filter (inG g2))) := by
            rw [hFk, hg2']
          rw [hFt] at hft
          rw [List.take_add_one, ht, Option.toList_some, List.flatMap_append, List.flatMap_cons, List.flatMap_nil, List.append_nil, hFt]
          refine ⟨.int g.2.1, rfl, rfl, _, rfl, ite2 (fun cc => ?_) (fun cc => ?_)⟩
          · have es : g.2.1 = 0 := V.int.inj (of_decide_eq_true cc)
            refine ⟨.ref pf, rfl, .inl ⟨rfl, _, .inl (.inl hz3)⟩, .ref q1, rfl, .ref qo, rfl, .int lo, rfl, .str (T l1), rfl, T l1, rfl, hz1, _, _, rfl, rfl, .int hi, rfl, .str (T l1), rfl, T l1, rfl, hz1, _, _, rfl, rfl, q1, qo, lookG (entG ts1) g, lookG (entG ts2) g2, hs1.filter (inG g), hs2.filter (inG g2), lo - (l1.length : Nat), hi - (l1.length : Nat), by rw [T_len]; rfl, .inl (.inl hl3), hg3, .inl (.inl hqo), hg4, Nat.le_trans (List.length_filter_le _ _) hm1, Nat.le_trans (List.length_filter_le _ _) hm2, as1 g, as2 g2, fun HW pw ws sW hpw hw hws => ?_⟩
            rw [show lo - (l1.length : Nat) = loB lo hi (l1.length : Nat) (l2.length : Nat) g.2.1 from (if_pos es).symm, show hi - (l1.length : Nat) = hiB lo hi (l1.length : Nat) (l2.length : Nat) g.2.1 from (if_pos es).symm] at hws
            refine ⟨pf, pw, _, _, rfl, rfl, sW _ _ hz3, hw, line_ok7 (by rw [paired_len hzs, paired_len hws]; omega), zs ++ ws, _, _, _, _, _, rfl, ?_, upd_same, ?_⟩
            · exact same_new ((sB.trans sT).trans (sQ.trans sW)) (del_none _ _)
            · have kt : ∀ z ys, HW z = some (.tup ys) → (upd HW pf (.lst (zs ++ ws))) z = some (.tup ys) := fun z ys e => (upd_ne (fun y => by rw [y, sW _ _ hz3] at e; cases e)).trans e
              refine paired_app (((hzs.same (sT.trans sQ)).same sW).mono kt) (hws.mono kt)
          · have es : ¬ g.2.1 = 0 := fun z => cc (by rw [z]; exact decide_eq_true rfl)
            refine ⟨.ref pf, rfl, .inl ⟨rfl, _, .inl (.inl hz3)⟩, .ref q1, rfl, .ref qo, rfl, .str (T l2), rfl, T l2, rfl, hz2, .int hi, rfl, _, _, rfl, rfl, .str (T l2), rfl, T l2, rfl, hz2, .int lo, rfl, _, _, rfl, rfl, q1, qo, lookG (entG ts1) g, lookG (entG ts2) g2, hs1.filter (inG g), hs2.filter (inG g2), (l2.length : Nat) - hi, (l2.length : Nat) - lo, by rw [T_len]; rfl, .inl (.inl hl3), hg3, .inl (.inl hqo), hg4, Nat.le_trans (List.length_filter_le _ _) hm1, Nat.le_trans (List.length_filter_le _ _) hm2, as1 g, as2 g2, fun HW pw ws sW hpw hw hws => ?_⟩
            rw [show ((l2.length : Nat) : Int) - hi = loB lo hi (l1.length : Nat) (l2.length : Nat) g.2.1 from (if_neg es).symm, show ((l2.length : Nat) : Int) - lo = hiB lo hi (l1.length : Nat) (l2.length : Nat) g.2.1 from (if_neg es).symm] at hws
            refine ⟨pf, pw, _, _, rfl, rfl, sW _ _ hz3, hw, line_ok7 (by rw [paired_len hzs, paired_len hws]; omega), zs ++ ws, _, _, _, _, _, rfl, ?_, upd_same, ?_⟩
            · exact same_new ((sB.trans sT).trans (sQ.trans sW)) (del_none _ _)
            · have kt : ∀ z ys, HW z = some (.tup ys) → (upd HW pf (.lst (zs ++ ws))) z = some (.tup ys) := fun z ys e => (upd_ne (fun y => by rw [y, sW _ _ hz3] at e; cases e)).trans e
              refine paired_app (((hzs.same (sT.trans sQ)).same sW).mono kt) (hws.mono kt)
        · rintro σ HB ⟨zs, v10, v11, v12, v13, v14, rfl, sB, hz, hzs⟩
          rw [hkl, List.take_length] at hzs
          have hBd := sB _ _ (del_at hfd npd.symm)
          refine ⟨hBd, fun b o e => ?_, zs, _, v10, v11, v12, v13, v14, rfl, by rw [upd_ne npd]; exact hz, hzs.mono fun z ys e => (upd_ne (fun y => by rw [y, hBd] at e; cases e)).trans e, hfp⟩
          by_cases nb : b = d1
          · subst nb
            rw [upd_same, ← htop]
            exact sP _ _ e
          · rw [upd_ne nb]
            exact sB _ _ (keepP (sP _ _ e) nb (ne_of_none e hpf))
      rintro σ HB ⟨sB, zs, fs, v10, v11, v12, v13, v14, rfl, hz, hzs, hfs⟩
      have hzl := paired_len hzs
      refine ⟨.ref pf, rfl, !zs.isEmpty, .inl ⟨zs, .inl (.inl hz), rfl⟩, ?_⟩
      by_cases hnil : zs = []
      · subst hnil
        refine iteF ⟨_, _, _, _, _, _, _, rfl, sA.trans sB, fun p hp => ?_⟩
        have hf0 : fs = [] := List.eq_nil_of_length_eq_zero hzl.symm
        rw [hf0] at hfs
        have e0 : atC AP (c : Int) = [] := List.Perm.eq_nil hfs.symm
        have h1 := hlow p hp
        have h2 : cst p ≠ (c : Int) := fun z => by
          have : p ∈ atC AP (c : Int) := List.mem_filter.mpr ⟨hp, decide_eq_true z⟩
          rw [e0] at this
          cases this
        omega
      · refine iteT2 (by cases zs with | nil => exact absurd rfl hnil | cons => rfl) ?_
        have hne : fs ≠ [] := fun z => hnil (List.eq_nil_of_length_eq_zero (by rw [hzl, z]; rfl))
        refine ⟨.ref pf, rfl, pf, zs, fs, fun v p => ∃ q a b, v = .ref q ∧ HB q = some (.tup [.ref a, .ref b]) ∧ HB a = some (.tup ((it4 p.1).map V.int)) ∧ HB b = some (.tup ((it4 p.2).map V.int)), rfl, .inl (.inl hz), Paired.mapP hzs fun v p ⟨q, a, b, e, t1, t2, t3⟩ => ⟨⟨q, a, b, e, t1, t2, t3⟩, e ▸ dp_pr t1 t2 t3⟩, alike_pr _, sortable_pr _, fun b _ => depth_pr b, fun ys p hys hp => ?_⟩
        have hys' : Prs HB ys (srtP fs) := hys
        have sEnd := (s04.trans (sA.trans sB))
        refine q _ p ys (srtP fs) (sEnd.trans (same_upd hp)) (sEnd.free hp) upd_same (hys'.same (same_upd hp)) ⟨fun z => ?_, fun m hm => ?_⟩
        · rw [z] at hfs
          exact absurd (List.Perm.eq_nil hfs) hne
        · obtain ⟨⟨p0, hp0, em⟩, hle⟩ := hm
          obtain ⟨p1, hp1⟩ := List.exists_mem_of_ne_nil fs hne
          have hp1' := List.mem_filter.mp (hfs.mem_iff.mp hp1)
          have ec : cst p1 = (c : Int) := of_decide_eq_true hp1'.2
          have h1 := hle p1 hp1'.1
          have h2 := hlow p0 hp0
          obtain rfl : m = (c : Int) := by omega
          exact srtP_same hfs
    · rintro σ HA ⟨v8, v9, v10, v11, v12, v13, v14, rfl, sA, hlow⟩
      have hnil : ∀ p ∈ AP, False := fun p hp => by
        have h1 := hlow p hp
        have h2 := (cAP p hp).2
        omega
      refine ⟨Nat.zero_le _, fun p hp => q _ p [] [] ((s04.trans sA).trans (same_upd hp)) ((s04.trans sA).free hp) upd_same .nil ⟨fun _ => rfl, fun m ⟨⟨p0, hp0, _⟩, _⟩ => (hnil p0 hp0).elim⟩⟩
end
/-! ### the law's reads -/
def NLd : List Str := ["script", "at", "count", "references", "size", "found", "k", "cell", "read", "name"]
theorem scLReads : FnScope NLd ["script", "at", "count", "references", "size"] (defScope sLReads) := ⟨rfl, rfl, rfl, by decide +kernel, rfl, by decide +kernel, by decide +kernel⟩
theorem q_len (n : Nat) (h : n ≤ 1) : (Str.ofString "q").length + (T (TL.numL n)).length ≤ sizeLine := by
  have : n = 0 ∨ n = 1 := by omega
  rcases this with z | z <;> rw [z] <;> exact line_ok (by decide +kernel)
theorem txt_rf {rs : List Rf} (h : ∀ r ∈ rs, RfOk r) {j : Nat} (hj : j < rs.length) : Dna (txt rs j) ∧ 1 ≤ (txt rs j).length ∧ (txt rs j).length ≤ 45 := by
  have e : txt rs j = rs[j].2 := by
    have := txt_at hj
    rw [List.getElem?_map, List.getElem?_eq_getElem hj] at this
    exact (Option.some.inj this).symm
  rw [e]
  exact (h _ (List.getElem_mem hj)).2
/-- rows whose second item is the text of a read -/
def RDs (H : Hp) : List V → List (List Nat) → Prop := Paired fun v r => ∃ q n z, v = .ref q ∧ H q = some (.tup [n, .str (T r), z])
theorem RDs.mono {H H' : Hp} {xs : List V} {rs : List (List Nat)} (h : RDs H xs rs) (k : ∀ q ys, H q = some (.tup ys) → H' q = some (.tup ys)) : RDs H' xs rs := Paired.mapP h fun _ _ ⟨q, n, z, e, t⟩ => ⟨q, n, z, e, k q _ t⟩
theorem RDs.snoc {H : Hp} {xs : List V} {rs : List (List Nat)} {q : Addr} {r : List Nat} {n z : V} (h : RDs H xs rs) (e : H q = some (.tup [n, .str (T r), z])) : RDs H (xs ++ [.ref q]) (rs ++ [r]) := Paired.snoc h ⟨q, n, z, rfl, e⟩
section
variable {P : Program} {w : World} {K : PySem.W.Frag} {mg : Str → Option Value} {base : Heap}
def spLReads (K : PySem.W.Frag) : Sp := fun vs H Q _ => ∃ (a : Addr) (ns : List Int) (c : Nat) (n : Nat) (ar : Addr) (xr : List V) (rs : List Rf) (sz : Int), vs = [.ref a, .int (c : Int), .int (n : Int), .ref ar, .int sz] ∧ SqL K H a (ns.map V.int) ∧ n ≤ 2 ∧ SqL K H ar xr ∧ Tups H xr rs ∧ 1 ≤ rs.length ∧ (∀ r ∈ rs, RfOk r) ∧ 1 ≤ sz ∧ sz ≤ 100 ∧
  ∀ (H' : Hp) (p : Addr) (xs : List V) (ds : List (List Nat)), Same H H' → H p = none → H' p = some (.lst xs) → RDs H' xs ds → ds.length = n → (∀ d ∈ ds, Dna d ∧ d.length ≤ 400) → Q (.ref p) H'
theorem ok_lreads {f : Addr} {fd : FuncData} {m : Nat} (F : Fun K "_law_reads" "_law_reads" sLReads f fd) (B : Bl mg) (mstr : mg "str" = none) (hC : Has P w K mg base (m + 1) "_law_cell" ["script", "k"] (spCell K)) (hO : Has P w K mg base (m + 1) "_law_row" ["cell", "count", "bound"] (spRow K)) (hT : Has P w K mg base (m + 2) "_law_text" ["cell", "size"] (spText K)) (hLR : Has P w K mg base (m + 2) "_law_read" ["cell", "text", "size"] spLRead) :
    FnOk P w K mg base CX0 (m + 3) f fd ["script", "at", "count", "references", "size"] (spLReads K) := by
  obtain ⟨fC, dC, GC, gC, kC, bC⟩ := hC
  obtain ⟨fO, dO, GO, gO, kO, bO⟩ := hO
  obtain ⟨fT, dT', GT, gT, kT, bT⟩ := hT
  obtain ⟨fLR, dLR, GLR, gLR, kLR, bLR⟩ := hLR
  refine F.ok scLReads (fun vs H Q E h => ?_) (fun cdv A outer s H vs Q E hr h => ?_)
  · obtain ⟨a, ns, c, n, ar, xr, rs, sz, rfl, _⟩ := h
    rfl
  · obtain ⟨a, ns, c, n, ar, xr, rs, sz, rfl, hs, hn, har, htr, hr1', hrf, z1, z2, q⟩ := h
    have hr1 : Room (m + 1) _ := hr.mono (by omega)
    have hr2 : Room (m + 2) _ := hr
    refine ⟨_, (pss_cons (ps_set (i := 5) scLReads.nd rfl (.inl rfl) (pe_lst pa_nil))
      (pss_cons (ps_for PassesOwn.never rfl (pi_range1 rfl B.range (pa_cons (pv 2) pa_nil)) (pg_name (i := 6) scLReads.nd rfl (.inl rfl))
        (C8.pss_cut (ps_set (i := 7) scLReads.nd rfl (.inl rfl) (pe_call GC hr1 (by rfl) gC kC bC .nil pass0 (pa_cons (pv 0) (pa_cons (pe_op op_add (pv 1) (pv 6)) pa_nil))))
      (C8.pss_cut (ps_set (i := 8) scLReads.nd rfl (.inl rfl) (pe_call GT hr2 (by rfl) gT kT bT .nil pass0 (pa_cons (pv 7) (pa_cons (pe_op op_add pe_int (pe_op op_mod (pe_op op_fdiv (pe_callB call_abs (by rfl) B.abs (by decide +kernel) (pa_cons (pv 7) pa_nil)) pe_int) (pv 4))) pa_nil))))
      (C8.pss_cut (ps_if (pt_cmpR op_gt (pe_op op_mod (pv 7) pe_int) pe_int (nomark _)) (pss_one (ps_set (i := 8) scLReads.nd rfl (.inl rfl) (pe_call GLR hr2 (by rfl) gLR kLR bLR .nil pass0 (pa_cons (pv 7) (pa_cons (pe_ix ix_tup (pe_ix ix_list (pv 3) (pe_op op_mod (pe_op op_fdiv (pe_callB call_abs (by rfl) B.abs (by decide +kernel) (pa_cons (pv 7) pa_nil)) pe_int) (pe_callB call_len_seq (by rfl) B.len PySem.boot_len (pa_cons (pv 3) pa_nil))) (fun _ _ => rfl)) pe_int (fun _ _ => rfl)) (pa_cons (pe_callB call_len_str (by rfl) B.len PySem.boot_len (pa_cons (pv 8) pa_nil)) pa_nil)))))) pss_nil)
      (C8.pss_cut (ps_if (PW.pt (pw_and (pt_cmpR op_gt (pv 6) pe_int (nomark _)) (pw_and1 (pt_cmpR op_eq (pe_op op_mod (pe_op op_fdiv (pv 7) pe_int) pe_int) pe_int (nomark _))))) (pss_one (ps_set (i := 8) scLReads.nd rfl (.inl rfl) (pe_ix ix_tup (pe_ix ix_list (pv 5) pe_int (fun _ _ => rfl)) pe_int (fun _ _ => rfl)))) pss_nil)
      (C8.pss_cut (ps_set (i := 9) scLReads.nd rfl (.inl rfl) (pe_op op_add_str pe_str (pe_callTy call_strN (by rfl) mstr (by decide +kernel) (pa_cons (pe_op op_sub (pv 6) (pe_callTy call_int1 (by rfl) B.int (by decide +kernel) (pa_cons (pe_and (pe_cmpR op_gt (pv 6) pe_int (nomark _)) (pe_one (pe_cmpR op_eq (pe_op op_mod (pe_op op_fdiv (pv 7) pe_int) pe_int) pe_int (nomark _)))) pa_nil))) pa_nil))))
      (pss_one (ps_expr (pe_bm PySem.F.plainAttrs_list PySem.F.slot_list_append PySem.F.type_list_append mt_append (pv 5) (pa_cons (pe_tup (pa_cons (pv 9) (pa_cons (pv 8) (pa_cons (pe_call GO hr1 (by rfl) gO kO bO .nil pass0 (pa_cons (pe_op op_add (pv 7) pe_int) (pa_cons (pe_callB call_len_str (by rfl) B.len PySem.boot_len (pa_cons (pv 8) pa_nil)) (pa_cons pe_int pa_nil)))) pa_nil)))) pa_nil))))))))))
      (pss_one (ps_ret (pv 5))))), ?_⟩
    have hxl := paired_len htr
    refine ⟨Nat.zero_le _, fun p hp => ⟨.int n, rfl, n, rfl, by omega, by omega, ?_⟩⟩
    have s0 : Same H (upd H p (.lst [])) := same_upd hp
    refine for_range (lo := 0) (n := (n : Int).toNat) (fun i σ H' => ∃ (xs : List V) (ds : List (List Nat)) (v6 v7 v8 v9 : Option V), σ = [some (.ref a), some (.int (c : Int)), some (.int (n : Int)), some (.ref ar), some (.int sz), some (.ref p), v6, v7, v8, v9] ∧ Same H H' ∧ H' p = some (.lst xs) ∧ RDs H' xs ds ∧ ds.length = i ∧ ∀ d ∈ ds, Dna d ∧ d.length ≤ 400) ?_ ?_ ?_
    · exact ⟨[], [], none, none, none, none, rfl, s0, upd_same, .nil, rfl, fun r hr => (List.not_mem_nil hr).elim⟩
    · rintro i σ H1 hi ⟨xs, ds, v6, v7, v8, v9, rfl, s1, hx, hds, hdl, hd⟩
      refine ⟨fun σ H2 => H2 = H1 ∧ ∃ z : Int, σ = [some (.ref a), some (.int (c : Int)), some (.int (n : Int)), some (.ref ar), some (.int sz), some (.ref p), some (.int (0 + (i : Nat))), some (.int z), v8, v9], ?_, ?_⟩
      · exact ⟨.ref a, rfl, .int c, rfl, .int (0 + (i : Nat)), rfl, _, _, rfl, rfl, a, ns, c + i, by show [V.ref a, V.int ((c : Int) + (0 + (i : Nat)))] = _; rw [Int.zero_add]; rfl, s1.seq hs, fun z => ⟨rfl, z, rfl⟩⟩
      rintro σ H2 ⟨rfl, z, rfl⟩
      obtain ⟨y, hy, hy0⟩ : ∃ y : Int, y = (if z < 0 then -z else z) ∧ 0 ≤ y := ⟨_, rfl, by split <;> omega⟩
      refine ⟨fun σ H3 => Same H2 H3 ∧ ∃ l : List Nat, (Dna l ∧ l.length ≤ 400) ∧ σ = [some (.ref a), some (.int (c : Int)), some (.int (n : Int)), some (.ref ar), some (.int sz), some (.ref p), some (.int (0 + (i : Nat))), some (.int z), some (.str (Hr.T l)), v9], ?_, ?_⟩
      · refine ⟨.int z, rfl, .int z, rfl, z, rfl, _, 9, rfl, rfl, ⟨by decide, by decide⟩, .int sz, rfl, _, sz, rfl, rfl, (show (0 : Int) < sz by omega), 1, _, rfl, rfl, z, 1 + y / 9 % sz, (by rw [hy]; rfl), ?_, ?_, fun H3 l s3 dl ll => ⟨s3, l, ⟨dl, ?_⟩, rfl⟩⟩
        · have := Int.emod_nonneg (y / 9) (show sz ≠ 0 by omega)
          omega
        · have := Int.emod_lt_of_pos (y / 9) (show (0 : Int) < sz by omega)
          omega
        · have h1 := Int.emod_lt_of_pos (y / 9) (show (0 : Int) < sz by omega)
          omega
      rintro σ H3 ⟨s3, l0, hl0, rfl⟩
      have s03 := s1.trans s3
      have htr3 := htr.same s03
      have har3 := s03.seq har
      have hx3 := s3 _ _ hx
      have hds3 : RDs H3 xs ds := hds.mono fun q ys e => s3 _ _ e
      refine ⟨fun σ H4 => H4 = H3 ∧ ∃ l : List Nat, (Dna l ∧ l.length ≤ 400) ∧ σ = [some (.ref a), some (.int (c : Int)), some (.int (n : Int)), some (.ref ar), some (.int sz), some (.ref p), some (.int (0 + (i : Nat))), some (.int z), some (.str (Hr.T l)), v9], ?_, ?_⟩
      · refine ⟨.int z, rfl, z, 4, rfl, rfl, (show (0 : Int) < 4 by decide), _, 0, rfl, rfl, _, rfl, ite2 (fun _ => ?_) (fun _ => ⟨rfl, l0, hl0, rfl⟩)⟩
        refine ⟨.int z, rfl, .ref ar, rfl, .int z, rfl, z, rfl, _, 4, rfl, rfl, ⟨by decide, by decide⟩, .ref ar, rfl, ar, _, rfl, .inl har3, _, _, rfl, rfl, (show (0 : Int) < ((xr.length : Nat) : Int) by omega), ?_⟩
        rw [← hy]
        obtain ⟨j, hj⟩ : ∃ j : Nat, y / 4 % ((xr.length : Nat) : Int) = (j : Int) := ⟨(y / 4 % ((xr.length : Nat) : Int)).toNat, by
          have := Int.emod_nonneg (y / 4) (show ((xr.length : Nat) : Int) ≠ 0 by omega)
          omega⟩
        have hjl : j < rs.length := by
          have := Int.emod_lt_of_pos (y / 4) (show (0 : Int) < ((xr.length : Nat) : Int) by omega)
          omega
        obtain ⟨qa, ea, hqa⟩ := ref_at htr3 hjl
        have htx := txt_rf hrf hjl
        exact ⟨ar, _, _, .ref qa, rfl, rfl, har3, by show atI xr (y / 4 % ((xr.length : Nat) : Int)) = _; rw [hj]; exact atI_nat ea, qa, _, 1, .str (Hr.T (txt rs j)), rfl, rfl, .inl (.inl hqa), atI_nat (j := 1) rfl, .str (Hr.T l0), rfl, Hr.T l0, rfl, line_ok (by rw [T_len]; omega), z, txt rs j, _, rfl, htx.1, htx.2.1, by omega, fun l dl hll => ⟨rfl, l, ⟨dl, by omega⟩, rfl⟩⟩
      rintro σ H4 ⟨rfl, l1, hl1, rfl⟩
      refine ⟨fun σ H5 => H5 = H4 ∧ ∃ l : List Nat, (Dna l ∧ l.length ≤ 400) ∧ σ = [some (.ref a), some (.int (c : Int)), some (.int (n : Int)), some (.ref ar), some (.int sz), some (.ref p), some (.int (0 + (i : Nat))), some (.int z), some (.str (Hr.T l)), v9], ?_, ?_⟩
      · refine ⟨_, rfl, _, 0, rfl, rfl, _, rfl, ite2 (fun e => ?_) (fun e => iteF ⟨rfl, l1, hl1, rfl⟩)⟩
        refine ⟨.int z, rfl, z, 36, rfl, rfl, ⟨by decide, by decide⟩, _, 5, rfl, rfl, (show (0 : Int) < 5 by decide), rfl, _, rfl, ite2 (fun e2 => ?_) (fun e2 => ⟨rfl, l1, hl1, rfl⟩)⟩
        have hi0 : 0 < i := by
          have := of_decide_eq_true e
          omega
        have h0 : 0 < xs.length := by
          rw [paired_len hds3]
          omega
        obtain ⟨r, hr0, qa, nn, zz, ea, hqa⟩ := paired_get hds3 (List.getElem?_eq_getElem h0)
        exact ⟨.ref p, rfl, p, _, 0, .ref qa, rfl, rfl, .inl (.inl hx3), atI_nat (j := 0) (by rw [List.getElem?_eq_getElem h0, ea]), qa, _, 1, .str (Hr.T r), rfl, rfl, .inl (.inl hqa), atI_nat (j := 1) rfl, rfl, r, hd r (List.mem_of_getElem? hr0), rfl⟩
      rintro σ H5 ⟨rfl, l, hl, rfl⟩
      refine ⟨fun σ H6 => H6 = H5 ∧ ∃ nm : Str, σ = [some (.ref a), some (.int (c : Int)), some (.int (n : Int)), some (.ref ar), some (.int sz), some (.ref p), some (.int (0 + (i : Nat))), some (.int z), some (.str (Hr.T l)), some (.str nm)], ?_, ?_⟩
      · have num : ∀ t : Int, 0 ≤ (0 + (i : Int)) - t → (0 + (i : Int)) - t ≤ 1 → ∃ t' : Nat, (0 + (i : Int)) - t = (t' : Int) ∧ t' ≤ 1 := fun t h1 h2 => ⟨((0 + (i : Int)) - t).toNat, by omega, by omega⟩
        have hi2 : i < 2 := by omega
        have fin : ∀ c : Bool, (c = true → 0 < i) → ∃ n : Nat, (0 + (i : Int)) - (if c then 1 else 0) = (n : Int) ∧ n ≤ 1 := fun c hc => by
          cases c with
          | false => exact ⟨i, by simp, by omega⟩
          | true =>
            have := hc rfl
            exact ⟨i - 1, by simp; omega, by omega⟩
        refine ⟨_, rfl, _, rfl, _, 0, rfl, rfl, _, rfl, ite2 (fun e => ?_) (fun e => ?_)⟩
        · have hi0 : 0 < i := by
            have := of_decide_eq_true e
            omega
          refine ⟨_, rfl, _, 180, rfl, rfl, ⟨by decide, by decide⟩, _, 5, rfl, rfl, (show (0 : Int) < 5 by decide), rfl, ?_⟩
          obtain ⟨t, ht, ht1⟩ := fin _ (fun _ => hi0)
          exact .inr ⟨_, rfl, _, _, rfl, rfl, t, by rw [← ht], by omega, _, _, rfl, rfl, q_len t ht1, rfl, _, rfl⟩
        · obtain ⟨t, ht, ht1⟩ := fin false (fun y => nomatch y)
          exact .inr ⟨_, rfl, _, _, rfl, rfl, t, by rw [← ht], by omega, _, _, rfl, rfl, q_len t ht1, rfl, _, rfl⟩
      rintro σ H6 ⟨rfl, nm, rfl⟩
      refine ⟨.ref p, rfl, .inl ⟨rfl, _, .inl (.inl hx3)⟩, .str nm, rfl, .str (Hr.T l), rfl, .int z, rfl, z, 3, rfl, rfl, .str (Hr.T l), rfl, Hr.T l, rfl, line_ok (by rw [T_len]; omega), z + 3, (l.length : Nat), 41, by rw [T_len]; rfl, by omega, by omega, by decide, by decide, fun H7 pn xs7 s7 hpn hn7 _ _ => ?_⟩
      refine ⟨by show 3 ≤ sizeLine; decide, fun q2 hq2 => ?_⟩
      have hx7 := s7 _ _ hx3
      have npq : p ≠ q2 := ne_of_none hx7 hq2
      have hxl3 := paired_len hds3
      refine ⟨p, xs, _, rfl, rfl, by rw [upd_ne npq]; exact hx7, line_lt (by omega), xs ++ [.ref q2], ds ++ [l], _, _, _, _, rfl, same_new ((s03.trans s7).trans (same_upd hq2)) hp, upd_same, ?_, by rw [List.length_append, hdl]; rfl, fun d hd' => ?_⟩
      · refine RDs.snoc (n := .str nm) (z := .ref pn) (hds3.mono fun b ys hb => ?_) ?_
        · have e7 := s7 _ _ hb
          exact (upd_ne (fun y => by rw [y, hx7] at e7; cases e7)).trans (same_upd hq2 _ _ e7)
        · exact (upd_ne npq.symm).trans upd_same
      · rcases List.mem_append.mp hd' with y | y
        · exact hd d y
        · rw [List.mem_singleton.mp y]
          exact hl
    · rintro σ H' ⟨xs, ds, v6, v7, v8, v9, rfl, s1, hx, hds, hdl, hd⟩
      exact ⟨_, rfl, q H' p xs ds s1 hp hx hds (by omega) hd⟩
end
/-! ### pairs turned about -/
def swp (p : Pr) : Pr := (p.2, p.1)
theorem fit_swp {lo hi n1 n2 : Int} {a b : Ht} (ha : s01 a) (hb : s01 b) : fit lo hi n2 n1 b a = fit lo hi n1 n2 a b := by
  unfold fit
  by_cases c : a.2.1 = b.2.1
  · rw [decide_eq_false (show ¬ a.2.1 ≠ b.2.1 from fun z => z c), decide_eq_false (show ¬ b.2.1 ≠ a.2.1 from fun z => z c.symm)]
    simp only [Bool.false_and, Bool.and_false]
  · have e : (if a.2.1 = 1 then a.2.2.1 - b.2.2.1 + n2 else b.2.2.1 - a.2.2.1 + n1) = (if b.2.1 = 1 then b.2.2.1 - a.2.2.1 + n1 else a.2.2.1 - b.2.2.1 + n2) := by
      rcases ha with h | h <;> rcases hb with g | g
      · exact absurd (h.trans g.symm) c
      · rw [if_neg (by omega), if_pos g]
      · rw [if_pos h, if_neg (by omega)]
      · exact absurd (h.trans g.symm) c
    rw [e]
    have e1 : decide (b.1 = a.1) = decide (a.1 = b.1) := decide_eq_decide.mpr ⟨fun z => z.symm, fun z => z.symm⟩
    have e2 : decide (b.2.1 ≠ a.2.1) = decide (a.2.1 ≠ b.2.1) := decide_eq_decide.mpr ⟨fun z y => z y.symm, fun z y => z y.symm⟩
    rw [e1, e2]
theorem col_perm {lo hi n1 n2 : Int} {b : Ht} {hs2 : List Ht} : ∀ hs1 : List Ht, (hs1.flatMap (rowF lo hi n1 n2 (b :: hs2))).Perm (((hs1.filter fun a => fit lo hi n1 n2 a b).map fun a => (a, b)) ++ hs1.flatMap (rowF lo hi n1 n2 hs2))
  | [] => .nil
  | a :: hs1 => by
    have ih := col_perm hs1 (lo := lo) (hi := hi) (n1 := n1) (n2 := n2) (b := b) (hs2 := hs2)
    rw [List.flatMap_cons, List.flatMap_cons, List.filter_cons]
    have e : rowF lo hi n1 n2 (b :: hs2) a = (if fit lo hi n1 n2 a b then [(a, b)] else []) ++ rowF lo hi n1 n2 hs2 a := by
      unfold rowF
      rw [List.filter_cons]
      split <;> rfl
    rw [e]
    by_cases c : fit lo hi n1 n2 a b = true
    · rw [if_pos c, if_pos c, List.map_cons, List.cons_append, List.nil_append, List.cons_append, List.cons_append]
      refine .cons _ ?_
      refine (List.Perm.append_left _ ih).trans ?_
      rw [← List.append_assoc, ← List.append_assoc]
      exact List.Perm.append_right _ List.perm_append_comm
    · rw [if_neg c, if_neg c, List.nil_append]
      refine (List.Perm.append_left _ ih).trans ?_
      rw [← List.append_assoc, ← List.append_assoc]
      exact List.Perm.append_right _ List.perm_append_comm
theorem allP_swp {lo hi n1 n2 : Int} {hs1 : List Ht} (h1 : ∀ a ∈ hs1, s01 a) : ∀ {hs2 : List Ht}, (∀ b ∈ hs2, s01 b) → (allP lo hi n2 n1 hs2 hs1).Perm ((allP lo hi n1 n2 hs1 hs2).map swp)
  | [], _ => by
    have e : ∀ l : List Ht, l.flatMap (rowF lo hi n1 n2 []) = [] := fun l => by
      induction l with
      | nil => rfl
      | cons a l ih => rw [List.flatMap_cons, ih]; rfl
    unfold allP
    rw [e]
    exact .nil
  | b :: hs2, h2 => by
    have ih := allP_swp h1 (hs2 := hs2) (lo := lo) (hi := hi) (n1 := n1) (n2 := n2) fun b hb => h2 b (List.mem_cons_of_mem _ hb)
    unfold allP at ih ⊢
    rw [List.flatMap_cons]
    refine .trans ?_ ((col_perm hs1).map swp).symm
    rw [List.map_append]
    refine .append ?_ ih
    unfold rowF
    rw [List.map_map]
    have e : (hs1.filter fun a => fit lo hi n1 n2 a b) = hs1.filter (fit lo hi n2 n1 b) := by
      refine List.filter_congr fun a ha => ?_
      exact (fit_swp (h1 a ha) (h2 b List.mem_cons_self)).symm
    rw [e]
    exact .refl _
/-- what the law takes from the fitting pairs -/
structure ExpR (ps es : List Pr) : Prop where
  no : ps = [] → es = []
  yes : ∀ c, LeastP ps c → es = atC ps c
theorem leastP_ex {ps : List Pr} (h : ps ≠ []) : ∃ c, LeastP ps c := by
  cases ps with
  | nil => exact absurd rfl h
  | cons p ps =>
    obtain ⟨h1, h2, h3⟩ := foldl_min (ps.map cst) (cst p)
    refine ⟨(ps.map cst).foldl min (cst p), ?_, fun q hq => ?_⟩
    · rcases h1 with z | z
      · exact ⟨p, List.mem_cons_self, z.symm⟩
      · obtain ⟨q, hq, e⟩ := List.mem_map.mp z
        exact ⟨q, List.mem_cons_of_mem _ hq, e⟩
    · rcases List.mem_cons.mp hq with z | z
      · rw [z]; exact h2
      · exact h3 _ (List.mem_map_of_mem z)
theorem best_exp {ps R es : List Pr} (h : BestR ps R) (g : ExpR ps es) : R = srtP es := by
  by_cases c : ps = []
  · rw [h.no c, g.no c]
    exact (List.Perm.eq_nil (srtP_perm [])).symm
  · obtain ⟨m, hm⟩ := leastP_ex c
    rw [h.yes m hm, g.yes m hm]
theorem cst_swp (p : Pr) : cst (swp p) = cst p := Int.add_comm _ _
theorem best_swp {ps ps' R es : List Pr} (hp : ps'.Perm (ps.map swp)) (h : BestR ps' R) (g : ExpR ps es) : R = srtP (es.map swp) := by
  by_cases c : ps = []
  · rw [c] at hp
    rw [h.no (List.Perm.eq_nil hp), g.no c]
    exact (List.Perm.eq_nil (srtP_perm [])).symm
  · obtain ⟨m, hm⟩ := leastP_ex c
    have hm' : LeastP ps' m := by
      obtain ⟨⟨p, hp1, e⟩, hle⟩ := hm
      refine ⟨⟨swp p, hp.mem_iff.mpr (List.mem_map_of_mem hp1), by rw [cst_swp]; exact e⟩, fun q hq => ?_⟩
      obtain ⟨r, hr, rfl⟩ := List.mem_map.mp (hp.mem_iff.mp hq)
      rw [cst_swp]
      exact hle r hr
    rw [h.yes m hm', g.yes m hm]
    refine srtP_same ?_
    unfold atC
    refine (hp.filter _).trans ?_
    rw [List.filter_map]
    have e : (fun p => decide (cst p = m)) ∘ swp = fun p => decide (cst p = m) := funext fun p => by
      show decide (cst (swp p) = m) = _
      rw [cst_swp]
    rw [e]
/-! ### lists of pairs as data -/
def dPs (ps : List Pr) : PyData := .list (ps.map dPr)
theorem can_dPs (ps : List Pr) : (dPs ps).canLay0 = true := by
  show PyData.canLayAll0 (ps.map dPr) = true
  induction ps with
  | nil => rfl
  | cons h hs ih => exact ih
theorem shaped_dPs (ps : List Pr) : SeqAt.shaped (dPs ps) = true := by
  have h : PyData.depthAll (ps.map dPr) ≤ 2 := by
    induction ps with
    | nil => exact Nat.zero_le _
    | cons h hs ih =>
      show max (max (max 0 (max 0 (max 0 (max 0 0))) + 1) (max (max 0 (max 0 (max 0 (max 0 0))) + 1) 0) + 1) (PyData.depthAll (hs.map dPr)) ≤ 2
      omega
  have h2 : PyData.depth (dPs ps) ≤ 64 := by
    show PyData.depthAll (ps.map dPr) + 1 ≤ 64
    omega
  unfold SeqAt.shaped
  rw [can_dPs, decide_eq_true h2]
  rfl
theorem eqv_dPs (ps : List Pr) : PyData.eqv (dPs ps) (dPs ps) = true := SeqAt.eqv_refl _ (can_dPs ps)
theorem dp_prs {K : PySem.W.Frag} {H : Hp} : ∀ {xs : List V} {ps : List Pr}, Prs H xs ps → DpAll K H xs (ps.map dPr)
  | _, _, .nil => .nil
  | _, _, .cons ⟨q, a, b, e, t1, t2, t3⟩ t => by
    subst e
    exact .cons (dp_pr t1 t2 t3) (dp_prs t)
theorem dp_dPs {K : PySem.W.Frag} {H : Hp} {a : Addr} {xs : List V} {ps : List Pr} (h : SqL K H a xs) (t : Prs H xs ps) : Dp K H (.ref a) (dPs ps) := .lst h (dp_prs t)
theorem hAll_len {rs : List Rf} {l : List Nat} {k : Nat} (hl : rs.length ≤ 3) (ht : ∀ r, (txt rs r).length ≤ 45) : (hAll rs l k).length ≤ 1000 := by
  rw [← hAllN_all]
  unfold hAllN
  have h := fm_le (fun r => hSt rs l k r 2) 92 (List.range rs.length) fun r _ => by
    show (hSt rs l k r 2).length ≤ 92
    rw [hSt_two, List.length_append]
    have h1 := hRow_len l (txt rs r) k (r : Int) 0
    have h2 := hRow_len (turn l) (txt rs r) k (r : Int) 1
    have := ht r
    omega
  rw [List.length_range] at h
  have := Nat.mul_le_mul_right 92 hl
  omega
/-! ### the law of the best pairs -/
def NL : List Str := ["script", "first", "references", "index", "reads", "one", "two", "text", "at", "k", "low", "high", "fitting", "others", "a", "b", "span", "expected", "least", "told"]
theorem scLaw : FnScope NL ["script"] (defScope sLaw) := ⟨rfl, rfl, rfl, by decide +kernel, rfl, by decide +kernel, by decide +kernel⟩
theorem iteF2 {b : Bool} {P Q : Prop} (h : b = false) (q : Q) : if b = true then P else Q := by
  rw [h, if_neg (by decide)]
  exact q
theorem strA : (Str.ofString "A" : Str) = T [65] := by decide +kernel
theorem del_trans {A B C : Hp} {d : Addr} (h1 : Same (del A d) B) (h2 : Same (del B d) C) : Same (del A d) C := fun b o e => by
  have n : b ≠ d := fun z => by rw [z, del_none] at e; cases e
  exact h2 _ _ (del_at (h1 _ _ e) n)
theorem del_of {A B C : Hp} {d : Addr} (h1 : Same A B) (h2 : Same (del B d) C) : Same (del A d) C := fun b o e => by
  have n : b ≠ d := fun z => by rw [z, del_none] at e; cases e
  refine h2 _ _ (del_at (h1 _ _ ?_) n)
  unfold del at e
  rw [if_neg n] at e
  exact e
theorem del_free {A B C : Hp} {d : Addr} (h0 : A d = none) (h1 : Same A B) (h2 : Same (del B d) C) : Same A C := fun b o e => h2 _ _ (del_at (h1 _ _ e) fun z => by rw [z, h0] at e; cases e)
theorem it2 {H : Hp} {xs : List V} {ps : List Pr} {j : Nat} {y : V} (h : Prs H xs ps) (e : xs[j]? = some y) : ∃ p q a b, ps[j]? = some p ∧ y = .ref q ∧ H q = some (.tup [.ref a, .ref b]) ∧ H a = some (.tup ((it4 p.1).map V.int)) ∧ H b = some (.tup ((it4 p.2).map V.int)) := by
  obtain ⟨p, hp, q, a, b, e1, e2, e3, e4⟩ := paired_get h e
  exact ⟨p, q, a, b, hp, e1, e2, e3, e4⟩
section
variable {P : Program} {w : World} {K : PySem.W.Frag} {mg : Str → Option Value} {base : Heap}
def spLaw (K : PySem.W.Frag) : Sp := fun vs H Q _ => ∃ (a : Addr) (ns : List Int), vs = [.ref a] ∧ SqL K H a (ns.map V.int) ∧ ∀ H', Q (.bl true) H'
theorem rf_jl {rs : List Rf} (h : ∀ r ∈ rs, RfOk r) (hl : rs.length ≤ 3) : jl rs ≤ 4000 := by
  have := jl_le (n := 45) fun r hr => (h r hr).2.2.2
  have h2 := Nat.mul_le_mul_right (45 + 1) hl
  omega
theorem ok_law {f C : Addr} {fd : FuncData} (F : Fun K "law" "law" sLaw f fd) (B : Bl mg) (mlist : mg "list" = none) (mmin : mg "min" = none) (mmax : mg "max" = none) (msort : mg "sorted" = none) (X : IxT K mg C) (hCe : Has P w K mg base 2 "_law_cell" ["script", "k"] (spCell K))
    (hR : Has P w K mg base 4 "_law_references" ["script", "at", "count"] (spLRefs K)) (hU : Has P w K mg base 2 "_law_turned" ["text"] spLTurned) (hRD : Has P w K mg base 4 "_law_reads" ["script", "at", "count", "references", "size"] (spLReads K))
    (hI : HasI P w K mg base C 5) (hBP : Has P w K mg base 11 "best_pairs" ["index", "first", "second", "k", "low", "high"] (spBest C)) (hLH : Has P w K mg base 4 "_law_hits" ["references", "read", "k"] (spLHits K)) : FnOk P w K mg base CX0 12 f fd ["script"] (spLaw K) := by
  obtain ⟨fC, dC, GC, gC, kC, bC⟩ := hCe
  obtain ⟨fR, dR', GR, gR, kR, bR⟩ := hR
  obtain ⟨fU, dU, GU, gU, kU, bU⟩ := hU
  obtain ⟨fRD, dRD, GRD, gRD, kRD, bRD⟩ := hRD
  obtain ⟨fI, dI', mv, ds, MI, GI, kbI, hvI, hbI⟩ := hI
  obtain ⟨fBP, dBP, GBP, gBP, kBP, bBP⟩ := hBP
  obtain ⟨fLH, dLH, GLH, gLH, kLH, bLH⟩ := hLH
  refine F.ok scLaw (fun vs H Q E h => ?_) (fun cdv A outer s H vs Q E hr h => ?_)
  · obtain ⟨c, ns, rfl, _⟩ := h
    rfl
  · obtain ⟨a, ns, rfl, hsq, q⟩ := h
    have hr11 : Room 11 _ := hr
    have hr6 : Room 6 _ := hr.mono (by omega)
    have hr4 : Room 4 _ := hr.mono (by omega)
    have hr2 : Room 2 _ := hr.mono (by omega)
    refine ⟨_, (C8.pss_cut (ps_set (i := 1) scLaw.nd rfl (.inl rfl) (pe_call GC hr2 (by rfl) gC kC bC .nil pass0 (pa_cons (pv 0) (pa_cons pe_int pa_nil))))
      (C8.pss_cut (ps_set (i := 2) scLaw.nd rfl (.inl rfl) (pe_call GR hr4 (by rfl) gR kR bR .nil pass0 (pa_cons (pv 0) (pa_cons pe_int (pa_cons (pe_op op_add pe_int (pe_op op_mod (pv 1) pe_int)) pa_nil)))))
      (C8.pss_cut (ps_set (i := 3) scLaw.nd rfl (.inl rfl) (pe_makeK MI GI hr6 (by rfl) X.mgC kbI pass0 (pa_cons (pv 2) pa_nil) (pk_cons (pe_op op_add pe_int (pe_op op_mod (pe_op op_fdiv (pv 1) pe_int) pe_int)) (pk_cons (pe_op op_add pe_int (pe_op op_mod (pe_op op_fdiv (pv 1) pe_int) pe_int)) pk_nil))))
      (C8.pss_cut (ps_set (i := 4) scLaw.nd rfl (.inl rfl) (pe_call GRD hr4 (by rfl) gRD kRD bRD .nil pass0 (pa_cons (pv 0) (pa_cons pe_int (pa_cons pe_int (pa_cons (pv 2) (pa_cons pe_int pa_nil)))))))
      (C8.pss_cut (ps_set (i := 5) scLaw.nd rfl (.inl rfl) (pe_ix ix_tup (pe_ix ix_list (pv 4) pe_int (fun _ _ => rfl)) pe_int (fun _ _ => rfl)))
      (C8.pss_cut (ps_set (i := 6) scLaw.nd rfl (.inl rfl) (pe_ix ix_tup (pe_ix ix_list (pv 4) pe_int (fun _ _ => rfl)) pe_int (fun _ _ => rfl)))
      (C8.pss_cut (ps_if (pt_cmpR op_gt (pe_op op_mod (pe_call GC hr2 (by rfl) gC kC bC .nil pass0 (pa_cons (pv 0) (pa_cons pe_int pa_nil))) pe_int) pe_int (nomark _)) (C8.pss_cut (ps_set (i := 7) scLaw.nd rfl (.inl rfl) (pe_ix ix_tup (pe_ix ix_list (pv 2) (pe_op op_mod (pe_call GC hr2 (by rfl) gC kC bC .nil pass0 (pa_cons (pv 0) (pa_cons pe_int pa_nil))) (pe_callB call_len_seq (by rfl) B.len PySem.boot_len (pa_cons (pv 2) pa_nil))) (fun _ _ => rfl)) pe_int (fun _ _ => rfl)))
      (C8.pss_cut (ps_set (i := 8) scLaw.nd rfl (.inl rfl) (pe_op op_mod (pe_call GC hr2 (by rfl) gC kC bC .nil pass0 (pa_cons (pv 0) (pa_cons pe_int pa_nil))) (pe_callB call_len_str (by rfl) B.len PySem.boot_len (pa_cons (pv 7) pa_nil))))
      (C8.pss_cut (ps_set (i := 5) scLaw.nd rfl (.inl rfl) (pe_slice sl_str (pv 7) (po_some (pv 8)) (po_some (pe_op op_add (pv 8) pe_int))))
      (pss_one (ps_set (i := 6) scLaw.nd rfl (.inl rfl) (pe_call GU hr2 (by rfl) gU kU bU .nil pass0 (pa_cons (pe_op op_add_str (pe_slice sl_str (pv 7) (po_some (pe_op op_add (pv 8) pe_int)) (po_some (pe_op op_add (pv 8) pe_int))) pe_str) pa_nil))))))) pss_nil)
      (C8.pss_cut (ps_set (i := 9) scLaw.nd rfl (.inl rfl) (pe_op op_mod (pe_call GC hr2 (by rfl) gC kC bC .nil pass0 (pa_cons (pv 0) (pa_cons pe_int pa_nil))) pe_int))
      (C8.pss_cut (ps_if (pt_cmpR op_eq (pe_op op_mod (pe_op op_fdiv (pe_call GC hr2 (by rfl) gC kC bC .nil pass0 (pa_cons (pv 0) (pa_cons pe_int pa_nil))) pe_int) pe_int) pe_int (nomark _)) (pss_one (ps_set (i := 9) scLaw.nd rfl (.inl rfl) (pe_op op_mod (pe_op op_fdiv (pe_call GC hr2 (by rfl) gC kC bC .nil pass0 (pa_cons (pv 0) (pa_cons pe_int pa_nil))) pe_int) pe_int))) pss_nil)
      (C8.pss_cut (ps_set (i := 10) scLaw.nd rfl (.inl rfl) (pe_op op_mod (pe_call GC hr2 (by rfl) gC kC bC .nil pass0 (pa_cons (pv 0) (pa_cons pe_int pa_nil))) pe_int))
      (C8.pss_cut (ps_set (i := 11) scLaw.nd rfl (.inl rfl) (pe_callB (call_max2 rfl) (by rfl) mmax (by decide +kernel) (pa_cons pe_int (pa_cons (pe_op op_sub (pe_op op_add (pv 10) (pe_op op_mod (pe_op op_fdiv (pe_call GC hr2 (by rfl) gC kC bC .nil pass0 (pa_cons (pv 0) (pa_cons pe_int pa_nil))) pe_int) pe_int)) pe_int) pa_nil))))
      (C8.pss_cut (ps_if (pt_cmpR op_eq (pe_op op_mod (pe_op op_fdiv (pe_call GC hr2 (by rfl) gC kC bC .nil pass0 (pa_cons (pv 0) (pa_cons pe_int pa_nil))) pe_int) pe_int) pe_int (nomark _)) (pss_one (ps_set (i := 11) scLaw.nd rfl (.inl rfl) (pe_op op_add (pv 11) pe_int))) pss_nil)
      (pss_cons (ps_set (i := 12) scLaw.nd rfl (.inl rfl) (pe_lst pa_nil))
      (C8.pss_cut (ps_set (i := 13) scLaw.nd rfl (.inl rfl) (pe_call GLH hr4 (by rfl) gLH kLH bLH .nil pass0 (pa_cons (pv 2) (pa_cons (pv 6) (pa_cons (pv 9) pa_nil)))))
      (C8.pss_cut (ps_for PassesOwn.never rfl (pi_list (pe_call GLH hr4 (by rfl) gLH kLH bLH .nil pass0 (pa_cons (pv 2) (pa_cons (pv 5) (pa_cons (pv 9) pa_nil))))) (pg_name (i := 14) scLaw.nd rfl (.inl rfl))
        (pss_one (ps_for PassesOwn.never rfl (pi_list (pv 13)) (pg_name (i := 15) scLaw.nd rfl (.inl rfl))
        (C8.pss_cut (ps_set (i := 16) scLaw.nd rfl (.inl rfl) (pe_op op_add (pe_op op_sub (pe_ix ix_tup (pv 15) pe_int (fun _ _ => rfl)) (pe_ix ix_tup (pv 14) pe_int (fun _ _ => rfl))) (pe_callB call_len_str (by rfl) B.len PySem.boot_len (pa_cons (pv 5) pa_nil))))
      (C8.pss_cut (ps_if (pt_cmpR op_eq (pe_ix ix_tup (pv 14) pe_int (fun _ _ => rfl)) pe_int (nomark _)) (pss_one (ps_set (i := 16) scLaw.nd rfl (.inl rfl) (pe_op op_add (pe_op op_sub (pe_ix ix_tup (pv 14) pe_int (fun _ _ => rfl)) (pe_ix ix_tup (pv 15) pe_int (fun _ _ => rfl))) (pe_callB call_len_str (by rfl) B.len PySem.boot_len (pa_cons (pv 6) pa_nil))))) pss_nil)
      (pss_one (ps_if (PW.pt (pw_and (pt_cmpR op_eq (pe_ix ix_tup (pv 14) pe_int (fun _ _ => rfl)) (pe_ix ix_tup (pv 15) pe_int (fun _ _ => rfl)) (nomark _)) (pw_and (pt_cmpR op_ne (pe_ix ix_tup (pv 14) pe_int (fun _ _ => rfl)) (pe_ix ix_tup (pv 15) pe_int (fun _ _ => rfl)) (nomark _)) (pw_and1 (pt_chain op_le op_le (pv 10) (pv 16) (pv 11)))))) (pss_one (ps_expr (pe_bm PySem.F.plainAttrs_list PySem.F.slot_list_append PySem.F.type_list_append mt_append (pv 12) (pa_cons (pe_tup (pa_cons (pv 14) (pa_cons (pv 15) pa_nil))) pa_nil)))) pss_nil)))))))
      (C8.pss_cut (ps_set (i := 17) scLaw.nd rfl (.inl rfl) (pe_lst pa_nil))
      (C8.pss_cut (ps_if (pt_cmpR op_gt (pe_callB call_len_seq (by rfl) B.len PySem.boot_len (pa_cons (pv 12) pa_nil)) pe_int (nomark _)) (C8.pss_cut (ps_set (i := 18) scLaw.nd rfl (.inr rfl) (pe_callB (cr_min (by rfl)) (by rfl) mmin (by decide +kernel) (pa_cons (pe_lc (own := [("a", 14), ("b", 15)]) (g := gTup K 2 (gCons (gName 14) (gCons (gName 15) gNil))) (tt := tYes) (te := (tOp (rI0 fun i j => V.int (i + j)) (tOp (rIxT K) (tVar 14) (tC (.int 3))) (tOp (rIxT K) (tVar 15) (tC (.int 3))))) (by rfl) scLaw.nd (pi_list (pv 12)) (blkOk_by (own := [("a", 14), ("b", 15)]) (N := NL) (sc := defScope sLaw) (by decide +kernel)) (fun _ _ _ _ _ => pg_tup rfl (pgs_cons (pg_name (i := 14) scLaw.nd rfl (Or.inl rfl)) (pgs_cons (pg_name (i := 15) scLaw.nd rfl (Or.inl rfl)) pgs_nil))) (fun _ _ _ _ _ => pts_nil) (fun _ _ _ _ _ => (pe_op op_add (pe_ix (r := rIxT K) ix_tup (pv 14) pe_int (fun _ _ => rfl)) (pe_ix (r := rIxT K) ix_tup (pv 15) pe_int (fun _ _ => rfl))))) pa_nil)))
      (pss_one (ps_setLc (i := 17) (own := [("a", 14), ("b", 15)]) (g := gTup K 2 (gCons (gName 14) (gCons (gName 15) gNil))) (tt := tTest (tOp rEq (tOp (rI0 fun i j => V.int (i + j)) (tOp (rIxT K) (tVar 14) (tC (.int 3))) (tOp (rIxT K) (tVar 15) (tC (.int 3)))) (tVar 18))) (te := tTup (tCons (tVar 14) (tCons (tVar 15) tNil))) (by rfl) scLaw.nd rfl rfl (sw_true rfl rfl rfl (by decide +kernel)) (pi_list (pv 12)) (blkOk_by (own := [("a", 14), ("b", 15)]) (N := NL) (sc := defScope sLaw) (by decide +kernel)) (fun _ _ _ _ _ => pg_tup rfl (pgs_cons (pg_name (i := 14) scLaw.nd rfl (Or.inl rfl)) (pgs_cons (pg_name (i := 15) scLaw.nd rfl (Or.inl rfl)) pgs_nil))) (fun _ _ _ _ _ => pts_one (pt_cmpR op_eq (pe_op op_add (pe_ix (r := rIxT K) ix_tup (pv 14) pe_int (fun _ _ => rfl)) (pe_ix (r := rIxT K) ix_tup (pv 15) pe_int (fun _ _ => rfl))) (pv 18) (nomark _))) (fun _ _ _ _ _ => (pe_tup (pa_cons (pv 14) (pa_cons (pv 15) pa_nil))))))) pss_nil)
      (C8.pss_cut (ps_expr (pe_call GBP hr11 (by rfl) gBP kBP bBP .nil pass0 (pa_cons (pv 3) (pa_cons (pv 6) (pa_cons (pv 5) (pa_cons (pe_op op_mod (pe_callTy call_int1 (by rfl) B.int (by decide +kernel) (pa_cons (pe_op op_add (pv 9) pe_int) pa_nil)) pe_int) (pa_cons (pv 10) (pa_cons (pv 11) pa_nil))))))))
      (C8.pss_cut (ps_set (i := 19) scLaw.nd rfl (.inl rfl) (pe_call GBP hr11 (by rfl) gBP kBP bBP .nil pass0 (pa_cons (pv 3) (pa_cons (pv 5) (pa_cons (pv 6) (pa_cons (pv 9) (pa_cons (pv 10) (pa_cons (pv 11) pa_nil))))))))
      (C8.pss_cut (ps_if (PW.pt (pw_or (pt_not (pt_val (pe_callB call_isi (by rfl) B.isin (by decide +kernel) (pa_cons (pv 19) (pa_cons (pe_bltn (v := .ty "list") (by rfl) mlist (by decide +kernel) rfl) pa_nil))))) (pw_or1 (pt_cmpR (op_neD hr.units) (pv 19) (pe_callB (cr_sortedD (enc := dPr) hr.units) (by rfl) msort (by decide +kernel) (pa_cons (pv 17) pa_nil)) (nomark _))))) (pss_one (ps_ret pe_bl)) pss_nil)
      (pss_one (ps_ret (pe_cmpR (op_eqD hr.units) (pe_call GBP hr11 (by rfl) gBP kBP bBP .nil pass0 (pa_cons (pv 3) (pa_cons (pv 6) (pa_cons (pv 5) (pa_cons (pv 9) (pa_cons (pv 10) (pa_cons (pv 11) pa_nil))))))) (pe_callB (cr_sortedD (enc := dPr) hr.units) (by rfl) msort (by decide +kernel) (pa_cons (pe_lc (own := [("a", 14), ("b", 15)]) (g := gTup K 2 (gCons (gName 14) (gCons (gName 15) gNil))) (tt := tYes) (te := tTup (tCons (tVar 15) (tCons (tVar 14) tNil))) (by rfl) scLaw.nd (pi_list (pv 17)) (blkOk_by (own := [("a", 14), ("b", 15)]) (N := NL) (sc := defScope sLaw) (by decide +kernel)) (fun _ _ _ _ _ => pg_tup rfl (pgs_cons (pg_name (i := 14) scLaw.nd rfl (Or.inl rfl)) (pgs_cons (pg_name (i := 15) scLaw.nd rfl (Or.inl rfl)) pgs_nil))) (fun _ _ _ _ _ => pts_nil) (fun _ _ _ _ _ => (pe_tup (pa_cons (pv 15) (pa_cons (pv 14) pa_nil))))) pa_nil)) (nomark _)))))))))))))))))))))))), ?_⟩
    refine ⟨fun σ H' => H' = H ∧ ∃ c1 : Int, σ = [some (.ref a), some (.int c1), none, none, none, none, none, none, none, none, none, none, none, none, none, none, none, none, none, none], ?_, ?_⟩
    · exact ⟨.ref a, rfl, a, ns, 0, rfl, hsq, fun z => ⟨rfl, z, rfl⟩⟩
    rintro σ H' ⟨rfl, c1, rfl⟩
    -- references
    refine ⟨fun σ H1 => Same H' H1 ∧ ∃ (pr : Addr) (xs : List V) (rs : List Rf), H' pr = none ∧ H1 pr = some (.lst xs) ∧ Tups H1 xs rs ∧ 1 ≤ rs.length ∧ rs.length ≤ 3 ∧ (∀ r ∈ rs, RfOk r) ∧ σ = [some (.ref a), some (.int c1), some (.ref pr), none, none, none, none, none, none, none, none, none, none, none, none, none, none, none, none, none], ?_, ?_⟩
    · obtain ⟨n, hn⟩ : ∃ n : Nat, 1 + c1 % 3 = (n : Int) := ⟨(1 + c1 % 3).toNat, by omega⟩
      refine ⟨.ref a, rfl, .int c1, rfl, c1, 3, rfl, rfl, (show (0 : Int) < 3 by decide), 1, _, rfl, rfl, a, ns, 3, n, congrArg (fun z => [V.ref a, V.int 3, V.int z]) hn, hsq, by omega, fun H1 pr xs rs s1 hpr hr1 ht1 hl1 hg => ⟨s1, pr, xs, rs, hpr, hr1, ht1, by omega, by omega, hg, rfl⟩⟩
    rintro σ H1 ⟨s1, pr, xs, rs, hpr, hr1, ht1, hl1, hl3, hg, rfl⟩
    have dna : ∀ r ∈ rs, Dna r.2 := fun r hr => (hg r hr).2.1
    have hjl := rf_jl hg hl3
    obtain ⟨b, hb⟩ : ∃ b : Nat, 1 + c1 / 3 % 9 = (b : Int) := ⟨(1 + c1 / 3 % 9).toNat, by omega⟩
    obtain ⟨sz, hsz⟩ : ∃ s : Nat, 1 + c1 / 27 % 5 = (s : Int) := ⟨(1 + c1 / 27 % 5).toNat, by omega⟩
    have hok : IxOk rs b sz := ⟨hl1, dna, hjl, by omega, by omega, by omega, by omega⟩
    -- the index
    refine ⟨fun σ H3 => Same H1 H3 ∧ ∃ x, Ixd C H3 x rs b sz ∧ σ = [some (.ref a), some (.int c1), some (.ref pr), some (.ref x), none, none, none, none, none, none, none, none, none, none, none, none, none, none, none, none], ?_, ?_⟩
    · refine ⟨.ref pr, rfl, .int c1, rfl, c1, 3, rfl, rfl, ⟨by decide, by decide⟩, _, 9, rfl, rfl, (show (0 : Int) < 9 by decide), 1, _, rfl, rfl, .int c1, rfl, c1, 27, rfl, rfl, ⟨by decide, by decide⟩, _, 5, rfl, rfl, (show (0 : Int) < 5 by decide), 1, _, rfl, rfl, rfl, rfl, fun x dx nx ndx nex => ?_⟩
      refine ⟨x, pr, dx, xs, rs, b, sz, by show [V.ref x, V.ref pr, V.int (1 + c1 / 3 % 9), V.int (1 + c1 / 27 % 5)] = _; rw [hb, hsz], upd_same, .inl (.inl ?_), ?_, hl1, dna, hjl, by omega, by omega, by omega, by omega, fun H' sb ixn => ⟨rfl, ?_⟩⟩
      · rw [upd_ne (ne_of_none hr1 nx), upd_ne (ne_of_none hr1 ndx)]
        exact hr1
      · exact ht1.mono fun z ys e => by rw [upd_ne (ne_of_none e nx), upd_ne (ne_of_none e ndx)]; exact e
      · obtain ⟨sm, ixn⟩ := made nx ndx sb ixn
        exact ⟨sm, x, ixn.ix, rfl⟩
    rintro σ H3 ⟨s3, x, hix, rfl⟩
    have hr3' := s3 _ _ hr1
    have ht3 := ht1.same s3
    have hsq3 := (s1.trans s3).seq hsq
    have hxl := paired_len ht3
    -- the reads
    refine ⟨fun σ H4 => Same H3 H4 ∧ ∃ (pq : Addr) (qs : List V) (rd : List (List Nat)), H4 pq = some (.lst qs) ∧ RDs H4 qs rd ∧ rd.length = 2 ∧ (∀ d ∈ rd, Dna d ∧ d.length ≤ 400) ∧ σ = [some (.ref a), some (.int c1), some (.ref pr), some (.ref x), some (.ref pq), none, none, none, none, none, none, none, none, none, none, none, none, none, none, none], ?_, ?_⟩
    · exact ⟨.ref a, rfl, .ref pr, rfl, a, ns, 10, 2, pr, xs, rs, 15, rfl, hsq3, by decide, .inl (.inl hr3'), ht3, hl1, hg, by decide, by decide, fun H4 pq qs rd s4 hpq hq4 hrd hrl hdl => ⟨s4, pq, qs, rd, hq4, hrd, hrl, hdl, rfl⟩⟩
    rintro σ H4 ⟨s4, pq, qs, rd, hq4, hrd, hrl, hdl, rfl⟩
    have hql := paired_len hrd
    have hr4' := s4 _ _ hr3'
    have ht4 := ht3.same s4
    have hsq4 := s4.seq hsq3
    have hix4 := hix.same s4
    refine ⟨fun σ H5 => H5 = H4 ∧ ∃ l1 : List Nat, (Dna l1 ∧ l1.length ≤ 400) ∧ σ = [some (.ref a), some (.int c1), some (.ref pr), some (.ref x), some (.ref pq), some (.str (Hr.T l1)), none, none, none, none, none, none, none, none, none, none, none, none, none, none], ?_, ?_⟩
    · obtain ⟨r, hr0, qa, nn, zz, ea, hqa⟩ := paired_get hrd (List.getElem?_eq_getElem (show 0 < qs.length by omega))
      exact ⟨.ref pq, rfl, pq, qs, 0, .ref qa, rfl, rfl, .inl (.inl hq4), atI_nat (j := 0) (by rw [List.getElem?_eq_getElem (show 0 < qs.length by omega), ea]), qa, _, 1, .str (Hr.T r), rfl, rfl, .inl (.inl hqa), atI_nat (j := 1) rfl, rfl, r, hdl r (List.mem_of_getElem? hr0), rfl⟩
    rintro σ H5 ⟨rfl, l1, hd1, rfl⟩
    refine ⟨fun σ H6 => H6 = H5 ∧ ∃ l2 : List Nat, (Dna l2 ∧ l2.length ≤ 400) ∧ σ = [some (.ref a), some (.int c1), some (.ref pr), some (.ref x), some (.ref pq), some (.str (Hr.T l1)), some (.str (Hr.T l2)), none, none, none, none, none, none, none, none, none, none, none, none, none], ?_, ?_⟩
    · obtain ⟨r, hr0, qa, nn, zz, ea, hqa⟩ := paired_get hrd (List.getElem?_eq_getElem (show 1 < qs.length by omega))
      exact ⟨.ref pq, rfl, pq, qs, 1, .ref qa, rfl, rfl, .inl (.inl hq4), atI_nat (j := 1) (by rw [List.getElem?_eq_getElem (show 1 < qs.length by omega), ea]), qa, _, 1, .str (Hr.T r), rfl, rfl, .inl (.inl hqa), atI_nat (j := 1) rfl, rfl, r, hdl r (List.mem_of_getElem? hr0), rfl⟩
    rintro σ H6 ⟨rfl, l2, hd2, rfl⟩
    refine ⟨fun σ H7 => H7 = H6 ∧ ∃ (l1 l2 : List Nat) (v7 v8 : Option V), (Dna l1 ∧ l1.length ≤ 400) ∧ (Dna l2 ∧ l2.length ≤ 400) ∧ σ = [some (.ref a), some (.int c1), some (.ref pr), some (.ref x), some (.ref pq), some (.str (Hr.T l1)), some (.str (Hr.T l2)), v7, v8, none, none, none, none, none, none, none, none, none, none, none], ?_, ?_⟩
    · refine ⟨.ref a, rfl, a, ns, 12, rfl, hsq4, fun y => ⟨y, 3, rfl, rfl, (show (0 : Int) < 3 by decide), _, 0, rfl, rfl, _, rfl, ite2 (fun _ => ?_) (fun _ => ⟨rfl, l1, l2, none, none, hd1, hd2, rfl⟩)⟩⟩
      refine ⟨fun σ HA => HA = H6 ∧ ∃ t : List Nat, (Dna t ∧ 1 ≤ t.length ∧ t.length ≤ 45) ∧ σ = [some (.ref a), some (.int c1), some (.ref pr), some (.ref x), some (.ref pq), some (.str (Hr.T l1)), some (.str (Hr.T l2)), some (.str (Hr.T t)), none, none, none, none, none, none, none, none, none, none, none, none], ?_, ?_⟩
      · refine ⟨.ref pr, rfl, .ref a, rfl, a, ns, 13, rfl, hsq4, fun y2 => ⟨.ref pr, rfl, pr, _, rfl, .inl (.inl (.inl hr4')), y2, _, rfl, rfl, (show (0 : Int) < ((xs.length : Nat) : Int) by omega), ?_⟩⟩
        obtain ⟨j, hj⟩ : ∃ j : Nat, y2 % ((xs.length : Nat) : Int) = (j : Int) := ⟨(y2 % ((xs.length : Nat) : Int)).toNat, by
          have := Int.emod_nonneg y2 (show ((xs.length : Nat) : Int) ≠ 0 by omega)
          omega⟩
        have hjl' : j < rs.length := by
          have := Int.emod_lt_of_pos y2 (show (0 : Int) < ((xs.length : Nat) : Int) by omega)
          omega
        obtain ⟨qa, ea, hqa⟩ := ref_at ht4 hjl'
        exact ⟨pr, _, _, .ref qa, rfl, rfl, .inl (.inl hr4'), by rw [hj]; exact atI_nat ea, qa, _, 1, .str (Hr.T (txt rs j)), rfl, rfl, .inl (.inl hqa), atI_nat (j := 1) rfl, rfl, _, txt_rf hg hjl', rfl⟩
      rintro σ HA ⟨rfl, t, ⟨dt, ht1', ht45⟩, rfl⟩
      have hz : (T t).length ≤ sizeLine := line_ok (by rw [T_len]; omega)
      refine ⟨fun σ HB => HB = HA ∧ ∃ t8 : Int, σ = [some (.ref a), some (.int c1), some (.ref pr), some (.ref x), some (.ref pq), some (.str (Hr.T l1)), some (.str (Hr.T l2)), some (.str (Hr.T t)), some (.int t8), none, none, none, none, none, none, none, none, none, none, none], ?_, ?_⟩
      · exact ⟨.ref a, rfl, a, ns, 14, rfl, hsq4, fun y3 => ⟨.str (Hr.T t), rfl, T t, rfl, hz, y3, _, rfl, rfl, (by show (0 : Int) < ((T t).length : Nat); rw [T_len]; omega), rfl, _, rfl⟩⟩
      rintro σ HB ⟨rfl, t8, rfl⟩
      obtain ⟨m1, em1, dm1, lm1⟩ := cut_dna dt (some t8) (some (t8 + 6))
      obtain ⟨m2, em2, dm2, lm2⟩ := cut_dna dt (some (t8 + 2)) (some (t8 + 12))
      refine ⟨fun σ HC => HC = HB ∧ σ = [some (.ref a), some (.int c1), some (.ref pr), some (.ref x), some (.ref pq), some (.str (Hr.T m1)), some (.str (Hr.T l2)), some (.str (Hr.T t)), some (.int t8), none, none, none, none, none, none, none, none, none, none, none], ?_, ?_⟩
      · refine ⟨.str (Hr.T t), rfl, .int t8, rfl, _, rfl, .int t8, rfl, _, _, rfl, rfl, _, rfl, T t, rfl, hz, rfl, ?_⟩
        rw [em1]
        rfl
      rintro σ HC ⟨rfl, rfl⟩
      refine ⟨.str (Hr.T t), rfl, .int t8, rfl, _, _, rfl, rfl, _, rfl, .int t8, rfl, _, _, rfl, rfl, _, rfl, T t, rfl, hz, T m2, _, by rw [em2], rfl, ?_, m2 ++ [65], ?_, ?_, ?_, ?_⟩
      · refine line_ok ?_
        rw [strA, T_len, T_len]
        show m2.length + 1 ≤ _
        omega
      · rw [strA, T_app]
        try rfl
      · intro c hc
        rcases List.mem_append.mp hc with z | z
        · exact dm2 c z
        · rw [List.mem_singleton.mp z]
          exact .inl rfl
      · rw [List.length_append]
        show m2.length + 1 ≤ 100000
        omega
      · exact ⟨rfl, m1, turn (m2 ++ [65]), _, _, ⟨dm1, by omega⟩, ⟨turn_dna fun c hc => (by
          rcases List.mem_append.mp hc with z | z
          · exact dm2 c z
          · rw [List.mem_singleton.mp z]
            exact .inl rfl), by rw [turn_len, List.length_append]; show m2.length + 1 ≤ 400; omega⟩, rfl⟩
    rintro σ H7 ⟨rfl, l1, l2, v7, v8, ⟨dl1, ll1⟩, ⟨dl2, ll2⟩, rfl⟩
    -- k, low, high
    refine ⟨fun σ HA => HA = H7 ∧ ∃ k : Nat, k ≤ 100 ∧ σ = [some (.ref a), some (.int c1), some (.ref pr), some (.ref x), some (.ref pq), some (.str (Hr.T l1)), some (.str (Hr.T l2)), v7, v8, some (.int (k : Int)), none, none, none, none, none, none, none, none, none, none], ?_, ?_⟩
    · exact ⟨.ref a, rfl, a, ns, 1, rfl, hsq4, fun y => ⟨y, 5, rfl, rfl, (show (0 : Int) < 5 by decide), rfl, (y % 5).toNat, by omega, by rw [show (((y % 5).toNat : Nat) : Int) = y % 5 by omega]; rfl⟩⟩
    rintro σ HA ⟨rfl, k0, hk0, rfl⟩
    refine ⟨fun σ HB => HB = HA ∧ ∃ k : Nat, k ≤ 100 ∧ σ = [some (.ref a), some (.int c1), some (.ref pr), some (.ref x), some (.ref pq), some (.str (Hr.T l1)), some (.str (Hr.T l2)), v7, v8, some (.int (k : Int)), none, none, none, none, none, none, none, none, none, none], ?_, ?_⟩
    · refine ⟨.ref a, rfl, a, ns, 1, rfl, hsq4, fun y => ⟨y, 5, rfl, rfl, ⟨by decide, by decide⟩, _, 6, rfl, rfl, (show (0 : Int) < 6 by decide), rfl, _, rfl, ite2 (fun _ => ?_) (fun _ => ⟨rfl, k0, hk0, rfl⟩)⟩⟩
      exact ⟨.ref a, rfl, a, ns, 1, rfl, hsq4, fun y => ⟨y, 30, rfl, rfl, ⟨by decide, by decide⟩, _, 51, rfl, rfl, (show (0 : Int) < 51 by decide), rfl, (y / 30 % 51).toNat, by omega, by rw [show (((y / 30 % 51).toNat : Nat) : Int) = y / 30 % 51 by omega]; rfl⟩⟩
    rintro σ HB ⟨rfl, k, hk, rfl⟩
    refine ⟨fun σ HC => HC = HB ∧ ∃ lo : Int, σ = [some (.ref a), some (.int c1), some (.ref pr), some (.ref x), some (.ref pq), some (.str (Hr.T l1)), some (.str (Hr.T l2)), v7, v8, some (.int (k : Int)), some (.int lo), none, none, none, none, none, none, none, none, none], ?_, ?_⟩
    · exact ⟨.ref a, rfl, a, ns, 2, rfl, hsq4, fun y => ⟨y, 30, rfl, rfl, (show (0 : Int) < 30 by decide), rfl, _, rfl⟩⟩
    rintro σ HC ⟨rfl, lo, rfl⟩
    refine ⟨fun σ HD => HD = HC ∧ ∃ hi : Int, σ = [some (.ref a), some (.int c1), some (.ref pr), some (.ref x), some (.ref pq), some (.str (Hr.T l1)), some (.str (Hr.T l2)), v7, v8, some (.int (k : Int)), some (.int lo), some (.int hi), none, none, none, none, none, none, none, none], ?_, ?_⟩
    · exact ⟨.int lo, rfl, .ref a, rfl, a, ns, 2, rfl, hsq4, fun y => ⟨y, 30, rfl, rfl, ⟨by decide, by decide⟩, _, 41, rfl, rfl, (show (0 : Int) < 41 by decide), _, _, rfl, rfl, _, 3, rfl, rfl, 0, _, rfl, rfl, _, rfl⟩⟩
    rintro σ HD ⟨rfl, hi0, rfl⟩
    refine ⟨fun σ HE => HE = HD ∧ ∃ hi : Int, σ = [some (.ref a), some (.int c1), some (.ref pr), some (.ref x), some (.ref pq), some (.str (Hr.T l1)), some (.str (Hr.T l2)), v7, v8, some (.int (k : Int)), some (.int lo), some (.int hi), none, none, none, none, none, none, none, none], ?_, ?_⟩
    · refine ⟨.ref a, rfl, a, ns, 2, rfl, hsq4, fun y => ⟨y, 1230, rfl, rfl, ⟨by decide, by decide⟩, _, 4, rfl, rfl, (show (0 : Int) < 4 by decide), rfl, _, rfl, ite2 (fun _ => ?_) (fun _ => ⟨rfl, hi0, rfl⟩)⟩⟩
      exact ⟨_, rfl, _, _, rfl, rfl, rfl, _, rfl⟩
    rintro σ HE ⟨rfl, hi, rfl⟩
    -- the pairs that fit
    have ht45 : ∀ r, (txt rs r).length ≤ 45 := fun r => by
      by_cases c : r < rs.length
      · exact (txt_rf hg c).2.2
      · rw [txt_out (by omega)]
        exact Nat.zero_le _
    have htx : ∀ r, (txt rs r).length ≤ 1000 := fun r => Nat.le_trans (ht45 r) (by decide)
    have hm : ∀ l k, (hAll rs l k).length ≤ 1000 := fun l k => hAll_len hl3 ht45
    obtain ⟨A1, hA1⟩ : ∃ A1, A1 = hAll rs l1 k := ⟨_, rfl⟩
    obtain ⟨A2, hA2⟩ : ∃ A2, A2 = hAll rs l2 k := ⟨_, rfl⟩
    have hm1 : A1.length ≤ 1000 := hA1 ▸ hm l1 k
    have hm2 : A2.length ≤ 1000 := hA2 ▸ hm l2 k
    have h01 : ∀ h ∈ A1, s01 h := by rw [hA1]; exact hAll_s01
    have h02 : ∀ h ∈ A2, s01 h := by rw [hA2]; exact hAll_s01
    obtain ⟨AP, hAP⟩ : ∃ AP, AP = allP lo hi (l1.length : Nat) (l2.length : Nat) A1 A2 := ⟨_, rfl⟩
    have hrow : ∀ g, (rowF lo hi (l1.length : Nat) (l2.length : Nat) A2 g).length ≤ 1000 := fun g => by
      unfold rowF
      rw [List.length_map]
      exact Nat.le_trans (List.length_filter_le _ _) hm2
    refine ⟨Nat.zero_le _, fun pf hpf => ?_⟩
    obtain ⟨HF, hHF⟩ : ∃ HF, HF = upd HE pf (.lst []) := ⟨_, rfl⟩
    have sF : Same HE HF := by rw [hHF]; exact same_upd hpf
    have hfF : HF pf = some (.lst []) := by rw [hHF, upd_same]
    rw [← hHF]
    have htF := ht4.same sF
    have hrF := sF _ _ hr4'
    have hz1 : (T l1).length ≤ sizeLine := line_ok (by rw [T_len]; omega)
    have hz2 : (T l2).length ≤ sizeLine := line_ok (by rw [T_len]; omega)
    refine ⟨fun σ HG => Same HF HG ∧ ∃ (pe : Addr) (es : List V), HF pe = none ∧ HG pe = some (.lst es) ∧ Hts HG es A2 ∧ σ = [some (.ref a), some (.int c1), some (.ref pr), some (.ref x), some (.ref pq), some (.str (Hr.T l1)), some (.str (Hr.T l2)), v7, v8, some (.int (k : Int)), some (.int lo), some (.int hi), some (.ref pf), some (.ref pe), none, none, none, none, none, none], ?_, ?_⟩
    · exact ⟨.ref pr, rfl, .str (Hr.T l2), rfl, .int (k : Int), rfl, pr, xs, rs, l2, k, rfl, .inl (.inl hrF), htF, dl2, by omega, htx, by omega, by omega, fun HG pe es sG hpe he hts => ⟨sG, pe, es, hpe, he, hA2 ▸ hts, rfl⟩⟩
    rintro σ HG ⟨sG, pe, es, hpe0, heG, hesG, rfl⟩
    have hfG := sG _ _ hfF
    have hel := paired_len hesG
    have npe : pe ≠ pf := fun z => by rw [z, hfF] at hpe0; cases hpe0
    refine ⟨fun σ HI => Same (del HG pf) HI ∧ ∃ (zs : List V) (v14 v15 v16 : Option V), HI pf = some (.lst zs) ∧ Prs HI zs AP ∧ σ = [some (.ref a), some (.int c1), some (.ref pr), some (.ref x), some (.ref pq), some (.str (Hr.T l1)), some (.str (Hr.T l2)), v7, v8, some (.int (k : Int)), some (.int lo), some (.int hi), some (.ref pf), some (.ref pe), v14, v15, v16, none, none, none], ?_, ?_⟩
    · refine ⟨.ref pr, rfl, .str (Hr.T l1), rfl, .int (k : Int), rfl, pr, xs, rs, l1, k, rfl, .inl (.inl (sG _ _ hrF)), htF.same sG, dl1, by omega, htx, by omega, by omega, fun HH pa as sH hpa haH hasH => ⟨pa, rfl, ⟨_, .inl (.inl haH)⟩, ?_⟩⟩
      rw [← hA1] at hasH
      have hal := paired_len hasH
      have hfH := sH _ _ hfG
      have heH := sH _ _ heG
      have hesH := hesG.same sH
      have npa : pa ≠ pf := fun z => by rw [z, hfG] at hpa; cases hpa
      have tupK : ∀ b zs, HH b = some (.tup zs) → del HH pf b = some (.tup zs) := fun b zs e => del_at e fun z => by rw [z, hfH] at e; cases e
      have hasD := hasH.mono tupK
      have hesD := hesH.mono tupK
      refine for_list (K := K) (xs := as) (fun i σ HI => Same (del HH pf) HI ∧ ∃ (zs : List V) (v14 v15 v16 : Option V), HI pf = some (.lst zs) ∧ Prs HI zs ((A1.take i).flatMap (rowF lo hi (l1.length : Nat) (l2.length : Nat) A2)) ∧ σ = [some (.ref a), some (.int c1), some (.ref pr), some (.ref x), some (.ref pq), some (.str (Hr.T l1)), some (.str (Hr.T l2)), v7, v8, some (.int (k : Int)), some (.int lo), some (.int hi), some (.ref pf), some (.ref pe), v14, v15, v16, none, none, none]) ?_ ?_ ?_ ?_
      · exact ⟨del_same, [], none, none, none, hfH, .nil, rfl⟩
      · rintro j σ HI _ ⟨sI, _⟩
        exact .inl (.inl (sI _ _ (del_at haH npa)))
      · rintro i v σ HI hiv ⟨sI, zs, v14, v15, v16, hz, hzs, rfl⟩
        obtain ⟨g, hg1, qa, rfl, hqa⟩ := paired_get (hasD.same sI) hiv
        have hi' := tups_at hiv
        have heI := sI _ _ (del_at heH npe)
        have hbase := fm_le (rowF lo hi (l1.length : Nat) (l2.length : Nat) A2) 1000 (A1.take i) fun g _ => hrow g
        rw [List.length_take] at hbase
        refine ⟨.ref pe, rfl, pe, rfl, ⟨_, .inl (.inl heI)⟩, ?_⟩
        refine for_list (K := K) (xs := es) (fun j σ HJ => Same (del HI pf) HJ ∧ ∃ (zs : List V) (v15 v16 : Option V), HJ pf = some (.lst zs) ∧ Prs HJ zs ((A1.take i).flatMap (rowF lo hi (l1.length : Nat) (l2.length : Nat) A2) ++ rowF lo hi (l1.length : Nat) (l2.length : Nat) (A2.take j) g) ∧ σ = [some (.ref a), some (.int c1), some (.ref pr), some (.ref x), some (.ref pq), some (.str (Hr.T l1)), some (.str (Hr.T l2)), v7, v8, some (.int (k : Int)), some (.int lo), some (.int hi), some (.ref pf), some (.ref pe), some (.ref qa), v15, v16, none, none, none]) ?_ ?_ ?_ ?_
        · refine ⟨del_same, zs, v15, v16, hz, ?_, rfl⟩
          show Prs HI zs (_ ++ [])
          rw [List.append_nil]
          exact hzs
        · rintro j σ HJ _ ⟨sJ, _⟩
          exact .inl (.inl (sJ _ _ (del_at heI npe)))
        · rintro j v σ HJ hjv ⟨sJ, zs, v15, v16, hz, hzs, rfl⟩
          have tupI : ∀ b zs, HI b = some (.tup zs) → del HI pf b = some (.tup zs) := fun b zs e => del_at e fun z => by
            have h0 := ‹HI pf = _›
            rw [z, h0] at e
            cases e
          obtain ⟨o, ho1, qb, rfl, hqb⟩ := paired_get (((hesD.same sI).mono tupI).same sJ) hjv
          have hqaJ := sJ _ _ (tupI _ _ hqa)
          have hj' := tups_at hjv
          have htk : (A2.take j).length ≤ 1000 := by
            rw [List.length_take]
            omega
          have hrl : (rowF lo hi (l1.length : Nat) (l2.length : Nat) (A2.take j) g).length ≤ 1000 := by
            unfold rowF
            rw [List.length_map]
            exact Nat.le_trans (List.length_filter_le _ _) htk
          have hzl := paired_len hzs
          rw [List.length_append] at hzl
          have hrs : rowF lo hi (l1.length : Nat) (l2.length : Nat) (A2.take (j + 1)) g = rowF lo hi (l1.length : Nat) (l2.length : Nat) (A2.take j) g ++ (if fit lo hi (l1.length : Nat) (l2.length : Nat) g o then [(g, o)] else []) := by
            unfold rowF
            rw [List.take_add_one, ho1, Option.toList_some, List.filter_append, List.map_append]
            congr 1
            rw [List.filter_cons]
            split <;> rfl
          rw [hrs]
          refine ⟨fun σ HK => HK = HJ ∧ σ = [some (.ref a), some (.int c1), some (.ref pr), some (.ref x), some (.ref pq), some (.str (Hr.T l1)), some (.str (Hr.T l2)), v7, v8, some (.int (k : Int)), some (.int lo), some (.int hi), some (.ref pf), some (.ref pe), some (.ref qa), some (.ref qb), some (.int (o.2.2.1 - g.2.2.1 + (l1.length : Nat))), none, none, none], ?_, ?_⟩
          · exact ⟨.ref qb, rfl, qb, _, 2, .int o.2.2.1, rfl, rfl, .inl (.inl hqb), atI_nat (j := 2) rfl, .ref qa, rfl, qa, _, 2, .int g.2.2.1, rfl, rfl, .inl (.inl hqaJ), atI_nat (j := 2) rfl, _, _, rfl, rfl, .str (Hr.T l1), rfl, T l1, rfl, hz1, _, _, rfl, rfl, rfl, by rw [T_len]; rfl⟩
          rintro σ HK ⟨rfl, rfl⟩
          refine ⟨fun σ HL => HL = HK ∧ σ = [some (.ref a), some (.int c1), some (.ref pr), some (.ref x), some (.ref pq), some (.str (Hr.T l1)), some (.str (Hr.T l2)), v7, v8, some (.int (k : Int)), some (.int lo), some (.int hi), some (.ref pf), some (.ref pe), some (.ref qa), some (.ref qb), some (.int (if g.2.1 = 1 then g.2.2.1 - o.2.2.1 + (l2.length : Nat) else o.2.2.1 - g.2.2.1 + (l1.length : Nat))), none, none, none], ?_, ?_⟩
          · refine ⟨.ref qa, rfl, qa, _, 1, .int g.2.1, rfl, rfl, .inl (.inl hqaJ), atI_nat (j := 1) rfl, rfl, _, rfl, ite2 (fun c => ?_) (fun c => ?_)⟩
            · have es : g.2.1 = 1 := V.int.inj (of_decide_eq_true c)
              rw [if_pos es]
              exact ⟨.ref qa, rfl, qa, _, 2, .int g.2.2.1, rfl, rfl, .inl (.inl hqaJ), atI_nat (j := 2) rfl, .ref qb, rfl, qb, _, 2, .int o.2.2.1, rfl, rfl, .inl (.inl hqb), atI_nat (j := 2) rfl, _, _, rfl, rfl, .str (Hr.T l2), rfl, T l2, rfl, hz2, _, _, rfl, rfl, rfl, by rw [T_len]; rfl⟩
            · have es : ¬ g.2.1 = 1 := fun z => c (by rw [z]; exact decide_eq_true rfl)
              rw [if_neg es]
              exact ⟨rfl, rfl⟩
          rintro σ HL ⟨rfl, rfl⟩
          obtain ⟨sp, hsp⟩ : ∃ sp : Int, sp = (if g.2.1 = 1 then g.2.2.1 - o.2.2.1 + (l2.length : Nat) else o.2.2.1 - g.2.2.1 + (l1.length : Nat)) := ⟨_, rfl⟩
          rw [← hsp]
          have hfit : fit lo hi (l1.length : Nat) (l2.length : Nat) g o = (decide (g.1 = o.1) && (decide (g.2.1 ≠ o.2.1) && (decide (lo ≤ sp) && decide (sp ≤ hi)))) := by
            rw [hsp]
            rfl
          have out : fit lo hi (l1.length : Nat) (l2.length : Nat) g o = false → Same (del HI pf) HL ∧ ∃ (zs : List V) (v15' v16' : Option V), HL pf = some (.lst zs) ∧ Prs HL zs ((A1.take i).flatMap (rowF lo hi (l1.length : Nat) (l2.length : Nat) A2) ++ (rowF lo hi (l1.length : Nat) (l2.length : Nat) (A2.take j) g ++ (if fit lo hi (l1.length : Nat) (l2.length : Nat) g o then [(g, o)] else []))) ∧ [some (V.ref a), some (.int c1), some (.ref pr), some (.ref x), some (.ref pq), some (.str (Hr.T l1)), some (.str (Hr.T l2)), v7, v8, some (.int (k : Int)), some (.int lo), some (.int hi), some (.ref pf), some (.ref pe), some (.ref qa), some (.ref qb), some (.int sp), none, none, none] = [some (.ref a), some (.int c1), some (.ref pr), some (.ref x), some (.ref pq), some (.str (Hr.T l1)), some (.str (Hr.T l2)), v7, v8, some (.int (k : Int)), some (.int lo), some (.int hi), some (.ref pf), some (.ref pe), some (.ref qa), v15', v16', none, none, none] := fun e => by
            rw [e, if_neg (by decide), List.append_nil]
            exact ⟨sJ, zs, _, _, hz, hzs, rfl⟩
          refine ⟨.ref qa, rfl, qa, _, 0, .int g.1, rfl, rfl, .inl (.inl hqaJ), atI_nat (j := 0) rfl, .ref qb, rfl, qb, _, 0, .int o.1, rfl, rfl, .inl (.inl hqb), atI_nat (j := 0) rfl, rfl, _, rfl, ite2 (fun ca => ?_) (fun ca => iteF (out ?_))⟩
          · have ea : g.1 = o.1 := V.int.inj (of_decide_eq_true ca)
            refine ⟨.ref qa, rfl, qa, _, 1, .int g.2.1, rfl, rfl, .inl (.inl hqaJ), atI_nat (j := 1) rfl, .ref qb, rfl, qb, _, 1, .int o.2.1, rfl, rfl, .inl (.inl hqb), atI_nat (j := 1) rfl, rfl, _, rfl, ite2 (fun cb => ?_) (fun cb => iteF (out ?_))⟩
            · have eb : g.2.1 ≠ o.2.1 := fun z => by
                rw [z] at cb
                simp at cb
              refine ⟨.int lo, rfl, .int sp, rfl, _, _, rfl, rfl, _, rfl, ite2 (fun cc => ?_) (fun cc => ⟨_, rfl, iteF (out ?_)⟩)⟩
              · refine ⟨.int hi, rfl, _, _, rfl, rfl, _, rfl, ite2 (fun cd => ?_) (fun cd => out ?_)⟩
                · have ef : fit lo hi (l1.length : Nat) (l2.length : Nat) g o = true := by
                    rw [hfit, decide_eq_true ea, decide_eq_true eb, cc, cd]
                    rfl
                  rw [ef, if_pos rfl]
                  refine ⟨.ref pf, rfl, .inl ⟨rfl, _, .inl (.inl hz)⟩, .ref qa, rfl, .ref qb, rfl, by show 2 ≤ sizeLine; decide, fun q2 hq2 => ?_⟩
                  have npq : pf ≠ q2 := ne_of_none hz hq2
                  refine ⟨pf, zs, _, rfl, rfl, by rw [upd_ne npq]; exact hz, line_lt7 (by omega), ?_, zs ++ [.ref q2], _, _, upd_same, ?_, rfl⟩
                  · exact same_new (sJ.trans (same_upd hq2)) (del_none _ _)
                  · have kt : ∀ b ys, HL b = some (.tup ys) → upd (upd HL q2 (.tup [.ref qa, .ref qb])) pf (.lst (zs ++ [.ref q2])) b = some (.tup ys) := fun b ys e => by
                      rw [upd_ne (fun y => by rw [y, hz] at e; cases e), upd_ne (ne_of_none e hq2)]
                      exact e
                    rw [← List.append_assoc]
                    exact Prs.snoc (hzs.mono kt) (p := (g, o)) (by rw [upd_ne npq.symm, upd_same]) (kt _ _ hqaJ) (kt _ _ hqb)
                · rw [hfit]
                  have : ¬ sp ≤ hi := fun z => cd (decide_eq_true z)
                  rw [decide_eq_false this, Bool.and_false, Bool.and_false, Bool.and_false]
              · rw [hfit]
                have : ¬ lo ≤ sp := fun z => cc (decide_eq_true z)
                rw [decide_eq_false this, Bool.false_and, Bool.and_false, Bool.and_false]
            · rw [hfit]
              have : ¬ g.2.1 ≠ o.2.1 := fun z => cb (by simp [z])
              rw [decide_eq_false this, Bool.false_and, Bool.and_false]
          · rw [hfit, decide_eq_false (fun z => ca (by rw [z]; exact decide_eq_true rfl))]
            rfl
        · rintro σ HJ ⟨sJ, zs2, v15', v16', hz2', hzs2, rfl⟩
          rw [hel, List.take_length] at hzs2
          have h0 := ‹HI pf = _›
          refine ⟨?_, zs2, _, _, _, hz2', ?_, rfl⟩
          · exact del_trans sI sJ
          · rw [List.take_add_one, hg1, Option.toList_some, List.flatMap_append, List.flatMap_cons, List.flatMap_nil, List.append_nil]
            exact hzs2
      · rintro σ HI ⟨sI, zs, v14, v15, v16, hz, hzs, rfl⟩
        rw [hal, List.take_length] at hzs
        exact ⟨del_of sH sI, zs, _, _, _, hz, hAP ▸ hzs, rfl⟩
    rintro σ HI ⟨sI, zs, v14, v15, v16, hz, hzs, rfl⟩
    have sEI : Same HE HI := del_free hpf (sF.trans sG) sI
    have hzl := paired_len hzs
    have hAPl : AP.length ≤ 1000000 := by
      rw [hAP]
      have := fm_le (rowF lo hi (l1.length : Nat) (l2.length : Nat) A2) 1000 A1 fun g _ => hrow g
      unfold allP
      have h2 := Nat.mul_le_mul_right 1000 hm1
      omega
    -- what is expected
    refine ⟨fun σ HJ => Same HI HJ ∧ ∃ px, HJ px = some (.lst []) ∧ σ = [some (.ref a), some (.int c1), some (.ref pr), some (.ref x), some (.ref pq), some (.str (Hr.T l1)), some (.str (Hr.T l2)), v7, v8, some (.int (k : Int)), some (.int lo), some (.int hi), some (.ref pf), some (.ref pe), v14, v15, v16, some (.ref px), none, none], ?_, ?_⟩
    · exact ⟨Nat.zero_le _, fun px hpx => ⟨same_upd hpx, px, upd_same, rfl⟩⟩
    rintro σ HJ ⟨sJ, px, hpxJ, rfl⟩
    have hzJ := sJ _ _ hz
    have hzsJ := hzs.same sJ
    refine ⟨fun σ HK => Same HJ HK ∧ ∃ (px : Addr) (ys : List V) (es : List Pr) (v14 v15 v18 : Option V), HK px = some (.lst ys) ∧ Prs HK ys es ∧ ExpR AP es ∧ es.length ≤ 1000000 ∧ σ = [some (.ref a), some (.int c1), some (.ref pr), some (.ref x), some (.ref pq), some (.str (Hr.T l1)), some (.str (Hr.T l2)), v7, v8, some (.int (k : Int)), some (.int lo), some (.int hi), some (.ref pf), some (.ref pe), v14, v15, v16, some (.ref px), v18, none], ?_, ?_⟩
    · refine ⟨.ref pf, rfl, pf, _, rfl, .inl (.inl (.inl hzJ)), _, 0, rfl, rfl, _, rfl, ite2 (fun c => ?_) (fun c => ⟨Same.refl _, px, [], [], v14, v15, none, hpxJ, .nil, ⟨fun _ => rfl, fun m hm => ?_⟩, Nat.zero_le _, rfl⟩)⟩
      · have hz0 : 0 < zs.length := by
          have := of_decide_eq_true c
          omega
        have hne : AP ≠ [] := fun z => by
          rw [z] at hzl
          rw [hzl] at hz0
          exact absurd hz0 (by decide)
        refine ⟨fun σ HK => Same HJ HK ∧ ∃ m : Int, LeastP AP m ∧ σ = [some (.ref a), some (.int c1), some (.ref pr), some (.ref x), some (.ref pq), some (.str (Hr.T l1)), some (.str (Hr.T l2)), v7, v8, some (.int (k : Int)), some (.int lo), some (.int hi), some (.ref pf), some (.ref pe), v14, v15, v16, some (.ref px), some (.int m), none], ?_, ?_⟩
        · refine ⟨.ref pf, rfl, pf, rfl, ⟨_, .inl (.inl hzJ)⟩, fun D hD => ?_⟩
          refine lc_list (K := K) (xs := zs) (fun j H' => Same HJ H' ∧ H' D = some (LI ((AP.take j).map cst))) ⟨same_upd hD, upd_same⟩ (fun j H' _ z => z.1.seq (.inl (.inl hzJ))) ?_ ?_
          · rintro j y H' hjy ⟨s2, hd2⟩
            obtain ⟨p, qq, aa, bb, hp, rfl, e1, e2, e3⟩ := it2 (hzsJ.same s2) hjy
            have hj := tups_at hjy
            refine ⟨qq, _, rfl, .inl (.inl e1), rfl, _, _, rfl, _, _, rfl, rfl, rfl, ?_⟩
            dsimp only [tYes]
            rw [if_pos rfl]
            refine ⟨.ref aa, rfl, aa, _, 3, .int p.1.2.2.2, rfl, rfl, .inl (.inl e2), atI_nat (j := 3) rfl, .ref bb, rfl, bb, _, 3, .int p.2.2.2.2, rfl, rfl, .inl (.inl e3), atI_nat (j := 3) rfl, _, _, rfl, rfl, _, hd2, line_lt7 (by rw [List.length_map, List.length_map, List.length_take]; omega), fun b o e => ?_, ?_⟩
            · rw [upd_ne (ne_of_none e hD)]
              exact s2 b o e
            · rw [upd_same, List.take_add_one, hp, Option.toList_some, List.map_append]
              exact congrArg some (LI_snoc _ _).symm
          · rintro H' ⟨s2, hd2⟩
            rw [hzl, List.take_length] at hd2
            refine ⟨D, AP.map cst, rfl, .inl (.inl hd2), by rw [List.length_map]; omega, fun m hm hle => ⟨s2, m, ⟨?_, fun p hp => hle _ (List.mem_map_of_mem hp)⟩, rfl⟩⟩
            obtain ⟨p, hp, e⟩ := List.mem_map.mp hm
            exact ⟨p, hp, e⟩
        rintro σ HK ⟨sK, m, hm, rfl⟩
        have hzK := sK _ _ hzJ
        have hzsK := hzsJ.same sK
        refine ⟨.ref pf, rfl, pf, rfl, ⟨_, .inl (.inl hzK)⟩, fun D hD => ?_⟩
        refine lc_list (K := K) (xs := zs) (fun j H' => Same HK H' ∧ ∃ ys : List V, H' D = some (.lst ys) ∧ Prs H' ys (atC (AP.take j) m)) ⟨same_upd hD, [], upd_same, .nil⟩ (fun j H' _ z => z.1.seq (.inl (.inl hzK))) ?_ ?_
        · rintro j y H' hjy ⟨s2, ys, hd2, hys⟩
          obtain ⟨p, qq, aa, bb, hp, rfl, e1, e2, e3⟩ := it2 (hzsK.same s2) hjy
          have hj := tups_at hjy
          have hyl := paired_len hys
          have hfl := List.length_filter_le (fun p => decide (cst p = m)) (AP.take j)
          rw [List.length_take] at hfl
          have hfs : atC (AP.take (j + 1)) m = atC (AP.take j) m ++ (if cst p = m then [p] else []) := by
            unfold atC
            rw [List.take_add_one, hp, Option.toList_some, List.filter_append]
            congr 1
            rw [List.filter_cons]
            by_cases cc : cst p = m
            · rw [if_pos cc, if_pos (decide_eq_true cc)]
              rfl
            · rw [if_neg cc, if_neg (by rw [decide_eq_false cc]; decide)]
              rfl
          have hyl2 : ys.length ≤ 1000000 := by
            rw [hyl]
            exact Nat.le_trans hfl (by omega)
          rw [hfs]
          refine ⟨qq, _, rfl, .inl (.inl e1), rfl, _, _, rfl, _, _, rfl, rfl, rfl, ?_⟩
          refine ⟨.ref aa, rfl, aa, _, 3, .int p.1.2.2.2, rfl, rfl, .inl (.inl e2), atI_nat (j := 3) rfl, .ref bb, rfl, bb, _, 3, .int p.2.2.2.2, rfl, rfl, .inl (.inl e3), atI_nat (j := 3) rfl, _, _, rfl, rfl, .int m, rfl, rfl, _, rfl, ite2 (fun cc => ?_) (fun cc => ?_)⟩
          · have ec : cst p = m := V.int.inj (of_decide_eq_true cc)
            rw [if_pos ec]
            refine ⟨.ref aa, rfl, .ref bb, rfl, by show 2 ≤ sizeLine; decide, fun u hu => ?_⟩
            have nDu : D ≠ u := ne_of_none hd2 hu
            refine ⟨ys, by rw [upd_ne nDu]; exact hd2, line_lt7 (by omega), fun b o e => ?_, _, upd_same, ?_⟩
            · rw [upd_ne (ne_of_none e hD)]
              exact same_upd hu _ _ (s2 _ _ e)
            · have kt : ∀ b zs, H' b = some (.tup zs) → upd (upd H' u (.tup [.ref aa, .ref bb])) D (.lst (ys ++ [.ref u])) b = some (.tup zs) := fun b zs hb => by
                rw [upd_ne (fun z => by rw [z, hd2] at hb; cases hb), upd_ne (ne_of_none hb hu)]
                exact hb
              exact Prs.snoc (hys.mono kt) (by rw [upd_ne nDu.symm, upd_same]) (kt _ _ e2) (kt _ _ e3)
          · have ec : ¬ cst p = m := fun z => cc (decide_eq_true (congrArg V.int z))
            rw [if_neg ec, List.append_nil]
            exact ⟨s2, ys, hd2, hys⟩
        · rintro H' ⟨s2, ys, hd2, hys⟩
          rw [hzl, List.take_length] at hys
          refine ⟨sK.trans s2, D, ys, _, _, _, _, hd2, hys, ⟨fun z => absurd z hne, fun m' hm' => ?_⟩, Nat.le_trans (List.length_filter_le _ _) hAPl, rfl⟩
          have : m' = m := by
            obtain ⟨⟨p, hp, e⟩, h1⟩ := hm
            obtain ⟨⟨p', hp', e'⟩, h1'⟩ := hm'
            have := h1 p' hp'
            have := h1' p hp
            omega
          rw [this]
      · obtain ⟨⟨p, hp, _⟩, _⟩ := hm
        have hz0 : ¬ 0 < zs.length := fun z => c (decide_eq_true (by omega))
        have : 0 < AP.length := List.length_pos_of_mem hp
        omega
    rintro σ HK ⟨sK, px, ys, es, v14, v15, v18, hxK, hysK, hes, hesl, rfl⟩
    have sEK := sEI.trans (sJ.trans sK)
    have hixK := hix4.same sEK
    obtain ⟨k', hk', hk4⟩ : ∃ k' : Nat, ((k : Int) + 2) % 5 = (k' : Int) ∧ k' ≤ 4 := ⟨(((k : Int) + 2) % 5).toNat, by omega, by omega⟩
    refine ⟨fun σ HL => Same HK HL ∧ σ = [some (.ref a), some (.int c1), some (.ref pr), some (.ref x), some (.ref pq), some (.str (Hr.T l1)), some (.str (Hr.T l2)), v7, v8, some (.int (k : Int)), some (.int lo), some (.int hi), some (.ref pf), some (.ref pe), v14, v15, v16, some (.ref px), v18, none], ?_, ?_⟩
    · exact ⟨.ref x, rfl, .str (Hr.T l2), rfl, .str (Hr.T l1), rfl, .int (k : Int), rfl, _, 2, rfl, rfl, .inl ⟨_, rfl, _, 5, rfl, rfl, (show (0 : Int) < 5 by decide), .int lo, rfl, .int hi, rfl, x, rs, b, sz, l2, l1, k', lo, hi, by rw [← hk']; rfl, hixK, hok, dl2, by omega, dl1, by omega, by omega, hm _ _, hm _ _, fun HL p ws R sL hp hw hws hR => ⟨sL, rfl⟩⟩⟩
    rintro σ HL ⟨sL, rfl⟩
    refine ⟨fun σ HM => Same HL HM ∧ ∃ (pt : Addr) (ws : List V), HM pt = some (.lst ws) ∧ Prs HM ws (srtP es) ∧ σ = [some (.ref a), some (.int c1), some (.ref pr), some (.ref x), some (.ref pq), some (.str (Hr.T l1)), some (.str (Hr.T l2)), v7, v8, some (.int (k : Int)), some (.int lo), some (.int hi), some (.ref pf), some (.ref pe), v14, v15, v16, some (.ref px), v18, some (.ref pt)], ?_, ?_⟩
    · refine ⟨.ref x, rfl, .str (Hr.T l1), rfl, .str (Hr.T l2), rfl, .int (k : Int), rfl, .int lo, rfl, .int hi, rfl, x, rs, b, sz, l1, l2, k, lo, hi, rfl, hixK.same sL, hok, dl1, by omega, dl2, by omega, by omega, hm _ _, hm _ _, fun HM p ws R sM hp hw hws hR => ⟨sM, p, ws, hw, ?_, rfl⟩⟩
      rw [← hA1, ← hA2, ← hAP] at hR
      rw [← best_exp hR hes]
      exact hws
    rintro σ HM ⟨sM, pt, ws, hwM, hwsM, rfl⟩
    have sLM := sL.trans sM
    have hxM := sLM _ _ hxK
    have hysM := hysK.same sLM
    refine ⟨fun σ HN => Same HM HN ∧ σ = [some (.ref a), some (.int c1), some (.ref pr), some (.ref x), some (.ref pq), some (.str (Hr.T l1)), some (.str (Hr.T l2)), v7, v8, some (.int (k : Int)), some (.int lo), some (.int hi), some (.ref pf), some (.ref pe), v14, v15, v16, some (.ref px), v18, some (.ref pt)], ?_, ?_⟩
    · refine ⟨.ref pt, rfl, .ref pt, .ty "list", _, _, true, rfl, .ty _, .base (.lst hwM), kit_ty (by decide +kernel), true, rfl, iteF ?_⟩
      refine ⟨.ref pt, rfl, .ref px, rfl, px, ys, es, fun v p => ∃ q a b, v = .ref q ∧ HM q = some (.tup [.ref a, .ref b]) ∧ HM a = some (.tup ((it4 p.1).map V.int)) ∧ HM b = some (.tup ((it4 p.2).map V.int)), rfl, .inl (.inl hxM), Paired.mapP hysM fun v p ⟨q, a, b, e, t1, t2, t3⟩ => ⟨⟨q, a, b, e, t1, t2, t3⟩, e ▸ dp_pr t1 t2 t3⟩, alike_pr _, sortable_pr _, fun b _ => depth_pr b, fun us p hus hp => ?_⟩
      have hus' : Prs HM us (srtP es) := hus
      refine ⟨dPs (srtP es), dPs (srtP es), dp_dPs (.inl (.inl (same_upd hp _ _ hwM))) (hwsM.same (same_upd hp)), dp_dPs (.inl (.inl upd_same)) (hus'.same (same_upd hp)), shaped_dPs _, shaped_dPs _, _, rfl, ?_⟩
      rw [eqv_dPs]
      exact iteF ⟨same_upd hp, rfl⟩
    rintro σ HN ⟨sN, rfl⟩
    have hxN := sN _ _ hxM
    have hysN := hysM.same sN
    refine ⟨.ref x, rfl, .str (Hr.T l2), rfl, .str (Hr.T l1), rfl, .int (k : Int), rfl, .int lo, rfl, .int hi, rfl, x, rs, b, sz, l2, l1, k, lo, hi, rfl, (hixK.same sLM).same sN, hok, dl2, by omega, dl1, by omega, by omega, hm _ _, hm _ _, fun HO p2 ws2 R2 sO hp2 hw2 hws2 hR2 => ?_⟩
    rw [← hA1, ← hA2] at hR2
    have eR2 : R2 = srtP (es.map swp) := best_swp (by rw [hAP]; exact allP_swp h01 h02) hR2 hes
    have hxO := sO _ _ hxN
    have hysO := hysN.same sO
    have hyl := paired_len hysO
    refine ⟨.ref px, rfl, px, rfl, ⟨_, .inl (.inl hxO)⟩, fun D hD => ?_⟩
    refine lc_list (K := K) (xs := ys) (fun j H' => Same HO H' ∧ ∃ us : List V, H' D = some (.lst us) ∧ Prs H' us ((es.take j).map swp)) ⟨same_upd hD, [], upd_same, .nil⟩ (fun j H' _ z => z.1.seq (.inl (.inl hxO))) ?_ ?_
    · rintro j y H' hjy ⟨s2, us, hd2, hus⟩
      obtain ⟨p, qq, aa, bb, hp, rfl, e1, e2, e3⟩ := it2 (hysO.same s2) hjy
      have hj := tups_at hjy
      have hul := paired_len hus
      rw [List.length_map, List.length_take] at hul
      refine ⟨qq, _, rfl, .inl (.inl e1), rfl, _, _, rfl, _, _, rfl, rfl, rfl, ?_⟩
      dsimp only [tYes]
      rw [if_pos rfl]
      refine ⟨.ref bb, rfl, .ref aa, rfl, by show 2 ≤ sizeLine; decide, fun u hu => ?_⟩
      have nDu : D ≠ u := ne_of_none hd2 hu
      refine ⟨us, by rw [upd_ne nDu]; exact hd2, line_lt7 (by omega), fun b o e => ?_, _, upd_same, ?_⟩
      · rw [upd_ne (ne_of_none e hD)]
        exact same_upd hu _ _ (s2 _ _ e)
      · have kt : ∀ b zs, H' b = some (.tup zs) → upd (upd H' u (.tup [.ref bb, .ref aa])) D (.lst (us ++ [.ref u])) b = some (.tup zs) := fun b zs hb => by
          rw [upd_ne (fun z => by rw [z, hd2] at hb; cases hb), upd_ne (ne_of_none hb hu)]
          exact hb
        rw [List.take_add_one, hp, Option.toList_some, List.map_append]
        exact Prs.snoc (hus.mono kt) (p := swp p) (by rw [upd_ne nDu.symm, upd_same]) (kt _ _ e3) (kt _ _ e2)
    · rintro HP ⟨s2, us, hd2, hus⟩
      rw [hyl, List.take_length] at hus
      refine ⟨D, us, es.map swp, fun v p => ∃ q a b, v = .ref q ∧ HP q = some (.tup [.ref a, .ref b]) ∧ HP a = some (.tup ((it4 p.1).map V.int)) ∧ HP b = some (.tup ((it4 p.2).map V.int)), rfl, .inl (.inl hd2), Paired.mapP hus fun v p ⟨q, a, b, e, t1, t2, t3⟩ => ⟨⟨q, a, b, e, t1, t2, t3⟩, e ▸ dp_pr t1 t2 t3⟩, alike_pr _, sortable_pr _, fun b _ => depth_pr b, fun ts p hts hp => ?_⟩
      have hts' : Prs HP ts (srtP (es.map swp)) := hts
      rw [eR2] at hws2
      have hw3 := same_upd (o := .lst ts) hp _ _ (s2 _ _ hw2)
      refine ⟨dPs (srtP (es.map swp)), dPs (srtP (es.map swp)), dp_dPs (.inl (.inl hw3)) ((hws2.same s2).same (same_upd hp)), dp_dPs (.inl (.inl upd_same)) (hts'.same (same_upd hp)), shaped_dPs _, shaped_dPs _, ?_⟩
      rw [eqv_dPs]
      exact q _
end
theorem all_mk {l : PySem.W.OpenLaw} {w : World} {K : PySem.W.Frag} {h : Heap} {mg : Str → Option Value} {fa fSR fRK fJK fSy fSO fPJ fSm fCo fBg fTU fPC fSE fLO fEP fCM fKN fBR fAR fE fG fRA fHI fHO fBP fGR fWI fC fO fT fU fLR fRF fLA fLE fLH fRD fL fMI fM1 fM3 fM4 fM5 fM6 fM7 fM8 fM9 C Dk qY q0 : Addr} (X : K.In h) (G : h.Ns mainGlobals mg) (hfa : mg "law" = some (.ref fa))
    {odSR anSR : Option Addr} {slSR : Array (Option Value)} {ocSR kVSR dcSR pmSR cdSR ctSR : Value}
    {odRK anRK : Option Addr} {slRK : Array (Option Value)} {ocRK kVRK dcRK pmRK cdRK ctRK : Value}
    {odJK anJK : Option Addr} {slJK : Array (Option Value)} {ocJK kVJK dcJK pmJK cdJK ctJK : Value}
    {odSy anSy : Option Addr} {slSy : Array (Option Value)} {ocSy kVSy dcSy pmSy cdSy ctSy : Value}
    {odSO anSO : Option Addr} {slSO : Array (Option Value)} {ocSO kVSO dcSO pmSO cdSO ctSO : Value}
    {odPJ anPJ : Option Addr} {slPJ : Array (Option Value)} {ocPJ kVPJ dcPJ pmPJ cdPJ ctPJ : Value}
    {odSm anSm : Option Addr} {slSm : Array (Option Value)} {ocSm kVSm dcSm pmSm cdSm ctSm : Value}
    {odCo anCo : Option Addr} {slCo : Array (Option Value)} {ocCo kVCo dcCo pmCo cdCo ctCo : Value}
    {odBg anBg : Option Addr} {slBg : Array (Option Value)} {ocBg kVBg dcBg pmBg cdBg ctBg : Value}
    {odTU anTU : Option Addr} {slTU : Array (Option Value)} {ocTU kVTU dcTU pmTU cdTU ctTU : Value}
    {odPC anPC : Option Addr} {slPC : Array (Option Value)} {ocPC kVPC dcPC pmPC cdPC ctPC : Value}
    {odSE anSE : Option Addr} {slSE : Array (Option Value)} {ocSE kVSE dcSE pmSE cdSE ctSE : Value}
    {odLO anLO : Option Addr} {slLO : Array (Option Value)} {ocLO kVLO dcLO pmLO cdLO ctLO : Value}
    {odEP anEP : Option Addr} {slEP : Array (Option Value)} {ocEP kVEP dcEP pmEP cdEP ctEP : Value}
    {odCM anCM : Option Addr} {slCM : Array (Option Value)} {ocCM kVCM dcCM pmCM cdCM ctCM : Value}
    {odKN anKN : Option Addr} {slKN : Array (Option Value)} {ocKN kVKN dcKN pmKN cdKN ctKN : Value}
    {odBR anBR : Option Addr} {slBR : Array (Option Value)} {ocBR kVBR dcBR pmBR cdBR ctBR : Value}
    {odAR anAR : Option Addr} {slAR : Array (Option Value)} {ocAR kVAR dcAR pmAR cdAR ctAR : Value}
    {odE anE : Option Addr} {slE : Array (Option Value)} {ocE kVE dcE pmE cdE ctE : Value}
    {odG anG : Option Addr} {slG : Array (Option Value)} {ocG kVG dcG pmG cdG ctG : Value}
    {odRA anRA : Option Addr} {slRA : Array (Option Value)} {ocRA kVRA dcRA pmRA cdRA ctRA : Value}
    {odHI anHI : Option Addr} {slHI : Array (Option Value)} {ocHI kVHI dcHI pmHI cdHI ctHI : Value}
    {odHO anHO : Option Addr} {slHO : Array (Option Value)} {ocHO kVHO dcHO pmHO cdHO ctHO : Value}
    {odBP anBP : Option Addr} {slBP : Array (Option Value)} {ocBP kVBP dcBP pmBP cdBP ctBP : Value}
    {odGR anGR : Option Addr} {slGR : Array (Option Value)} {ocGR kVGR dcGR pmGR cdGR ctGR : Value}
    {odWI anWI : Option Addr} {slWI : Array (Option Value)} {ocWI kVWI dcWI pmWI cdWI ctWI : Value}
    {odC anC : Option Addr} {slC : Array (Option Value)} {ocC kVC dcC pmC cdC ctC : Value}
    {odO anO : Option Addr} {slO : Array (Option Value)} {ocO kVO dcO pmO cdO ctO : Value}
    {odT anT : Option Addr} {slT : Array (Option Value)} {ocT kVT dcT pmT cdT ctT : Value}
    {odU anU : Option Addr} {slU : Array (Option Value)} {ocU kVU dcU pmU cdU ctU : Value}
    {odLR anLR : Option Addr} {slLR : Array (Option Value)} {ocLR kVLR dcLR pmLR cdLR ctLR : Value}
    {odRF anRF : Option Addr} {slRF : Array (Option Value)} {ocRF kVRF dcRF pmRF cdRF ctRF : Value}
    {odLA anLA : Option Addr} {slLA : Array (Option Value)} {ocLA kVLA dcLA pmLA cdLA ctLA : Value}
    {odLE anLE : Option Addr} {slLE : Array (Option Value)} {ocLE kVLE dcLE pmLE cdLE ctLE : Value}
    {odLH anLH : Option Addr} {slLH : Array (Option Value)} {ocLH kVLH dcLH pmLH cdLH ctLH : Value}
    {odRD anRD : Option Addr} {slRD : Array (Option Value)} {ocRD kVRD dcRD pmRD cdRD ctRD : Value}
    {odL anL : Option Addr} {slL : Array (Option Value)} {ocL kVL dcL pmL cdL ctL : Value}
    {odMI anMI : Option Addr} {slMI : Array (Option Value)} {ocMI dcMI pmMI cdMI ctMI : Value}
    {odM1 anM1 : Option Addr} {slM1 : Array (Option Value)} {ocM1 kVM1 dcM1 pmM1 cdM1 ctM1 : Value}
    {odM3 anM3 : Option Addr} {slM3 : Array (Option Value)} {ocM3 kVM3 dcM3 pmM3 cdM3 ctM3 : Value}
    {odM4 anM4 : Option Addr} {slM4 : Array (Option Value)} {ocM4 kVM4 dcM4 pmM4 cdM4 ctM4 : Value}
    {odM5 anM5 : Option Addr} {slM5 : Array (Option Value)} {ocM5 kVM5 dcM5 pmM5 cdM5 ctM5 : Value}
    {odM6 anM6 : Option Addr} {slM6 : Array (Option Value)} {ocM6 kVM6 dcM6 pmM6 cdM6 ctM6 : Value}
    {odM7 anM7 : Option Addr} {slM7 : Array (Option Value)} {ocM7 kVM7 dcM7 pmM7 cdM7 ctM7 : Value}
    {odM8 anM8 : Option Addr} {slM8 : Array (Option Value)} {ocM8 kVM8 dcM8 pmM8 cdM8 ctM8 : Value}
    {odM9 anM9 : Option Addr} {slM9 : Array (Option Value)} {ocM9 kVM9 dcM9 pmM9 cdM9 ctM9 : Value}
    (aSR : PySem.W.nsIn K mainGlobals "suffix_rows" = some (some (.ref fSR))) (lSR : K.lookup fSR = some ⟨ocSR, odSR, .func (PySem.W.fnOf "suffix_rows" "suffix_rows" (defArgs sSuffix) (defBody sSuffix) (defScope sSuffix) .none kVSR dcSR pmSR anSR cdSR ctSR), slSR⟩) (cSR : PySem.W.codeIn K cdSR "suffix_rows" = true) (kSR : PySem.W.keepIn K (.ref fSR) = true)
    (aRK : PySem.W.nsIn K mainGlobals "_ranks" = some (some (.ref fRK))) (lRK : K.lookup fRK = some ⟨ocRK, odRK, .func (PySem.W.fnOf "_ranks" "_ranks" (defArgs sRanks) (defBody sRanks) (defScope sRanks) .none kVRK dcRK pmRK anRK cdRK ctRK), slRK⟩) (cRK : PySem.W.codeIn K cdRK "_ranks" = true) (kRK : PySem.W.keepIn K (.ref fRK) = true)
    (aJK : PySem.W.nsIn K mainGlobals "_joined_keys" = some (some (.ref fJK))) (lJK : K.lookup fJK = some ⟨ocJK, odJK, .func (PySem.W.fnOf "_joined_keys" "_joined_keys" (defArgs sKeys) (defBody sKeys) (defScope sKeys) .none kVJK dcJK pmJK anJK cdJK ctJK), slJK⟩) (cJK : PySem.W.codeIn K cdJK "_joined_keys" = true) (kJK : PySem.W.keepIn K (.ref fJK) = true)
    (aSy : PySem.W.nsIn K mainGlobals "symbol" = some (some (.ref fSy))) (lSy : K.lookup fSy = some ⟨ocSy, odSy, .func (PySem.W.fnOf "symbol" "symbol" (defArgs sSymbol) (defBody sSymbol) (defScope sSymbol) .none kVSy dcSy pmSy anSy cdSy ctSy), slSy⟩) (cSy : PySem.W.codeIn K cdSy "symbol" = true) (kSy : PySem.W.keepIn K (.ref fSy) = true)
    (aSO : PySem.W.nsIn K mainGlobals "symbols_of" = some (some (.ref fSO))) (lSO : K.lookup fSO = some ⟨ocSO, odSO, .func (PySem.W.fnOf "symbols_of" "symbols_of" (defArgs sSymsOf) (defBody sSymsOf) (defScope sSymsOf) .none kVSO dcSO pmSO anSO cdSO ctSO), slSO⟩) (cSO : PySem.W.codeIn K cdSO "symbols_of" = true) (kSO : PySem.W.keepIn K (.ref fSO) = true)
    (aPJ : PySem.W.nsIn K mainGlobals "joined" = some (some (.ref fPJ))) (lPJ : K.lookup fPJ = some ⟨ocPJ, odPJ, .func (PySem.W.fnOf "joined" "joined" (defArgs sPJoined) (defBody sPJoined) (defScope sPJoined) .none kVPJ dcPJ pmPJ anPJ cdPJ ctPJ), slPJ⟩) (cPJ : PySem.W.codeIn K cdPJ "joined" = true) (kPJ : PySem.W.keepIn K (.ref fPJ) = true)
    (aSm : PySem.W.nsIn K mainGlobals "_smaller_symbols" = some (some (.ref fSm))) (lSm : K.lookup fSm = some ⟨ocSm, odSm, .func (PySem.W.fnOf "_smaller_symbols" "_smaller_symbols" (defArgs sSmaller) (defBody sSmaller) (defScope sSmaller) .none kVSm dcSm pmSm anSm cdSm ctSm), slSm⟩) (cSm : PySem.W.codeIn K cdSm "_smaller_symbols" = true) (kSm : PySem.W.keepIn K (.ref fSm) = true)
    (aCo : PySem.W.nsIn K mainGlobals "_counts_at_blocks" = some (some (.ref fCo))) (lCo : K.lookup fCo = some ⟨ocCo, odCo, .func (PySem.W.fnOf "_counts_at_blocks" "_counts_at_blocks" (defArgs sCounts) (defBody sCounts) (defScope sCounts) .none kVCo dcCo pmCo anCo cdCo ctCo), slCo⟩) (cCo : PySem.W.codeIn K cdCo "_counts_at_blocks" = true) (kCo : PySem.W.keepIn K (.ref fCo) = true)
    (aBg : PySem.W.nsIn K mainGlobals "_begins_of" = some (some (.ref fBg))) (lBg : K.lookup fBg = some ⟨ocBg, odBg, .func (PySem.W.fnOf "_begins_of" "_begins_of" (defArgs sBegins) (defBody sBegins) (defScope sBegins) .none kVBg dcBg pmBg anBg cdBg ctBg), slBg⟩) (cBg : PySem.W.codeIn K cdBg "_begins_of" = true) (kBg : PySem.W.keepIn K (.ref fBg) = true)
    (aTU : PySem.W.nsIn K mainGlobals "turned" = some (some (.ref fTU))) (lTU : K.lookup fTU = some ⟨ocTU, odTU, .func (PySem.W.fnOf "turned" "turned" (defArgs sTurned) (defBody sTurned) (defScope sTurned) .none kVTU dcTU pmTU anTU cdTU ctTU), slTU⟩) (cTU : PySem.W.codeIn K cdTU "turned" = true) (kTU : PySem.W.keepIn K (.ref fTU) = true)
    (aPC : PySem.W.nsIn K mainGlobals "pieces" = some (some (.ref fPC))) (lPC : K.lookup fPC = some ⟨ocPC, odPC, .func (PySem.W.fnOf "pieces" "pieces" (defArgs sPcs) (defBody sPcs) (defScope sPcs) .none kVPC dcPC pmPC anPC cdPC ctPC), slPC⟩) (cPC : PySem.W.codeIn K cdPC "pieces" = true) (kPC : PySem.W.keepIn K (.ref fPC) = true)
    (aSE : PySem.W.nsIn K mainGlobals "search_windows" = some (some (.ref fSE))) (lSE : K.lookup fSE = some ⟨ocSE, odSE, .func (PySem.W.fnOf "search_windows" "search_windows" (defArgs sSearch) (defBody sSearch) (defScope sSearch) .none kVSE dcSE pmSE anSE cdSE ctSE), slSE⟩) (cSE : PySem.W.codeIn K cdSE "search_windows" = true) (kSE : PySem.W.keepIn K (.ref fSE) = true)
    (aLO : PySem.W.nsIn K mainGlobals "_length_of" = some (some (.ref fLO))) (lLO : K.lookup fLO = some ⟨ocLO, odLO, .func (PySem.W.fnOf "_length_of" "_length_of" (defArgs sLenOf) (defBody sLenOf) (defScope sLenOf) .none kVLO dcLO pmLO anLO cdLO ctLO), slLO⟩) (cLO : PySem.W.codeIn K cdLO "_length_of" = true) (kLO : PySem.W.keepIn K (.ref fLO) = true)
    (aEP : PySem.W.nsIn K mainGlobals "_has_empty_part" = some (some (.ref fEP))) (lEP : K.lookup fEP = some ⟨ocEP, odEP, .func (PySem.W.fnOf "_has_empty_part" "_has_empty_part" (defArgs sEmptyP) (defBody sEmptyP) (defScope sEmptyP) .none kVEP dcEP pmEP anEP cdEP ctEP), slEP⟩) (cEP : PySem.W.codeIn K cdEP "_has_empty_part" = true) (kEP : PySem.W.keepIn K (.ref fEP) = true)
    (aCM : PySem.W.nsIn K mainGlobals "_is_common" = some (some (.ref fCM))) (lCM : K.lookup fCM = some ⟨ocCM, odCM, .func (PySem.W.fnOf "_is_common" "_is_common" (defArgs sCommon) (defBody sCommon) (defScope sCommon) .none kVCM dcCM pmCM anCM cdCM ctCM), slCM⟩) (cCM : PySem.W.codeIn K cdCM "_is_common" = true) (kCM : PySem.W.keepIn K (.ref fCM) = true)
    (aKN : PySem.W.nsIn K mainGlobals "_known_parts" = some (some (.ref fKN))) (lKN : K.lookup fKN = some ⟨ocKN, odKN, .func (PySem.W.fnOf "_known_parts" "_known_parts" (defArgs sKnown) (defBody sKnown) (defScope sKnown) .none kVKN dcKN pmKN anKN cdKN ctKN), slKN⟩) (cKN : PySem.W.codeIn K cdKN "_known_parts" = true) (kKN : PySem.W.keepIn K (.ref fKN) = true)
    (aBR : PySem.W.nsIn K mainGlobals "_begins_by_reference" = some (some (.ref fBR))) (lBR : K.lookup fBR = some ⟨ocBR, odBR, .func (PySem.W.fnOf "_begins_by_reference" "_begins_by_reference" (defArgs sBegRef) (defBody sBegRef) (defScope sBegRef) .none kVBR dcBR pmBR anBR cdBR ctBR), slBR⟩) (cBR : PySem.W.codeIn K cdBR "_begins_by_reference" = true) (kBR : PySem.W.keepIn K (.ref fBR) = true)
    (aAR : PySem.W.nsIn K mainGlobals "_windows_around" = some (some (.ref fAR))) (lAR : K.lookup fAR = some ⟨ocAR, odAR, .func (PySem.W.fnOf "_windows_around" "_windows_around" (defArgs sAround) (defBody sAround) (defScope sAround) .none kVAR dcAR pmAR anAR cdAR ctAR), slAR⟩) (cAR : PySem.W.codeIn K cdAR "_windows_around" = true) (kAR : PySem.W.keepIn K (.ref fAR) = true)
    (aE : PySem.W.nsIn K mainGlobals "ends" = some (some (.ref fE))) (lE : K.lookup fE = some ⟨ocE, odE, .func (PySem.W.fnOf "ends" "ends" (defArgs sEnds) (defBody sEnds) (defScope sEnds) .none kVE dcE pmE anE cdE ctE), slE⟩) (cE : PySem.W.codeIn K cdE "ends" = true) (kE : PySem.W.keepIn K (.ref fE) = true)
    (aG : PySem.W.nsIn K mainGlobals "_growths" = some (some (.ref fG))) (lG : K.lookup fG = some ⟨ocG, odG, .func (PySem.W.fnOf "_growths" "_growths" (defArgs sGrow) (defBody sGrow) (defScope sGrow) .none kVG dcG pmG anG cdG ctG), slG⟩) (cG : PySem.W.codeIn K cdG "_growths" = true) (kG : PySem.W.keepIn K (.ref fG) = true)
    (aRA : PySem.W.nsIn K mainGlobals "_agreeing_rows" = some (some (.ref fRA))) (lRA : K.lookup fRA = some ⟨ocRA, odRA, .func (PySem.W.fnOf "_agreeing_rows" "_agreeing_rows" (defArgs sARows) (defBody sARows) (defScope sARows) .none kVRA dcRA pmRA anRA cdRA ctRA), slRA⟩) (cRA : PySem.W.codeIn K cdRA "_agreeing_rows" = true) (kRA : PySem.W.keepIn K (.ref fRA) = true)
    (aHI : PySem.W.nsIn K mainGlobals "hits" = some (some (.ref fHI))) (lHI : K.lookup fHI = some ⟨ocHI, odHI, .func (PySem.W.fnOf "hits" "hits" (defArgs sHits) (defBody sHits) (defScope sHits) .none kVHI dcHI pmHI anHI cdHI ctHI), slHI⟩) (cHI : PySem.W.codeIn K cdHI "hits" = true) (kHI : PySem.W.keepIn K (.ref fHI) = true)
    (aHO : PySem.W.nsIn K mainGlobals "_hits_on_strand" = some (some (.ref fHO))) (lHO : K.lookup fHO = some ⟨ocHO, odHO, .func (PySem.W.fnOf "_hits_on_strand" "_hits_on_strand" (defArgs sHitsOn) (defBody sHitsOn) (defScope sHitsOn) .none kVHO dcHO pmHO anHO cdHO ctHO), slHO⟩) (cHO : PySem.W.codeIn K cdHO "_hits_on_strand" = true) (kHO : PySem.W.keepIn K (.ref fHO) = true)
    (aBP : PySem.W.nsIn K mainGlobals "best_pairs" = some (some (.ref fBP))) (lBP : K.lookup fBP = some ⟨ocBP, odBP, .func (PySem.W.fnOf "best_pairs" "best_pairs" (defArgs sBPairs) (defBody sBPairs) (defScope sBPairs) .none kVBP dcBP pmBP anBP cdBP ctBP), slBP⟩) (cBP : PySem.W.codeIn K cdBP "best_pairs" = true) (kBP : PySem.W.keepIn K (.ref fBP) = true)
    (aGR : PySem.W.nsIn K mainGlobals "_groups" = some (some (.ref fGR))) (lGR : K.lookup fGR = some ⟨ocGR, odGR, .func (PySem.W.fnOf "_groups" "_groups" (defArgs sGroups) (defBody sGroups) (defScope sGroups) .none kVGR dcGR pmGR anGR cdGR ctGR), slGR⟩) (cGR : PySem.W.codeIn K cdGR "_groups" = true) (kGR : PySem.W.keepIn K (.ref fGR) = true)
    (aWI : PySem.W.nsIn K mainGlobals "_pairs_within" = some (some (.ref fWI))) (lWI : K.lookup fWI = some ⟨ocWI, odWI, .func (PySem.W.fnOf "_pairs_within" "_pairs_within" (defArgs sPWithin) (defBody sPWithin) (defScope sPWithin) .none kVWI dcWI pmWI anWI cdWI ctWI), slWI⟩) (cWI : PySem.W.codeIn K cdWI "_pairs_within" = true) (kWI : PySem.W.keepIn K (.ref fWI) = true)
    (aC : PySem.W.nsIn K mainGlobals "_law_cell" = some (some (.ref fC))) (lC : K.lookup fC = some ⟨ocC, odC, .func (PySem.W.fnOf "_law_cell" "_law_cell" (defArgs sCell) (defBody sCell) (defScope sCell) .none kVC dcC pmC anC cdC ctC), slC⟩) (cC : PySem.W.codeIn K cdC "_law_cell" = true) (kC : PySem.W.keepIn K (.ref fC) = true)
    (aO : PySem.W.nsIn K mainGlobals "_law_row" = some (some (.ref fO))) (lO : K.lookup fO = some ⟨ocO, odO, .func (PySem.W.fnOf "_law_row" "_law_row" (defArgs sRow) (defBody sRow) (defScope sRow) .none kVO dcO pmO anO cdO ctO), slO⟩) (cO : PySem.W.codeIn K cdO "_law_row" = true) (kO : PySem.W.keepIn K (.ref fO) = true)
    (aT : PySem.W.nsIn K mainGlobals "_law_text" = some (some (.ref fT))) (lT : K.lookup fT = some ⟨ocT, odT, .func (PySem.W.fnOf "_law_text" "_law_text" (defArgs sText) (defBody sText) (defScope sText) .none kVT dcT pmT anT cdT ctT), slT⟩) (cT : PySem.W.codeIn K cdT "_law_text" = true) (kT : PySem.W.keepIn K (.ref fT) = true)
    (aU : PySem.W.nsIn K mainGlobals "_law_turned" = some (some (.ref fU))) (lU : K.lookup fU = some ⟨ocU, odU, .func (PySem.W.fnOf "_law_turned" "_law_turned" (defArgs sLTurned) (defBody sLTurned) (defScope sLTurned) .none kVU dcU pmU anU cdU ctU), slU⟩) (cU : PySem.W.codeIn K cdU "_law_turned" = true) (kU : PySem.W.keepIn K (.ref fU) = true)
    (aLR : PySem.W.nsIn K mainGlobals "_law_read" = some (some (.ref fLR))) (lLR : K.lookup fLR = some ⟨ocLR, odLR, .func (PySem.W.fnOf "_law_read" "_law_read" (defArgs sLRead) (defBody sLRead) (defScope sLRead) .none kVLR dcLR pmLR anLR cdLR ctLR), slLR⟩) (cLR : PySem.W.codeIn K cdLR "_law_read" = true) (kLR : PySem.W.keepIn K (.ref fLR) = true)
    (aRF : PySem.W.nsIn K mainGlobals "_law_references" = some (some (.ref fRF))) (lRF : K.lookup fRF = some ⟨ocRF, odRF, .func (PySem.W.fnOf "_law_references" "_law_references" (defArgs sLRefs) (defBody sLRefs) (defScope sLRefs) .none kVRF dcRF pmRF anRF cdRF ctRF), slRF⟩) (cRF : PySem.W.codeIn K cdRF "_law_references" = true) (kRF : PySem.W.keepIn K (.ref fRF) = true)
    (aLA : PySem.W.nsIn K mainGlobals "_law_agree" = some (some (.ref fLA))) (lLA : K.lookup fLA = some ⟨ocLA, odLA, .func (PySem.W.fnOf "_law_agree" "_law_agree" (defArgs sLAgree) (defBody sLAgree) (defScope sLAgree) .none kVLA dcLA pmLA anLA cdLA ctLA), slLA⟩) (cLA : PySem.W.codeIn K cdLA "_law_agree" = true) (kLA : PySem.W.keepIn K (.ref fLA) = true)
    (aLE : PySem.W.nsIn K mainGlobals "_law_ends" = some (some (.ref fLE))) (lLE : K.lookup fLE = some ⟨ocLE, odLE, .func (PySem.W.fnOf "_law_ends" "_law_ends" (defArgs sLEnds) (defBody sLEnds) (defScope sLEnds) .none kVLE dcLE pmLE anLE cdLE ctLE), slLE⟩) (cLE : PySem.W.codeIn K cdLE "_law_ends" = true) (kLE : PySem.W.keepIn K (.ref fLE) = true)
    (aLH : PySem.W.nsIn K mainGlobals "_law_hits" = some (some (.ref fLH))) (lLH : K.lookup fLH = some ⟨ocLH, odLH, .func (PySem.W.fnOf "_law_hits" "_law_hits" (defArgs sLHits) (defBody sLHits) (defScope sLHits) .none kVLH dcLH pmLH anLH cdLH ctLH), slLH⟩) (cLH : PySem.W.codeIn K cdLH "_law_hits" = true) (kLH : PySem.W.keepIn K (.ref fLH) = true)
    (aRD : PySem.W.nsIn K mainGlobals "_law_reads" = some (some (.ref fRD))) (lRD : K.lookup fRD = some ⟨ocRD, odRD, .func (PySem.W.fnOf "_law_reads" "_law_reads" (defArgs sLReads) (defBody sLReads) (defScope sLReads) .none kVRD dcRD pmRD anRD cdRD ctRD), slRD⟩) (cRD : PySem.W.codeIn K cdRD "_law_reads" = true) (kRD : PySem.W.keepIn K (.ref fRD) = true)
    (aL : PySem.W.nsIn K mainGlobals "law" = some (some (.ref fL))) (lL : K.lookup fL = some ⟨ocL, odL, .func (PySem.W.fnOf "law" "law" (defArgs sLaw) (defBody sLaw) (defScope sLaw) .none kVL dcL pmL anL cdL ctL), slL⟩) (cL : PySem.W.codeIn K cdL "law" = true) (kL : PySem.W.keepIn K (.ref fL) = true)
    (aMI : PySem.W.findIn K (.ref C) "__init__" = some (some (.ref fMI))) (iMI : PySem.W.isFn K (.ref fMI) = true) (lMI : K.lookup fMI = some ⟨ocMI, odMI, .func (PySem.W.fnOf "__init__" "Index.__init__" (defArgs mInit) (defBody mInit) (defScope mInit) .none (.ref Dk) dcMI pmMI anMI cdMI ctMI), slMI⟩) (cMI : PySem.W.codeIn K cdMI "Index.__init__" = true) (kMI : PySem.W.keepIn K (.ref fMI) = true)
    (aM1 : PySem.W.findIn K (.ref C) "length" = some (some (.ref fM1))) (iM1 : PySem.W.isFn K (.ref fM1) = true) (lM1 : K.lookup fM1 = some ⟨ocM1, odM1, .func (PySem.W.fnOf "length" "Index.length" (defArgs mLength) (defBody mLength) (defScope mLength) .none kVM1 dcM1 pmM1 anM1 cdM1 ctM1), slM1⟩) (cM1 : PySem.W.codeIn K cdM1 "Index.length" = true) (kM1 : PySem.W.keepIn K (.ref fM1) = true)
    (aM3 : PySem.W.findIn K (.ref C) "count" = some (some (.ref fM3))) (iM3 : PySem.W.isFn K (.ref fM3) = true) (lM3 : K.lookup fM3 = some ⟨ocM3, odM3, .func (PySem.W.fnOf "count" "Index.count" (defArgs mCount) (defBody mCount) (defScope mCount) .none kVM3 dcM3 pmM3 anM3 cdM3 ctM3), slM3⟩) (cM3 : PySem.W.codeIn K cdM3 "Index.count" = true) (kM3 : PySem.W.keepIn K (.ref fM3) = true)
    (aM4 : PySem.W.findIn K (.ref C) "_row_ahead" = some (some (.ref fM4))) (iM4 : PySem.W.isFn K (.ref fM4) = true) (lM4 : K.lookup fM4 = some ⟨ocM4, odM4, .func (PySem.W.fnOf "_row_ahead" "Index._row_ahead" (defArgs mAhead) (defBody mAhead) (defScope mAhead) .none kVM4 dcM4 pmM4 anM4 cdM4 ctM4), slM4⟩) (cM4 : PySem.W.codeIn K cdM4 "Index._row_ahead" = true) (kM4 : PySem.W.keepIn K (.ref fM4) = true)
    (aM5 : PySem.W.findIn K (.ref C) "step" = some (some (.ref fM5))) (iM5 : PySem.W.isFn K (.ref fM5) = true) (lM5 : K.lookup fM5 = some ⟨ocM5, odM5, .func (PySem.W.fnOf "step" "Index.step" (defArgs mStep) (defBody mStep) (defScope mStep) .none kVM5 dcM5 pmM5 anM5 cdM5 ctM5), slM5⟩) (cM5 : PySem.W.codeIn K cdM5 "Index.step" = true) (kM5 : PySem.W.keepIn K (.ref fM5) = true)
    (aM6 : PySem.W.findIn K (.ref C) "start" = some (some (.ref fM6))) (iM6 : PySem.W.isFn K (.ref fM6) = true) (lM6 : K.lookup fM6 = some ⟨ocM6, odM6, .func (PySem.W.fnOf "start" "Index.start" (defArgs mStart) (defBody mStart) (defScope mStart) .none kVM6 dcM6 pmM6 anM6 cdM6 ctM6), slM6⟩) (cM6 : PySem.W.codeIn K cdM6 "Index.start" = true) (kM6 : PySem.W.keepIn K (.ref fM6) = true)
    (aM7 : PySem.W.findIn K (.ref C) "interval" = some (some (.ref fM7))) (iM7 : PySem.W.isFn K (.ref fM7) = true) (lM7 : K.lookup fM7 = some ⟨ocM7, odM7, .func (PySem.W.fnOf "interval" "Index.interval" (defArgs mInterval) (defBody mInterval) (defScope mInterval) .none kVM7 dcM7 pmM7 anM7 cdM7 ctM7), slM7⟩) (cM7 : PySem.W.codeIn K cdM7 "Index.interval" = true) (kM7 : PySem.W.keepIn K (.ref fM7) = true)
    (aM8 : PySem.W.findIn K (.ref C) "_place" = some (some (.ref fM8))) (iM8 : PySem.W.isFn K (.ref fM8) = true) (lM8 : K.lookup fM8 = some ⟨ocM8, odM8, .func (PySem.W.fnOf "_place" "Index._place" (defArgs mPlace) (defBody mPlace) (defScope mPlace) .none kVM8 dcM8 pmM8 anM8 cdM8 ctM8), slM8⟩) (cM8 : PySem.W.codeIn K cdM8 "Index._place" = true) (kM8 : PySem.W.keepIn K (.ref fM8) = true)
    (aM9 : PySem.W.findIn K (.ref C) "places" = some (some (.ref fM9))) (iM9 : PySem.W.isFn K (.ref fM9) = true) (lM9 : K.lookup fM9 = some ⟨ocM9, odM9, .func (PySem.W.fnOf "places" "Index.places" (defArgs mPlaces) (defBody mPlaces) (defScope mPlaces) .none kVM9 dcM9 pmM9 anM9 cdM9 ctM9), slM9⟩) (cM9 : PySem.W.codeIn K cdM9 "Index.places" = true) (kM9 : PySem.W.keepIn K (.ref fM9) = true)
    (gC : PySem.W.nsIn K mainGlobals "Index" = some (some (.ref C))) (pg : PySem.W.plainGet K C Str.empty = true) (hd : PySem.W.hasDictIn K C = true) (po : PySem.W.plainOver K C = true) (sa : PySem.W.findIn K (.ref C) "__setattr__" = some (some (.builtin "object.__setattr__"))) (mk : PySem.W.makesIn K C = true) (kc : PySem.W.keepIn K (.ref C) = true)
    (u0 : PySem.W.findIn K (.ref C) "references" = some none) (u1 : PySem.W.findIn K (.ref C) "block" = some none) (u2 : PySem.W.findIn K (.ref C) "sample" = some none) (u3 : PySem.W.findIn K (.ref C) "_last" = some none) (u4 : PySem.W.findIn K (.ref C) "_smaller" = some none) (u5 : PySem.W.findIn K (.ref C) "_counts" = some none) (u6 : PySem.W.findIn K (.ref C) "_starts" = some none) (u7 : PySem.W.findIn K (.ref C) "_begins" = some none)
    {tB tS : Tok} (dB : PySem.W.nsIn K Dk "block" = some (some (.int 64 tB))) (dS : PySem.W.nsIn K Dk "sample" = some (some (.int 16 tS)))
    {esY : Array DictEntry} {nY : Nat} {tY0 tY1 tY2 tY3 tY4 : Tok}
    (dY : PySem.W.nsIn K mainGlobals "_SYMBOLS" = some (some (.ref qY))) (eY : K.lookup qY = some ⟨.type "dict", none, .dict esY nY, #[]⟩) (yY : PySem.W.KeysLit w.params esY.toList)
    (vY0 : PySem.W.nsIn K qY "A" = some (some (.int 2 tY0))) (vY1 : PySem.W.nsIn K qY "C" = some (some (.int 3 tY1))) (vY2 : PySem.W.nsIn K qY "G" = some (some (.int 4 tY2))) (vY3 : PySem.W.nsIn K qY "T" = some (some (.int 5 tY3))) (vY4 : PySem.W.nsIn K qY "N" = some (some (.int 6 tY4)))
    {tEN : Tok} (nEN : PySem.W.nsIn K mainGlobals "_END" = some (some (.int 0 tEN)))
    {tBO : Tok} (nBO : PySem.W.nsIn K mainGlobals "_BORDER" = some (some (.int 1 tBO)))
    {tMS : Tok} (nMS : PySem.W.nsIn K mainGlobals "_MANY_SYMBOLS" = some (some (.int 7 tMS)))
    {tLE2 : Tok} (nLE2 : PySem.W.nsIn K mainGlobals "LETTERS" = some (some (.str "ACGTN" tLE2)))
    {esT : Array DictEntry} {nT : Nat} {tT0 tT1 tT2 tT3 tT4 : Tok}
    (dT : PySem.W.nsIn K mainGlobals "_TURNED" = some (some (.ref q0)))
    (eT : K.lookup q0 = some ⟨.type "dict", none, .dict esT nT, #[]⟩)
    (yT : PySem.W.KeysLit w.params esT.toList)
    (vT0 : PySem.W.nsIn K q0 "A" = some (some (.str (Str.ofString "T") tT0)))
    (vT1 : PySem.W.nsIn K q0 "C" = some (some (.str (Str.ofString "G") tT1)))
    (vT2 : PySem.W.nsIn K q0 "G" = some (some (.str (Str.ofString "C") tT2)))
    (vT3 : PySem.W.nsIn K q0 "T" = some (some (.str (Str.ofString "A") tT3)))
    (vT4 : PySem.W.nsIn K q0 "N" = some (some (.str (Str.ofString "N") tT4)))
    (zlen : PySem.W.nsIn K mainGlobals "len" = some none) (zint : PySem.W.nsIn K mainGlobals "int" = some none) (zabs : PySem.W.nsIn K mainGlobals "abs" = some none) (zrange : PySem.W.nsIn K mainGlobals "range" = some none) (zisinstance : PySem.W.nsIn K mainGlobals "isinstance" = some none) (zbool : PySem.W.nsIn K mainGlobals "bool" = some none) (zstr : PySem.W.nsIn K mainGlobals "str" = some none) (zlist : PySem.W.nsIn K mainGlobals "list" = some none) (zsorted : PySem.W.nsIn K mainGlobals "sorted" = some none) (zenumerate : PySem.W.nsIn K mainGlobals "enumerate" = some none) (zset : PySem.W.nsIn K mainGlobals "set" = some none) (zzip : PySem.W.nsIn K mainGlobals "zip" = some none) (zreversed : PySem.W.nsIn K mainGlobals "reversed" = some none) (ztuple : PySem.W.nsIn K mainGlobals "tuple" = some none) (zall : PySem.W.nsIn K mainGlobals "all" = some none) (zmax : PySem.W.nsIn K mainGlobals "max" = some none) (zmin : PySem.W.nsIn K mainGlobals "min" = some none) :
    ∃ fd : FuncData, (∀ (s : Shared) (v : Value), BindsTo s fd ⟨[v], []⟩ [("script", v)]) ∧ ∀ base : Heap, K.In base → base.Ns mainGlobals mg → FnOk l.prog w K mg base CX0 12 fa fd ["script"] (spLaw K) := by
  have e := hfa.symm.trans (PySem.W.mg_of X G aL)
  cases e
  have FSR := fun_mk (st := sSuffix) lSR cSR kSR
  have FRK := fun_mk (st := sRanks) lRK cRK kRK
  have FJK := fun_mk (st := sKeys) lJK cJK kJK
  have FSy := fun_mk (st := sSymbol) lSy cSy kSy
  have FSO := fun_mk (st := sSymsOf) lSO cSO kSO
  have FPJ := fun_mk (st := sPJoined) lPJ cPJ kPJ
  have FSm := fun_mk (st := sSmaller) lSm cSm kSm
  have FCo := fun_mk (st := sCounts) lCo cCo kCo
  have FBg := fun_mk (st := sBegins) lBg cBg kBg
  have FTU := fun_mk (st := sTurned) lTU cTU kTU
  have FPC := fun_mk (st := sPcs) lPC cPC kPC
  have FSE := fun_mk (st := sSearch) lSE cSE kSE
  have FLO := fun_mk (st := sLenOf) lLO cLO kLO
  have FEP := fun_mk (st := sEmptyP) lEP cEP kEP
  have FCM := fun_mk (st := sCommon) lCM cCM kCM
  have FKN := fun_mk (st := sKnown) lKN cKN kKN
  have FBR := fun_mk (st := sBegRef) lBR cBR kBR
  have FAR := fun_mk (st := sAround) lAR cAR kAR
  have FE := fun_mk (st := sEnds) lE cE kE
  have FG := fun_mk (st := sGrow) lG cG kG
  have FRA := fun_mk (st := sARows) lRA cRA kRA
  have FHI := fun_mk (st := sHits) lHI cHI kHI
  have FHO := fun_mk (st := sHitsOn) lHO cHO kHO
  have FBP := fun_mk (st := sBPairs) lBP cBP kBP
  have FGR := fun_mk (st := sGroups) lGR cGR kGR
  have FWI := fun_mk (st := sPWithin) lWI cWI kWI
  have FC := fun_mk (st := sCell) lC cC kC
  have FO := fun_mk (st := sRow) lO cO kO
  have FT := fun_mk (st := sText) lT cT kT
  have FU := fun_mk (st := sLTurned) lU cU kU
  have FLR := fun_mk (st := sLRead) lLR cLR kLR
  have FRF := fun_mk (st := sLRefs) lRF cRF kRF
  have FLA := fun_mk (st := sLAgree) lLA cLA kLA
  have FLE := fun_mk (st := sLEnds) lLE cLE kLE
  have FLH := fun_mk (st := sLHits) lLH cLH kLH
  have FRD := fun_mk (st := sLReads) lRD cRD kRD
  have FL := fun_mk (st := sLaw) lL cL kL
  have FM1 := fun_mk (st := mLength) lM1 cM1 kM1
  have FM3 := fun_mk (st := mCount) lM3 cM3 kM3
  have FM4 := fun_mk (st := mAhead) lM4 cM4 kM4
  have FM5 := fun_mk (st := mStep) lM5 cM5 kM5
  have FM6 := fun_mk (st := mStart) lM6 cM6 kM6
  have FM7 := fun_mk (st := mInterval) lM7 cM7 kM7
  have FM8 := fun_mk (st := mPlace) lM8 cM8 kM8
  have FM9 := fun_mk (st := mPlaces) lM9 cM9 kM9
  have FMI : FunD K "__init__" "Index.__init__" (defArgs mInit) (defBody mInit) (defScope mInit) [] [("block", .int 64), ("sample", .int 16)] fMI _ := ⟨⟨_, _, _, _, _, _, _, _, _, _, rfl, lMI, cMI, .inl ⟨rfl, rfl⟩, .inr ⟨_, rfl, fun q hq => by
    rcases List.mem_cons.mp hq with e | hq
    · subst e
      exact ⟨_, dB, _, rfl⟩
    · rcases List.mem_cons.mp hq with e | hq
      · subst e
        exact ⟨_, dS, _, rfl⟩
      · cases hq⟩⟩, kMI⟩
  have IX : IxT K mg C := ⟨⟨pg, hd, po, sa⟩, u0, u1, u2, u3, u4, u5, u6, u7, PySem.W.mg_of X G gC⟩
  have DY : KD K w qY fun c => .int (sy c) := fun c hc => by
    rcases hc with e | e | e | e | e <;> subst e
    · exact ⟨_, _, _, eY, yY, vY0, ⟨_, rfl⟩⟩
    · exact ⟨_, _, _, eY, yY, vY1, ⟨_, rfl⟩⟩
    · exact ⟨_, _, _, eY, yY, vY2, ⟨_, rfl⟩⟩
    · exact ⟨_, _, _, eY, yY, vY3, ⟨_, rfl⟩⟩
    · exact ⟨_, _, _, eY, yY, vY4, ⟨_, rfl⟩⟩
  have B : Bl mg := ⟨PySem.W.mg_none_of X G zlen, PySem.W.mg_none_of X G zint, PySem.W.mg_none_of X G zabs, PySem.W.mg_none_of X G zrange, PySem.W.mg_none_of X G zisinstance, PySem.W.mg_none_of X G zbool, PySem.W.mg_none_of X G zstr⟩
  have bSR := FSR.binds (ps := ["numbers"]) fun _ _ _ _ _ _ us hl => match us, hl with | [_], _ => rfl
  have bRK := FRK.binds (ps := ["keys"]) fun _ _ _ _ _ _ us hl => match us, hl with | [_], _ => rfl
  have bJK := FJK.binds (ps := ["ranks", "width"]) fun _ _ _ _ _ _ us hl => match us, hl with | [_, _], _ => rfl
  have bSy := FSy.binds (ps := ["letter"]) fun _ _ _ _ _ _ us hl => match us, hl with | [_], _ => rfl
  have bSO := FSO.binds (ps := ["text"]) fun _ _ _ _ _ _ us hl => match us, hl with | [_], _ => rfl
  have bPJ := FPJ.binds (ps := ["texts"]) fun _ _ _ _ _ _ us hl => match us, hl with | [_], _ => rfl
  have bSm := FSm.binds (ps := ["sequence"]) fun _ _ _ _ _ _ us hl => match us, hl with | [_], _ => rfl
  have bCo := FCo.binds (ps := ["last", "block"]) fun _ _ _ _ _ _ us hl => match us, hl with | [_, _], _ => rfl
  have bBg := FBg.binds (ps := ["texts"]) fun _ _ _ _ _ _ us hl => match us, hl with | [_], _ => rfl
  have bTU := FTU.binds (ps := ["text"]) fun _ _ _ _ _ _ us hl => match us, hl with | [_], _ => rfl
  have bPC := FPC.binds (ps := ["read", "k"]) fun _ _ _ _ _ _ us hl => match us, hl with | [_, _], _ => rfl
  have bSE := FSE.binds (ps := ["index", "read", "k"]) fun _ _ _ _ _ _ us hl => match us, hl with | [_, _, _], _ => rfl
  have bLO := FLO.binds (ps := ["index", "reference"]) fun _ _ _ _ _ _ us hl => match us, hl with | [_, _], _ => rfl
  have bEP := FEP.binds (ps := ["read", "k"]) fun _ _ _ _ _ _ us hl => match us, hl with | [_, _], _ => rfl
  have bCM := FCM.binds (ps := ["index", "read", "k"]) fun _ _ _ _ _ _ us hl => match us, hl with | [_, _, _], _ => rfl
  have bKN := FKN.binds (ps := ["read", "k"]) fun _ _ _ _ _ _ us hl => match us, hl with | [_, _], _ => rfl
  have bBR := FBR.binds (ps := ["index", "read", "k"]) fun _ _ _ _ _ _ us hl => match us, hl with | [_, _, _], _ => rfl
  have bAR := FAR.binds (ps := ["begins", "length", "many", "k"]) fun _ _ _ _ _ _ us hl => match us, hl with | [_, _, _, _], _ => rfl
  have bE := FE.binds (ps := ["read", "text", "k"]) fun _ _ _ _ _ _ us hl => match us, hl with | [_, _, _], _ => rfl
  have bG := FG.binds (ps := ["read", "text", "top"]) fun _ _ _ _ _ _ us hl => match us, hl with | [_, _, _], _ => rfl
  have bRA := FRA.binds (ps := ["read"]) fun _ _ _ _ _ _ us hl => match us, hl with | [_], _ => rfl
  have bHI := FHI.binds (ps := ["index", "read", "k"]) fun _ _ _ _ _ _ us hl => match us, hl with | [_, _, _], _ => rfl
  have bHO := FHO.binds (ps := ["index", "strand", "text", "k"]) fun _ _ _ _ _ _ us hl => match us, hl with | [_, _, _, _], _ => rfl
  have bBP := FBP.binds (ps := ["index", "first", "second", "k", "low", "high"]) fun _ _ _ _ _ _ us hl => match us, hl with | [_, _, _, _, _, _], _ => rfl
  have bGR := FGR.binds (ps := ["found"]) fun _ _ _ _ _ _ us hl => match us, hl with | [_], _ => rfl
  have bWI := FWI.binds (ps := ["group", "others", "least", "most"]) fun _ _ _ _ _ _ us hl => match us, hl with | [_, _, _, _], _ => rfl
  have bC := FC.binds (ps := ["script", "k"]) fun _ _ _ _ _ _ us hl => match us, hl with | [_, _], _ => rfl
  have bO := FO.binds (ps := ["cell", "count", "bound"]) fun _ _ _ _ _ _ us hl => match us, hl with | [_, _, _], _ => rfl
  have bT := FT.binds (ps := ["cell", "size"]) fun _ _ _ _ _ _ us hl => match us, hl with | [_, _], _ => rfl
  have bU := FU.binds (ps := ["text"]) fun _ _ _ _ _ _ us hl => match us, hl with | [_], _ => rfl
  have bLR := FLR.binds (ps := ["cell", "text", "size"]) fun _ _ _ _ _ _ us hl => match us, hl with | [_, _, _], _ => rfl
  have bRF := FRF.binds (ps := ["script", "at", "count"]) fun _ _ _ _ _ _ us hl => match us, hl with | [_, _, _], _ => rfl
  have bLA := FLA.binds (ps := ["a", "b"]) fun _ _ _ _ _ _ us hl => match us, hl with | [_, _], _ => rfl
  have bLE := FLE.binds (ps := ["read", "text"]) fun _ _ _ _ _ _ us hl => match us, hl with | [_, _], _ => rfl
  have bLH := FLH.binds (ps := ["references", "read", "k"]) fun _ _ _ _ _ _ us hl => match us, hl with | [_, _, _], _ => rfl
  have bRD := FRD.binds (ps := ["script", "at", "count", "references", "size"]) fun _ _ _ _ _ _ us hl => match us, hl with | [_, _, _, _, _], _ => rfl
  have bM1 := FM1.binds (ps := ["self"]) fun _ _ _ _ _ _ us hl => match us, hl with | [_], _ => rfl
  have bM3 := FM3.binds (ps := ["self", "symbol", "row"]) fun _ _ _ _ _ _ us hl => match us, hl with | [_, _, _], _ => rfl
  have bM4 := FM4.binds (ps := ["self", "symbol", "row"]) fun _ _ _ _ _ _ us hl => match us, hl with | [_, _, _], _ => rfl
  have bM5 := FM5.binds (ps := ["self", "row"]) fun _ _ _ _ _ _ us hl => match us, hl with | [_, _], _ => rfl
  have bM6 := FM6.binds (ps := ["self", "row"]) fun _ _ _ _ _ _ us hl => match us, hl with | [_, _], _ => rfl
  have bM7 := FM7.binds (ps := ["self", "piece"]) fun _ _ _ _ _ _ us hl => match us, hl with | [_, _], _ => rfl
  have bM8 := FM8.binds (ps := ["self", "start"]) fun _ _ _ _ _ _ us hl => match us, hl with | [_, _], _ => rfl
  have bM9 := FM9.binds (ps := ["self", "piece"]) fun _ _ _ _ _ _ us hl => match us, hl with | [_, _], _ => rfl
  refine ⟨PySem.W.fnOf "law" "law" (defArgs sLaw) (defBody sLaw) (defScope sLaw) .none kVL dcL pmL anL cdL ctL, fun s v => .of_eq rfl, fun base KX GX => ?_⟩
  · skip
    have hC : Has l.prog w K mg base 2 "_law_cell" ["script", "k"] (spCell K) := ⟨_, _, ok_cell (k := 1) FC B, PySem.W.mg_of X G aC, kC, bC⟩
    have hT : Has l.prog w K mg base 3 "_law_text" ["cell", "size"] (spText K) := ⟨_, _, ok_text (k := 1) FT B (ok_row FO B) (PySem.W.mg_of X G aO) kO bO, PySem.W.mg_of X G aT, kT, bT⟩
    have hRf : Has l.prog w K mg base 4 "_law_references" ["script", "at", "count"] (spLRefs K) := ⟨_, _, ok_lrefs (m := 1) FRF B B.str hC hT, PySem.W.mg_of X G aRF, kRF, bRF⟩
    have hU : Has l.prog w K mg base 2 "_law_turned" ["text"] spLTurned := ⟨_, _, ok_lturned FU, PySem.W.mg_of X G aU, kU, bU⟩
    have hLR : Has l.prog w K mg base 3 "_law_read" ["cell", "text", "size"] spLRead := ⟨_, _, ok_lread FLR B hU, PySem.W.mg_of X G aLR, kLR, bLR⟩
    have hLA : Has l.prog w K mg base 2 "_law_agree" ["a", "b"] spAg := ⟨_, _, ok_lagree FLA, PySem.W.mg_of X G aLA, kLA, bLA⟩
    have hLE : Has l.prog w K mg base 3 "_law_ends" ["read", "text"] spLEnds := ⟨_, _, ok_lends FLE B (PySem.W.mg_none_of X G zmin) hLA, PySem.W.mg_of X G aLE, kLE, bLE⟩
    have hLH : Has l.prog w K mg base 4 "_law_hits" ["references", "read", "k"] (spLHits K) := ⟨_, _, ok_lhits (m := 1) FLH B hU hLE, PySem.W.mg_of X G aLH, kLH, bLH⟩
    have hO : Has l.prog w K mg base 2 "_law_row" ["cell", "count", "bound"] (spRow K) := ⟨_, _, ok_row (k := 1) FO B, PySem.W.mg_of X G aO, kO, bO⟩
    have hRD : Has l.prog w K mg base 4 "_law_reads" ["script", "at", "count", "references", "size"] (spLReads K) := ⟨_, _, ok_lreads (m := 1) FRD B B.str hC hO hT hLR, PySem.W.mg_of X G aRD, kRD, bRD⟩
    have hRK : Has l.prog w K mg base 3 "_ranks" ["keys"] (spRanks K) := ⟨_, _, ok_ranks (k := 2) FRK (PySem.W.mg_none_of X G zenumerate) (PySem.W.mg_none_of X G zsorted) (PySem.W.mg_none_of X G zset), PySem.W.mg_of X G aRK, kRK, bRK⟩
    have hJK : Has l.prog w K mg base 3 "_joined_keys" ["ranks", "width"] (spKeys K) := ⟨_, _, ok_keys (k := 2) FJK B (PySem.W.mg_none_of X G zzip), PySem.W.mg_of X G aJK, kJK, bJK⟩
    have hSR : Has l.prog w K mg base 4 "suffix_rows" ["numbers"] (spRows K) := ⟨_, _, ok_suffix FSR B (PySem.W.mg_none_of X G zenumerate) (PySem.W.mg_none_of X G zset) hRK hJK, PySem.W.mg_of X G aSR, kSR, bSR⟩
    have hSy : Has l.prog w K mg base 1 "symbol" ["letter"] spSym := ⟨_, _, ok_sym (k := 0) FSy (PySem.W.mg_of X G dY) DY, PySem.W.mg_of X G aSy, kSy, bSy⟩
    have hSO : Has l.prog w K mg base 2 "symbols_of" ["text"] spSymsOf := ⟨_, _, ok_symsOf FSO hSy, PySem.W.mg_of X G aSO, kSO, bSO⟩
    have hPJ3 : Has l.prog w K mg base 3 "joined" ["texts"] (spPJoined K) := ⟨_, _, ok_pjoined FPJ (PySem.W.mg_of X G nBO) (PySem.W.mg_of X G nEN) hSO, PySem.W.mg_of X G aPJ, kPJ, bPJ⟩
    have hSy2 : Has l.prog w K mg base 2 "symbol" ["letter"] spSym := ⟨_, _, ok_sym (k := 1) FSy (PySem.W.mg_of X G dY) DY, PySem.W.mg_of X G aSy, kSy, bSy⟩
    have hSO3 : Has l.prog w K mg base 3 "symbols_of" ["text"] spSymsOf := ⟨_, _, ok_symsOf FSO hSy2, PySem.W.mg_of X G aSO, kSO, bSO⟩
    have hPJ : Has l.prog w K mg base 4 "joined" ["texts"] (spPJoined K) := ⟨_, _, ok_pjoined FPJ (PySem.W.mg_of X G nBO) (PySem.W.mg_of X G nEN) hSO3, PySem.W.mg_of X G aPJ, kPJ, bPJ⟩
    have hSm : Has l.prog w K mg base 4 "_smaller_symbols" ["sequence"] (spSmaller K) := ⟨_, _, ok_smaller (k := 3) FSm B.range (PySem.W.mg_of X G nMS), PySem.W.mg_of X G aSm, kSm, bSm⟩
    have hCo : Has l.prog w K mg base 4 "_counts_at_blocks" ["last", "block"] (spCounts K) := ⟨_, _, ok_counts (k := 3) FCo B.range B.len (PySem.W.mg_of X G nMS), PySem.W.mg_of X G aCo, kCo, bCo⟩
    have hBg : Has l.prog w K mg base 4 "_begins_of" ["texts"] (spBegins K) := ⟨_, _, ok_begins (k := 3) FBg B.len, PySem.W.mg_of X G aBg, kBg, bBg⟩
    have hIx : HasI l.prog w K mg base C 5 := hasI_of ⟨mk, aMI, iMI, kc⟩ FMI (ok_init FMI IX (PySem.W.mg_none_of X G zlist) (PySem.W.mg_none_of X G zenumerate) hPJ hSR hSm hCo hBg)
    have hM1 : HasM l.prog w K mg base C 2 "length" ["self"] (spLen C) := ⟨_, _, ok_len (k := 1) FM1 IX B.len, ⟨aM1, iM1, kM1⟩, bM1⟩
    have hM3 : HasM l.prog w K mg base C 2 "count" ["self", "symbol", "row"] (spCount C) := ⟨_, _, ok_count (k := 1) FM3 IX, ⟨aM3, iM3, kM3⟩, bM3⟩
    have hM4 : HasM l.prog w K mg base C 3 "_row_ahead" ["self", "symbol", "row"] (spAhead C) := ⟨_, _, ok_ahead FM4 IX hM3, ⟨aM4, iM4, kM4⟩, bM4⟩
    have hM5 : HasM l.prog w K mg base C 4 "step" ["self", "row"] (spStep C) := ⟨_, _, ok_step FM5 IX hM4, ⟨aM5, iM5, kM5⟩, bM5⟩
    have hM6 : HasM l.prog w K mg base C 5 "start" ["self", "row"] (spStart C) := ⟨_, _, ok_start FM6 IX hM5, ⟨aM6, iM6, kM6⟩, bM6⟩
    have hAR : Has l.prog w K mg base 1 "_agreeing_rows" ["read"] spARows := ⟨_, _, ok_arows FRA (PySem.W.mg_none_of X G zenumerate) (PySem.W.mg_of X G nLE2), PySem.W.mg_of X G aRA, kRA, bRA⟩
    have hG : Has l.prog w K mg base 2 "_growths" ["read", "text", "top"] spGrow := ⟨_, _, ok_grow FG B.len hAR, PySem.W.mg_of X G aG, kG, bG⟩
    have hE : Has l.prog w K mg base 3 "ends" ["read", "text", "k"] spEnds := ⟨_, _, ok_ends FE B.len (PySem.W.mg_none_of X G zenumerate) hG, PySem.W.mg_of X G aE, kE, bE⟩
    have hM7 : HasM l.prog w K mg base C 5 "interval" ["self", "piece"] (spIval C) := ⟨_, _, ok_interval FM7 IX (PySem.W.mg_none_of X G zreversed) hM1 hM4 hSO3, ⟨aM7, iM7, kM7⟩, bM7⟩
    have hM8 : HasM l.prog w K mg base C 2 "_place" ["self", "start"] (spPlace C) := ⟨_, _, ok_place (k := 1) FM8 IX B.len, ⟨aM8, iM8, kM8⟩, bM8⟩
    have hM9 : HasM l.prog w K mg base C 6 "places" ["self", "piece"] (spPlaces C) := ⟨_, _, ok_places FM9 IX B.range (PySem.W.mg_none_of X G zsorted) hM7 hM6 hM8, ⟨aM9, iM9, kM9⟩, bM9⟩
    have hPC : Has l.prog w K mg base 2 "pieces" ["read", "k"] spPcs := ⟨_, _, ok_pcs (m := 1) FPC B, PySem.W.mg_of X G aPC, kPC, bPC⟩
    have hKN : Has l.prog w K mg base 3 "_known_parts" ["read", "k"] spKnown := ⟨_, _, ok_known (m := 1) FKN hPC, PySem.W.mg_of X G aKN, kKN, bKN⟩
    have hBR : Has l.prog w K mg base 7 "_begins_by_reference" ["index", "read", "k"] (spBegRef C) := ⟨_, _, ok_begref FBR IX hKN hM9, PySem.W.mg_of X G aBR, kBR, bBR⟩
    have hAd : Has l.prog w K mg base 2 "_windows_around" ["begins", "length", "many", "k"] (spAround K) := ⟨_, _, ok_around (m := 1) FAR (PySem.W.mg_none_of X G zsorted) (PySem.W.mg_none_of X G zmax) (PySem.W.mg_none_of X G zmin), PySem.W.mg_of X G aAR, kAR, bAR⟩
    have hLO : Has l.prog w K mg base 2 "_length_of" ["index", "reference"] (spLenOf C) := ⟨_, _, ok_lenof (m := 1) FLO IX B.len, PySem.W.mg_of X G aLO, kLO, bLO⟩
    have hEP : Has l.prog w K mg base 2 "_has_empty_part" ["read", "k"] spEmptyP := ⟨_, _, ok_emptyp (m := 1) FEP B.len, PySem.W.mg_of X G aEP, kEP, bEP⟩
    have hCM : Has l.prog w K mg base 6 "_is_common" ["index", "read", "k"] (spCommon C) := ⟨_, _, ok_common FCM IX hKN hM7 hM1, PySem.W.mg_of X G aCM, kCM, bCM⟩
    have hSE : Has l.prog w K mg base 8 "search_windows" ["index", "read", "k"] (spSearch C) := ⟨_, _, ok_search FSE IX B.len B.range hLO hEP hCM hBR hAd, PySem.W.mg_of X G aSE, kSE, bSE⟩
    have hHO : Has l.prog w K mg base 9 "_hits_on_strand" ["index", "strand", "text", "k"] (spHitsOn C) := ⟨_, _, ok_hitson FHO IX hSE hE, PySem.W.mg_of X G aHO, kHO, bHO⟩
    have DT : KD K w q0 fun c => .str (T [opp c]) := fun c hc => by
      rcases hc with e | e | e | e | e <;> subst e
      · exact ⟨_, _, _, eT, yT, vT0, ⟨_, rfl⟩⟩
      · exact ⟨_, _, _, eT, yT, vT1, ⟨_, rfl⟩⟩
      · exact ⟨_, _, _, eT, yT, vT2, ⟨_, rfl⟩⟩
      · exact ⟨_, _, _, eT, yT, vT3, ⟨_, rfl⟩⟩
      · exact ⟨_, _, _, eT, yT, vT4, ⟨_, rfl⟩⟩
    have hTU : Has l.prog w K mg base 2 "turned" ["text"] spTurned := ⟨_, _, ok_turned (k := 1) FTU (PySem.W.mg_none_of X G zreversed) (PySem.W.mg_of X G dT) DT, PySem.W.mg_of X G aTU, kTU, bTU⟩
    have hHI : Has l.prog w K mg base 10 "hits" ["index", "read", "k"] (spHits C) := ⟨_, _, ok_hits FHI (PySem.W.mg_none_of X G zsorted) hHO hTU, PySem.W.mg_of X G aHI, kHI, bHI⟩
    have hGR : Has l.prog w K mg base 2 "_groups" ["found"] (spGroups K) := ⟨_, _, ok_groups (m := 1) FGR, PySem.W.mg_of X G aGR, kGR, bGR⟩
    have hWI : Has l.prog w K mg base 2 "_pairs_within" ["group", "others", "least", "most"] (spWithin K) := ⟨_, _, ok_within (m := 1) FWI B.len, PySem.W.mg_of X G aWI, kWI, bWI⟩
    have hBP : Has l.prog w K mg base 11 "best_pairs" ["index", "first", "second", "k", "low", "high"] (spBest C) := ⟨_, _, ok_best FBP B.len B.range (PySem.W.mg_none_of X G zsorted) hHI hGR hWI, PySem.W.mg_of X G aBP, kBP, bBP⟩
    exact ok_law FL B (PySem.W.mg_none_of X G zlist) (PySem.W.mg_none_of X G zmin) (PySem.W.mg_none_of X G zmax) (PySem.W.mg_none_of X G zsorted) IX hC hRf hU hRD hIx hBP hLH
end Hr
open PySem PySem.W PyProof.Rows
set_option maxHeartbeats 0 in
theorem PySem.Challenge.cw_homereads_k33_whole_best_pairs_holds : PySem.Challenge.rw_homereads_k33_whole_best_pairs.Holds := by
  w_on; o_law; k_head; (case hw => w_witness2)
  k_fill
  refine L2.walk_of (l := PySem.Challenge.rw_homereads_k33_whole_best_pairs) (n := 63) (k := 12) (x := "script") (CX := fun _ => L2.CX0) (sp := fun w => Hr.spLaw _) rfl (by decide) rfl ⟨rfl, by decide, by decide⟩ (fun w h Y => PySem.W.kIn_of Y) ?F (fun _ _ a ns hl _ hS => ⟨a, ns, rfl, hS, fun _ => rfl⟩) (fun _ _ _ _ _ h => h)
  case F =>
    intro w mg fa h KX G hmg
    refine' Hr.all_mk KX G hmg ?aSR ?lSR ?cSR ?kSR ?aRK ?lRK ?cRK ?kRK ?aJK ?lJK ?cJK ?kJK ?aSy ?lSy ?cSy ?kSy ?aSO ?lSO ?cSO ?kSO ?aPJ ?lPJ ?cPJ ?kPJ ?aSm ?lSm ?cSm ?kSm ?aCo ?lCo ?cCo ?kCo ?aBg ?lBg ?cBg ?kBg ?aTU ?lTU ?cTU ?kTU ?aPC ?lPC ?cPC ?kPC ?aSE ?lSE ?cSE ?kSE ?aLO ?lLO ?cLO ?kLO ?aEP ?lEP ?cEP ?kEP ?aCM ?lCM ?cCM ?kCM ?aKN ?lKN ?cKN ?kKN ?aBR ?lBR ?cBR ?kBR ?aAR ?lAR ?cAR ?kAR ?aE ?lE ?cE ?kE ?aG ?lG ?cG ?kG ?aRA ?lRA ?cRA ?kRA ?aHI ?lHI ?cHI ?kHI ?aHO ?lHO ?cHO ?kHO ?aBP ?lBP ?cBP ?kBP ?aGR ?lGR ?cGR ?kGR ?aWI ?lWI ?cWI ?kWI ?aC ?lC ?cC ?kC ?aO ?lO ?cO ?kO ?aT ?lT ?cT ?kT ?aU ?lU ?cU ?kU ?aLR ?lLR ?cLR ?kLR ?aRF ?lRF ?cRF ?kRF ?aLA ?lLA ?cLA ?kLA ?aLE ?lLE ?cLE ?kLE ?aLH ?lLH ?cLH ?kLH ?aRD ?lRD ?cRD ?kRD ?aL ?lL ?cL ?kL ?aMI ?iMI ?lMI ?cMI ?kMI ?aM1 ?iM1 ?lM1 ?cM1 ?kM1 ?aM3 ?iM3 ?lM3 ?cM3 ?kM3 ?aM4 ?iM4 ?lM4 ?cM4 ?kM4 ?aM5 ?iM5 ?lM5 ?cM5 ?kM5 ?aM6 ?iM6 ?lM6 ?cM6 ?kM6 ?aM7 ?iM7 ?lM7 ?cM7 ?kM7 ?aM8 ?iM8 ?lM8 ?cM8 ?kM8 ?aM9 ?iM9 ?lM9 ?cM9 ?kM9 ?gC ?pg ?hd ?po ?sa ?mk ?kc ?u0 ?u1 ?u2 ?u3 ?u4 ?u5 ?u6 ?u7 ?dB ?dS ?dY ?eY ?yY ?vY0 ?vY1 ?vY2 ?vY3 ?vY4 ?nEN ?nBO ?nMS ?nLE2 ?dT ?eT ?yT ?vT0 ?vT1 ?vT2 ?vT3 ?vT4 ?zlen ?zint ?zabs ?zrange ?zisinstance ?zbool ?zstr ?zlist ?zsorted ?zenumerate ?zset ?zzip ?zreversed ?ztuple ?zall ?zmax ?zmin
    (case gC => k_is)
    (case aSR => k_is)
    (case lSR => k_is)
    (case cSR => k_is)
    (case kSR => k_is)
    (case aRK => k_is)
    (case lRK => k_is)
    (case cRK => k_is)
    (case kRK => k_is)
    (case aJK => k_is)
    (case lJK => k_is)
    (case cJK => k_is)
    (case kJK => k_is)
    (case aSy => k_is)
    (case lSy => k_is)
    (case cSy => k_is)
    (case kSy => k_is)
    (case aSO => k_is)
    (case lSO => k_is)
    (case cSO => k_is)
    (case kSO => k_is)
    (case aPJ => k_is)
    (case lPJ => k_is)
    (case cPJ => k_is)
    (case kPJ => k_is)
    (case aSm => k_is)
    (case lSm => k_is)
    (case cSm => k_is)
    (case kSm => k_is)
    (case aCo => k_is)
    (case lCo => k_is)
    (case cCo => k_is)
    (case kCo => k_is)
    (case aBg => k_is)
    (case lBg => k_is)
    (case cBg => k_is)
    (case kBg => k_is)
    (case aTU => k_is)
    (case lTU => k_is)
    (case cTU => k_is)
    (case kTU => k_is)
    (case aPC => k_is)
    (case lPC => k_is)
    (case cPC => k_is)
    (case kPC => k_is)
    (case aSE => k_is)
    (case lSE => k_is)
    (case cSE => k_is)
    (case kSE => k_is)
    (case aLO => k_is)
    (case lLO => k_is)
    (case cLO => k_is)
    (case kLO => k_is)
    (case aEP => k_is)
    (case lEP => k_is)
    (case cEP => k_is)
    (case kEP => k_is)
    (case aCM => k_is)
    (case lCM => k_is)
    (case cCM => k_is)
    (case kCM => k_is)
    (case aKN => k_is)
    (case lKN => k_is)
    (case cKN => k_is)
    (case kKN => k_is)
    (case aBR => k_is)
    (case lBR => k_is)
    (case cBR => k_is)
    (case kBR => k_is)
    (case aAR => k_is)
    (case lAR => k_is)
    (case cAR => k_is)
    (case kAR => k_is)
    (case aE => k_is)
    (case lE => k_is)
    (case cE => k_is)
    (case kE => k_is)
    (case aG => k_is)
    (case lG => k_is)
    (case cG => k_is)
    (case kG => k_is)
    (case aRA => k_is)
    (case lRA => k_is)
    (case cRA => k_is)
    (case kRA => k_is)
    (case aHI => k_is)
    (case lHI => k_is)
    (case cHI => k_is)
    (case kHI => k_is)
    (case aHO => k_is)
    (case lHO => k_is)
    (case cHO => k_is)
    (case kHO => k_is)
    (case aBP => k_is)
    (case lBP => k_is)
    (case cBP => k_is)
    (case kBP => k_is)
    (case aGR => k_is)
    (case lGR => k_is)
    (case cGR => k_is)
    (case kGR => k_is)
    (case aWI => k_is)
    (case lWI => k_is)
    (case cWI => k_is)
    (case kWI => k_is)
    (case aC => k_is)
    (case lC => k_is)
    (case cC => k_is)
    (case kC => k_is)
    (case aO => k_is)
    (case lO => k_is)
    (case cO => k_is)
    (case kO => k_is)
    (case aT => k_is)
    (case lT => k_is)
    (case cT => k_is)
    (case kT => k_is)
    (case aU => k_is)
    (case lU => k_is)
    (case cU => k_is)
    (case kU => k_is)
    (case aLR => k_is)
    (case lLR => k_is)
    (case cLR => k_is)
    (case kLR => k_is)
    (case aRF => k_is)
    (case lRF => k_is)
    (case cRF => k_is)
    (case kRF => k_is)
    (case aLA => k_is)
    (case lLA => k_is)
    (case cLA => k_is)
    (case kLA => k_is)
    (case aLE => k_is)
    (case lLE => k_is)
    (case cLE => k_is)
    (case kLE => k_is)
    (case aLH => k_is)
    (case lLH => k_is)
    (case cLH => k_is)
    (case kLH => k_is)
    (case aRD => k_is)
    (case lRD => k_is)
    (case cRD => k_is)
    (case kRD => k_is)
    (case aL => k_is)
    (case lL => k_is)
    (case cL => k_is)
    (case kL => k_is)
    (case aMI => k_is)
    (case iMI => k_is)
    (case lMI => k_is)
    (case cMI => k_is)
    (case kMI => k_is)
    (case aM1 => k_is)
    (case iM1 => k_is)
    (case lM1 => k_is)
    (case cM1 => k_is)
    (case kM1 => k_is)
    (case aM3 => k_is)
    (case iM3 => k_is)
    (case lM3 => k_is)
    (case cM3 => k_is)
    (case kM3 => k_is)
    (case aM4 => k_is)
    (case iM4 => k_is)
    (case lM4 => k_is)
    (case cM4 => k_is)
    (case kM4 => k_is)
    (case aM5 => k_is)
    (case iM5 => k_is)
    (case lM5 => k_is)
    (case cM5 => k_is)
    (case kM5 => k_is)
    (case aM6 => k_is)
    (case iM6 => k_is)
    (case lM6 => k_is)
    (case cM6 => k_is)
    (case kM6 => k_is)
    (case aM7 => k_is)
    (case iM7 => k_is)
    (case lM7 => k_is)
    (case cM7 => k_is)
    (case kM7 => k_is)
    (case aM8 => k_is)
    (case iM8 => k_is)
    (case lM8 => k_is)
    (case cM8 => k_is)
    (case kM8 => k_is)
    (case aM9 => k_is)
    (case iM9 => k_is)
    (case lM9 => k_is)
    (case cM9 => k_is)
    (case kM9 => k_is)
    (case pg => k_is)
    (case hd => k_is)
    (case po => k_is)
    (case sa => k_is)
    (case mk => k_is)
    (case kc => k_is)
    (case u0 => k_is)
    (case u1 => k_is)
    (case u2 => k_is)
    (case u3 => k_is)
    (case u4 => k_is)
    (case u5 => k_is)
    (case u6 => k_is)
    (case u7 => k_is)
    (case dB => k_is)
    (case dS => k_is)
    (case dY => k_is)
    (case eY => k_is)
    (case yY => k_keys)
    (case vY0 => k_is)
    (case vY1 => k_is)
    (case vY2 => k_is)
    (case vY3 => k_is)
    (case vY4 => k_is)
    (case nEN => k_is)
    (case nBO => k_is)
    (case nMS => k_is)
    (case nLE2 => k_is)
    (case dT => k_is)
    (case eT => k_is)
    (case yT => k_keys)
    (case vT0 => k_is)
    (case vT1 => k_is)
    (case vT2 => k_is)
    (case vT3 => k_is)
    (case vT4 => k_is)
    (case zlen => k_is)
    (case zint => k_is)
    (case zabs => k_is)
    (case zrange => k_is)
    (case zisinstance => k_is)
    (case zbool => k_is)
    (case zstr => k_is)
    (case zlist => k_is)
    (case zsorted => k_is)
    (case zenumerate => k_is)
    (case zset => k_is)
    (case zzip => k_is)
    (case zreversed => k_is)
    (case ztuple => k_is)
    (case zall => k_is)
    (case zmax => k_is)
    (case zmin => k_is)
