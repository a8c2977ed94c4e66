import PyProof.Rows.All
import HandS.ExcValue
import KE.KDictZip
import KE.GoesZip
import KE.GoesEnum
import HandS.Base
import HandS.Call
import HandS.Codes
import HandS.Comp
import HandS.Conv
import HandS.Defaults
import HandS.Dict
import HandS.DictComp
import HandS.EndTab
import HandS.Ends
import HandS.Exc
import HandS.ExcInit
import HandS.ExcOwn
import HandS.FStr
import HandS.Flt
import HandS.IsInst
import HandS.Iter
import HandS.Lambda
import HandS.List
import HandS.MakeKwOnly
import HandS.More
import HandS.Nested
import HandS.RaiseMore
import HandS.Replace
import HandS.ReplaceLit
import HandS.Rev
import HandS.RevRange
import HandS.SetFor
import HandS.SortInts
import HandS.SortKw
import HandS.Strs
import HandS.Text
import HandS.TryOnly
import HandS.WideBits
import HandS.Words
import HandS.WordsExc
import HandS.WordsList
import HandS.Zip
import KE.GoesEnumKw
import KE.GoesMore
import KE.KDictList
import KE.OsSetLaws
import KE.SortKeyHeap
import OpenK.AllK
import Wide.All
import Wide.FinOn
import HandS.SetKeys
import HandS.SortRule
import HandS.Sort
import KE.DataMinMax
import HandS.Deep
import KE.SortData
import PyProof.DictMoreH
import KE.KDictWalk
import HandS.ExcIs
import PySem.Challenge.RW_homereads_k21_faults_of_written_indexes
set_option Elab.async false
set_option linter.all false
set_option maxRecDepth 100000
set_option maxHeartbeats 4000000
namespace Hr
open PySem PySem.Spec PyProof.Rows L2
section
open PySem PySem.W PySem.Calls PyProof.Rows
/-! ### sorted by keys that are new lists -/
/-- a call that keeps what was there and gives a key; the lists in it are new -/
def KeyNew (k : PyData) (s1 : Shared) (v : Value) (s2 : Shared) : Prop :=
  ∃ (g : Heap) (t : Nat), s2 = { s1 with heap := g, toks := t } ∧ (∀ c x, s1.heap.get? c = some x → g.get? c = some x) ∧ ∃ ls, Reads g v k ls ∧ ∀ c ∈ ls, s1.heap.get? c = none
/-- what the keys that are there read as, off lists other than the store's -/
def KeysIn (kS : Addr) (g : Heap) (us : List Value) (ds : List PyData) : Prop := EachIs (fun u d => (∃ ls, Reads g u d ls ∧ kS ∉ ls) ∧ alike d d = true) us ds
section
variable {pr : Program} {wo : World} {Ar : Around} {Ex : Value → Shared → Prop} {st : Shared}
theorem fresh_rest {a kS : Addr} {e1 : Nat} {rv : Bool} {vs : List Value} {kz : List PyData} {P : PySem.Fin → Shared → Prop} {f : Value} {h0 : Heap} (kp : KeepsBut a h0 st.heap) (hkS : h0.get? kS = none) (nk : st.heap.get? kS = some (seqObj "list" #[] 0))
    (na : st.heap.get? a = some (seqObj "list" #[] e1)) (ne : kS ≠ a) (hl : kz.length = vs.length) (hz : vs.length ≤ sizeLine) (hal : AllAlike kz) (hsk : Sortable kz) (hu : ∀ d, d ∈ kz → Ar.units + d.depth < cLine)
    (turn : ∀ (i : Nat) (v : Value) (k : PyData), vs[i]? = some v → kz[i]? = some k → ∀ (g : Heap) (t : Nat), KeepsBut a h0 g → wpAny (model pr wo) Ar (call f [v]) (KeyNew k { st with heap := g, toks := t }) (fun _ _ => False) { st with heap := g, toks := t })
    (fin : ∀ g t out c, KeepsBut a h0 g → g.get? a = some (seqObj "list" (List.toArray out) c) → KeyedOut rv kz vs out → P (.done (.ret .none)) { st with heap := g, toks := t }) :
    wpAny (model pr wo) Ar (ksk_rest a f rv vs.toArray e1 (.ref kS)) P Ex st := by
  unfold ksk_rest
  refine wpAny_bind (wpAny_rule ?_)
  first
    | rw [List.forIn_toArray]
    | (rw [← Array.forIn_toList]; simp only [List.toList_toArray])
    | rw [← Array.forIn_toList]
  refine wpAny_bind (ksk_fold (fun i s1 => ∃ (g : Heap) (t : Nat) (ka : Array Value) (e : Nat), s1 = { st with heap := g, toks := t } ∧ KeepsBut a h0 g ∧ g.get? kS = some (seqObj "list" ka e) ∧ g.get? a = some (seqObj "list" #[] e1) ∧ KeysIn kS g ka.toList (kz.take i))
    vs 0 st ⟨st.heap, st.toks, #[], 0, rfl, kp, nk, na, by rw [List.take_zero]; exact EachIs.nil⟩ ?turnK ?endK)
  case turnK =>
    rintro j x s1 hx ⟨g, t, ka, e, rfl, kg, nkg, nag, hk⟩
    simp only [Nat.zero_add] at hk ⊢
    have hj : j < vs.length := (List.getElem?_eq_some_iff.mp hx).1
    have hjk : j < kz.length := by omega
    have hkj : kz[j]? = some kz[j] := List.getElem?_eq_getElem hjk
    have hkk : alike kz[j] kz[j] = true := hal _ (List.getElem_mem hjk) _ (List.getElem_mem hjk)
    have hn : ka.size ≤ vs.length := by
      have q := EachIs.length hk
      rw [Array.length_toList, List.length_take] at q
      omega
    refine wpAny_bind (wpAny_attempt (wpAny_mono (turn j x kz[j] hx hkj g t kg) (fun v s2 q => ?_) fun _ _ z => z.elim))
    obtain ⟨g2, t2, rfl, kg2, ls, rd, fr⟩ := q
    try dsimp only
    have nk2 := kg2 _ _ nkg
    have na2 := kg2 _ _ nag
    have sb := Heap.SameBut.update g2 kS (Obj.mapSeq (·.push v))
    obtain ⟨c2, at2⟩ : ∃ c2, (g2.update kS (Obj.mapSeq (·.push v))).get? kS = some (seqObj "list" (ka.push v) c2) := ⟨_, get?_update_seq nk2 (·.push v)⟩
    have ek : kz.take (j + 1) = kz.take j ++ [kz[j]] := by rw [List.take_add_one, hkj]; rfl
    have ea : (ka.push v).toList = ka.toList ++ [v] := by simp
    refine wpAny_bind (listUpdate_at nk2 rfl ?_ (Nat.le_trans hn hz) (Nat.le_trans (Nat.le_of_eq (Array.size_push ..)) (Nat.succ_le_succ (Nat.le_trans hn hz))))
    have stay : ∀ (u : Value) (d : PyData), ((∃ ls, Reads g2 u d ls ∧ kS ∉ ls) ∧ alike d d = true) → (∃ ls, Reads (g2.update kS (Obj.mapSeq (·.push v))) u d ls ∧ kS ∉ ls) ∧ alike d d = true := fun u d q => by
      obtain ⟨⟨l2, r2, n2⟩, al⟩ := q
      exact ⟨⟨l2, Reads.keepBut (a := kS) (fun c o hc z => (sb.2 c hc).trans z) (fun o z => by rw [nk2] at z; rw [← Option.some.inj z]) d u l2 al r2 n2, n2⟩, al⟩
    have nls : kS ∉ ls := fun z => by
      have q := fr kS z
      rw [show ({ st with heap := g, toks := t } : Shared).heap.get? kS = some (seqObj "list" ka e) from nkg] at q
      cases q
    refine wpAny_pure ⟨rfl, _, _, ka.push v, c2, rfl, (kg.trans_all kg2).same sb (.inr hkS), at2, (sb.2 a ne.symm).trans na2, ?_⟩
    rw [ea, ek]
    refine each_snoc (R := fun (u : Value) (d : PyData) => (∃ ls, Reads (g2.update kS (Obj.mapSeq (·.push v))) u d ls ∧ kS ∉ ls) ∧ alike d d = true) (stay v kz[j] ⟨⟨ls, rd, nls⟩, hkk⟩) ?_
    exact EachIs.mono (fun u d q => by
      obtain ⟨⟨l2, r2, n2⟩, al⟩ := q
      exact stay u d ⟨⟨l2, PyProof.Rows.Reads.keeps kg2 r2, n2⟩, al⟩) hk
  case endK =>
    rintro s1 ⟨g, t, ka, e, rfl, kg, nkg, nag, hk⟩
    have hk2 : EachIs (fun v k => ∃ ls, Reads g v k ls) ka.toList kz := by
      have q : kz.take (0 + vs.length) = kz := List.take_of_length_le (by omega)
      rw [q] at hk
      exact EachIs.mono (fun v k y => by
        obtain ⟨⟨ls, r, _⟩, _⟩ := y
        exact ⟨ls, r⟩) hk
    have hn : ka.size = vs.length := by
      have q := hk2.length
      rw [Array.length_toList] at q
      omega
    try dsimp only
    refine wpAny_bind (listItems_at nkg rfl ?_)
    exact keyH_end (κ := dataKind g kz) (h₁ := h0) kg hkS nkg nag ne (SortsAt.data (s := { st with heap := g, toks := t }) hk2 hal hsk hu) hn hz fun h3 t3 c k3 n3 => fin h3 t3 _ c k3 n3 ⟨g, ka.toList, hal, rfl, hk2⟩
theorem fresh_tree {a : Addr} {rv : Bool} {vs : List Value} {kz : List PyData} {P : PySem.Fin → Shared → Prop} {f : Value} {n : Nat} (at0 : st.heap.get? a = some (seqObj "list" vs.toArray n)) (hl : kz.length = vs.length) (hz : vs.length ≤ sizeLine) (hal : AllAlike kz) (hsk : Sortable kz)
    (hu : ∀ d, d ∈ kz → Ar.units + d.depth < cLine) (turn : ∀ (i : Nat) (v : Value) (k : PyData), vs[i]? = some v → kz[i]? = some k → ∀ (g : Heap) (t : Nat), KeepsBut a st.heap g → wpAny (model pr wo) Ar (call f [v]) (KeyNew k { st with heap := g, toks := t }) (fun _ _ => False) { st with heap := g, toks := t })
    (fin : ∀ g t out c, KeepsBut a st.heap g → g.get? a = some (seqObj "list" (List.toArray out) c) → KeyedOut rv kz vs out → P (.done (.ret .none)) { st with heap := g, toks := t }) :
    wpAny (model pr wo) Ar (ksk_tree a f rv) P Ex st := by
  have la : a < st.heap.objs.size := Heap.lt_size at0
  obtain ⟨e1, at1⟩ : ∃ e1, (st.heap.update a (Obj.mapSeq fun _ => (#[] : Array Value))).get? a = some (seqObj "list" #[] e1) := ⟨_, get?_update_seq at0 fun _ => #[]⟩
  have sz : ((st.heap.update a (Obj.mapSeq fun _ => (#[] : Array Value))).push (seqObj "tuple" vs.toArray 0)).objs.size = st.heap.objs.size + 1 := by rw [size_push', Heap.size_update]
  unfold ksk_tree
  refine wpAny_bind (listItems_at at0 rfl (wpAny_bind (listUpdate_at at0 rfl ?_ (by rw [List.size_toArray]; exact hz) (Nat.zero_le _))))
  refine wpAny_bind (seqEpoch_at at1 rfl (wpAny_bind (wpAny_newTuple ?_ (by show vs.length ≤ _; exact hz))))
  refine wpAny_bind (wpAny_newList (wpAny_holding ?_) (Nat.zero_le _))
  exact fresh_rest (kz := kz) (h0 := st.heap) (st := { st with heap := ((st.heap.update a (Obj.mapSeq fun _ => (#[] : Array Value))).push (seqObj "tuple" vs.toArray 0)).push (seqObj "list" #[] 0) }) (kS := ((st.heap.update a (Obj.mapSeq fun _ => (#[] : Array Value))).push (seqObj "tuple" vs.toArray 0)).objs.size)
    (fun c o hc q => sortingHeap_old hc q) (Heap.get?_none_of_le (by rw [sz]; exact Nat.le_succ _)) (Heap.get?_push_size _ rfl) (Heap.get?_push_of_some _ (Heap.get?_push_of_some _ at1)) (by rw [sz]; exact Nat.ne_of_gt (Nat.lt_succ_of_lt la)) hl hz hal hsk hu turn fin
/-- sorted(xs, key=f): f's keys hold new lists -/
theorem sorted_fresh {β : Type} {bs : List β} {vs : List Value} {R : Value → β → Prop} {l : Addr} {f : Addr} {Q : Value → Shared → Prop} (k : β → PyData) (hls : st.heap.IsList l vs.toArray) (e : EachIs R vs bs) (hal : AllAlike (bs.map k)) (hsk : Sortable (bs.map k)) (hz : bs.length ≤ sizeLine)
    (hu : ∀ x, x ∈ bs → Ar.units + 2 + (k x).depth < cLine)
    (turn : ∀ (v : Value) (x : β), R v x → x ∈ bs → ∀ (g : Heap) (t : Nat), (∀ c o, st.heap.get? c = some o → g.get? c = some o) → wpAny (model pr wo) Ar.in1.in1 (call (.ref f) [v]) (KeyNew (k x) { st with heap := g, toks := t }) (fun _ _ => False) { st with heap := g, toks := t })
    (fin : ∀ out c g t, (∀ b o, st.heap.get? b = some o → g.get? b = some o) → st.heap.get? (st.heap.objs.size + 1) = none → g.get? (st.heap.objs.size + 1) = some (seqObj "list" (List.toArray out) c) → out.length = bs.length → EachIs R out (bs.mergeSort (dataLe false k)) → Q (.ref (st.heap.objs.size + 1)) { st with heap := g, toks := t }) :
    wpAny (model pr wo) Ar (call (.builtin "sorted") [.ref l] [(Str.ofString "key", .ref f)]) Q Ex st := by
  have none1 : st.heap.get? (st.heap.objs.size + 1) = none := Heap.get?_none_of_le (Nat.le_succ _)
  have up : ∀ {g : Heap}, KeepsBut (st.heap.objs.size + 1) (copyHeap st.heap vs) g → ∀ c o, st.heap.get? c = some o → g.get? c = some o := fun {g} kp c o q => kp c o (Nat.ne_of_lt (Nat.lt_succ_of_lt (Heap.lt_size q))) (copyHeap_old q)
  have hlen : (bs.map k).length = vs.length := by rw [List.length_map]; exact e.length.symm
  refine sorted_of_sort hls (by rw [e.length]; exact hz) (ksk_s1 _ _) (fun _ => ksk_l1 _ _) fun E' => ?_
  rw [ksk_t1]
  refine fresh_tree (kz := bs.map k) (st := { st with heap := copyHeap st.heap vs }) (copyHeap_at st.heap vs) hlen (by rw [e.length]; exact hz) hal hsk (bound_map (A := Ar.in1.in1) hu) (fun i v d hv hd g t kp => ?_) fun g t out c kp hD ko => ⟨rfl, ?_⟩
  · rw [List.getElem?_map] at hd
    cases q : bs[i]? with
    | none =>
      rw [q] at hd
      cases hd
    | some x =>
      rw [q] at hd
      cases hd
      have hm : (v, x) ∈ vs.zip bs := List.mem_of_getElem? (i := i) (by rw [List.getElem?_zip_eq_some]; exact ⟨hv, q⟩)
      exact turn v x (e.zip _ hm) (List.mem_of_getElem? q) g t (up kp)
  · exact fin out c g t (up kp) none1 hD ((ko.length hlen).trans e.length) (keyedOut_each k ko e)
end
end
section
open PySem PySem.Spec PyProof.Rows L2 PySem.W
/-- xs[start:] of a list of ints, start within it, as data -/
abbrev tailD (ns : List Int) (k : Nat) : PyData := .list ((ns.drop k).map .int)
theorem readsAll_ints {h : Heap} : ∀ {us : List Value} {ns : List Int}, IntsAre us ns → ReadsAll h us (ns.map .int) []
  | _, _, .nil => .nil
  | _, _, .cons n t r => .cons (as := []) (.int n t) (readsAll_ints r)
theorem intsAre_drop : ∀ {us : List Value} {ns : List Int} (k : Nat), IntsAre us ns → IntsAre (us.drop k) (ns.drop k)
  | _, _, 0, h => h
  | _, _, _ + 1, .nil => .nil
  | _, _, k + 1, .cons _ _ r => intsAre_drop k r
section
variable {pr : Program} {wo : World} {Ar : Around} {st : Shared}
/-- the key's call: lambda start: numbers[start:] -/
theorem tail_call {f c' b cc : Addr} {q : Str} {params : Arguments} {scope : Scope} {cl : List (Str × Addr)} {pm ctv : Value} {p1 p2 p3 p4 : Pos} {xs y : Str} {us : List Value} {ns : List Int} {k : Nat} {t : Tok}
    (hf : st.heap.get? f = some (kla_obj "<lambda>" q params (.Subscript (.Name xs p1) (.Slice (some (.Name y p2)) none none p3) p4) scope cl pm c' ctv)) (hcd : st.heap.CodeRec (.ref c') q) (lim : st.heap.NoLimit) (hroom : Ar.depth < recursionLimit)
    (kd : scope.kind = .function) (co : scope.isCoroutine = false) (gn : scope.isGenerator = false) (ky : scope.names.lookup y = some .local) (kx : scope.names.lookup xs = some .free) (nc : ∀ z ∈ scope.names, z.2 ≠ .cell)
    (hb : ∀ (cl : List (Str × Addr)) (pm cv ctv : Value), bindArgs (kla_fn "<lambda>" q params (.Subscript (.Name xs p1) (.Slice (some (.Name y p2)) none none p3) p4) scope cl pm cv ctv) ⟨[.int (k : Int) t], []⟩ = pure [(y, .int (k : Int) t)])
    (hcl : cl.lookup xs = some cc) (hcell : st.heap.IsCell cc (some (.ref b))) (hls : st.heap.IsList b us.toArray) (hi : IntsAre us ns) (hz : ns.length ≤ sizeLine) (hk : k ≤ ns.length)
    (dx : (xs == ("__debug__" : Str)) = false := by decide) (cx : (xs == ("__classdict__" : Str)) = false := by decide) (dy : (y == ("__debug__" : Str)) = false := by decide) :
    wpAny (model pr wo) Ar (call (.ref f) [.int (k : Int) t]) (KeyNew (tailD ns k) st) (fun _ _ => False) st := by
  have rc : codeAny (model pr wo) Ar (.call (.ref f) ⟨[.int (k : Int) t], []⟩) (fun r s' => ∃ u, r = .ok (.ret u) ∧ KeyNew (tailD ns k) st u s') st := by
    refine kla_callFunE hroom hf rfl co gn rfl hcd ?_
    rw [hb]
    refine wpAny_pure (wpAny_newFunctionEnv nc (fun z hz => ?_) (fun h1 hns hsb => ⟨lim.fresh _ hsb, ?_⟩) kd)
    · have e : z = (y, .int (k : Int) t) := List.mem_singleton.mp hz
      rw [e]
      exact ky
    have kp : ∀ c o, st.heap.get? c = some o → h1.get? c = some o := fun c o e => hsb.extBut c o (Nat.ne_of_lt (Heap.lt_size e)) (Heap.get?_push_of_some _ e)
    show codeAny _ _ (.expr _ (envX q scope st.heap.objs.size f (.ref c') cl)) _ _
    refine kla_codeExpr ?_
    refine Subscript_ (wpAny_Name (wpAny_loadName_free kd kx hcl (v := .ref b) (let ⟨o, ho, hd⟩ := hcell; ⟨o, kp _ _ ho, hd⟩) ?_ cx) dx)
    refine wpAny_Slice ?_
    rw [evalPart_some]
    refine wpAny_Name ?_ dy
    refine wpAny_loadName_local (v := .int (k : Int) t) kd ky hns (by simp [List.lookup]) ?_
    rw [evalPart_none]
    refine wpAny_pure ?_
    refine wpAny_pure ?_
    have hl2 : ∀ (o : Obj), (h1.push o).IsList b us.toArray := fun o => by
      obtain ⟨x, h, r⟩ := hls
      exact ⟨x, Heap.get?_push_of_some _ (kp _ _ h), r⟩
    have hlen := hi.length
    show wpAny (model pr wo) _ (subscriptTail _ _ (.ref b) (.ref h1.objs.size)) _ _ { st with heap := h1.push { cls := .type "slice", data := .fields #[.int (k : Int) t, .none, .none] }, toks := _ }
    refine tail_any (ops := [.ref h1.objs.size, .ref b]) (T := "list") ?_ slot_list_getitem.lookup ?_ (by with_unfolding_all rfl)
    · exact (hl2 _).typeIs
    · refine wpAny_getItem_list_slice (hl2 _) (Heap.IsSliceOf.new ..) (.int (k : Int) t) .none .none (by simp) ?_ (by rw [List.size_toArray] <;> omega)
      have e1 : slicePick us.toArray (some (k : Int)) none none = (us.drop k).toArray := by
        rw [slicePick_cut, HT.sIx_nat, HT.sIx_none, Nat.min_eq_left (by omega), List.take_of_length_le (by rw [List.length_drop]; omega)]
      rw [e1]
      have big : st.heap.objs.size ≤ (h1.push { cls := .type "slice", data := .fields #[.int (k : Int) t, .none, .none] }).objs.size := by
        rw [Heap.size_push]
        have q : st.heap.objs.size < h1.objs.size := hns.lt
        omega
      refine ⟨_, rfl, _, _, rfl, fun c o e => Heap.get?_push_of_some _ (Heap.get?_push_of_some _ (kp c o e)), [(h1.push { cls := .type "slice", data := .fields #[.int (k : Int) t, .none, .none] }).objs.size], ?_, fun c hc => ?_⟩
      · refine .list (as := []) (Heap.get?_push_size _ rfl) rfl rfl ?_
        rw [List.toList_toArray]
        exact readsAll_ints (intsAre_drop k hi)
      · have e := List.mem_singleton.mp hc
        rw [e]
        exact Heap.get?_none_of_le big
  refine wpAny_call (codeAny_mono rc fun r s' hq => ?_)
  obtain ⟨u, rfl, q⟩ := hq
  exact q
end
end
section
open PySem PySem.Spec PyProof.Rows L2 LamX PySem.W
theorem sql_ext {K : PySem.W.Frag} {H H' : Hp} {a : Addr} {xs : List V} (h : SqL K H a xs) (e : ExtN H H') : SqL K H' a xs := by
  rcases h with (h | ⟨o, h⟩) | h
  · exact .inl (.inl (e _ _ h fun ps z => by cases z))
  · exact .inl (.inr ⟨o, e _ _ h fun ps z => by cases z⟩)
  · exact .inr h
theorem nats_of : ∀ {us : List Value} {ks : List Nat}, Vals (ks.map fun k => V.int (k : Nat)) us → EachIs (fun (v : Value) (k : Nat) => ∃ t, v = .int (k : Int) t) us ks
  | us, [], h => by
    cases h
    exact .nil
  | us, k :: ks, h => by
    rw [List.map_cons] at h
    cases h with
    | cons r1 r2 => exact .cons r1 (nats_of r2)
theorem vals_nats : ∀ {us : List Value} {ks : List Nat}, EachIs (fun (v : Value) (k : Nat) => ∃ t, v = .int (k : Int) t) us ks → Vals (ks.map fun k => V.int (k : Nat)) us
  | _, _, .nil => .nil
  | _, _, .cons r1 r2 => .cons r1 (vals_nats r2)
/-- sorted(.., key=lambda y: xs[y:]), xs in slot j -/
def tTails (K : PySem.W.Frag) (T : List (Addr × Str)) (j : Nat) (te : TE) : TE := fun σ H Q => te σ H fun v H1 => Tabs T H1 ∧ ∃ (a b : Addr) (ks : List Nat) (ns : List Int), v = .ref a ∧ σ[j]? = some (some (.ref b)) ∧ SqL K H1 a (ks.map fun k => V.int (k : Nat)) ∧
  SqL K H1 b (ns.map V.int) ∧ (∀ k ∈ ks, k ≤ ns.length) ∧ ∀ (H2 : Hp) (p : Addr), ExtN H1 H2 → Tabs T H2 → H2 p = none → Q (.ref p) (upd H2 p (.lst ((ks.mergeSort fun x y => decide (ns.drop x ≤ ns.drop y)).map fun k => V.int (k : Nat))))
theorem pe_tails {X : Cx} {T : List (Addr × Str)} {c P : Addr} {j : Nat} {e : Expr} {te : TE} {xs y : Str} {params : Arguments} {scope : Scope} {p pos lpos kpos p1 p2 p3 p4 : Pos} (hg : Gl X "sorted") (hm : X.mg "sorted" = none) (ha : PA X [e] (tCons te tNil)) (TB : TabB X.base X.mg c P) (hcode : X.env.code = .ref c)
    (hmT : (P, X.env.qual ++ "<lambda>") ∈ T) (hu : ∀ p ∈ T, p.1 = P → p.2 = X.env.qual ++ "<lambda>") (hr : Room 3 X.A) (hN : X.N[j]? = some xs) (hcx : X.env.scope.names.lookup xs = some .cell)
    (hfree : ∀ z ∈ scope.names, z.2 = .free → z.1 = xs) (kd : scope.kind = .function) (co : scope.isCoroutine = false) (gn : scope.isGenerator = false) (ky : scope.names.lookup y = some .local) (kx : scope.names.lookup xs = some .free) (nc : ∀ z ∈ scope.names, z.2 ≠ .cell)
    (hdef : defaultsOf params X.env = ([], []))
    (hb : ∀ (q : Str) (cl : List (Str × Addr)) (pm cv ctv u : Value), bindArgs (PySem.W.kla_fn "<lambda>" q params (.Subscript (.Name xs p1) (.Slice (some (.Name y p2)) none none p3) p4) scope cl pm cv ctv) ⟨[u], []⟩ = pure [(y, u)])
    (dx : (xs == ("__debug__" : Str)) = false := by decide) (cx : (xs == ("__classdict__" : Str)) = false := by decide) (dy : (y == ("__debug__" : Str)) = false := by decide)
    (he1 : backTo pos (starEach [e] X.env) = (false, eval e X.env) :: backTo pos (starEach [] X.env) := by rfl) (hpl : (backTo pos (starEach [e] X.env)).any (·.1) = false := by rfl) :
    PE X (.Call (.Name "sorted" p) [e] [⟨some "key", .Lambda params (.Subscript (.Name xs p1) (.Slice (some (.Name y p2)) none none p3) p4) scope lpos, kpos⟩] pos) (tTails X.K T j te) := by
  refine ⟨fun pins s σ H Q I h => ?_⟩
  refine wpAny_Call_Name_kw (ld_blt I hg hm (by rfl) ?_)
  have h2 : tCons te tNil σ H fun vs H1 => match vs with
      | [v] => Tabs T H1 ∧ ∃ (a b : Addr) (ks : List Nat) (ns : List Int), v = .ref a ∧ σ[j]? = some (some (.ref b)) ∧ SqL X.K H1 a (ks.map fun k => V.int (k : Nat)) ∧
        SqL X.K H1 b (ns.map V.int) ∧ (∀ k ∈ ks, k ≤ ns.length) ∧ ∀ (H2 : Hp) (p : Addr), ExtN H1 H2 → Tabs T H2 → H2 p = none → Q (.ref p) (upd H2 p (.lst ((ks.mergeSort fun x y => decide (ns.drop x ≤ ns.drop y)).map fun k => V.int (k : Nat))))
      | _ => False := h
  refine PyProof.Rows.callWith_kw (thn (ha.run pos pins s σ H _ I h2) fun us s1 ⟨vs, H1, I1, r1, hq⟩ => ?_) he1 hpl (by rfl) (by rfl)
  obtain ⟨v, rfl⟩ : ∃ v, vs = [v] := by
    match vs, hq with
    | [v], _ => exact ⟨v, rfl⟩
  obtain ⟨hT, a, b, ks, ns, ea, hσ, hA, hB, hk, q⟩ := hq
  subst ea
  obtain ⟨u, rfl, ru⟩ := vals1 r1
  obtain rfl : u = Value.ref a := ru
  have hf1 : ∀ z ∈ scope.names, z.2 = .free → X.env.scope.names.lookup z.1 = some .cell := fun z hz e => by
    rw [hfree z hz e]
    exact hcx
  have hf2 : ∀ z ∈ scope.names, z.2 = .free → ∃ c, X.env.cells.lookup z.1 = some c := fun z hz e => I1.ok.has _ (.inl (hf1 z hz e))
  show wpAny _ _ (evalAll [(do let v ← eval (.Lambda params (.Subscript (.Name xs p1) (.Slice (some (.Name y p2)) none none p3) p4) scope lpos) X.env; standAt pos; pure v)]) _ _ s1
  refine wpAny_evalAll_cons (wpAny_bind (lam_make2 I1 TB hcode hmT hu hT hdef hf2 fun f c' pm' ctv H2 s2 I2 eN T2 hf hfn hfr hco => wpAny_bind (wpAny_standAt (wpAny_pure (wpAny_evalAll_nil ?_)))))
  show wpAny _ _ (call (.builtin "sorted") [.ref a] [(Str.ofString "key", .ref f)]) _ _ s2
  have hA2 := sql_ext hA eN
  have hB2 := sql_ext hB eN
  obtain ⟨itA, rvA, lA, zA⟩ := I2.list hA2
  obtain ⟨itB, rvB, lB, zB⟩ := I2.list hB2
  obtain ⟨m, hns, hl⟩ := I2.loc
  obtain ⟨w, rw1, lk⟩ := hl j xs (.ref b) hN hσ (.inr (.inl hcx))
  obtain rfl : w = Value.ref b := rw1
  obtain ⟨cc, hcc, hcell⟩ : ∃ cc, X.env.cells.lookup xs = some cc ∧ s2.heap.IsCell cc (some (.ref b)) := by
    rcases lk with ⟨z, _⟩ | ⟨_, z⟩
    · have z2 : X.env.scope.names.lookup xs = some .local := z
      rw [hcx] at z2
      cases z2
    · exact z
  have hmem : (xs, NameKind.free) ∈ scope.names := PySem.mem_of_lookup kx
  have hclo := NdefX.clo_has hf2 hmem hcc
  obtain ⟨⟨oc, fvs, tq, c1, c2, c3⟩, _, _⟩ := I2.hok c' _ hco
  have hiB : IntsAre itB ns := intsAre_of rvB
  have hlB := hiB.length
  have zB2 : ns.length ≤ sizeLine := by rw [List.length_map] at zB; exact zB
  have lenA := rvA.length
  rw [List.length_map] at lenA
  have eA := nats_of rvA
  refine sorted_fresh (R := fun (v : Value) (k : Nat) => ∃ t, v = .int (k : Int) t) (tailD ns) lA.isList eA (AllAlike.of fun _ _ => by simp only [alike]; exact alike_ints _ _) (Sortable.others fun k => ⟨(fun z => by cases z), (fun z1 z => by cases z)⟩) (by rw [List.length_map] at zA; exact zA) (fun x _ => ?_) (fun v x hv hx g t kg => ?_) fun out cN g t kg none1 hD ho eo => ?_
  · have e : (tailD ns x).depth = 1 := by
      show PyData.depthAll _ + 1 = 1
      rw [PySem.W.depth_ints]
    have := hr.un
    omega
  · obtain ⟨tt, rfl⟩ := hv
    refine tail_call (st := { s2 with heap := g, toks := t }) (kg _ _ hf) ⟨c', oc, fvs, tq, rfl, kg _ _ c1, c2, c3⟩ (I2.mod.nolimit.keeps fun b o e => kg _ _ (I2.bk _ _ e)) (by have := hr.dp; show X.A.depth < recursionLimit; omega) kd co gn ky kx nc (fun cl pm cv ctv => hb _ cl pm cv ctv _) hclo
      (let ⟨o, ho, hd⟩ := hcell; ⟨o, kg _ _ ho, hd⟩) (b := b) (us := itB) (let ⟨o, ho, hd⟩ := lB.isList; ⟨o, kg _ _ ho, hd⟩) hiB zB2 (hk x hx) dx cx dy
  · rw [dataLe_rows (fun k => ns.drop k)] at eo
    obtain ⟨ep, ho1⟩ : ∃ ep, g.get? (s2.heap.objs.size + 1) = some (seqObj "list" out.toArray ep) := ⟨_, hD⟩
    have rvO : Vals ((ks.mergeSort fun x y => decide (ns.drop x ≤ ns.drop y)).map fun k => V.int (k : Nat)) out := vals_nats eo
    have nN : H2 (s2.heap.objs.size + 1) = none := I2.hok.fresh (Nat.le_succ _)
    have I3 := I2.laid (t' := t) (o := .lst ((ks.mergeSort fun x y => decide (ns.drop x ≤ ns.drop y)).map fun k => V.int (k : Nat))) kg (Nat.le_succ _) ⟨by rw [rvO.length, ho]; rw [List.length_map] at zA; exact zA, out, ep, rvO, ho1⟩
    exact ⟨.ref _, _, I3, rfl, q _ _ eN T2 nN⟩
end
/-! ### the text -/
def topS (i : Nat) : Stmt := PySem.Challenge.pw_homereads_k21_faults_of_written_indexes.main.body.getD i (.Pass ⟨0, 0, 0, 0⟩)
abbrev sWall : Stmt := topS 0
abbrev sNumB : Stmt := topS 2
abbrev sNumAt : Stmt := topS 3
abbrev sSymbol : Stmt := topS 14
abbrev sSymsOf : Stmt := topS 15
abbrev sTextOf : Stmt := topS 16
abbrev sSuffix : Stmt := topS 18
abbrev sRanks : Stmt := topS 19
abbrev sKeys : Stmt := topS 20
abbrev sPJoined : Stmt := topS 25
abbrev mInit : Stmt := inClass (topS 26) 0
abbrev mLength : Stmt := inClass (topS 26) 1
abbrev mLast : Stmt := inClass (topS 26) 2
abbrev mKept : Stmt := inClass (topS 26) 3
abbrev mCount : Stmt := inClass (topS 26) 4
abbrev mStep : Stmt := inClass (topS 26) 5
abbrev mStart : Stmt := inClass (topS 26) 6
abbrev mInterval : Stmt := inClass (topS 26) 7
abbrev mPlaces : Stmt := inClass (topS 26) 8
abbrev mAhead : Stmt := inClass (topS 26) 9
abbrev mPlace : Stmt := inClass (topS 26) 10
abbrev sSmaller : Stmt := topS 27
abbrev sCounts : Stmt := topS 28
abbrev sBegins : Stmt := topS 29
abbrev sSum : Stmt := topS 38
abbrev sWriteIx : Stmt := topS 39
abbrev sReadIx : Stmt := topS 40
abbrev sColB : Stmt := topS 41
abbrev sCheckF : Stmt := topS 42
abbrev sHeads : Stmt := topS 43
abbrev sCheckE : Stmt := topS 44
abbrev sColumn : Stmt := topS 45
abbrev sTNames : Stmt := topS 46
abbrev sTTexts : Stmt := topS 47
abbrev sSeqOf : Stmt := topS 48
abbrev sCell : Stmt := topS 50
abbrev sRow : Stmt := topS 51
abbrev sLetters : Stmt := topS 52
abbrev sText : Stmt := topS 53
abbrev sName : Stmt := topS 54
abbrev sMany : Stmt := topS 55
abbrev sLRefs : Stmt := topS 56
abbrev sJoined : Stmt := topS 57
abbrev sStarts : Stmt := topS 58
abbrev sSizes : Stmt := topS 59
abbrev sBytes : Stmt := topS 60
abbrev sNumber : Stmt := topS 61
abbrev sLSum : Stmt := topS 62
abbrev sSummed : Stmt := topS 63
abbrev sWritten : Stmt := topS 64
abbrev sVerdict : Stmt := topS 65
abbrev sTold : Stmt := topS 66
abbrev sChanged : Stmt := topS 67
abbrev sLaw : Stmt := topS 68
theorem scCell : FnScope ["script", "k"] ["script", "k"] (defScope sCell) := ⟨rfl, rfl, rfl, by decide +kernel, rfl, by decide +kernel, by decide +kernel⟩
theorem scRow : FnScope ["cell", "count", "bound", "rest", "mixed", "row", "k"] ["cell", "count", "bound"] (defScope sRow) := ⟨rfl, rfl, rfl, by decide +kernel, rfl, by decide +kernel, by decide +kernel⟩
/-! ### walks of a known number of turns -/
theorem for_gen {J : It} {n : Nat} {g : TG} {tb : TS} {D : Ends} {σ : L2.St} {H : Hp} (Pv : Nat → L2.St → Hp → Prop) (h0 : Pv 0 σ H) (hgo : ∀ i σ H, i < n → Pv i σ H → J.go i H) (hstop : ∀ σ H, Pv n σ H → J.stop n H)
    (hs : ∀ i σ H x H', i < n → Pv i σ H → J.yld i H x H' → g x σ H' fun σ2 H2 => tb { D with nx := Pv (i + 1), ct := Pv (i + 1), bk := D.nx } σ2 H2) (hd : ∀ σ H, Pv n σ H → D.nx σ H) :
    ∃ W : Nat → Nat → L2.St → Hp → Prop, (∃ m, W 0 m σ H) ∧ ∀ i m σ H, W i m σ H →
      (J.stop i H ∧ D.nx σ H) ∨ (J.go i H ∧ ∃ N : L2.St → Hp → Prop, (∀ σ' H', N σ' H' → ∃ m', m' < m ∧ W (i + 1) m' σ' H') ∧ ∀ x H', J.yld i H x H' → g x σ H' fun σ2 H2 => tb { D with nx := N, ct := N, bk := D.nx } σ2 H2) := by
  refine ⟨fun i m σ H => i + m = n ∧ Pv i σ H, ⟨n, Nat.zero_add n, h0⟩, fun i m σ H hw => ?_⟩
  obtain ⟨em, p⟩ := hw
  cases m with
  | zero =>
    obtain rfl : i = n := em
    exact .inl ⟨hstop σ H p, hd σ H p⟩
  | succ m =>
    have lt : i < n := by omega
    exact .inr ⟨hgo i σ H lt p, Pv (i + 1), fun σ' H' p' => ⟨m, Nat.lt_succ_self m, by omega, p'⟩, fun x H' y => hs i σ H x H' lt p y⟩
theorem lc_gen {J : It} {n : Nat} {g : TG} {tt : TT} {te : TE} {vs : List Nat} {σ : L2.St} {H1 : Hp} {D : Addr} {Qd : Hp → Prop} (Pv : Nat → Hp → Prop) (h0 : Pv 0 (upd H1 D (.lst []))) (hgo : ∀ i H, i < n → Pv i H → J.go i H) (hstop : ∀ H, Pv n H → J.stop n H)
    (hs : ∀ i H x H', i < n → Pv i H → J.yld i H x H' → g x (wipe σ vs) H' fun σ2 H2 => wipe σ2 vs = wipe σ vs ∧ tt σ2 H2 fun b H3 =>
      if b = true then te σ2 H3 fun y H4 => ∃ acc, H4 D = some (.lst acc) ∧ acc.length < sizeLine ∧ Pv (i + 1) (upd H4 D (.lst (acc ++ [y]))) else Pv (i + 1) H3) (hd : ∀ H, Pv n H → Qd H) :
    ∃ W : Nat → Nat → Hp → Prop, (∃ m, W 0 m (upd H1 D (.lst []))) ∧ ∀ i m H, W i m H →
      (J.stop i H ∧ Qd H) ∨ (J.go i H ∧ ∃ Nx : Hp → Prop, (∀ H', Nx H' → ∃ m', m' < m ∧ W (i + 1) m' H') ∧ ∀ x H', J.yld i H x H' → g x (wipe σ vs) H' fun σ2 H2 => wipe σ2 vs = wipe σ vs ∧ tt σ2 H2 fun b H3 =>
        if b = true then te σ2 H3 fun y H4 => ∃ acc, H4 D = some (.lst acc) ∧ acc.length < sizeLine ∧ Nx (upd H4 D (.lst (acc ++ [y]))) else Nx H3) := by
  refine ⟨fun i m H => i + m = n ∧ Pv i H, ⟨n, Nat.zero_add n, h0⟩, fun i m H hw => ?_⟩
  obtain ⟨em, p⟩ := hw
  cases m with
  | zero =>
    obtain rfl : i = n := em
    exact .inl ⟨hstop H p, hd H p⟩
  | succ m =>
    have lt : i < n := by omega
    exact .inr ⟨hgo i H lt p, Pv (i + 1), fun H' p' => ⟨m, Nat.lt_succ_self m, by omega, p'⟩, fun x H' y => hs i H x H' lt p y⟩
/-- a loop over a text's signs -/
theorem for_str {z : Str} {g : TG} {tb : TS} {D : Ends} {σ : L2.St} {H : Hp} (Pv : Nat → L2.St → Hp → Prop) (h0 : Pv 0 σ H)
    (hs : ∀ i c σ H, z.cps[i]? = some c → Pv i σ H → g (.str ⟨#[c]⟩) σ H fun σ2 H2 => tb { D with nx := Pv (i + 1), ct := Pv (i + 1), bk := D.nx } σ2 H2) (hd : ∀ σ H, Pv z.cps.size σ H → D.nx σ H) :
    ∃ W : Nat → Nat → L2.St → Hp → Prop, (∃ m, W 0 m σ H) ∧ ∀ i m σ H, W i m σ H →
      ((Its z).stop i H ∧ D.nx σ H) ∨ ((Its z).go i H ∧ ∃ N : L2.St → Hp → Prop, (∀ σ' H', N σ' H' → ∃ m', m' < m ∧ W (i + 1) m' σ' H') ∧ ∀ x H', (Its z).yld i H x H' → g x σ H' fun σ2 H2 => tb { D with nx := N, ct := N, bk := D.nx } σ2 H2) :=
  for_gen (J := Its z) (n := z.cps.size) Pv h0 (fun i σ H hi _ => hi) (fun σ H _ => Nat.le_refl _) (fun i σ H x H' hi p y => by
    obtain ⟨e, c, hc, ex⟩ := y
    subst e
    subst ex
    exact hs i c σ _ hc p) hd
/-! ### texts by lists -/
def T (l : List Nat) : Str := ⟨l.toArray⟩
theorem T_len (l : List Nat) : (T l).length = l.length := by
  show l.toArray.size = l.length
  simp
theorem T_size (l : List Nat) : (T l).cps.size = l.length := by
  show l.toArray.size = l.length
  simp
theorem T_list (l : List Nat) : (T l).cps.toList = l := rfl
theorem T_at (l : List Nat) (i : Nat) : (T l).cps[i]? = l[i]? := by
  show l.toArray[i]? = l[i]?
  simp
theorem T_app (a b : List Nat) : T a ++ T b = T (a ++ b) := by
  show Str.mk (a.toArray ++ b.toArray) = Str.mk (a ++ b).toArray
  simp
theorem T_inj {a b : List Nat} (h : T a = T b) : a = b := by
  have e : (T a).cps.toList = (T b).cps.toList := by rw [h]
  exact e
theorem T_nil : (Str.ofString "" : Str) = T [] := by decide +kernel
def Sg (c : Nat) : Prop := c = 65 ∨ c = 67 ∨ c = 71 ∨ c = 84 ∨ c = 78
def Dna (l : List Nat) : Prop := ∀ c ∈ l, Sg c
theorem Dna.app {a b : List Nat} (h : Dna a) (k : Dna b) : Dna (a ++ b) := fun c hc => by
  rcases List.mem_append.mp hc with q | q
  · exact h c q
  · exact k c q
theorem Dna.one {c : Nat} (h : Sg c) : Dna [c] := fun d hd => by
  obtain rfl : d = c := by simpa using hd
  exact h
theorem line_ok {n : Nat} (h : n ≤ 100000) : n ≤ sizeLine := by
  rw [sizeLine_eq]
  omega
theorem line_lt {n : Nat} (h : n ≤ 100000) : n < sizeLine := by
  rw [sizeLine_eq]
  omega
theorem same_upd {H : Hp} {p : Addr} {o : HO} (h : H p = none) : Same H (upd H p o) := fun b x e => by
  rw [upd_ne (ne_of_none e h)]
  exact e
theorem upd_upd {H : Hp} {p : Addr} {o o' : HO} : upd (upd H p o) p o' = upd H p o' := by
  funext b
  by_cases e : b = p
  · rw [e, upd_same, upd_same]
  · rw [upd_ne e, upd_ne e, upd_ne e]
/-! ### names that are still the built-in ones -/
structure Bl (mg : Str → Option Value) : Prop where
  len : mg "len" = none
  int : mg "int" = none
  abs : mg "abs" = none
  range : mg "range" = none
  isin : mg "isinstance" = none
  bool : mg "bool" = none
  str : mg "str" = none
section
variable {P : Program} {w : World} {K : PySem.W.Frag} {mg : Str → Option Value} {base : Heap}
/-! ### _law_cell -/
def spCell (K : PySem.W.Frag) : Sp := fun vs H Q _ => ∃ (a : Addr) (ns : List Int) (k : Nat), vs = [.ref a, .int (k : Int)] ∧ SqL K H a (ns.map V.int) ∧ ∀ x : Int, Q (.int x) H
theorem ok_cell {f : Addr} {fd : FuncData} {k : Nat} (F : Fun K "_law_cell" "_law_cell" sCell f fd) (B : Bl mg) : FnOk P w K mg base CX0 (k + 1) f fd ["script", "k"] (spCell K) := by
  refine F.ok scCell (fun vs H Q E h => ?_) (fun cdv A outer s H vs Q E hr h => ?_)
  · obtain ⟨a, ns, j, rfl, _⟩ := h
    rfl
  · obtain ⟨a, ns, j, rfl, hS, q⟩ := h
    refine ⟨_, pss_cons (ps_if (pt_cmpR op_lt (pv 1) (pe_callB call_len_seq (by rfl) B.len PySem.boot_len (pa_cons (pv 0) pa_nil)) (nomark _))
        (pss_one (ps_ret (pe_callTy call_int1 (by rfl) B.int (by decide +kernel) (pa_cons (pe_ix ix_list (pv 0) (pv 1) (fun _ _ => rfl)) pa_nil)))) pss_nil)
      (pss_one (ps_ret pe_int)), ?_⟩
    refine ⟨.int j, rfl, .ref a, rfl, a, ns.map V.int, rfl, .inl hS, j, _, rfl, rfl, _, rfl, ite2 (fun e => ?_) (fun e => q 0)⟩
    have h1 : (j : Int) < ((ns.map V.int).length : Int) := of_decide_eq_true e
    have h2 : j < ns.length := by
      rw [List.length_map] at h1
      omega
    have g1 : (ns.map V.int)[j]? = some (.int ns[j]) := by
      rw [List.getElem?_map, List.getElem?_eq_getElem h2]
      rfl
    exact ⟨.ref a, rfl, .int j, rfl, a, _, j, .int ns[j], rfl, rfl, hS, atI_nat g1, .inl ⟨_, rfl, q _⟩⟩
/-! ### _law_row -/
def spRow (K : PySem.W.Frag) : Sp := fun vs H Q _ => ∃ (c n b : Int), vs = [.int c, .int n, .int b] ∧ 0 ≤ n ∧ n ≤ 100000 ∧ 1 < b ∧ b ≤ 1000000001 ∧
  ∀ (H' : Hp) (p : Addr) (xs : List Int), Same H H' → H p = none → H' p = some (.lst (xs.map V.int)) → xs.length = n.toNat → (∀ x ∈ xs, 0 ≤ x ∧ x < b) → Q (.ref p) H'
theorem ok_row {f : Addr} {fd : FuncData} {k : Nat} (F : Fun K "_law_row" "_law_row" sRow f fd) (B : Bl mg) : FnOk P w K mg base CX0 (k + 1) f fd ["cell", "count", "bound"] (spRow K) := by
  refine F.ok scRow (fun vs H Q E h => ?_) (fun cdv A outer s H vs Q E hr h => ?_)
  · obtain ⟨c, n, b, rfl, _⟩ := h
    rfl
  · obtain ⟨c, n, b, rfl, hn0, hn, hb1, hb2, q⟩ := h
    refine ⟨_, pss_cons (ps_set (i := 3) scRow.nd rfl (.inl rfl) (pe_callB call_abs (by rfl) B.abs (by decide +kernel) (pa_cons (pe_callTy call_int1 (by rfl) B.int (by decide +kernel) (pa_cons (pv 0) pa_nil)) pa_nil)))
      (pss_cons (ps_set (i := 4) scRow.nd rfl (.inl rfl) (pe_op op_add (pe_op op_mod (pe_callTy call_int1 (by rfl) B.int (by decide +kernel) (pa_cons (pv 0) pa_nil)) pe_int) pe_int))
      (pss_cons (ps_set (i := 5) scRow.nd rfl (.inl rfl) (pe_lst pa_nil))
      (pss_cons (ps_for PassesOwn.never rfl (pi_range1 rfl B.range (pa_cons (pv 1) pa_nil)) (pg_name (i := 6) scRow.nd rfl (.inl rfl))
        (pss_one (ps_if (pt_cmpR op_ge (pv 3) (pv 2) (nomark _))
          (pss_cons (ps_expr (pe_bm PySem.F.plainAttrs_list PySem.F.slot_list_append PySem.F.type_list_append mt_append (pv 5) (pa_cons (pe_op op_mod (pe_callTy call_int1 (by rfl) B.int (by decide +kernel) (pa_cons (pv 3) pa_nil)) (pv 2)) pa_nil)))
            (pss_one (ps_set (i := 3) scRow.nd rfl (.inl rfl) (pe_op op_fdiv (pv 3) (pv 2)))))
          (pss_cons (ps_set (i := 4) scRow.nd rfl (.inl rfl) (pe_op op_mod (pe_callTy call_int1 (by rfl) B.int (by decide +kernel) (pa_cons (pe_op op_add (pe_op op_add (pe_op op_mul (pv 4) pe_int) (pe_op op_mul pe_int (pv 6))) pe_int) pa_nil)) pe_int))
            (pss_one (ps_expr (pe_bm PySem.F.plainAttrs_list PySem.F.slot_list_append PySem.F.type_list_append mt_append (pv 5) (pa_cons (pe_op op_mod (pe_callTy call_int1 (by rfl) B.int (by decide +kernel) (pa_cons (pe_op op_fdiv (pe_op op_mul (pv 4) pe_int) pe_int) pa_nil)) (pv 2)) pa_nil))))))))
      (pss_one (ps_ret (pv 5)))))), ?_⟩
    refine ⟨.int c, rfl, .inl ⟨c, rfl, c, rfl, ?_⟩⟩
    refine ⟨.int c, rfl, .inl ⟨c, rfl, c, 1000003, rfl, rfl, (show (0 : Int) < 1000003 by decide), _, _, rfl, rfl, ?_⟩⟩
    refine ⟨Nat.zero_le _, fun p hp => ?_⟩
    refine ⟨.int n, rfl, n, rfl, by omega, by omega, ?_⟩
    refine for_range (lo := 0) (n := n.toNat) (fun i σ H' => ∃ (r m : Int) (kv : Option V) (xs : List Int), σ = [some (.int c), some (.int n), some (.int b), some (.int r), some (.int m), some (.ref p), kv] ∧ 0 ≤ m ∧ m < 4294967296 ∧ Same H H' ∧
      H' p = some (.lst (xs.map V.int)) ∧ xs.length = i ∧ ∀ x ∈ xs, 0 ≤ x ∧ x < b) ?_ ?_ ?_
    · refine ⟨_, _, none, [], rfl, ?_, ?_, same_upd hp, upd_same, rfl, fun x hx => by cases hx⟩
      · have := Int.emod_nonneg c (show (1000003 : Int) ≠ 0 by decide)
        omega
      · have := Int.emod_lt_of_pos c (show (0 : Int) < 1000003 by decide)
        omega
    · rintro i σ H' hi ⟨r, m, kv, xs, rfl, hm0, hm1, sm, hx, hl, hall⟩
      have grow : ∀ (y : Int) (τ : L2.St) (r' m' : Int), 0 ≤ y → y < b → 0 ≤ m' → m' < 4294967296 → τ = [some (.int c), some (.int n), some (.int b), some (.int r'), some (.int m'), some (.ref p), some (.int (0 + (i : Nat)))] →
          ∃ (r m : Int) (kv : Option V) (zs : List Int), τ = [some (.int c), some (.int n), some (.int b), some (.int r), some (.int m), some (.ref p), kv] ∧ 0 ≤ m ∧ m < 4294967296 ∧ Same H (upd H' p (.lst (xs.map V.int ++ [.int y]))) ∧
          (upd H' p (.lst (xs.map V.int ++ [.int y]))) p = some (.lst (zs.map V.int)) ∧ zs.length = i + 1 ∧ ∀ x ∈ zs, 0 ≤ x ∧ x < b := by
        intro y τ r' m' y0 y1 h0 h1 e
        refine ⟨r', m', _, xs ++ [y], e, h0, h1, fun q o k => ?_, ?_, ?_, ?_⟩
        · rw [upd_ne (ne_of_none k hp)]
          exact sm q o k
        · rw [upd_same, List.map_append]
          rfl
        · rw [List.length_append, hl]
          rfl
        · intro x hxm
          rcases List.mem_append.mp hxm with z | z
          · exact hall x z
          · obtain rfl : x = y := by simpa using z
            exact ⟨y0, y1⟩
      have hsz : (xs.map V.int).length < sizeLine := line_lt (by rw [List.length_map]; omega)
      refine ⟨.int r, rfl, .int b, rfl, r, b, rfl, rfl, _, rfl, ite2 (fun e => ?_) (fun e => ?_)⟩
      · refine ⟨.ref p, rfl, .inl ⟨rfl, _, .inl (.inl hx)⟩, .int r, rfl, .inl ⟨r, rfl, .int b, rfl, r, b, rfl, rfl, (show 0 < b by omega), p, _, _, rfl, rfl, hx, hsz, ?_⟩⟩
        refine ⟨.int r, rfl, .int b, rfl, r, b, rfl, rfl, ⟨by omega, by omega⟩, ?_⟩
        exact grow _ _ (r / b) m (Int.emod_nonneg r (by omega)) (Int.emod_lt_of_pos r (by omega)) hm0 hm1 rfl
      · refine ⟨.int m, rfl, m, 48271, rfl, rfl, .inl ⟨by omega, by omega⟩, .int (0 + (i : Nat)), rfl, 11, _, rfl, rfl, .inl ⟨by decide, by decide⟩, _, _, rfl, rfl, _, _, rfl, rfl, .inl ⟨_, rfl, _, 2147483647, rfl, rfl, (show (0 : Int) < 2147483647 by decide), ?_⟩⟩
        have b0 : 0 ≤ (m * 48271 + 11 * (0 + ((i : Nat) : Int)) + 7) % 2147483647 := Int.emod_nonneg _ (by decide)
        have b1 : (m * 48271 + 11 * (0 + ((i : Nat) : Int)) + 7) % 2147483647 < 2147483647 := Int.emod_lt_of_pos _ (by decide)
        refine ⟨.ref p, rfl, .inl ⟨rfl, _, .inl (.inl hx)⟩, _, rfl, (m * 48271 + 11 * (0 + ((i : Nat) : Int)) + 7) % 2147483647, 2862933555777941757, rfl, rfl, .inl ⟨by omega, by omega⟩, _, 1024, rfl, rfl, ⟨by decide, by decide⟩, .inl ⟨_, rfl, .int b, rfl, _, b, rfl, rfl, (show 0 < b by omega), p, _, _, rfl, rfl, hx, hsz, ?_⟩⟩
        exact grow _ _ r ((m * 48271 + 11 * (0 + ((i : Nat) : Int)) + 7) % 2147483647) (Int.emod_nonneg _ (by omega)) (Int.emod_lt_of_pos _ (by omega)) b0 (by omega) rfl
    · rintro σ H' ⟨r, m, kv, xs, rfl, hm0, hm1, sm, hx, hl, hall⟩
      exact ⟨.ref p, rfl, q H' p xs sm hp hx hl hall⟩
/-! ### _law_integer -/
end
theorem line_ok6 {n : Nat} (h : n ≤ 1000000) : n ≤ sizeLine := by
  rw [sizeLine_eq]
  omega
theorem line_ok7 {n : Nat} (h : n ≤ 10000000) : n ≤ sizeLine := by
  rw [sizeLine_eq]
  omega
theorem new_ne {H : Hp} {p q : Addr} {o : HO} (h : upd H p o q = none) : q ≠ p := fun e => by
  rw [e, upd_same] at h
  cases h
theorem new_old {H : Hp} {p q : Addr} {o : HO} (h : upd H p o q = none) : H q = none := by
  rw [upd_ne (new_ne h)] at h
  exact h
theorem cell_arg2 (a : Addr) (c d i : Nat) : [V.ref a, V.int ((c : Int) + (d : Int) * (0 + ((i : Nat) : Int)))] = [V.ref a, V.int ((c + d * i : Nat) : Int)] := by
  congr 2
  rw [Int.zero_add]
  simp
theorem cell_arg3 (a : Addr) (d i : Nat) : [V.ref a, V.int ((d : Int) * (0 + ((i : Nat) : Int)))] = [V.ref a, V.int ((d * i : Nat) : Int)] := by
  congr 2
  rw [Int.zero_add]
  simp
theorem cell_arg4 (a : Addr) (c d i : Nat) : [V.ref a, V.int ((d : Int) * (0 + ((i : Nat) : Int)) + (c : Int))] = [V.ref a, V.int ((d * i + c : Nat) : Int)] := by
  congr 2
  rw [Int.zero_add]
  simp
theorem map_int_at {ns : List Int} {i : Nat} (h : i < ns.length) : (ns.map V.int)[i]? = some (.int ns[i]) := by
  rw [List.getElem?_map, List.getElem?_eq_getElem h]
  rfl
def rFind : V → List V → Hp → VK → Prop := fun x xs H Q => ∃ a b, x = .str a ∧ xs = [.str b] ∧ Q (.int (Txt.find a b)) H
def rMaxP : List V → Hp → VK → Prop := fun xs H Q => ∃ i j, xs = [.int i, .int j] ∧ Q (.int (if j > i then j else i)) H
/-! ### lists of ints as data -/
abbrev LI (ns : List Int) : HO := .lst (ns.map V.int)
theorem LI_snoc (l : List Int) (x : Int) : LI (l ++ [x]) = .lst (l.map V.int ++ [.int x]) := by
  show HO.lst ((l ++ [x]).map V.int) = _
  rw [List.map_append]
  rfl
def dI (ns : List Int) : PyData := .list (ns.map .int)
theorem can_ints (ns : List Int) : PyData.canLayAll0 (ns.map .int) = true := by
  induction ns with
  | nil => rfl
  | cons n r ih => exact ih
theorem depth_intsD (ns : List Int) : PyData.depthAll (ns.map .int) = 0 := by
  induction ns with
  | nil => rfl
  | cons n r ih =>
    show max 0 (PyData.depthAll (r.map .int)) = 0
    rw [ih]
    rfl
theorem shaped_dI (ns : List Int) : SeqAt.shaped (dI ns) = true := by
  unfold SeqAt.shaped
  have e1 : (dI ns).canLay0 = true := can_ints ns
  have e2 : PyData.depth (dI ns) ≤ 64 := by
    show PyData.depthAll (ns.map .int) + 1 ≤ 64
    rw [depth_intsD]
    decide
  rw [e1, decide_eq_true e2]
  rfl
theorem dp_ints {K : PySem.W.Frag} {H : Hp} : ∀ ns : List Int, DpAll K H (ns.map V.int) (ns.map .int)
  | [] => .nil
  | n :: r => .cons (.int n) (dp_ints r)
theorem dp_dI {K : PySem.W.Frag} {H : Hp} {a : Addr} {ns : List Int} (h : SqL K H a (ns.map V.int)) : Dp K H (.ref a) (dI ns) := .lst h (dp_ints ns)
theorem eqv_ints (ns : List Int) : PyData.eqv (dI ns) (dI ns) = true := SeqAt.eqv_refl _ (can_ints ns)
theorem cutV_to (xs : List V) (k : Nat) : L2.cutV xs none (some (k : Int)) = xs.take k := by
  unfold L2.cutV
  rw [HT.sIx_none, HT.sIx_nat, List.drop_zero, Nat.sub_zero]
  by_cases h : k ≤ xs.length
  · rw [Nat.min_eq_left h]
  · rw [Nat.min_eq_right (by omega), List.take_of_length_le (Nat.le_refl _), List.take_of_length_le (by omega)]
theorem cutV_from (xs : List V) (k : Nat) : L2.cutV xs (some (k : Int)) none = xs.drop k := by
  unfold L2.cutV
  rw [HT.sIx_none, HT.sIx_nat]
  by_cases h : k ≤ xs.length
  · rw [Nat.min_eq_left h, List.take_of_length_le (by rw [List.length_drop]; omega)]
  · rw [Nat.min_eq_right (by omega), List.drop_of_length_le (Nat.le_refl _), List.drop_of_length_le (by omega), List.take_nil]
theorem ix_set {xs : List V} {i : Int} {j : Nat} (e : i = (j : Int)) (h : j < xs.length) : ixN xs.length i = some j := by
  rw [e]
  unfold ixN
  rw [if_pos (by omega), if_pos (by omega)]
  rfl
/-- a def of the module that keeps a promise -/
def Has (P : Program) (w : World) (K : PySem.W.Frag) (mg : Str → Option Value) (base : Heap) (k : Nat) (x : Str) (ps : List Str) (sp : Sp) : Prop :=
  ∃ f fd, FnOk P w K mg base CX0 k f fd ps sp ∧ mg x = some (.ref f) ∧ PySem.W.keepIn K (.ref f) = true ∧ Binds K fd ps []
/-- lists of bytes -/
def Byt (l : List Int) : Prop := ∀ x ∈ l, 0 ≤ x ∧ x < 256
theorem Byt.app {a b : List Int} (h : Byt a) (k : Byt b) : Byt (a ++ b) := fun x hx => by
  rcases List.mem_append.mp hx with z | z
  · exact h x z
  · exact k x z
theorem Byt.take {a : List Int} (h : Byt a) (n : Nat) : Byt (a.take n) := fun x hx => h x (List.mem_of_mem_take hx)
theorem Byt.rep {a : List Int} (h : Byt a) (n : Nat) : Byt (List.replicate n a).flatten := fun x hx => by
  obtain ⟨z, hz1, hz2⟩ := List.mem_flatten.mp hx
  rw [List.eq_of_mem_replicate hz1] at hz2
  exact h x hz2
theorem rep_map {α β : Type} (f : α → β) (n : Nat) (l : List α) : (List.replicate n (l.map f)).flatten = (List.replicate n l).flatten.map f := by
  rw [List.map_flatten, List.map_replicate]
theorem rep_len {α : Type} (n : Nat) (l : List α) : (List.replicate n l).flatten.length = n * l.length := by simp
theorem join_ones : ∀ l : List Nat, Str.join (T []) (l.map fun c => T [c]) = T l
  | [] => rfl
  | [c] => rfl
  | c :: e :: r => by
    have ih := join_ones (e :: r)
    show T [c] ++ T [] ++ Str.join (T []) ((e :: r).map fun c => T [c]) = _
    rw [ih, T_app, T_app]
    rfl
theorem sum_ones (l : List Nat) : ((l.map fun c => T [c]).map (·.length)).sum = l.length := by
  induction l with
  | nil => rfl
  | cons c r ih =>
    rw [List.map_cons, List.map_cons, List.sum_cons, ih, T_len, List.length_cons]
    show 1 + r.length = r.length + 1
    omega
section
variable {X : Cx}
theorem fold_app : ∀ (n : Nat) (z acc : Array Nat), (List.replicate n z).foldl (· ++ ·) acc = acc ++ ((List.replicate n z.toList).flatten).toArray
  | 0, z, acc => by simp
  | n + 1, z, acc => by
    rw [List.replicate_succ, List.foldl_cons, fold_app n z (acc ++ z), List.replicate_succ, List.flatten_cons]
    apply Array.toList_inj.mp
    simp
theorem mul_T (l : List Nat) (n : Int) (h0 : 0 ≤ n) : Txt.mul (T l) n = T (List.replicate n.toNat l).flatten := by
  unfold Txt.mul
  by_cases h1 : n < 1
  · rw [if_pos h1, show n.toNat = 0 by omega]
    exact T_nil
  · rw [if_neg h1]
    by_cases h2 : (n == 1 || (T l).length == 0) = true
    · rw [if_pos h2]
      rw [T_len] at h2
      rcases (Bool.or_eq_true _ _).mp h2 with z | z
      · have e : n = 1 := by simpa using z
        subst e
        show T l = T (List.replicate 1 l).flatten
        simp
      · have e : l = [] := by simpa using z
        subst e
        have : ∀ m : Nat, (List.replicate m ([] : List Nat)).flatten = [] := fun m => by simp
        rw [this]
    · rw [if_neg h2]
      show Str.mk _ = Str.mk _
      congr 1
      rw [fold_app, T_list]
      simp
/-- a text n times -/
theorem op_mulT : OpR X (binaryOp .Mult) (fun x y H Q => ∃ (l : List Nat) (n : Int), x = .str (T l) ∧ y = .int n ∧ l.length ≤ 100 ∧ 0 ≤ n ∧ n ≤ 1000 ∧ Q (.str (T (List.replicate n.toNat l).flatten)) H) := by
  intro pins s σ H x y v u Q I rx ry h
  obtain ⟨l, n, rfl, rfl, hl, h0, hn, q⟩ := h
  obtain ⟨t, rfl⟩ := rx
  obtain ⟨t', rfl⟩ := ry
  refine SB.mul (mulOk_of 100 1000 (by rw [T_len]; exact hl) hn (by omega) (by decide) (by decide)) fun t1 tk => ?_
  rw [mul_T l n h0]
  exact ⟨.str (T (List.replicate n.toNat l).flatten), H, I.tok _, ⟨_, rfl⟩, q⟩
end
theorem rep_mem {n : Nat} {l : List Nat} {c : Nat} (h : c ∈ (List.replicate n l).flatten) : c ∈ l := by
  obtain ⟨z, hz1, hz2⟩ := List.mem_flatten.mp h
  rw [List.eq_of_mem_replicate hz1] at hz2
  exact hz2
/-- a text n times: only how long it is and what stands in it -/
theorem op_mulM {X : Cx} : OpR X (binaryOp .Mult) (fun x y H Q => ∃ (l : List Nat) (n : Int), x = .str (T l) ∧ y = .int n ∧ l.length ≤ 100 ∧ 0 ≤ n ∧ n ≤ 1000 ∧ ∀ m : List Nat, m.length = n.toNat * l.length → (∀ c ∈ m, c ∈ l) → Q (.str (T m)) H) := by
  intro pins s σ H x y v u Q I rx ry h
  obtain ⟨l, n, e1, e2, hl, h0, hn, q⟩ := h
  exact op_mulT pins s σ H x y v u Q I rx ry ⟨l, n, e1, e2, hl, h0, hn, q _ (rep_len _ _) fun c hc => rep_mem hc⟩
def Num (l : List Int) : Prop := ∀ x ∈ l, 0 ≤ x ∧ x ≤ 1000000000
theorem paired_len {α β : Type} {F : α → β → Prop} : ∀ {xs : List α} {ys : List β}, Paired F xs ys → xs.length = ys.length
  | _, _, .nil => rfl
  | _, _, .cons _ t => congrArg (· + 1) (paired_len t)
theorem paired_get {α β : Type} {F : α → β → Prop} : ∀ {xs : List α} {ys : List β} {i : Nat} {x : α}, Paired F xs ys → xs[i]? = some x → ∃ y, ys[i]? = some y ∧ F x y
  | _, _, 0, _, .cons r _, e => ⟨_, rfl, by cases e; exact r⟩
  | _, _, i + 1, _, .cons _ t, e => paired_get (i := i) t e
/-- lists of bytes in the list at pl -/
def Bys (pl : Addr) (H : Hp) : List V → List (List Int) → Prop := Paired fun v l => ∃ q, v = .ref q ∧ q ≠ pl ∧ H q = some (LI l)
theorem Bys.mono {pl : Addr} {H H' : Hp} {xs : List V} {rs : List (List Int)} (h : Bys pl H xs rs) (k : ∀ q l, q ≠ pl → H q = some (LI l) → H' q = some (LI l)) : Bys pl H' xs rs := Paired.mapP h fun _ _ ⟨q, e, n, t⟩ => ⟨q, e, n, k q _ n t⟩
/-! ### starts -/
/-- the starts in the order of their suffixes -/
def starts (ns : List Int) : List Nat := (List.range ns.length).mergeSort fun x y => decide (ns.drop x ≤ ns.drop y)
theorem starts_perm (ns : List Int) : (starts ns).Perm (List.range ns.length) := List.mergeSort_perm _ _
theorem starts_len (ns : List Int) : (starts ns).length = ns.length := by
  rw [(starts_perm ns).length_eq, List.length_range]
theorem starts_lt {ns : List Int} {k : Nat} (h : k ∈ starts ns) : k < ns.length := List.mem_range.mp ((starts_perm ns).mem_iff.mp h)
abbrev LN (ks : List Nat) : HO := .lst (ks.map fun k => V.int (k : Nat))
/-- a def of the text whose code object stands at c -/
structure FunC (K : PySem.W.Frag) (x qual : Str) (st : Stmt) (f c : Addr) (fd : FuncData) : Prop where
  ex : ∃ (oc : Value) (od : Option Addr) (kV doc pm : Value) (an : Option Addr) (ct : Value) (osl : Array (Option Value)), fd = PySem.W.fnOf x qual (defArgs st) (defBody st) (defScope st) .none kV doc pm an (.ref c) ct ∧ K.lookup f = some ⟨oc, od, .func fd, osl⟩ ∧ PySem.W.codeIn K (.ref c) qual = true
section
variable {P : Program} {w : World} {K : PySem.W.Frag} {mg : Str → Option Value} {base : Heap}
theorem FunC.ok {x qual : Str} {st : Stmt} {f c : Addr} {fd : FuncData} {N ps : List Str} {k : Nat} {sp : Sp} (F : FunC K x qual st f c fd) (S : FnScope N ps (defScope st)) (len : ∀ vs H Q E, sp vs H Q E → vs.length = ps.length)
    (body : ∀ (A : Around) (outer : List Env) (s : Shared) (H : Hp) (vs : List V) (Q : VK) (E : XK), Room k (A.deeper (envOfC qual (defScope st) s.heap.objs.size f (.ref c))) → sp vs H Q E →
      ∃ t, PSs (cxOf CX0 P w K mg base N qual (defScope st) f (.ref c) A outer s H E).nox (defBody st) t ∧ t { nx := fun _ H' => Q .non H', rt := Q } (L2.start N vs) H) : FnOk P w K mg base CX0 (k + 1) f fd ps sp := by
  obtain ⟨oc, od, kV, doc, pm, an, ct, osl, rfl, lk, hcd⟩ := F.ex
  refine fn_of lk hcd S len fun A outer s H vs Q E hr hsp => ?_
  obtain ⟨t, h, q⟩ := body A outer s H vs Q E hr hsp
  exact ⟨t, h.nox, q⟩
open LamX in
/-- the heap grew, all but the tables are as they were, the tables are good -/
structure Grow (T : List (Addr × Str)) (H H' : Hp) : Prop where
  ext : ExtN H H'
  tab : Tabs T H'
open LamX in
def spStarts (K : PySem.W.Frag) (T : List (Addr × Str)) : Sp := fun vs H Q _ => ∃ (a : Addr) (ns : List Int), vs = [.ref a] ∧ SqL K H a (ns.map V.int) ∧ Tabs T H ∧ ns.length ≤ 1000000 ∧
  ∀ (H1 : Hp) (p : Addr), Grow T H H1 → H1 p = none → Q (.ref p) (upd H1 p (LN (starts ns)))
theorem sql_hit {H H1 : Hp} {a : Addr} {xs : List V} (h : SqL K H a xs) (s : Same H H1) : SqL K H1 a xs := s.seq h
open LamX in
theorem tabs_same {T : List (Addr × Str)} {H H1 : Hp} (t : Tabs T H) (s : Same H H1) : Tabs T H1 := t.ext fun b o e => s b o e
end
theorem FunC.binds {K : PySem.W.Frag} {x qual : Str} {st : Stmt} {f c : Addr} {fd : FuncData} {ps : List Str} (F : FunC K x qual st f c fd)
    (h : ∀ (kV doc pm : Value) (an : Option Addr) (cdv ct : Value) (us : List Value), us.length = ps.length → bindArgs (PySem.W.fnOf x qual (defArgs st) (defBody st) (defScope st) .none kV doc pm an cdv ct) ⟨us, []⟩ = pure (ps.zip us)) : Binds K fd ps [] := by
  obtain ⟨oc, od, kV, doc, pm, an, ct, osl, rfl, lk, hcd⟩ := F.ex
  exact .all (h kV doc pm an _ ct)
theorem scLetters : FnScope ["cell", "size", "letters", "x"] ["cell", "size", "letters"] (defScope sLetters) := ⟨rfl, rfl, rfl, by decide +kernel, rfl, by decide +kernel, by decide +kernel⟩
theorem scText : FnScope ["shape", "cell", "most", "size", "kind"] ["shape", "cell", "most"] (defScope sText) := ⟨rfl, rfl, rfl, by decide +kernel, rfl, by decide +kernel, by decide +kernel⟩
/-! ### letters and texts -/
theorem cut_head (l : List Nat) (k : Nat) : cutS (T l) none (some (k : Int)) = T (l.take k) := by
  unfold cutS
  rw [HT.sIx_nat, HT.sIx_none, T_len, T_list, List.drop_zero, Nat.sub_zero]
  show Str.mk _ = Str.mk _
  congr 2
  by_cases h : k ≤ l.length
  · rw [Nat.min_eq_left h]
  · rw [Nat.min_eq_right (by omega), List.take_of_length_le (Nat.le_refl _), List.take_of_length_le (by omega)]
section
variable {P : Program} {w : World} {K : PySem.W.Frag} {mg : Str → Option Value} {base : Heap}
def spLetters (K : PySem.W.Frag) : Sp := fun vs H Q _ => ∃ (c n : Int) (al : List Nat), vs = [.int c, .int n, .str (T al)] ∧ 0 ≤ n ∧ n ≤ 100000 ∧ 2 ≤ al.length ∧ al.length ≤ 1000 ∧ ∀ (H' : Hp) (l : List Nat), Same H H' → l.length = n.toNat → (∀ c ∈ l, c ∈ al) → Q (.str (T l)) H'
theorem ok_letters {f : Addr} {fd : FuncData} (F : Fun K "_law_letters" "_law_letters" sLetters f fd) (B : Bl mg) (hO : Has P w K mg base 2 "_law_row" ["cell", "count", "bound"] (spRow K)) : FnOk P w K mg base CX0 3 f fd ["cell", "size", "letters"] (spLetters K) := by
  obtain ⟨fO, dO, GO, gO, kO, bO⟩ := hO
  refine F.ok scLetters (fun vs H Q E h => ?_) (fun cdv A outer s H vs Q E hr h => ?_)
  · obtain ⟨c, n, al, rfl, _⟩ := h
    rfl
  · obtain ⟨c, n, al, rfl, hn0, hn, a2, a3, q⟩ := h
    refine ⟨_, pss_one (ps_ret (pe_join pe_str (pe_lc (own := [("x", 3)]) (g := gName 3) (tt := tYes) (te := tOp rIxS (tVar 2) (tVar 3)) rfl scLetters.nd
        (pi_list (pe_call GO hr (by rfl) gO kO bO .nil pass0 (pa_cons (pv 0) (pa_cons (pv 1) (pa_cons (pe_callB call_len_str (by rfl) B.len PySem.boot_len (pa_cons (pv 2) pa_nil)) pa_nil)))))
        (blkOk_by (own := [("x", 3)]) (N := ["cell", "size", "letters", "x"]) (sc := defScope sLetters) (by decide +kernel))
        (fun _ _ _ _ _ => pg_name (i := 3) scLetters.nd rfl (Or.inl rfl)) (fun _ _ _ _ _ => pts_nil) (fun _ _ _ _ _ => pe_ix (r := rIxS) ix_str (pv 2) (pv 3) (fun _ _ => rfl))))), ?_⟩
    have hz : (T al).length ≤ sizeLine := line_ok6 (by rw [T_len]; omega)
    refine ⟨⟨_, rfl⟩, .int c, rfl, .int n, rfl, .str (T al), rfl, T al, rfl, hz, c, n, ((T al).length : Nat), rfl, hn0, hn, by rw [T_len]; omega, by rw [T_len]; omega, fun H1 p ns s1 hp hlp hll hb => ?_⟩
    refine ⟨p, rfl, ⟨_, .inl (.inl hlp)⟩, fun D hD => ?_⟩
    have got : ∀ n ∈ ns, 0 ≤ n ∧ n.toNat < al.length := fun n hn => by
      have := hb n hn
      rw [T_len] at this
      omega
    refine lc_list (K := K) (xs := ns.map V.int) (fun j H2 => Same H1 H2 ∧ ∃ l : List Nat, l.length = j ∧ (∀ c ∈ l, c ∈ al) ∧ H2 D = some (.lst ((l.map fun c => T [c]).map V.str))) ⟨same_upd hD, [], rfl, (fun c hc => by cases hc), upd_same⟩ (fun j H2 _ h => h.1.seq (.inl (.inl hlp))) ?_ ?_
    · rintro j y H2 hjy ⟨s2, l, hl, hal, hd⟩
      rw [List.getElem?_map] at hjy
      obtain ⟨n1, hn1, rfl⟩ := Option.map_eq_some_iff.mp hjy
      obtain ⟨g0, g1⟩ := got n1 (List.mem_of_getElem? hn1)
      obtain ⟨m, rfl⟩ : ∃ m : Nat, n1 = (m : Int) := ⟨n1.toNat, by omega⟩
      rw [Int.toNat_natCast] at g1
      have hj : j < ns.length := (List.getElem?_eq_some_iff.mp hn1).1
      refine ⟨rfl, ?_⟩
      dsimp only [tYes]
      rw [if_pos rfl]
      have hat : atI (T al).cps.toList (m : Int) = some al[m] := atI_nat (List.getElem?_eq_getElem g1)
      refine ⟨.str (T al), rfl, .int m, rfl, T al, _, al[m], rfl, rfl, hz, hat, _, hd, line_ok6 (by rw [List.length_map, List.length_map]; omega), fun b o e => ?_, l ++ [al[m]], by rw [List.length_append, hl]; rfl, fun c hc => ?_, ?_⟩
      · rw [upd_ne (ne_of_none e hD)]
        exact s2 b o e
      · rcases List.mem_append.mp hc with z | z
        · exact hal c z
        · obtain rfl : c = al[m] := by simpa using z
          exact List.getElem_mem g1
      · rw [upd_same, List.map_append, List.map_append]
        rfl
    · rintro H2 ⟨s2, l, hl, hal, hd⟩
      rw [List.length_map] at hl
      refine ⟨Str.ofString "", D, l.map fun c => T [c], rfl, rfl, .inl (.inl (.inl hd)), ?_, ?_⟩
      · rw [sum_ones, show (Str.ofString "").length = 0 by decide +kernel]
        omega
      · rw [TL.join_eq, T_nil, join_ones]
        exact q H2 l (s1.trans s2) (by omega) hal
end
def lets : List Nat := [65, 67, 71, 84, 78]
theorem lets_text : Str.ofString "ACGTN" = T lets := by decide +kernel
theorem four_text : Str.ofString "ACGT" = T [65, 67, 71, 84] := by decide +kernel
theorem two_text : Str.ofString "AC" = T [65, 67] := by decide +kernel
theorem sg_lets {c : Nat} (h : c ∈ lets) : Sg c := by
  simp only [lets, List.mem_cons, List.not_mem_nil, or_false] at h
  rcases h with h | h | h | h | h <;> subst h
  · exact .inl rfl
  · exact .inr (.inl rfl)
  · exact .inr (.inr (.inl rfl))
  · exact .inr (.inr (.inr (.inl rfl)))
  · exact .inr (.inr (.inr (.inr rfl)))
theorem sg_four {c : Nat} (h : c ∈ [65, 67, 71, 84]) : Sg c := by
  refine sg_lets ?_
  simp only [lets, List.mem_cons, List.not_mem_nil, or_false] at h ⊢
  rcases h with h | h | h | h
  · exact .inl h
  · exact .inr (.inl h)
  · exact .inr (.inr (.inl h))
  · exact .inr (.inr (.inr (.inl h)))
theorem sg_two {c : Nat} (h : c ∈ [65, 67]) : Sg c := by
  simp only [List.mem_cons, List.not_mem_nil, or_false] at h
  rcases h with h | h
  · exact .inl h
  · exact .inr (.inl h)
section
variable {P : Program} {w : World} {K : PySem.W.Frag} {mg : Str → Option Value} {base : Heap}
def spText (K : PySem.W.Frag) : Sp := fun vs H Q _ => ∃ (s c : Int) (m : Nat), vs = [.int s, .int c, .int (m : Int)] ∧ 1 ≤ m ∧ m ≤ 300 ∧ ∀ (H' : Hp) (l : List Nat), Same H H' → Dna l → 1 ≤ l.length → l.length ≤ m → Q (.str (T l)) H'
theorem ok_text {f : Addr} {fd : FuncData} (F : Fun K "_law_text" "_law_text" sText f fd) (B : Bl mg) (hO : Has P w K mg base 3 "_law_letters" ["cell", "size", "letters"] (spLetters K)) : FnOk P w K mg base CX0 4 f fd ["shape", "cell", "most"] (spText K) := by
  obtain ⟨fO, dO, GO, gO, kO, bO⟩ := hO
  refine F.ok scText (fun vs H Q E h => ?_) (fun cdv A outer s H vs Q E hr h => ?_)
  · obtain ⟨s, c, m, rfl, _⟩ := h
    rfl
  · obtain ⟨x, c, m, rfl, hm1, hm2, q⟩ := h
    refine ⟨_, C8.pss_cut (ps_set (i := 3) scText.nd rfl (.inl rfl) (pe_op op_add pe_int (pe_op op_mod (pe_callTy call_int1 (by rfl) B.int (by decide +kernel) (pa_cons (pv 0) pa_nil)) (pv 2))))
      (C8.pss_cut (ps_set (i := 4) scText.nd rfl (.inl rfl) (pe_op op_mod (pe_op op_fdiv (pe_callTy call_int1 (by rfl) B.int (by decide +kernel) (pa_cons (pv 0) pa_nil)) (pv 2)) pe_int))
      (pss_cons (ps_if (pt_cmpR op_eq (pv 4) pe_int (nomark _)) (pss_one (ps_ret (pe_call GO hr (by rfl) gO kO bO .nil pass0 (pa_cons (pv 1) (pa_cons (pv 3) (pa_cons pe_str pa_nil)))))) pss_nil)
      (pss_cons (ps_if (pt_cmpR op_eq (pv 4) pe_int (nomark _)) (pss_one (ps_ret (pe_call GO hr (by rfl) gO kO bO .nil pass0 (pa_cons (pv 1) (pa_cons (pv 3) (pa_cons pe_str pa_nil)))))) pss_nil)
      (pss_cons (ps_if (pt_cmpR op_eq (pv 4) pe_int (nomark _)) (pss_one (ps_ret (pe_slice sl_str (pe_op op_mulM (pe_call GO hr (by rfl) gO kO bO .nil pass0 (pa_cons (pv 1) (pa_cons (pe_op op_add pe_int (pe_op op_mod (pe_op op_fdiv (pe_callTy call_int1 (by rfl) B.int (by decide +kernel) (pa_cons (pv 0) pa_nil)) (pe_op op_mul pe_int (pv 2))) pe_int)) (pa_cons pe_str pa_nil)))) (pv 3)) po_none (po_some (pv 3))))) pss_nil)
      (pss_one (ps_ret (pe_call GO hr (by rfl) gO kO bO .nil pass0 (pa_cons (pv 1) (pa_cons (pv 3) (pa_cons pe_str pa_nil)))))))))), ?_⟩
    have hmz : (0 : Int) < (m : Int) := by omega
    refine ⟨fun σ H' => H' = H ∧ ∃ z : Nat, 1 ≤ z ∧ z ≤ m ∧ σ = [some (.int x), some (.int c), some (.int (m : Int)), some (.int (z : Int)), none], ?_, ?_⟩
    · have b0 := Int.emod_nonneg x (show (m : Int) ≠ 0 by omega)
      have b1 := Int.emod_lt_of_pos x hmz
      refine ⟨.int x, rfl, .inl ⟨x, rfl, .int m, rfl, x, m, rfl, rfl, hmz, 1, _, rfl, rfl, rfl, (1 + x % (m : Int)).toNat, by omega, by omega, ?_⟩⟩
      rw [Int.toNat_of_nonneg (by omega)]
      rfl
    rintro σ H' ⟨rfl, z, z1, z2, rfl⟩
    refine ⟨fun σ H1 => H1 = H' ∧ ∃ kd : Int, σ = [some (.int x), some (.int c), some (.int (m : Int)), some (.int (z : Int)), some (.int kd)], ⟨.int x, rfl, .inl ⟨x, rfl, .int m, rfl, x, m, rfl, rfl, ⟨hmz, by omega⟩, _, 4, rfl, rfl, (show (0 : Int) < 4 by decide), rfl, _, rfl⟩⟩, ?_⟩
    rintro σ H1 ⟨rfl, kd, rfl⟩
    refine ⟨.int kd, rfl, rfl, _, rfl, ite2 (fun _ => ?_) (fun _ => ?_)⟩
    · exact ⟨.int c, rfl, .int z, rfl, c, z, lets, by rw [← lets_text]; rfl, by omega, by omega, by decide, by decide, fun H2 l s2 hl hal => q H2 l s2 (fun c hc => sg_lets (hal c hc)) (by omega) (by omega)⟩
    refine ⟨.int kd, rfl, rfl, _, rfl, ite2 (fun _ => ?_) (fun _ => ?_)⟩
    · exact ⟨.int c, rfl, .int z, rfl, c, z, [65, 67], by rw [← two_text]; rfl, by omega, by omega, by decide, by decide, fun H2 l s2 hl hal => q H2 l s2 (fun c hc => sg_two (hal c hc)) (by omega) (by omega)⟩
    refine ⟨.int kd, rfl, rfl, _, rfl, ite2 (fun _ => ?_) (fun _ => ?_)⟩
    · have b0 := Int.emod_nonneg (x / (4 * (m : Int))) (show (6 : Int) ≠ 0 by decide)
      have b1 := Int.emod_lt_of_pos (x / (4 * (m : Int))) (show (0 : Int) < 6 by decide)
      refine ⟨.int c, rfl, .int x, rfl, .inl ⟨x, rfl, .int m, rfl, 4, _, rfl, rfl, .inl ⟨by decide, by decide⟩, x, _, rfl, rfl, ⟨by omega, by omega⟩, _, 6, rfl, rfl, (show (0 : Int) < 6 by decide), 1, _, rfl, rfl, c, 1 + x / (4 * (m : Int)) % 6, lets, by rw [← lets_text]; rfl, by omega, by omega, by decide, by decide, fun H2 l s2 hl hal => ?_⟩⟩
      refine ⟨.int z, rfl, l, z, rfl, rfl, by omega, by omega, by omega, fun m2 hm2l hm2c => ?_⟩
      refine ⟨.int z, rfl, _, rfl, T m2, rfl, line_ok6 (by rw [T_len, hm2l]; have : (z : Int).toNat * l.length ≤ 300 * 6 := Nat.mul_le_mul (by omega) (by omega); omega), ?_⟩
      rw [cut_head]
      have hz2 : z ≤ m2.length := by
        rw [hm2l, Int.toNat_natCast]
        exact Nat.le_mul_of_pos_right z (by omega)
      exact q H2 _ s2 (fun c hc => sg_lets (hal c (hm2c c (List.mem_of_mem_take hc)))) (by rw [List.length_take]; omega) (by rw [List.length_take]; omega)
    · exact ⟨.int c, rfl, .int z, rfl, c, z, [65, 67, 71, 84], by rw [← four_text]; rfl, by omega, by omega, by decide, by decide, fun H2 l s2 hl hal => q H2 l s2 (fun c hc => sg_four (hal c hc)) (by omega) (by omega)⟩
end
theorem scName : FnScope ["cell", "signs", "size", "x"] ["cell"] (defScope sName) := ⟨rfl, rfl, rfl, by decide +kernel, rfl, by decide +kernel, by decide +kernel⟩
/-! ### names -/
def ncl : List Nat := (Str.ofString "0123456789ABCDEFGHIJKLMNOPQRSTUVWXYZabcdefghijklmnopqrstuvwxyz").cps.toList
theorem str_T (z : Str) : T z.cps.toList = z := by
  show Str.mk z.cps.toList.toArray = z
  rw [Array.toArray_toList]
theorem ncl_text : Str.ofString "0123456789ABCDEFGHIJKLMNOPQRSTUVWXYZabcdefghijklmnopqrstuvwxyz" = T ncl := (str_T _).symm
theorem ncl_len : ncl.length = 62 := by decide +kernel
theorem ncl_asc : ∀ c ∈ ncl, c < 128 := by decide +kernel
section
variable {P : Program} {w : World} {K : PySem.W.Frag} {mg : Str → Option Value} {base : Heap}
def spName (K : PySem.W.Frag) : Sp := fun vs H Q _ => ∃ c : Int, vs = [.int c] ∧ ∀ (H' : Hp) (l : List Nat), Same H H' → 1 ≤ l.length → l.length ≤ 40 → (∀ c ∈ l, c ∈ ncl) → Q (.str (T l)) H'
theorem ok_name {f : Addr} {fd : FuncData} (F : Fun K "_law_name" "_law_name" sName f fd) (B : Bl mg) (hO : Has P w K mg base 2 "_law_row" ["cell", "count", "bound"] (spRow K)) : FnOk P w K mg base CX0 3 f fd ["cell"] (spName K) := by
  obtain ⟨fO, dO, GO, gO, kO, bO⟩ := hO
  refine F.ok scName (fun vs H Q E h => ?_) (fun cdv A outer s H vs Q E hr h => ?_)
  · obtain ⟨c, rfl, _⟩ := h
    rfl
  · obtain ⟨c, rfl, q⟩ := h
    refine ⟨_, pss_cons (ps_set (i := 1) scName.nd rfl (.inr rfl) pe_str)
      (C8.pss_cut (ps_set (i := 2) scName.nd rfl (.inl rfl) (pe_ix ix_list (pe_lst (pa_cons (pe_op op_add pe_int (pe_op op_mod (pe_callTy call_int1 (by rfl) B.int (by decide +kernel) (pa_cons (pv 0) pa_nil)) pe_int)) (pa_cons (pe_op op_add pe_int (pe_op op_mod (pe_op op_fdiv (pe_callTy call_int1 (by rfl) B.int (by decide +kernel) (pa_cons (pv 0) pa_nil)) pe_int) pe_int)) pa_nil)))
        (pe_callTy call_int1 (by rfl) B.int (by decide +kernel) (pa_cons (pe_cmpR op_eq (pe_op op_mod (pe_callTy call_int1 (by rfl) B.int (by decide +kernel) (pa_cons (pv 0) pa_nil)) pe_int) pe_int (nomark _)) pa_nil)) (fun _ _ => rfl)))
      (pss_one (ps_ret (pe_join pe_str (pe_lc (own := [("x", 3)]) (g := gName 3) (tt := tYes) (te := tOp rIxS (tVar 1) (tVar 3)) rfl scName.nd
        (pi_list (pe_call GO hr (by rfl) gO kO bO .nil pass0 (pa_cons (pe_op op_fdiv (pe_callTy call_int1 (by rfl) B.int (by decide +kernel) (pa_cons (pv 0) pa_nil)) pe_int) (pa_cons (pv 2) (pa_cons pe_int pa_nil)))))
        (blkOk_by (own := [("x", 3)]) (N := ["cell", "signs", "size", "x"]) (sc := defScope sName) (by decide +kernel))
        (fun _ _ _ _ _ => pg_name (i := 3) scName.nd rfl (Or.inl rfl)) (fun _ _ _ _ _ => pts_nil) (fun _ _ _ _ _ => pe_ix (r := rIxS) ix_str (pv 1) (pv 3) (fun _ _ => rfl))))))), ?_⟩
    refine ⟨fun σ H1 => Same H H1 ∧ ∃ z : Nat, 1 ≤ z ∧ z ≤ 40 ∧ σ = [some (.int c), some (.str (T ncl)), some (.int (z : Int)), none], ?_, ?_⟩
    · have b0 := Int.emod_nonneg c (show (4 : Int) ≠ 0 by decide)
      have b1 := Int.emod_lt_of_pos c (show (0 : Int) < 4 by decide)
      have d0 := Int.emod_nonneg (c / 5) (show (40 : Int) ≠ 0 by decide)
      have d1 := Int.emod_lt_of_pos (c / 5) (show (0 : Int) < 40 by decide)
      refine ⟨.int c, rfl, .inl ⟨c, rfl, c, 4, rfl, rfl, (show (0 : Int) < 4 by decide), 1, _, rfl, rfl, .int c, rfl, .inl ⟨c, rfl, c, 5, rfl, rfl, ⟨by decide, by decide⟩, _, 40, rfl, rfl, (show (0 : Int) < 40 by decide), 1, _, rfl, rfl, by show 2 ≤ sizeLine; decide, fun p hp => ?_⟩⟩⟩
      refine ⟨.int c, rfl, .inl ⟨c, rfl, c, 5, rfl, rfl, (show (0 : Int) < 5 by decide), rfl, .inr ⟨_, rfl, ?_⟩⟩⟩
      have fin : ∀ (b : Bool), rIxL K (.ref p) (.int (if b = true then 1 else 0)) (upd H p (.lst [.int (1 + c % 4), .int (1 + c / 5 % 40)])) fun v H1 => gName 2 v [some (.int c), some (.str (Str.ofString "0123456789ABCDEFGHIJKLMNOPQRSTUVWXYZabcdefghijklmnopqrstuvwxyz")), none, none] H1 fun σ H1 => Same H H1 ∧ ∃ z : Nat, 1 ≤ z ∧ z ≤ 40 ∧ σ = [some (.int c), some (.str (T ncl)), some (.int (z : Int)), none] := by
        intro b
        cases b with
        | true =>
          refine ⟨p, _, _, .int (1 + c / 5 % 40), rfl, rfl, .inl (.inl upd_same), atI_nat (j := 1) rfl, same_upd hp, (1 + c / 5 % 40).toNat, by omega, by omega, ?_⟩
          rw [Int.toNat_of_nonneg (by omega), ← ncl_text]
          rfl
        | false =>
          refine ⟨p, _, _, .int (1 + c % 4), rfl, rfl, .inl (.inl upd_same), atI_nat (j := 0) rfl, same_upd hp, (1 + c % 4).toNat, by omega, by omega, ?_⟩
          rw [Int.toNat_of_nonneg (by omega), ← ncl_text]
          rfl
      exact fin _
    rintro σ H1 ⟨s1, z, z1, z2, rfl⟩
    have hz : (T ncl).length ≤ sizeLine := line_ok6 (by rw [T_len, ncl_len]; omega)
    refine ⟨⟨_, rfl⟩, .int c, rfl, .inl ⟨c, rfl, c, 200, rfl, rfl, ⟨by decide, by decide⟩, .int z, rfl, c / 200, z, 62, rfl, by omega, by omega, by decide, by decide, fun H2 p ns s2 hp hlp hll hb => ?_⟩⟩
    refine ⟨p, rfl, ⟨_, .inl (.inl hlp)⟩, fun D hD => ?_⟩
    refine lc_list (K := K) (xs := ns.map V.int) (fun j H3 => Same H2 H3 ∧ ∃ l : List Nat, l.length = j ∧ (∀ c ∈ l, c ∈ ncl) ∧ H3 D = some (.lst ((l.map fun c => T [c]).map V.str))) ⟨same_upd hD, [], rfl, (fun c hc => by cases hc), upd_same⟩ (fun j H3 _ h => h.1.seq (.inl (.inl hlp))) ?_ ?_
    · rintro j y H3 hjy ⟨s3, l, hl, hal, hd⟩
      rw [List.getElem?_map] at hjy
      obtain ⟨n1, hn1, rfl⟩ := Option.map_eq_some_iff.mp hjy
      obtain ⟨g0, g1⟩ := hb n1 (List.mem_of_getElem? hn1)
      obtain ⟨m, rfl⟩ : ∃ m : Nat, n1 = (m : Int) := ⟨n1.toNat, by omega⟩
      have g2 : m < ncl.length := by rw [ncl_len]; omega
      have hj : j < ns.length := (List.getElem?_eq_some_iff.mp hn1).1
      refine ⟨rfl, ?_⟩
      dsimp only [tYes]
      rw [if_pos rfl]
      have hat : atI (T ncl).cps.toList (m : Int) = some ncl[m] := atI_nat (List.getElem?_eq_getElem g2)
      refine ⟨.str (T ncl), rfl, .int m, rfl, T ncl, _, ncl[m], rfl, rfl, hz, hat, _, hd, line_ok6 (by rw [List.length_map, List.length_map]; omega), fun b o e => ?_, l ++ [ncl[m]], by rw [List.length_append, hl]; rfl, fun c hc => ?_, ?_⟩
      · rw [upd_ne (ne_of_none e hD)]
        exact s3 b o e
      · rcases List.mem_append.mp hc with z | z
        · exact hal c z
        · obtain rfl : c = ncl[m] := by simpa using z
          exact List.getElem_mem g2
      · rw [upd_same, List.map_append, List.map_append]
        rfl
    · rintro H3 ⟨s3, l, hl, hal, hd⟩
      rw [List.length_map] at hl
      refine ⟨Str.ofString "", D, l.map fun c => T [c], rfl, rfl, .inl (.inl (.inl hd)), ?_, ?_⟩
      · rw [sum_ones, show (Str.ofString "").length = 0 by decide +kernel]
        omega
      · rw [TL.join_eq, T_nil, join_ones]
        exact q H3 l ((s1.trans s2).trans s3) (by omega) (by omega) hal
end
theorem scMany : FnScope ["cell", "count", "names", "letters", "signs", "k"] ["cell", "count"] (defScope sMany) := ⟨rfl, rfl, rfl, by decide +kernel, rfl, by decide +kernel, by decide +kernel⟩
theorem scLRefs : FnScope ["script", "first", "shape", "text", "found", "k", "x"] ["script", "first"] (defScope sLRefs) := ⟨rfl, rfl, rfl, by decide +kernel, rfl, by decide +kernel, by decide +kernel⟩
theorem cut_mid (l : List Nat) (a b : Nat) : cutS (T l) (some (a : Int)) (some (b : Int)) = T ((l.drop a).take (b - a)) := by
  unfold cutS
  rw [HT.sIx_nat, HT.sIx_nat, T_len, T_list]
  show Str.mk _ = Str.mk _
  congr 2
  by_cases ha : a ≤ l.length
  · rw [Nat.min_eq_left ha]
    by_cases hb : b ≤ l.length
    · rw [Nat.min_eq_left hb]
    · rw [Nat.min_eq_right (by omega), List.take_of_length_le (by rw [List.length_drop]; omega), List.take_of_length_le (by rw [List.length_drop]; omega)]
  · rw [Nat.min_eq_right (a := a) (by omega), List.drop_of_length_le (Nat.le_refl _), List.drop_of_length_le (by omega), List.take_nil, List.take_nil]
/-! ### pairs of name and text -/
def Tups (H : Hp) : List V → List (List Nat × List Nat) → Prop := Paired fun v r => ∃ q, v = .ref q ∧ H q = some (.tup [.str (T r.1), .str (T r.2)])
theorem Tups.mono {H H' : Hp} {xs : List V} {rs : List (List Nat × List Nat)} (h : Tups H xs rs) (k : ∀ q ys, H q = some (.tup ys) → H' q = some (.tup ys)) : Tups H' xs rs :=
  Paired.mapP h fun _ _ ⟨q, e, t⟩ => ⟨q, e, k q _ t⟩
theorem Tups.snoc {H : Hp} {xs : List V} {rs : List (List Nat × List Nat)} {q : Addr} {r : List Nat × List Nat} (h : Tups H xs rs) (e : H q = some (.tup [.str (T r.1), .str (T r.2)])) : Tups H (xs ++ [.ref q]) (rs ++ [r]) :=
  Paired.snoc h ⟨q, rfl, e⟩
/-! ### references -/
abbrev Rf := List Nat × List Nat
def Gd (r : Rf) : Prop := (1 ≤ r.1.length ∧ r.1.length ≤ 40 ∧ ∀ c ∈ r.1, c ∈ ncl) ∧ Dna r.2 ∧ 1 ≤ r.2.length
/-- how long the joined sequence is -/
def jl (rs : List Rf) : Nat := (rs.map fun r => r.2.length + 1).sum
theorem jl_app (a b : List Rf) : jl (a ++ b) = jl a + jl b := by
  unfold jl
  rw [List.map_append, List.sum_append]
theorem jl_le {n : Nat} : ∀ {rs : List Rf}, (∀ r ∈ rs, r.2.length ≤ n) → jl rs ≤ rs.length * (n + 1)
  | [], _ => Nat.zero_le _
  | r :: rs, h => by
    have h1 := jl_le (rs := rs) fun x hx => h x (List.mem_cons_of_mem _ hx)
    have h2 := h r List.mem_cons_self
    show r.2.length + 1 + jl rs ≤ (rs.length + 1) * (n + 1)
    rw [Nat.succ_mul]
    omega
theorem Tups.same {H H' : Hp} {xs : List V} {rs : List Rf} (h : Tups H xs rs) (s : Same H H') : Tups H' xs rs := h.mono fun q ys e => s _ _ e
section
variable {P : Program} {w : World} {K : PySem.W.Frag} {mg : Str → Option Value} {base : Heap}
def spMany (K : PySem.W.Frag) : Sp := fun vs H Q _ => ∃ (c : Int) (n : Nat), vs = [.int c, .int (n : Int)] ∧ n ≤ 1000 ∧ ∀ (H' : Hp) (p : Addr) (xs : List V) (rs : List Rf), Same H H' → H p = none → H' p = some (.lst xs) → Tups H' xs rs → rs.length = n → (∀ r ∈ rs, Gd r ∧ r.2.length = 1) → Q (.ref p) H'
theorem ok_many {f : Addr} {fd : FuncData} (F : Fun K "_law_many" "_law_many" sMany f fd) (B : Bl mg) (hO : Has P w K mg base 2 "_law_row" ["cell", "count", "bound"] (spRow K)) (hL : Has P w K mg base 3 "_law_letters" ["cell", "size", "letters"] (spLetters K)) : FnOk P w K mg base CX0 4 f fd ["cell", "count"] (spMany K) := by
  obtain ⟨fO, dO, GO, gO, kO, bO⟩ := hO
  obtain ⟨fL, dL, GL, gL, kL, bL⟩ := hL
  refine F.ok scMany (fun vs H Q E h => ?_) (fun cdv A outer s H vs Q E hr h => ?_)
  · obtain ⟨c, n, rfl, _⟩ := h
    rfl
  · obtain ⟨c, n, rfl, hn, q⟩ := h
    refine ⟨_, pss_cons (ps_set (i := 2) scMany.nd rfl (.inr rfl) (pe_call GO (hr.mono (by decide)) (by rfl) gO kO bO .nil pass0 (pa_cons (pe_op op_fdiv (pe_callTy call_int1 (by rfl) B.int (by decide +kernel) (pa_cons (pv 0) pa_nil)) pe_int) (pa_cons (pv 1) (pa_cons pe_int pa_nil)))))
      (pss_cons (ps_set (i := 3) scMany.nd rfl (.inr rfl) (pe_call GL hr (by rfl) gL kL bL .nil pass0 (pa_cons (pv 0) (pa_cons (pv 1) (pa_cons pe_str pa_nil)))))
      (pss_cons (ps_set (i := 4) scMany.nd rfl (.inr rfl) pe_str)
      (pss_one (ps_ret (pe_lc (own := [("k", 5)]) (g := gName 5) (tt := tYes) (te := tTup (tCons (tOp rIxS (tVar 4) (tOp (rIxL K) (tVar 2) (tVar 5))) (tCons (tOp rIxS (tVar 3) (tVar 5)) tNil))) rfl scMany.nd (pi_range1 rfl B.range (pa_cons (pv 1) pa_nil))
        (blkOk_by (own := [("k", 5)]) (N := ["cell", "count", "names", "letters", "signs", "k"]) (sc := defScope sMany) (by decide +kernel))
        (fun _ _ _ _ _ => pg_name (i := 5) scMany.nd rfl (Or.inl rfl)) (fun _ _ _ _ _ => pts_nil)
        (fun _ _ _ _ _ => pe_tup (pa_cons (pe_ix (r := rIxS) ix_str (pv 4) (pe_ix (r := rIxL K) ix_list (pv 2) (pv 5) (fun _ _ => rfl)) (fun _ _ => rfl)) (pa_cons (pe_ix (r := rIxS) ix_str (pv 3) (pv 5) (fun _ _ => rfl)) pa_nil)))))))), ?_⟩
    refine ⟨.int c, rfl, .inl ⟨c, rfl, c, 7, rfl, rfl, ⟨by decide, by decide⟩, .int n, rfl, c / 7, n, 62, rfl, by omega, by omega, by decide, by decide, fun H1 pn ns s1 hpn hln hll hb => ?_⟩⟩
    refine ⟨.int c, rfl, .int n, rfl, c, n, lets, by rw [← lets_text]; rfl, by omega, by omega, by decide, by decide, fun H2 l s2 hl hal => ?_⟩
    have hn2 := s2 _ _ hln
    refine ⟨.int n, rfl, n, rfl, by omega, by omega, fun D hD => ?_⟩
    have hz : (T ncl).length ≤ sizeLine := line_ok6 (by rw [T_len, ncl_len]; omega)
    refine lc_gen (n := (n : Int).toNat) (fun j H3 => Same H2 H3 ∧ ∃ (xs : List V) (rs : List Rf), H3 D = some (.lst xs) ∧ Tups H3 xs rs ∧ rs.length = j ∧ ∀ r ∈ rs, Gd r ∧ r.2.length = 1) ⟨same_upd hD, [], [], upd_same, .nil, rfl, (fun r hr => by cases hr)⟩ (fun j H3 hj _ => hj) (fun H3 _ => Nat.le_refl _) ?_ ?_
    · rintro j H3 v H4 hj ⟨s3, xs, rs, hd, ht, hlr, hg⟩ ⟨rfl, rfl⟩
      have hjn : j < ns.length := by omega
      have hjl : j < l.length := by omega
      obtain ⟨g0, g1⟩ := hb ns[j] (List.getElem_mem hjn)
      obtain ⟨m, hm⟩ : ∃ m : Nat, ns[j] = (m : Int) := ⟨ns[j].toNat, by omega⟩
      have g2 : m < ncl.length := by rw [ncl_len]; omega
      have hat : atI (T ncl).cps.toList ns[j] = some ncl[m] := by
        rw [hm]
        exact atI_nat (List.getElem?_eq_getElem g2)
      have hatn : atI (ns.map V.int) (0 + ((j : Nat) : Int)) = some (.int ns[j]) := by
        rw [Int.zero_add]
        exact atI_nat (map_int_at hjn)
      have hatl : atI (T l).cps.toList (0 + ((j : Nat) : Int)) = some l[j] := by
        rw [Int.zero_add]
        exact atI_nat (List.getElem?_eq_getElem hjl)
      refine ⟨rfl, ?_⟩
      dsimp only [tYes]
      rw [if_pos rfl]
      refine ⟨.str (T ncl), by rw [← ncl_text]; rfl, .ref pn, rfl, .int (0 + (j : Nat)), rfl, pn, _, _, .int ns[j], rfl, rfl, .inl (.inl (s3 _ _ hn2)), hatn, T ncl, _, ncl[m], rfl, rfl, hz, hat, .str (T l), rfl, .int (0 + (j : Nat)), rfl, T l, _, l[j], rfl, rfl, line_ok6 (by rw [T_len]; omega), hatl, by show 2 ≤ sizeLine; decide, fun q2 hq2 => ?_⟩
      have nD : D ≠ q2 := ne_of_none hd hq2
      have hxl : xs.length = j := (paired_len ht).trans hlr
      refine ⟨xs, by rw [upd_ne nD]; exact hd, line_ok6 (by omega), fun b o e => ?_, xs ++ [.ref q2], rs ++ [([ncl[m]], [l[j]])], upd_same, ?_, by rw [List.length_append, hlr]; rfl, fun r hr => ?_⟩
      · rw [upd_ne (ne_of_none e hD), upd_ne (ne_of_none (s3 _ _ e) hq2)]
        exact s3 _ _ e
      · refine Tups.snoc (ht.mono fun b ys hb => ?_) ?_
        · have n1 : b ≠ D := fun z => by
            rw [z, hd] at hb
            cases hb
          rw [upd_ne n1, upd_ne (ne_of_none hb hq2)]
          exact hb
        · rw [upd_ne nD.symm, upd_same]
          rfl
      · rcases List.mem_append.mp hr with z | z
        · exact hg r z
        · obtain rfl : r = ([ncl[m]], [l[j]]) := by simpa using z
          refine ⟨⟨⟨Nat.le_refl _, by show 1 ≤ 40; decide, fun c hc => ?_⟩, fun c hc => ?_, Nat.le_refl _⟩, rfl⟩
          · obtain rfl : c = ncl[m] := by simpa using hc
            exact List.getElem_mem g2
          · obtain rfl : c = l[j] := by simpa using hc
            exact sg_lets (hal _ (List.getElem_mem hjl))
    · rintro H3 ⟨s3, xs, rs, hd, ht, hlr, hg⟩
      exact q H3 D xs rs ((s1.trans s2).trans s3) ((s1.trans s2).free hD) hd ht (by omega) hg
def spLRefs (K : PySem.W.Frag) : Sp := fun vs H Q _ => ∃ (a : Addr) (ns : List Int) (b : Nat), vs = [.ref a, .int (b : Int)] ∧ SqL K H a (ns.map V.int) ∧
  ∀ (H' : Hp) (p : Addr) (xs : List V) (rs : List Rf), Same H H' → H p = none → H' p = some (.lst xs) → Tups H' xs rs → 1 ≤ rs.length → rs.length ≤ 300 → (∀ r ∈ rs, Gd r ∧ r.2.length ≤ 400) → jl rs ≤ 1000 → Q (.ref p) H'
theorem ok_lrefs {f : Addr} {fd : FuncData} (F : Fun K "_law_references" "_law_references" sLRefs f fd) (B : Bl mg) (hC : Has P w K mg base 2 "_law_cell" ["script", "k"] (spCell K)) (hT : Has P w K mg base 4 "_law_text" ["shape", "cell", "most"] (spText K)) (hN : Has P w K mg base 3 "_law_name" ["cell"] (spName K))
    (hM : Has P w K mg base 4 "_law_many" ["cell", "count"] (spMany K)) : FnOk P w K mg base CX0 5 f fd ["script", "first"] (spLRefs K) := by
  obtain ⟨fC, dC, GC, gC, kC, bC⟩ := hC
  obtain ⟨fT, dT, GT, gT, kT, bT⟩ := hT
  obtain ⟨fN, dN, GN, gN, kN, bN⟩ := hN
  obtain ⟨fM, dM, GM, gM, kM, bM⟩ := hM
  refine F.ok scLRefs (fun vs H Q E h => ?_) (fun cdv A outer s H vs Q E hr h => ?_)
  · obtain ⟨a, ns, b, rfl, _⟩ := h
    rfl
  · obtain ⟨a, ns, b, rfl, hS, q⟩ := h
    have hr2 : Room 2 _ := hr.mono (by decide)
    have hr3 : Room 3 _ := hr.mono (by decide)
    refine ⟨_, pss_cons (ps_set (i := 2) scLRefs.nd rfl (.inl rfl) (pe_call GC hr2 (by rfl) gC kC bC .nil pass0 (pa_cons (pv 0) (pa_cons (pv 1) pa_nil))))
      (pss_cons (ps_if (pt_cmpR op_eq (pe_op op_mod (pv 2) pe_int) pe_int (nomark _)) (pss_one (ps_ret (pe_call GM hr (by rfl) gM kM bM .nil pass0 (pa_cons (pe_call GC hr2 (by rfl) gC kC bC .nil pass0 (pa_cons (pv 0) (pa_cons (pe_op op_add (pv 1) pe_int) pa_nil))) (pa_cons (pe_op op_add pe_int (pe_op op_mod (pe_op op_fdiv (pv 2) pe_int) pe_int)) pa_nil))))) pss_nil)
      (pss_cons (ps_if (pt_cmpR op_eq (pe_op op_mod (pv 2) pe_int) pe_int (nomark _))
        (pss_cons (ps_set (i := 3) scLRefs.nd rfl (.inl rfl) (pe_call GT hr (by rfl) gT kT bT .nil pass0 (pa_cons (pe_op op_add (pe_op op_mod (pe_op op_fdiv (pv 2) pe_int) pe_int) pe_int) (pa_cons (pe_call GC hr2 (by rfl) gC kC bC .nil pass0 (pa_cons (pv 0) (pa_cons (pe_op op_add (pv 1) pe_int) pa_nil))) (pa_cons pe_int pa_nil)))))
        (pss_one (ps_ret (pe_lst (pa_cons (pe_tup (pa_cons (pe_call GN hr3 (by rfl) gN kN bN .nil pass0 (pa_cons (pe_call GC hr2 (by rfl) gC kC bC .nil pass0 (pa_cons (pv 0) (pa_cons (pe_op op_add (pv 1) pe_int) pa_nil))) pa_nil)) (pa_cons (pe_op op_add_str (pv 3) (pe_slice sl_str (pv 3) po_none (po_some pe_int))) pa_nil))) pa_nil))))) pss_nil)
      (pss_cons (ps_set (i := 4) scLRefs.nd rfl (.inl rfl) (pe_lst pa_nil))
      (pss_cons (ps_for PassesOwn.never rfl (pi_range1 rfl B.range (pa_cons (pe_op op_add pe_int (pe_op op_mod (pe_op op_fdiv (pv 2) pe_int) pe_int)) pa_nil)) (pg_name (i := 5) scLRefs.nd rfl (.inl rfl))
        (pss_cons (ps_set (i := 6) scLRefs.nd rfl (.inl rfl) (pe_call GC hr2 (by rfl) gC kC bC .nil pass0 (pa_cons (pv 0) (pa_cons (pe_op op_add (pe_op op_add (pv 1) pe_int) (pe_op op_mul pe_int (pv 5))) pa_nil))))
        (pss_cons (ps_set (i := 3) scLRefs.nd rfl (.inl rfl) (pe_call GT hr (by rfl) gT kT bT .nil pass0 (pa_cons (pe_op op_fdiv (pv 6) pe_int) (pa_cons (pe_call GC hr2 (by rfl) gC kC bC .nil pass0 (pa_cons (pv 0) (pa_cons (pe_op op_add (pe_op op_add (pv 1) pe_int) (pe_op op_mul pe_int (pv 5))) pa_nil))) (pa_cons pe_int pa_nil)))))
        (C8.pss_cut (ps_if (PW.pt (pw_and (pt_cmpR op_eq (pe_op op_mod (pv 6) pe_int) pe_int (nomark _)) (pw_and1 (pt_cmpR op_gt (pv 5) pe_int (nomark _)))))
          (pss_one (ps_set (i := 3) scLRefs.nd rfl (.inl rfl) (pe_ix ix_tup (pe_ix ix_list (pv 4) pe_int (fun _ _ => rfl)) pe_int (fun _ _ => rfl)))) pss_nil)
        (pss_one (ps_expr (pe_bm PySem.F.plainAttrs_list PySem.F.slot_list_append PySem.F.type_list_append mt_append (pv 4) (pa_cons (pe_tup (pa_cons (pe_call GN hr3 (by rfl) gN kN bN .nil pass0 (pa_cons (pe_call GC hr2 (by rfl) gC kC bC .nil pass0 (pa_cons (pv 0) (pa_cons (pe_op op_add (pe_op op_add (pv 1) pe_int) (pe_op op_mul pe_int (pv 5))) pa_nil))) pa_nil)) (pa_cons (pv 3) pa_nil))) pa_nil))))))))
      (pss_one (ps_ret (pv 4))))))), ?_⟩
    refine ⟨.ref a, rfl, .int b, rfl, a, ns, b, rfl, hS, fun x => ?_⟩
    refine ⟨.int x, rfl, x, 32, rfl, rfl, (show (0 : Int) < 32 by decide), rfl, _, rfl, ite2 (fun _ => ?_) (fun _ => ?_)⟩
    · have m0 := Int.emod_nonneg (x / 32) (show (20 : Int) ≠ 0 by decide)
      have m1 := Int.emod_lt_of_pos (x / 32) (show (0 : Int) < 20 by decide)
      refine ⟨.ref a, rfl, .int b, rfl, b, 1, rfl, rfl, a, ns, b + 1, rfl, hS, fun y => ⟨.int x, rfl, x, 32, rfl, rfl, ⟨by decide, by decide⟩, _, 20, rfl, rfl, (show (0 : Int) < 20 by decide), 250, _, rfl, rfl, y, (250 + x / 32 % 20).toNat, ?_, by omega, fun H1 p xs rs s1 hp hx ht hl hg => ?_⟩⟩
      · rw [Int.toNat_of_nonneg (by omega)]
        rfl
      · refine q H1 p xs rs s1 hp hx ht (by omega) (by omega) (fun r hr => ⟨(hg r hr).1, by have := (hg r hr).2; omega⟩) ?_
        have := jl_le (n := 1) (rs := rs) fun r hr => by rw [(hg r hr).2]; exact Nat.le_refl _
        omega
    refine ⟨.int x, rfl, x, 32, rfl, rfl, (show (0 : Int) < 32 by decide), rfl, _, rfl, ite2 (fun _ => ?_) (fun _ => ?_)⟩
    · refine ⟨.int x, rfl, x, 32, rfl, rfl, ⟨by decide, by decide⟩, _, 1200, rfl, rfl, (show (0 : Int) < 1200 by decide), _, 150, rfl, rfl, .ref a, rfl, .int b, rfl, b, 1, rfl, rfl, a, ns, b + 1, rfl, hS, fun y => ⟨_, y, 300, rfl, by decide, by decide, fun H1 t s1 dt t1 t2 => ?_⟩⟩
      refine ⟨.ref a, rfl, .int b, rfl, b, 2, rfl, rfl, a, ns, b + 2, rfl, s1.seq hS, fun y2 => ⟨y2, rfl, fun H2 nm s2 n1 n2 n3 => ?_⟩⟩
      refine ⟨.str (T t), rfl, .str (T t), rfl, 100, rfl, T t, rfl, line_ok6 (by rw [T_len]; omega), ?_⟩
      rw [show (100 : Int) = ((100 : Nat) : Int) from rfl, cut_head]
      have lt : (t.take 100).length ≤ 100 := by rw [List.length_take]; omega
      refine ⟨T t, T (t.take 100), rfl, rfl, line_ok6 (by rw [T_len, T_len]; omega), by show 2 ≤ sizeLine; decide, fun q1 hq1 => ⟨by show 1 ≤ sizeLine; decide, fun p hp => ?_⟩⟩
      have n12 := new_ne hp
      have s02 := s1.trans s2
      refine q _ p [.ref q1] [(nm, t ++ t.take 100)] (fun b o e => ?_) (s02.free (new_old hp)) upd_same (.cons ⟨q1, rfl, ?_⟩ .nil) (Nat.le_refl _) (by show 1 ≤ 300; decide) (fun r hr => ?_) ?_
      · have e2 := s02 _ _ e
        rw [upd_ne (ne_of_none e2 (new_old hp)), upd_ne (ne_of_none e2 hq1)]
        exact e2
      · rw [upd_ne n12.symm, upd_same, T_app]
      · obtain rfl : r = (nm, t ++ t.take 100) := by simpa using hr
        refine ⟨⟨⟨n1, n2, n3⟩, dt.app (fun c hc => dt c (List.mem_of_mem_take hc)), ?_⟩, ?_⟩
        · show 1 ≤ (t ++ t.take 100).length
          rw [List.length_append]
          omega
        · show (t ++ t.take 100).length ≤ 400
          rw [List.length_append]
          omega
      · show (t ++ t.take 100).length + 1 + 0 ≤ 1000
        rw [List.length_append]
        omega
    refine ⟨Nat.zero_le _, fun p hp => ?_⟩
    have m0 := Int.emod_nonneg (x / 32) (show (4 : Int) ≠ 0 by decide)
    have m1 := Int.emod_lt_of_pos (x / 32) (show (0 : Int) < 4 by decide)
    refine ⟨.int x, rfl, x, 32, rfl, rfl, ⟨by decide, by decide⟩, _, 4, rfl, rfl, (show (0 : Int) < 4 by decide), 1, _, rfl, rfl, _, rfl, by omega, by omega, ?_⟩
    refine for_range (lo := 0) (n := (1 + x / 32 % 4).toNat) (fun i σ H' => ∃ (xs : List V) (rs : List Rf) (tv kv xv : Option V), σ = [some (.ref a), some (.int (b : Int)), some (.int x), tv, some (.ref p), kv, xv] ∧ Same H H' ∧ H' p = some (.lst xs) ∧ Tups H' xs rs ∧ rs.length = i ∧
      ∀ r ∈ rs, Gd r ∧ r.2.length ≤ 24) ⟨[], [], none, none, none, rfl, same_upd hp, upd_same, .nil, rfl, (fun r hr => by cases hr)⟩ ?_ ?_
    · rintro i σ H1 hi ⟨xs, rs, tv, kv, xv, rfl, sm, hx, ht, hl, hg⟩
      have hi4 : i < 4 := by omega
      have hxl : xs.length = i := (paired_len ht).trans hl
      refine ⟨.ref a, rfl, .int b, rfl, b, 1, rfl, rfl, .int (0 + (i : Nat)), rfl, 3, _, rfl, rfl, .inl ⟨by decide, by decide⟩, _, _, rfl, rfl, a, ns, b + 1 + 3 * i, cell_arg2 a (b + 1) 3 i, sm.seq hS, fun y => ?_⟩
      refine ⟨.int y, rfl, y, 5, rfl, rfl, ⟨by decide, by decide⟩, .ref a, rfl, .int b, rfl, b, 2, rfl, rfl, .int (0 + (i : Nat)), rfl, 3, _, rfl, rfl, .inl ⟨by decide, by decide⟩, _, _, rfl, rfl, a, ns, b + 2 + 3 * i, cell_arg2 a (b + 2) 3 i, sm.seq hS, fun y2 => ⟨_, y2, 24, rfl, by decide, by decide, fun H2 t s2 dt t1 t2 => ?_⟩⟩
      have hx2 := s2 _ _ hx
      have ht2 := ht.same s2
      refine ⟨fun σ H' => H' = H2 ∧ ∃ t : List Nat, Dna t ∧ 1 ≤ t.length ∧ t.length ≤ 24 ∧ σ = [some (.ref a), some (.int (b : Int)), some (.int x), some (.str (T t)), some (.ref p), some (.int (0 + (i : Nat))), some (.int y)], ?_, ?_⟩
      · refine ⟨.int y, rfl, y, 5, rfl, rfl, (show (0 : Int) < 5 by decide), rfl, _, rfl, ite2 (fun _ => ?_) (fun _ => iteF ⟨rfl, t, dt, by omega, by omega, rfl⟩)⟩
        refine ⟨.int (0 + (i : Nat)), rfl, _, 0, rfl, rfl, _, rfl, ite2 (fun e0 => ?_) (fun _ => ⟨rfl, t, dt, by omega, by omega, rfl⟩)⟩
        have h1 : (0 : Int) < 0 + (i : Nat) := of_decide_eq_true e0
        have hx0 : 0 < xs.length := by omega
        have hv : xs[0]? = some xs[0] := List.getElem?_eq_getElem hx0
        obtain ⟨r, hr0, qa, eqa, hqa⟩ := paired_get ht2 hv
        have gr := hg r (List.mem_of_getElem? hr0)
        refine ⟨.ref p, rfl, p, xs, 0, .ref qa, rfl, rfl, .inl (.inl hx2), ?_, qa, _, 1, .str (T r.2), rfl, rfl, .inl (.inl hqa), atI_nat (j := 1) rfl, rfl, r.2, gr.1.2.1, gr.1.2.2, gr.2, rfl⟩
        rw [← eqa]
        exact atI_nat (j := 0) hv
      rintro σ H3 ⟨rfl, t', dt', l1, l2, rfl⟩
      refine ⟨.ref p, rfl, .inl ⟨rfl, _, .inl (.inl hx2)⟩, .ref a, rfl, .int b, rfl, b, 3, rfl, rfl, .int (0 + (i : Nat)), rfl, 3, _, rfl, rfl, .inl ⟨by decide, by decide⟩, _, _, rfl, rfl, a, ns, b + 3 + 3 * i, cell_arg2 a (b + 3) 3 i, (sm.trans s2).seq hS, fun y3 => ⟨y3, rfl, fun H4 nm s4 n1 n2 n3 => ?_⟩⟩
      have hx4 := s4 _ _ hx2
      have ht4 := ht2.same s4
      refine ⟨.str (T t'), rfl, by show 2 ≤ sizeLine; decide, fun q2 hq2 => ?_⟩
      have np : p ≠ q2 := ne_of_none hx4 hq2
      refine ⟨p, xs, _, rfl, rfl, by rw [upd_ne np]; exact hx4, line_lt (by omega), ?_⟩
      refine ⟨xs ++ [.ref q2], rs ++ [(nm, t')], _, _, _, rfl, fun b o hb => ?_, upd_same, ?_, by rw [List.length_append, hl]; rfl, ?_⟩
      · have e4 := s4 _ _ (s2 _ _ (sm _ _ hb))
        rw [upd_ne (ne_of_none hb hp), upd_ne (ne_of_none e4 hq2)]
        exact e4
      · refine Tups.snoc (ht4.mono fun b ys hb => ?_) ?_
        · have n1 : b ≠ p := fun z => by
            rw [z, hx4] at hb
            cases hb
          rw [upd_ne n1, upd_ne (ne_of_none hb hq2)]
          exact hb
        · rw [upd_ne np.symm, upd_same]
      · intro r hr
        rcases List.mem_append.mp hr with z | z
        · exact hg r z
        · obtain rfl : r = (nm, t') := by simpa using z
          exact ⟨⟨⟨n1, n2, n3⟩, dt', l1⟩, l2⟩
    · rintro σ H' ⟨xs, rs, tv, kv, xv, rfl, sm, hx, ht, hl, hg⟩
      refine ⟨.ref p, rfl, q H' p xs rs sm hp hx ht (by omega) (by omega) (fun r hr => ⟨(hg r hr).1, by have := (hg r hr).2; omega⟩) ?_⟩
      have := jl_le (n := 24) (rs := rs) fun r hr => (hg r hr).2
      omega
end
theorem scJoined : FnScope ["references", "numbers", "name", "text", "letter"] ["references"] (defScope sJoined) := ⟨rfl, rfl, rfl, by decide +kernel, rfl, by decide +kernel, by decide +kernel⟩
theorem scSizes : FnScope ["cell", "length", "x", "block", "sample"] ["cell", "length"] (defScope sSizes) := ⟨rfl, rfl, rfl, by decide +kernel, rfl, by decide +kernel, by decide +kernel⟩
theorem scStarts : FnScope ["numbers", "at", "start"] ["numbers"] (defScope sStarts) := ⟨rfl, rfl, rfl, by decide +kernel, rfl, by decide +kernel, by decide +kernel⟩
/-! ### the joined sequence -/
def sy (c : Nat) : Int := 2 + ((lets.idxOf c : Nat) : Int)
theorem find_sy {c : Nat} (h : Sg c) : (2 : Int) + Txt.find (T lets) ⟨#[c]⟩ = sy c := by
  rcases h with h | h | h | h | h <;> subst h <;> decide +kernel
theorem sy_ge (c : Nat) : 2 ≤ sy c := by
  unfold sy
  omega
theorem sy_le {c : Nat} (h : Sg c) : sy c ≤ 6 := by
  rcases h with h | h | h | h | h <;> subst h <;> decide
def jraw (rs : List Rf) : List Int := rs.flatMap fun r => r.2.map sy ++ [1]
theorem jraw_len (rs : List Rf) : (jraw rs).length = jl rs := by
  unfold jraw jl
  rw [List.length_flatMap]
  congr 1
  exact List.map_congr_left fun r _ => by simp
theorem jraw_snoc (rs : List Rf) (r : Rf) : jraw (rs ++ [r]) = jraw rs ++ (r.2.map sy ++ [1]) := by
  unfold jraw
  rw [List.flatMap_append]
  simp
/-- the joined sequence of references -/
def jn (rs : List Rf) : List Int := (jraw rs).set ((jraw rs).length - 1) 0
theorem jn_len (rs : List Rf) : (jn rs).length = jl rs := by
  unfold jn
  rw [List.length_set, jraw_len]
theorem jl_pos {rs : List Rf} (h : 1 ≤ rs.length) : 1 ≤ jl rs := by
  cases rs with
  | nil => exact absurd h (by decide)
  | cons r rs =>
    show 1 ≤ r.2.length + 1 + jl rs
    omega
section
variable {P : Program} {w : World} {K : PySem.W.Frag} {mg : Str → Option Value} {base : Heap}
def spJoined (K : PySem.W.Frag) : Sp := fun vs H Q _ => ∃ (a : Addr) (xs : List V) (rs : List Rf), vs = [.ref a] ∧ SqL K H a xs ∧ Tups H xs rs ∧ 1 ≤ rs.length ∧ (∀ r ∈ rs, Dna r.2) ∧ jl rs ≤ 1000000 ∧ ∀ (H' : Hp) (p : Addr), Same H H' → H p = none → H' p = some (LI (jn rs)) → Q (.ref p) H'
theorem ok_joined {f : Addr} {fd : FuncData} {k : Nat} (F : Fun K "_law_joined" "_law_joined" sJoined f fd) (B : Bl mg) : FnOk P w K mg base CX0 (k + 1) f fd ["references"] (spJoined K) := by
  refine F.ok scJoined (fun vs H Q E h => ?_) (fun cdv A outer s H vs Q E hr h => ?_)
  · obtain ⟨a, xs, rs, rfl, _⟩ := h
    rfl
  · obtain ⟨a, xs, rs, rfl, hS, ht, hl1, hd, hjl, q⟩ := h
    refine ⟨_, pss_cons (ps_set (i := 1) scJoined.nd rfl (.inl rfl) (pe_lst pa_nil))
      (pss_cons (ps_for PassesOwn.never rfl (pi_list (pv 0)) (pg_tup rfl (pgs_cons (pg_name (i := 2) scJoined.nd rfl (.inl rfl)) (pgs_cons (pg_name (i := 3) scJoined.nd rfl (.inl rfl)) pgs_nil)))
        (pss_one (ps_set (i := 1) scJoined.nd rfl (.inl rfl) (pe_op op_cat (pe_op op_cat (pv 1) (pe_lc (own := [("letter", 4)]) (g := gName 4) (tt := tYes) (te := tOp (rI0 fun i j => V.int (i + j)) (tC (.int 2)) (tBM K "str" rFind (tC (.str (Str.ofString "ACGTN"))) (tCons (tVar 4) tNil))) rfl scJoined.nd (pi_str (pv 3))
            (blkOk_by (own := [("letter", 4)]) (N := ["references", "numbers", "name", "text", "letter"]) (sc := defScope sJoined) (by decide +kernel))
            (fun _ _ _ _ _ => pg_name (i := 4) scJoined.nd rfl (Or.inl rfl)) (fun _ _ _ _ _ => pts_nil)
            (fun _ _ _ _ _ => pe_op op_add pe_int (pe_bm (r := rFind) PySem.F.plainAttrs_str PySem.F.slot_str_find PySem.F.type_str_find mt_find pe_str (pa_cons (pv 4) pa_nil))))) (pe_lst (pa_cons pe_int pa_nil))))))
      (pss_cons (ps_asg pe_int (pg_sub (pv 1) (pe_op op_sub (pe_callB call_len_seq (by rfl) B.len PySem.boot_len (pa_cons (pv 1) pa_nil)) pe_int) set_list))
      (pss_one (ps_ret (pv 1))))), ?_⟩
    refine ⟨Nat.zero_le _, fun p hp => ?_⟩
    have hxl : xs.length = rs.length := paired_len ht
    refine ⟨.ref a, rfl, a, rfl, ⟨xs, (same_upd hp).seq hS⟩, ?_⟩
    refine for_list (K := K) (xs := xs) (fun i σ H1 => ∃ (p : Addr) (nv tv : Option V), σ = [some (.ref a), some (.ref p), nv, tv, none] ∧ Same H H1 ∧ H p = none ∧ H1 p = some (LI (jraw (rs.take i)))) ⟨p, none, none, rfl, same_upd hp, hp, upd_same⟩ ?_ ?_ ?_
    · rintro i σ H1 _ ⟨p, nv, tv, rfl, sm, hp, h1⟩
      exact sm.seq hS
    · rintro i v σ H1 hv ⟨p, nv, tv, rfl, sm, hp, h1⟩
      obtain ⟨r, hr0, qa, rfl, hqa⟩ := paired_get ht hv
      have hrm := List.mem_of_getElem? hr0
      have hir : i < rs.length := (List.getElem?_eq_some_iff.mp hr0).1
      have htk : rs.take (i + 1) = rs.take i ++ [r] := by
        rw [List.take_add_one, hr0]
        rfl
      have hsub : jl (rs.take (i + 1)) ≤ jl rs := by
        conv => rhs; rw [← List.take_append_drop (i + 1) rs, jl_app]
        omega
      have hl2 : jl (rs.take i) + (r.2.length + 1) ≤ 1000000 := by
        rw [htk, jl_app] at hsub
        have : jl [r] = r.2.length + 1 := rfl
        omega
      have hjr := jraw_len (rs.take i)
      refine ⟨qa, _, rfl, .inl (.inl (sm _ _ hqa)), rfl, _, _, rfl, _, _, rfl, rfl, ?_⟩
      refine ⟨.ref p, rfl, .str (T r.2), rfl, T r.2, rfl, fun D hD => ?_⟩
      refine lc_gen (n := (T r.2).cps.size) (fun j H2 => Same H1 H2 ∧ j ≤ r.2.length ∧ H2 D = some (LI ((r.2.take j).map sy))) ⟨same_upd hD, Nat.zero_le _, upd_same⟩ (fun j H2 hj _ => hj) (fun H2 _ => Nat.le_refl _) ?_ ?_
      · rintro j H2 x H3 hj ⟨s2, _, hd2⟩ ⟨rfl, c, hc, rfl⟩
        have hc2 : r.2[j]? = some c := by
          rw [← T_at]
          exact hc
        have hjl2 : j < r.2.length := (List.getElem?_eq_some_iff.mp hc2).1
        refine ⟨rfl, ?_⟩
        dsimp only [tYes]
        rw [if_pos rfl]
        refine ⟨rfl, .str ⟨#[c]⟩, rfl, _, _, rfl, rfl, 2, _, rfl, rfl, _, hd2, line_ok6 (by rw [List.length_map, List.length_map, List.length_take]; omega), fun b o e => ?_, hjl2, ?_⟩
        · rw [upd_ne (ne_of_none e hD)]
          exact s2 b o e
        · have e2 := find_sy (hd r hrm c (List.mem_of_getElem? hc2))
          rw [← lets_text] at e2
          rw [upd_same, List.take_add_one, hc2, List.map_append]
          refine congrArg some (Eq.trans ?_ (LI_snoc _ _).symm)
          show HO.lst (_ ++ [V.int (2 + Txt.find (Str.ofString "ACGTN") ⟨#[c]⟩)]) = _
          rw [e2]
      · rintro H2 ⟨s2, _, hd2⟩
        rw [T_size, List.take_length] at hd2
        have npD : p ≠ D := ne_of_none h1 hD
        refine ⟨p, D, _, _, rfl, rfl, s2 _ _ h1, hd2, line_ok7 (by rw [List.length_map, List.length_map, List.length_map]; omega), fun p2 hp2 => ⟨by show 1 ≤ sizeLine; decide, fun p3 hp3 => ?_⟩⟩
        have n23 := new_ne hp3
        refine ⟨p2, p3, _, _, rfl, rfl, by rw [upd_ne n23.symm, upd_same], upd_same, line_ok7 (by rw [List.length_append, List.length_map, List.length_map, List.length_map]; show (jraw (rs.take i)).length + r.2.length + 1 ≤ 10000000; omega), fun p4 hp4 => ?_⟩
        refine ⟨p4, _, _, rfl, sm.trans (((s2.trans (same_upd hp2)).trans (same_upd hp3)).trans (same_upd hp4)), sm.free (s2.free (new_old (new_old hp4))), ?_⟩
        rw [upd_same, htk, jraw_snoc]
        show some (HO.lst _) = some (HO.lst _)
        rw [List.map_append, List.map_append, ← List.append_assoc]
        rfl
    · rintro σ H1 ⟨p, nv, tv, rfl, sm, hp, h1⟩
      rw [hxl, List.take_length] at h1
      have hjr := jraw_len rs
      have hpos := jl_pos hl1
      have hlm : ((jraw rs).map V.int).length = (jraw rs).length := List.length_map _
      refine ⟨.ref p, rfl, .ref p, rfl, p, _, rfl, .inl (.inl (.inl h1)), _, 1, rfl, rfl, p, _, _, (jraw rs).length - 1, rfl, rfl, h1, ix_set ?_ (by omega), .ref p, rfl, ?_⟩
      · show (((((jraw rs).map V.int).length : Nat) : Int) - 1) = _
        omega
      · refine q _ p (fun b o e => ?_) hp ?_
        · rw [upd_ne (ne_of_none e hp)]
          exact sm b o e
        · rw [upd_same]
          show some (HO.lst _) = some (HO.lst _)
          unfold jn
          rw [List.map_set]
end
section
variable {P : Program} {w : World} {K : PySem.W.Frag} {mg : Str → Option Value} {base : Heap}
/-! ### sizes, and tests of ints -/
def spSizes : Sp := fun vs H Q _ => ∃ c n : Int, vs = [.int c, .int n] ∧ ∀ (H' : Hp) (p : Addr) (b s : Nat), Same H H' → H p = none → H' p = some (.tup [.int (b : Int), .int (s : Int)]) → 1 ≤ b → b ≤ 1000 → 1 ≤ s → s ≤ 1000 → Q (.ref p) H'
theorem pick2 {K : PySem.W.Frag} {H : Hp} {p : Addr} {x y : Int} {b : Bool} {Q : VK} (h : H p = some (.lst [.int x, .int y])) (q : Q (.int (if b = true then y else x)) H) : rIxL K (.ref p) (.int (if b = true then 1 else 0)) H Q := by
  cases b with
  | true => exact ⟨p, _, _, .int y, rfl, rfl, .inl (.inl h), atI_nat (j := 1) rfl, q⟩
  | false => exact ⟨p, _, _, .int x, rfl, rfl, .inl (.inl h), atI_nat (j := 0) rfl, q⟩
theorem ok_sizes {f : Addr} {fd : FuncData} {k : Nat} (F : Fun K "_law_sizes" "_law_sizes" sSizes f fd) (B : Bl mg) : FnOk P w K mg base CX0 (k + 1) f fd ["cell", "length"] spSizes := by
  refine F.ok scSizes (fun vs H Q E h => ?_) (fun cdv A outer s H vs Q E hr h => ?_)
  · obtain ⟨c, n, rfl, _⟩ := h
    rfl
  · obtain ⟨c, n, rfl, q⟩ := h
    refine ⟨_, pss_cons (ps_set (i := 2) scSizes.nd rfl (.inl rfl) (pe_callTy call_int1 (by rfl) B.int (by decide +kernel) (pa_cons (pv 0) pa_nil)))
      (C8.pss_cut (ps_set (i := 3) scSizes.nd rfl (.inl rfl) (pe_ix ix_list (pe_lst (pa_cons (pe_op op_add pe_int (pe_op op_mod (pe_op op_fdiv (pv 2) pe_int) pe_int)) (pa_cons (pe_op op_add pe_int (pe_op op_mod (pe_op op_fdiv (pv 2) pe_int) pe_int)) pa_nil)))
        (pe_callTy call_int1 (by rfl) B.int (by decide +kernel) (pa_cons (pe_cmpR op_eq (pe_op op_mod (pv 2) pe_int) pe_int (nomark _)) pa_nil)) (fun _ _ => rfl)))
      (C8.pss_cut (ps_set (i := 4) scSizes.nd rfl (.inl rfl) (pe_ix ix_list (pe_lst (pa_cons (pe_op op_add pe_int (pe_op op_mod (pe_op op_fdiv (pv 2) pe_int) pe_int)) (pa_cons (pe_op op_add pe_int (pe_op op_mod (pe_op op_fdiv (pv 2) pe_int) pe_int)) pa_nil)))
        (pe_callTy call_int1 (by rfl) B.int (by decide +kernel) (pa_cons (pe_and (pe_cmpR op_eq (pe_op op_mod (pe_op op_fdiv (pv 2) pe_int) pe_int) pe_int (nomark _)) (pe_one (pe_cmpR op_lt (pv 1) pe_int (nomark _)))) pa_nil)) (fun _ _ => rfl)))
      (pss_one (ps_ret (pe_tup (pa_cons (pv 3) (pa_cons (pv 4) pa_nil))))))), ?_⟩
    refine ⟨.int c, rfl, .inl ⟨c, rfl, ?_⟩⟩
    have d0 := Int.emod_nonneg (c / 8) (show (12 : Int) ≠ 0 by decide)
    have d1 := Int.emod_lt_of_pos (c / 8) (show (0 : Int) < 12 by decide)
    have d2 := Int.emod_nonneg (c / 8) (show (1000 : Int) ≠ 0 by decide)
    have d3 := Int.emod_lt_of_pos (c / 8) (show (0 : Int) < 1000 by decide)
    have e0 := Int.emod_nonneg (c / 96) (show (9 : Int) ≠ 0 by decide)
    have e1 := Int.emod_lt_of_pos (c / 96) (show (0 : Int) < 9 by decide)
    have e2 := Int.emod_nonneg (c / 96) (show (1000 : Int) ≠ 0 by decide)
    have e3 := Int.emod_lt_of_pos (c / 96) (show (0 : Int) < 1000 by decide)
    refine ⟨fun σ H1 => Same H H1 ∧ ∃ b : Nat, 1 ≤ b ∧ b ≤ 1000 ∧ σ = [some (.int c), some (.int n), some (.int c), some (.int (b : Int)), none], ?_, ?_⟩
    · refine ⟨.int c, rfl, c, 8, rfl, rfl, ⟨by decide, by decide⟩, _, 12, rfl, rfl, (show (0 : Int) < 12 by decide), 1, _, rfl, rfl, .int c, rfl, c, 8, rfl, rfl, ⟨by decide, by decide⟩, _, 1000, rfl, rfl, (show (0 : Int) < 1000 by decide), 1, _, rfl, rfl, by show 2 ≤ sizeLine; decide, fun p hp => ?_⟩
      refine ⟨.int c, rfl, c, 4, rfl, rfl, (show (0 : Int) < 4 by decide), rfl, .inr ⟨_, rfl, ?_⟩⟩
      refine pick2 (x := 1 + c / 8 % 12) (y := 1 + c / 8 % 1000) upd_same ⟨same_upd hp, (if decide (V.int (c % 4) = V.int 3) = true then 1 + c / 8 % 1000 else 1 + c / 8 % 12).toNat, ?_, ?_, ?_⟩
      · split <;> omega
      · split <;> omega
      · rw [Int.toNat_of_nonneg (by split <;> omega)]
        rfl
    rintro σ H1 ⟨s1, b, b1, b2, rfl⟩
    refine ⟨fun σ H2 => Same H1 H2 ∧ ∃ z : Nat, 1 ≤ z ∧ z ≤ 1000 ∧ σ = [some (.int c), some (.int n), some (.int c), some (.int (b : Int)), some (.int (z : Int))], ?_, ?_⟩
    · refine ⟨.int c, rfl, c, 96, rfl, rfl, ⟨by decide, by decide⟩, _, 9, rfl, rfl, (show (0 : Int) < 9 by decide), 1, _, rfl, rfl, .int c, rfl, c, 96, rfl, rfl, ⟨by decide, by decide⟩, _, 1000, rfl, rfl, (show (0 : Int) < 1000 by decide), 1, _, rfl, rfl, by show 2 ≤ sizeLine; decide, fun p hp => ?_⟩
      have fin : ∀ t : Bool, rIxL K (.ref p) (.int (if t = true then 1 else 0)) (upd H1 p (.lst [.int (1 + c / 96 % 9), .int (1 + c / 96 % 1000)])) fun v H3 => Same H1 H3 ∧ ∃ z : Nat, 1 ≤ z ∧ z ≤ 1000 ∧ [some (.int c), some (.int n), some (.int c), some (.int (b : Int)), some v] = [some (V.int c), some (.int n), some (.int c), some (.int (b : Int)), some (.int (z : Int))] := fun t => by
        refine pick2 (x := 1 + c / 96 % 9) (y := 1 + c / 96 % 1000) upd_same ⟨same_upd hp, (if t = true then 1 + c / 96 % 1000 else 1 + c / 96 % 9).toNat, ?_, ?_, ?_⟩
        · split <;> omega
        · split <;> omega
        · rw [Int.toNat_of_nonneg (by split <;> omega)]
      refine ⟨.int c, rfl, c, 4, rfl, rfl, ⟨by decide, by decide⟩, _, 2, rfl, rfl, (show (0 : Int) < 2 by decide), rfl, _, rfl, ite2 (fun _ => ⟨.int n, rfl, n, 130, rfl, rfl, .inr ⟨_, rfl, fin _⟩⟩) (fun _ => .inr ⟨false, rfl, fin false⟩)⟩
    rintro σ H2 ⟨s2, z, z1, z2, rfl⟩
    refine ⟨.int b, rfl, .int z, rfl, by show 2 ≤ sizeLine; decide, fun p hp => ?_⟩
    exact q _ p b z ((s1.trans s2).trans (same_upd hp)) ((s1.trans s2).free hp) upd_same b1 b2 z1 z2
end
section
variable {P : Program} {w : World} {K : PySem.W.Frag} {mg : Str → Option Value} {base : Heap}
open LamX in
theorem ok_starts {f c Pt : Addr} {fd : FuncData} {T : List (Addr × Str)} (F : FunC K "_law_starts" "_law_starts" sStarts f c fd) (B : Bl mg) (msort : mg "sorted" = none) (TB : TabB base mg c Pt) (hmT : (Pt, Str.ofString "_law_starts.<locals>." ++ Str.ofString "<lambda>") ∈ T)
    (hu : ∀ p ∈ T, p.1 = Pt → p.2 = Str.ofString "_law_starts.<locals>." ++ Str.ofString "<lambda>") : FnOk P w K mg base CX0 4 f fd ["numbers"] (spStarts K T) := by
  refine F.ok scStarts (fun vs H Q E h => ?_) (fun A outer s H vs Q E hr h => ?_)
  · obtain ⟨a, ns, rfl, _⟩ := h
    rfl
  · obtain ⟨a, ns, rfl, hS, hT, hl, q⟩ := h
    refine ⟨_, pss_one (ps_ret (pe_tails (j := 0) (by rfl) msort (pa_cons (pe_lc (own := [("at", 1)]) (g := gName 1) (tt := tYes) rfl scStarts.nd (pi_range1 rfl B.range (pa_cons (pe_callB call_len_seq (by rfl) B.len PySem.boot_len (pa_cons (pv 0) pa_nil)) pa_nil))
        (blkOk_by (own := [("at", 1)]) (N := ["numbers", "at", "start"]) (sc := defScope sStarts) (by decide +kernel))
        (fun _ _ _ _ _ => pg_name (i := 1) scStarts.nd rfl (Or.inl rfl)) (fun _ _ _ _ _ => pts_nil) (fun _ _ _ _ _ => pv 1)) pa_nil) TB rfl hmT hu hr rfl rfl
        (by decide +kernel) rfl rfl rfl rfl rfl (by decide +kernel) rfl (fun _ _ _ _ _ _ => rfl))), ?_⟩
    have hlm : (ns.map V.int).length = ns.length := List.length_map _
    refine ⟨.ref a, rfl, a, _, rfl, .inl hS, _, rfl, by omega, by omega, fun D hD => ?_⟩
    refine lc_gen (n := (((ns.map V.int).length : Nat) : Int).toNat) (fun j H1 => Same H H1 ∧ H1 D = some (LN (List.range j))) ⟨same_upd hD, upd_same⟩ (fun j H1 hj _ => hj) (fun H1 _ => Nat.le_refl _) ?_ ?_
    · rintro j H1 v H2 hj ⟨s1, hd⟩ ⟨rfl, rfl⟩
      refine ⟨rfl, ?_⟩
      dsimp only [tYes]
      rw [if_pos rfl]
      refine ⟨.int (0 + (j : Nat)), rfl, _, hd, line_ok7 (by rw [List.length_map, List.length_range]; omega), fun b o e => ?_, ?_⟩
      · rw [upd_ne (ne_of_none e hD)]
        exact s1 b o e
      · rw [upd_same, Int.zero_add]
        show some (HO.lst _) = some (HO.lst _)
        rw [List.range_succ, List.map_append]
        rfl
    · rintro H1 ⟨s1, hd⟩
      rw [Int.toNat_natCast, hlm] at hd
      refine ⟨tabs_same hT s1, D, a, List.range ns.length, ns, rfl, rfl, .inl (.inl hd), s1.seq hS, fun k hk => Nat.le_of_lt (List.mem_range.mp hk), fun H2 p eN T2 hp => ?_⟩
      exact q H2 p ⟨fun b o e n => eN b o (s1 _ _ e) n, T2⟩ hp
end
theorem scBytes : FnScope ["number", "count", "data", "k"] ["number", "count"] (defScope sBytes) := ⟨rfl, rfl, rfl, by decide +kernel, rfl, by decide +kernel, by decide +kernel⟩
theorem scNumber : FnScope ["data", "at", "count", "number", "k"] ["data", "at", "count"] (defScope sNumber) := ⟨rfl, rfl, rfl, by decide +kernel, rfl, by decide +kernel, by decide +kernel⟩
/-! ### numbers as bytes -/
/-- the last c bytes of n, the highest first -/
def be : Nat → Nat → List Int
  | 0, _ => []
  | c + 1, n => ((n / 256 ^ c % 256 : Nat) : Int) :: be c n
theorem be_len : ∀ c n, (be c n).length = c
  | 0, _ => rfl
  | c + 1, n => congrArg (· + 1) (be_len c n)
theorem be_byt : ∀ c n, Byt (be c n)
  | 0, _ => fun x hx => by cases hx
  | c + 1, n => fun x hx => by
    rcases List.mem_cons.mp hx with e | e
    · rw [e]
      have := Nat.mod_lt (n / 256 ^ c) (show 256 > 0 by decide)
      omega
    · exact be_byt c n x e
/-- the number that bytes tell -/
def bn (l : List Int) : Int := l.foldl (fun a x => a * 256 + x) 0
theorem bn_snoc (l : List Int) (x : Int) : bn (l ++ [x]) = bn l * 256 + x := by
  unfold bn
  rw [List.foldl_append]
  rfl
theorem bn_bound : ∀ {l : List Int}, Byt l → 0 ≤ bn l ∧ bn l < 256 ^ l.length := by
  intro l
  suffices h : ∀ n (l : List Int), l.length = n → Byt l → 0 ≤ bn l ∧ bn l < 256 ^ n from h l.length l rfl
  intro n
  induction n with
  | zero =>
    intro l hl _
    obtain rfl : l = [] := List.length_eq_zero_iff.mp hl
    exact ⟨by decide, by decide⟩
  | succ n ih =>
    intro l hl hb
    obtain ⟨m, x, rfl⟩ : ∃ m x, l = m ++ [x] := ⟨l.dropLast, l.getLast (by intro z; rw [z] at hl; cases hl), (List.dropLast_concat_getLast _).symm⟩
    have h1 := ih m (by rw [List.length_append, List.length_singleton] at hl; omega) fun y hy => hb y (List.mem_append_left _ hy)
    have h2 := hb x (List.mem_append_right _ (List.mem_singleton.mpr rfl))
    rw [bn_snoc, Int.pow_succ]
    omega
section
variable {P : Program} {w : World} {K : PySem.W.Frag} {mg : Str → Option Value} {base : Heap}
def spBytes : Sp := fun vs H Q _ => ∃ n c : Nat, vs = [.int (n : Int), .int (c : Int)] ∧ c ≤ 1000 ∧ ∀ (H' : Hp) (p : Addr), Same H H' → H p = none → H' p = some (LI (be c n)) → Q (.ref p) H'
theorem ok_bytes {f : Addr} {fd : FuncData} {k : Nat} (F : Fun K "_law_bytes" "_law_bytes" sBytes f fd) (B : Bl mg) : FnOk P w K mg base CX0 (k + 1) f fd ["number", "count"] spBytes := by
  refine F.ok scBytes (fun vs H Q E h => ?_) (fun cdv A outer s H vs Q E hr h => ?_)
  · obtain ⟨n, c, rfl, _⟩ := h
    rfl
  · obtain ⟨n, c, rfl, hc, q⟩ := h
    refine ⟨_, pss_cons (ps_set (i := 2) scBytes.nd rfl (.inl rfl) (pe_lst pa_nil))
      (pss_cons (ps_for PassesOwn.never rfl (pi_range1 rfl B.range (pa_cons (pv 1) pa_nil)) (pg_name (i := 3) scBytes.nd rfl (.inl rfl))
        (pss_cons (ps_set (i := 2) scBytes.nd rfl (.inl rfl) (pe_op op_cat (pe_lst (pa_cons (pe_op op_mod (pe_callTy call_int1 (by rfl) B.int (by decide +kernel) (pa_cons (pv 0) pa_nil)) pe_int) pa_nil)) (pv 2)))
        (pss_one (ps_set (i := 0) scBytes.nd rfl (.inl rfl) (pe_op op_fdiv (pv 0) pe_int)))))
      (pss_one (ps_ret (pv 2)))), ?_⟩
    refine ⟨Nat.zero_le _, fun p hp => ⟨.int c, rfl, _, rfl, by omega, by omega, ?_⟩⟩
    refine for_range (lo := 0) (n := (c : Int).toNat) (fun i σ H1 => ∃ (p : Addr) (kv : Option V), σ = [some (.int ((n / 256 ^ i : Nat) : Int)), some (.int (c : Int)), some (.ref p), kv] ∧ Same H H1 ∧ H p = none ∧ H1 p = some (LI (be i n))) ⟨p, none, by rw [Nat.pow_zero, Nat.div_one]; rfl, same_upd hp, hp, upd_same⟩ ?_ ?_
    · rintro i σ H1 hi ⟨p, kv, rfl, sm, hp, h1⟩
      have hl := be_len i n
      refine ⟨.int ((n / 256 ^ i : Nat) : Int), rfl, .inl ⟨_, rfl, _, 256, rfl, rfl, (show (0 : Int) < 256 by decide), by show 1 ≤ sizeLine; decide, fun p1 hp1 => ?_⟩⟩
      refine ⟨.ref p, rfl, p1, p, _, _, rfl, rfl, upd_same, by rw [upd_ne (ne_of_none h1 hp1)]; exact h1, line_ok7 (by rw [List.length_map, hl]; show 1 + i ≤ 10000000; omega), fun p2 hp2 => ?_⟩
      refine ⟨_, rfl, _, 256, rfl, rfl, ⟨by decide, by decide⟩, p2, some (.int (0 + (i : Nat))), ?_, (sm.trans (same_upd hp1)).trans (same_upd hp2), sm.free (new_old hp2), ?_⟩
      · show [some (V.int (((n / 256 ^ i : Nat) : Int) / 256)), _, _, _] = [some (V.int ((n / 256 ^ (i + 1) : Nat) : Int)), _, _, _]
        rw [Nat.pow_succ, ← Nat.div_div_eq_div_mul]
        rfl
      · rw [upd_same]
        show some (HO.lst ([V.int (((n / 256 ^ i : Nat) : Int) % 256)] ++ (be i n).map V.int)) = some (HO.lst (V.int ((n / 256 ^ i % 256 : Nat) : Int) :: (be i n).map V.int))
        rw [show (((n / 256 ^ i : Nat) : Int) % 256) = ((n / 256 ^ i % 256 : Nat) : Int) from rfl]
        rfl
    · rintro σ H1 ⟨p, kv, rfl, sm, hp, h1⟩
      rw [Int.toNat_natCast] at h1
      exact ⟨.ref p, rfl, q H1 p sm hp h1⟩
def spNumber (K : PySem.W.Frag) : Sp := fun vs H Q _ => ∃ (a : Addr) (ns : List Int) (b c : Nat), vs = [.ref a, .int (b : Int), .int (c : Int)] ∧ SqL K H a (ns.map V.int) ∧ Byt ns ∧ b + c ≤ ns.length ∧ c ≤ 4 ∧ Q (.int (bn ((ns.drop b).take c))) H
theorem ok_number {f : Addr} {fd : FuncData} {k : Nat} (F : Fun K "_law_number" "_law_number" sNumber f fd) (B : Bl mg) : FnOk P w K mg base CX0 (k + 1) f fd ["data", "at", "count"] (spNumber K) := by
  refine F.ok scNumber (fun vs H Q E h => ?_) (fun cdv A outer s H vs Q E hr h => ?_)
  · obtain ⟨a, ns, b, c, rfl, _⟩ := h
    rfl
  · obtain ⟨a, ns, b, c, rfl, hS, hb, hl, hc, q⟩ := h
    refine ⟨_, pss_cons (ps_set (i := 3) scNumber.nd rfl (.inl rfl) pe_int)
      (pss_cons (ps_for PassesOwn.never rfl (pi_range1 rfl B.range (pa_cons (pv 2) pa_nil)) (pg_name (i := 4) scNumber.nd rfl (.inl rfl))
        (pss_one (ps_set (i := 3) scNumber.nd rfl (.inl rfl) (pe_op op_add (pe_op op_mul (pv 3) pe_int) (pe_ix ix_list (pv 0) (pe_op op_add (pv 1) (pv 4)) (fun _ _ => rfl))))))
      (pss_one (ps_ret (pv 3)))), ?_⟩
    refine ⟨.int c, rfl, _, rfl, by omega, by omega, ?_⟩
    refine for_range (lo := 0) (n := (c : Int).toNat) (fun i σ H1 => H1 = H ∧ ∃ kv : Option V, σ = [some (.ref a), some (.int (b : Int)), some (.int (c : Int)), some (.int (bn ((ns.drop b).take i))), kv]) ⟨rfl, none, by rw [List.take_zero]; rfl⟩ ?_ ?_
    · rintro i σ H1 hi ⟨rfl, kv, rfl⟩
      have hlt : b + i < ns.length := by omega
      have hb1 := bn_bound (l := (ns.drop b).take i) fun x hx => hb x (List.mem_of_mem_drop (List.mem_of_mem_take hx))
      have hli : ((ns.drop b).take i).length = i := by rw [List.length_take, List.length_drop]; omega
      rw [hli] at hb1
      have hp : (256 : Int) ^ i ≤ 256 ^ 4 := by
        have h4 : i = 0 ∨ i = 1 ∨ i = 2 ∨ i = 3 := by omega
        rcases h4 with z | z | z | z <;> subst z <;> decide
      have hp2 : (256 : Int) ^ 4 = 4294967296 := by decide
      refine ⟨_, rfl, _, 256, rfl, rfl, .inl ⟨by omega, by omega⟩, .ref a, rfl, .int b, rfl, .int (0 + (i : Nat)), rfl, _, _, rfl, rfl, a, _, _, .int ns[b + i], rfl, rfl, hS, ?_, _, _, rfl, rfl, rfl, some (.int (0 + (i : Nat))), ?_⟩
      · rw [show (b : Int) + (0 + ((i : Nat) : Int)) = ((b + i : Nat) : Int) by omega]
        exact atI_nat (map_int_at hlt)
      · have et : (ns.drop b).take (i + 1) = (ns.drop b).take i ++ [ns[b + i]] := by
          rw [List.take_add_one, List.getElem?_drop, List.getElem?_eq_getElem hlt]
          rfl
        rw [et, bn_snoc]
        rfl
    · rintro σ H1 ⟨rfl, kv, rfl⟩
      rw [Int.toNat_natCast]
      exact ⟨_, rfl, q⟩
end
theorem scLSum : FnScope ["data", "a", "b", "k"] ["data"] (defScope sLSum) := ⟨rfl, rfl, rfl, by decide +kernel, rfl, by decide +kernel, by decide +kernel⟩
/-! ### sums of bytes -/
def tot : List Int → Int
  | [] => 0
  | d :: r => d + tot r
/-- each number times how many there are from it on -/
def bsum : Int → List Int → Int
  | _, [] => 0
  | n, d :: r => n * d + bsum (n - 1) r
theorem tot_app (a b : List Int) : tot (a ++ b) = tot a + tot b := by
  induction a with
  | nil => exact (Int.zero_add _).symm
  | cons d r ih =>
    show d + tot (r ++ b) = d + tot r + tot b
    rw [ih, Int.add_assoc]
theorem tot_snoc (l : List Int) (x : Int) : tot (l ++ [x]) = tot l + x := by
  rw [tot_app]
  show tot l + (x + 0) = _
  rw [Int.add_zero]
theorem bsum_snoc (x : Int) : ∀ (l : List Int) (n : Int), bsum n (l ++ [x]) = bsum n l + (n - l.length) * x
  | [], n => by
    show n * x + 0 = 0 + (n - 0) * x
    rw [Int.add_zero, Int.zero_add, Int.sub_zero]
  | d :: r, n => by
    show n * d + bsum (n - 1) (r ++ [x]) = n * d + bsum (n - 1) r + (n - ((r.length + 1 : Nat) : Int)) * x
    rw [bsum_snoc x r (n - 1), Int.add_assoc, show n - 1 - (r.length : Int) = n - ((r.length + 1 : Nat) : Int) by omega]
def sumOf (ns : List Int) : Int := 65536 * (((ns.length : Int) + bsum ns.length ns) % 65521) + (1 + tot ns) % 65521
theorem tot_set : ∀ (l : List Int) (i : Nat) (y : Int), i < l.length → tot (l.set i y) = tot l + (y - l.getD i 0)
  | [], _, _, h => absurd h (Nat.not_lt_zero _)
  | d :: r, 0, y, _ => by
    show y + tot r = d + tot r + (y - d)
    omega
  | d :: r, i + 1, y, h => by
    show d + tot (r.set i y) = d + tot r + (y - r.getD i 0)
    rw [tot_set r i y (Nat.lt_of_succ_lt_succ h)]
    omega
/-- one byte changed: another sum -/
theorem sumOf_set {l : List Int} {i : Nat} {y : Int} (h : i < l.length) (ne : y ≠ l.getD i 0) (y0 : 0 ≤ y) (y1 : y < 256) (x0 : 0 ≤ l.getD i 0) (x1 : l.getD i 0 < 256) : sumOf (l.set i y) ≠ sumOf l := by
  unfold sumOf
  rw [tot_set l i y h, List.length_set]
  intro e
  have a0 := Int.emod_nonneg (1 + (tot l + (y - l.getD i 0))) (show (65521 : Int) ≠ 0 by decide)
  have a1 := Int.emod_lt_of_pos (1 + (tot l + (y - l.getD i 0))) (show (0 : Int) < 65521 by decide)
  have b0 := Int.emod_nonneg (1 + tot l) (show (65521 : Int) ≠ 0 by decide)
  have b1 := Int.emod_lt_of_pos (1 + tot l) (show (0 : Int) < 65521 by decide)
  omega
section
variable {P : Program} {w : World} {K : PySem.W.Frag} {mg : Str → Option Value} {base : Heap}
def spLSum (K : PySem.W.Frag) : Sp := fun vs H Q _ => ∃ (a : Addr) (ns : List Int), vs = [.ref a] ∧ SqL K H a (ns.map V.int) ∧ ns.length ≤ 10000000 ∧ Q (.int (sumOf ns)) H
theorem ok_lsum {f : Addr} {fd : FuncData} {k : Nat} (F : Fun K "_law_sum" "_law_sum" sLSum f fd) (B : Bl mg) : FnOk P w K mg base CX0 (k + 1) f fd ["data"] (spLSum K) := by
  refine F.ok scLSum (fun vs H Q E h => ?_) (fun cdv A outer s H vs Q E hr h => ?_)
  · obtain ⟨a, ns, rfl, _⟩ := h
    rfl
  · obtain ⟨a, ns, rfl, hS, hn, q⟩ := h
    refine ⟨_, pss_cons (ps_set (i := 1) scLSum.nd rfl (.inl rfl) pe_int)
      (pss_cons (ps_set (i := 2) scLSum.nd rfl (.inl rfl) (pe_callB call_len_seq (by rfl) B.len PySem.boot_len (pa_cons (pv 0) pa_nil)))
      (pss_cons (ps_for PassesOwn.never rfl (pi_range1 rfl B.range (pa_cons (pe_callB call_len_seq (by rfl) B.len PySem.boot_len (pa_cons (pv 0) pa_nil)) pa_nil)) (pg_name (i := 3) scLSum.nd rfl (.inl rfl))
        (pss_cons (ps_set (i := 1) scLSum.nd rfl (.inl rfl) (pe_op op_add (pv 1) (pe_ix ix_list (pv 0) (pv 3) (fun _ _ => rfl))))
        (pss_one (ps_set (i := 2) scLSum.nd rfl (.inl rfl) (pe_op op_add (pv 2) (pe_op op_mul (pe_op op_sub (pe_callB call_len_seq (by rfl) B.len PySem.boot_len (pa_cons (pv 0) pa_nil)) (pv 3)) (pe_ix ix_list (pv 0) (pv 3) (fun _ _ => rfl))))))))
      (pss_one (ps_ret (pe_op op_add (pe_op op_mul pe_int (pe_op op_mod (pe_callTy call_int1 (by rfl) B.int (by decide +kernel) (pa_cons (pv 2) pa_nil)) pe_int)) (pe_op op_mod (pe_callTy call_int1 (by rfl) B.int (by decide +kernel) (pa_cons (pv 1) pa_nil)) pe_int)))))), ?_⟩
    have hlm : (ns.map V.int).length = ns.length := List.length_map _
    refine ⟨.ref a, rfl, a, _, rfl, .inl hS, .ref a, rfl, a, _, rfl, .inl hS, _, rfl, by omega, by omega, ?_⟩
    rw [Int.toNat_natCast, hlm]
    refine for_range (lo := 0) (n := ns.length) (fun i σ H' => H' = H ∧ i ≤ ns.length ∧ ∃ kv : Option V, σ = [some (.ref a), some (.int (1 + tot (ns.take i))), some (.int ((ns.length : Int) + bsum ns.length (ns.take i))), kv]) ⟨rfl, Nat.zero_le _, none, ?_⟩ ?_ ?_
    · show [some (V.ref a), some (V.int 1), some (V.int (ns.length : Nat)), none] = _
      rw [List.take_zero]
      show _ = [some (V.ref a), some (V.int (1 + 0)), some (V.int ((ns.length : Int) + 0)), none]
      rw [Int.add_zero, Int.add_zero]
    · rintro i σ H' hi ⟨rfl, _, kv, rfl⟩
      have h1 := map_int_at hi
      have h2 : atI (ns.map V.int) (0 + ((i : Nat) : Int)) = some (.int ns[i]) := by
        rw [Int.zero_add]
        exact atI_nat h1
      refine ⟨_, rfl, .ref a, rfl, .int (0 + (i : Nat)), rfl, a, _, _, _, rfl, rfl, hS, h2, _, _, rfl, rfl, ?_⟩
      refine ⟨_, rfl, .ref a, rfl, a, _, rfl, .inl hS, .int (0 + (i : Nat)), rfl, _, _, rfl, rfl, .ref a, rfl, .int (0 + (i : Nat)), rfl, a, _, _, _, rfl, rfl, hS, h2, _, _, rfl, rfl, .inl ⟨by omega, by omega⟩, _, _, rfl, rfl, ?_⟩
      have et : ns.take (i + 1) = ns.take i ++ [ns[i]] := by
        rw [List.take_add_one, List.getElem?_eq_getElem hi]
        rfl
      refine ⟨rfl, hi, some (.int (0 + (i : Nat))), ?_⟩
      rw [et, tot_snoc, bsum_snoc, List.length_take, Nat.min_eq_left (by omega), ← Int.add_assoc, ← Int.add_assoc]
      show [some (V.ref a), some (V.int (1 + tot (ns.take i) + ns[i])), some (V.int ((ns.length : Int) + bsum ns.length (ns.take i) + ((((ns.map V.int).length : Nat) : Int) - (0 + ((i : Nat) : Int))) * ns[i])), some (V.int (0 + ((i : Nat) : Int)))] = _
      rw [hlm, Int.zero_add]
      try rfl
    · rintro σ H' ⟨rfl, _, kv, rfl⟩
      rw [List.take_length]
      have m0 := Int.emod_nonneg ((ns.length : Int) + bsum ns.length ns) (show (65521 : Int) ≠ 0 by decide)
      have m1 := Int.emod_lt_of_pos ((ns.length : Int) + bsum ns.length ns) (show (0 : Int) < 65521 by decide)
      exact ⟨_, rfl, .inl ⟨_, rfl, _, 65521, rfl, rfl, (show (0 : Int) < 65521 by decide), 65536, _, rfl, rfl, .inl ⟨by decide, by decide⟩, _, rfl, .inl ⟨_, rfl, _, 65521, rfl, rfl, (show (0 : Int) < 65521 by decide), _, _, rfl, rfl, q⟩⟩⟩
end
def spSum (K : PySem.W.Frag) : Sp := fun vs H Q _ => ∃ (a : Addr) (ns : List Int), vs = [.ref a] ∧ SqL K H a (ns.map V.int) ∧ Byt ns ∧ ns.length ≤ 100000 ∧ ∀ H', Same H H' → Q (.int (sumOf ns)) H'
theorem bsum_up : ∀ (l : List Int) (n : Int), bsum (n + 1) l = bsum n l + tot l
  | [], n => rfl
  | d :: r, n => by
    show (n + 1) * d + bsum (n + 1 - 1) r = n * d + bsum (n - 1) r + (d + tot r)
    have e := bsum_up r (n - 1)
    rw [show n + 1 - 1 = n - 1 + 1 by omega, e, Int.add_mul, Int.one_mul]
    omega
theorem bsum_add (l : List Int) (x : Int) : ((l ++ [x]).length : Int) + bsum (l ++ [x]).length (l ++ [x]) = ((l.length : Int) + bsum l.length l) + (1 + tot l + x) := by
  rw [bsum_snoc, List.length_append, List.length_singleton]
  have e : (((l.length + 1 : Nat) : Int)) = (l.length : Int) + 1 := by omega
  rw [e, bsum_up, show (l.length : Int) + 1 - l.length = 1 by omega, Int.one_mul]
  omega
theorem scSum : FnScope ["data", "a", "b", "byte"] ["data"] (defScope sSum) := ⟨rfl, rfl, rfl, by decide +kernel, rfl, by decide +kernel, by decide +kernel⟩
section
variable {P : Program} {w : World} {K : PySem.W.Frag} {mg : Str → Option Value} {base : Heap}
theorem ok_sumOf {f : Addr} {fd : FuncData} {k : Nat} {t : Tok} (F : Fun K "sum_of" "sum_of" sSum f fd) (gM : mg "_SUM_MODULO" = some (.int 65521 t)) : FnOk P w K mg base CX0 (k + 1) f fd ["data"] (spSum K) := by
  refine F.ok scSum (fun vs H Q E h => ?_) (fun cdv A outer s H vs Q E hr h => ?_)
  · obtain ⟨a, ns, rfl, _⟩ := h
    rfl
  · obtain ⟨a, ns, rfl, hS, hb, hn, q⟩ := h
    refine ⟨_, pss_cons (ps_set (i := 1) scSum.nd rfl (.inl rfl) pe_int)
      (pss_cons (ps_set (i := 2) scSum.nd rfl (.inl rfl) pe_int)
      (pss_cons (ps_for PassesOwn.never rfl (pi_list (pv 0)) (pg_name (i := 3) scSum.nd rfl (.inl rfl))
        (pss_cons (ps_set (i := 1) scSum.nd rfl (.inl rfl) (pe_op op_mod (pe_op op_add (pv 1) (pv 3)) (pe_glob (v := .int 65521) rfl gM ⟨_, rfl⟩)))
        (pss_one (ps_set (i := 2) scSum.nd rfl (.inl rfl) (pe_op op_mod (pe_op op_add (pv 2) (pv 1)) (pe_glob (v := .int 65521) rfl gM ⟨_, rfl⟩))))))
      (pss_one (ps_ret (pe_op op_add (pe_op op_mul pe_int (pv 2)) (pv 1)))))), ?_⟩
    refine ⟨.ref a, rfl, a, rfl, ⟨_, hS⟩, ?_⟩
    refine for_list (K := K) (xs := ns.map V.int) (fun i σ H' => H' = H ∧ ∃ kv : Option V, σ = [some (.ref a), some (.int ((1 + tot (ns.take i)) % 65521)), some (.int ((((ns.take i).length : Int) + bsum (ns.take i).length (ns.take i)) % 65521)), kv]) ⟨rfl, none, ?_⟩ (fun i σ H' _ h => h.1 ▸ hS) ?_ ?_
    · rw [List.take_zero]
      rfl
    · rintro i v σ H' hv ⟨rfl, kv, rfl⟩
      rw [List.getElem?_map] at hv
      obtain ⟨n, hn1, rfl⟩ := Option.map_eq_some_iff.mp hv
      have et : ns.take (i + 1) = ns.take i ++ [n] := by
        rw [List.take_add_one, hn1]
        rfl
      refine ⟨_, rfl, _, rfl, _, n, rfl, rfl, _, 65521, rfl, rfl, (show (0 : Int) < 65521 by decide), ?_⟩
      refine ⟨_, rfl, _, rfl, _, _, rfl, rfl, _, 65521, rfl, rfl, (show (0 : Int) < 65521 by decide), ?_⟩
      refine ⟨rfl, some (.int n), ?_⟩
      rw [et, bsum_add, tot_snoc]
      have e1 : ((1 + tot (ns.take i)) % 65521 + n) % 65521 = (1 + (tot (ns.take i) + n)) % 65521 := by omega
      have e2 : ((((ns.take i).length : Int) + bsum (ns.take i).length (ns.take i)) % 65521 + ((1 + tot (ns.take i)) % 65521 + n) % 65521) % 65521 = (((ns.take i).length : Int) + bsum (ns.take i).length (ns.take i) + (1 + tot (ns.take i) + n)) % 65521 := by omega
      rw [← e1, ← e2]
      rfl
    · rintro σ H' ⟨rfl, kv, rfl⟩
      rw [List.length_map, List.take_length]
      have m0 := Int.emod_nonneg ((ns.length : Int) + bsum ns.length ns) (show (65521 : Int) ≠ 0 by decide)
      have m1 := Int.emod_lt_of_pos ((ns.length : Int) + bsum ns.length ns) (show (0 : Int) < 65521 by decide)
      exact ⟨_, rfl, 65536, _, rfl, rfl, .inl ⟨by decide, by decide⟩, _, rfl, _, _, rfl, rfl, q _ (Same.refl _)⟩
end
/-! ### list(d.values()) -/
def rValsL : V → Hp → VK → Prop := fun x H Q => ∃ (d : Addr) (kvs : List (Key × V)), x = .ref d ∧ H d = some (.dK kvs) ∧ ∀ p, H p = none → Q (.ref p) (upd H p (.lst (kvs.map (·.2))))
def tListVals (te : TE) : TE := fun σ H Q => te σ H fun x H1 => rValsL x H1 Q
theorem kv_vals : ∀ {kvs : List (Key × V)} {vs : List (Key × Value)}, KV kvs vs → Vals (kvs.map (·.2)) (vs.map (·.2))
  | _, _, .nil => .nil
  | _, _, .cons ⟨_, r⟩ h => .cons r (kv_vals h)
theorem pe_listVals {X : Cx} {e : Expr} {te : TE} {p apos cpos pos : Pos} (hc : X.calm = true) (he : PE X e te) (hg : Gl X "list") (hm : X.mg "list" = none) (hv : bootBuiltins "list" = some (.type "list")) (hbase : attributeBase e "values" X.env (eval e X.env) = eval e X.env := by rfl) (hline : (apos.endLine == cpos.line) = true := by rfl)
    (hs : starEach [.Call (.Attribute e "values" apos) [] [] cpos] X.env = (false, eval (.Call (.Attribute e "values" apos) [] [] cpos) X.env) :: starEach [] X.env := by rfl) :
    PE X (.Call (.Name "list" p) [.Call (.Attribute e "values" apos) [] [] cpos] [] pos) (tListVals te) := by
  refine ⟨fun pins s σ H Q I hq => ?_⟩
  refine wpAny_Call_Name_kw (ld_blt I hg hm hv ?_)
  refine PyProof.Rows.callWith_type1 ?_ hs rfl
  rw [hs]
  show wpAny _ _ (spliced ((false, eval (.Call (.Attribute e "values" apos) [] [] cpos) X.env) :: backTo pos (starEach [] X.env))) _ _ s
  refine Calls.spliced_cons ?_
  refine wpAny_Call_method (T := "dict") (id := "dict.values") hbase rfl hline F.plainAttrs_dict F.slot_dict_values F.type_dict_values (thn (he.run pins s σ H _ I hq) fun u s1 ⟨x, H1, I1, rx, d, kvs, ex, hd, q⟩ => ?_)
  subst ex
  obtain rfl : u = Value.ref d := rx
  obtain ⟨hz, hs0, vs, kv, hdo⟩ := I1.hok d _ hd
  obtain ⟨ep, hat⟩ := hdo.dictAt
  have lk : kvs.length = vs.length := Paired.length kv
  have I2 : Inv X pins σ H1 { s1 with heap := s1.heap.push { cls := .type "dict_values", data := .fields #[.ref d] } } := I1.kept (t' := s1.toks) fun b ob q => Heap.get?_push_of_some _ q
  refine ⟨hdo.typeIs, hdo.mapOf.noDict, ?_⟩
  show wpAny _ _ (callWith cpos (.builtin "dict.values") [.ref d] [] []) _ X.xe s1
  refine method_meetsIn F.slot_dict_values F.entry_dict_values rfl (PySem.evalArgs_none ⟨rfl, hdo.typeIs, F.args_dict_values_1 _, _, meets_dict_values (mixKind X.prog X.w) d hs0, ⟨vs, hdo⟩, ?_⟩)
  refine Calls.spliced_nil ?_
  refine PySem.W.kdl_call (PySem.W.kdl_values (knd := mixKind X.prog X.w) (kvs := vs) (ep := ep)) (I1.ok.hd hc) ⟨⟨_, Heap.get?_push_size _ rfl, rfl, rfl⟩, hat.push _⟩ (by omega) fun h' tk acc' c' hk hS hacc => ?_
  have hal : acc'.toList = vs.map (·.2) := by
    apply List.ext_getElem?
    intro i
    by_cases c : i < vs.length
    · have hai : i < acc'.size := by rw [hacc.1]; exact c
      obtain ⟨k, hk'⟩ := hacc.2 i acc'[i] (Array.getElem?_eq_getElem hai)
      rw [Array.getElem?_toList, Array.getElem?_eq_getElem hai, List.getElem?_map, hk']
      rfl
    · rw [List.getElem?_eq_none (by rw [Array.length_toList, hacc.1]; omega), List.getElem?_eq_none (by rw [List.length_map]; omega)]
  refine ⟨.ref _, _, I2.laid (t' := tk) (o := .lst (kvs.map (·.2))) hk (Nat.le_refl _) ⟨by rw [List.length_map]; omega, acc'.toList, c', by rw [hal]; exact kv_vals kv, ?_⟩, rfl, q _ (I2.hok.fresh (Nat.le_refl _))⟩
  rw [Array.toArray_toList]
  exact hS
/-! ### numbers as bytes, the program's way -/
theorem be_at : ∀ (c n : Nat) {j : Nat}, j < c → (be c n)[j]? = some ((n / 256 ^ (c - 1 - j) % 256 : Nat) : Int)
  | 0, _, j, h => absurd h (Nat.not_lt_zero j)
  | c + 1, n, 0, _ => by
    show some _ = _
    rw [Nat.sub_zero, Nat.add_sub_cancel]
  | c + 1, n, j + 1, h => by
    show (be c n)[j]? = _
    rw [be_at c n (by omega), show c + 1 - 1 - (j + 1) = c - 1 - j by omega]
def rAnd255 : R2 := fun x y H Q => ∃ (i : Int) (k : Nat), x = .int i ∧ y = .int (2 ^ k - 1) ∧ Q (.int (i % 2 ^ k)) H
def NNb : List Str := ["number", "size", "place"]
theorem scNumB : FnScope NNb ["number", "size"] (defScope sNumB) := ⟨rfl, rfl, rfl, by decide +kernel, rfl, by decide +kernel, by decide +kernel⟩
section
variable {P : Program} {w : World} {K : PySem.W.Frag} {mg : Str → Option Value} {base : Heap}
def spNumB : Sp := fun vs H Q _ => ∃ n c : Nat, vs = [.int (n : Int), .int (c : Int)] ∧ c ≤ 1000 ∧ ∀ (H' : Hp) (p : Addr), Same H H' → H p = none → H' p = some (LI (be c n)) → Q (.ref p) H'
theorem ok_numb {f : Addr} {fd : FuncData} {k : Nat} (F : Fun K "number_bytes" "number_bytes" sNumB f fd) (mrange : mg "range" = none) (mrev : mg "reversed" = none) : FnOk P w K mg base CX0 (k + 1) f fd ["number", "size"] spNumB := by
  refine F.ok scNumB (fun vs H Q E h => ?_) (fun cdv A outer s H vs Q E hr h => ?_)
  · obtain ⟨n, c, rfl, _⟩ := h
    rfl
  · obtain ⟨n, c, rfl, hc, q⟩ := h
    refine ⟨_, pss_one (ps_ret (pe_lc (own := [("place", 2)]) (g := gName 2) (tt := tYes) (te := tOp rAnd255 (tOp (rI (fun _ j => 0 ≤ j) fun i j => V.int (i / 2 ^ j.toNat)) (tVar 0) (tOp (rI CMul fun i j => V.int (i * j)) (tC (.int 8)) (tVar 2))) (tC (.int 255))) (by rfl) scNumB.nd (pi_revR rfl mrev (prg_1 rfl mrange (pv 1))) (blkOk_by (own := [("place", 2)]) (N := NNb) (sc := defScope sNumB) (by decide +kernel))
      (fun _ _ _ _ _ => pg_name (i := 2) scNumB.nd rfl (Or.inl rfl)) (fun _ _ _ _ _ => pts_nil) (fun _ _ _ _ _ => pe_op (r := rAnd255) op_andM (pe_op op_shr (pv 0) (pe_op op_mul pe_int (pv 2))) pe_int))), ?_⟩
    refine ⟨.int c, rfl, c, rfl, by decide, by decide, by omega, by omega, fun D hD => ?_⟩
    have hcn : ((c : Int) - 0).toNat = c := by omega
    rw [hcn]
    refine lc_gen (n := c) (fun j H2 => Same H H2 ∧ j ≤ c ∧ H2 D = some (LI ((be c n).take j))) ⟨same_upd hD, Nat.zero_le _, upd_same⟩ (fun j H2 hj _ => hj) (fun H2 _ => Nat.le_refl _) ?_ ?_
    · rintro j H2 x H3 hj ⟨s2, _, hd2⟩ ⟨rfl, rfl⟩
      have ep : (0 : Int) + (c : Nat) - 1 + (j : Nat) * (-1) = ((c - 1 - j : Nat) : Int) := by omega
      have hat := be_at c n hj
      rw [ep]
      generalize hpl : c - 1 - j = pl at hat
      refine ⟨rfl, ?_⟩
      dsimp only [tYes]
      rw [if_pos rfl]
      refine ⟨.int n, rfl, .int pl, rfl, 8, _, rfl, rfl, .inl ⟨by decide, by decide⟩, _, _, rfl, rfl, by omega, _, 8, rfl, rfl, _, hd2, line_ok6 (by rw [List.length_map, List.length_take]; omega), fun b o e => ?_, hj, ?_⟩
      · rw [upd_ne (ne_of_none e hD)]
        exact s2 b o e
      · rw [upd_same, List.take_add_one, hat]
        refine congrArg some (Eq.trans ?_ (LI_snoc _ _).symm)
        show HO.lst (_ ++ [V.int ((n : Int) / 2 ^ (8 * (pl : Int)).toNat % 2 ^ 8)]) = _
        have e8 : (8 * (pl : Int)).toNat = 8 * pl := by omega
        have h256 : (256 : Nat) ^ pl = 2 ^ (8 * pl) := by rw [Nat.pow_mul]
        have ez : (n : Int) / 2 ^ (8 * pl) % 2 ^ 8 = ((n / 256 ^ pl % 256 : Nat) : Int) := by
          rw [h256, Int.natCast_emod, Int.natCast_ediv, Int.natCast_pow]
          rfl
        rw [e8, ez]
    · rintro H2 ⟨s2, _, hd2⟩
      rw [List.take_of_length_le (by rw [be_len]; exact Nat.le_refl _)] at hd2
      exact q H2 D s2 hD hd2
end
/-! ### ranks and suffixes -/
section
open PySem.W
/-- the number at i, with 0 behind the end -/
def pad (ns : List Int) (i : Nat) : Int := match ns[i]? with
  | some x => x + 1
  | none => 0
theorem pad_at {ns : List Int} {i : Nat} {x : Int} (h : ns[i]? = some x) : pad ns i = x + 1 := by
  unfold pad
  rw [h]
theorem pad_end {ns : List Int} {i : Nat} (h : ns.length ≤ i) : pad ns i = 0 := by
  unfold pad
  rw [List.getElem?_eq_none h]
theorem pad_pos {ns : List Int} {i : Nat} (hn : ∀ x ∈ ns, 0 ≤ x) (h : i < ns.length) : 1 ≤ pad ns i := by
  rw [pad_at (List.getElem?_eq_getElem h)]
  have := hn _ (List.getElem_mem h)
  omega
theorem pad_nonneg {ns : List Int} (hn : ∀ x ∈ ns, 0 ≤ x) (i : Nat) : 0 ≤ pad ns i := by
  by_cases h : i < ns.length
  · have := pad_pos hn h
    omega
  · rw [pad_end (by omega)]
    decide
def LtW (ns : List Int) (w i j : Nat) : Prop := ∃ k, k < w ∧ (∀ t, t < k → pad ns (i + t) = pad ns (j + t)) ∧ pad ns (i + k) < pad ns (j + k)
def EqW (ns : List Int) (w i j : Nat) : Prop := ∀ t, t < w → pad ns (i + t) = pad ns (j + t)
theorem tri (ns : List Int) (i j : Nat) : ∀ w, LtW ns w i j ∨ EqW ns w i j ∨ LtW ns w j i
  | 0 => .inr (.inl fun t h => absurd h (Nat.not_lt_zero t))
  | w + 1 => by
    rcases tri ns i j w with ⟨k, hk, h1, h2⟩ | h | ⟨k, hk, h1, h2⟩
    · exact .inl ⟨k, by omega, h1, h2⟩
    · rcases Int.lt_trichotomy (pad ns (i + w)) (pad ns (j + w)) with c | c | c
      · exact .inl ⟨w, by omega, h, c⟩
      · refine .inr (.inl fun t ht => ?_)
        by_cases e : t = w
        · rw [e]
          exact c
        · exact h t (by omega)
      · exact .inr (.inr ⟨w, by omega, fun t ht => (h t ht).symm, c⟩)
    · exact .inr (.inr ⟨k, by omega, h1, h2⟩)
theorem EqW.not {ns : List Int} {w i j : Nat} (h : EqW ns w i j) : ¬ LtW ns w i j := fun ⟨k, hk, _, h2⟩ => by
  have := h k hk
  omega
theorem EqW.symm {ns : List Int} {w i j : Nat} (h : EqW ns w i j) : EqW ns w j i := fun t ht => (h t ht).symm
theorem LtW.asymm {ns : List Int} {w i j : Nat} (h : LtW ns w i j) : ¬ LtW ns w j i := fun ⟨k, hk, h1, h2⟩ => by
  obtain ⟨k', hk', h1', h2'⟩ := h
  rcases Nat.lt_trichotomy k k' with c | c | c
  · have := h1' k c
    omega
  · subst c
    omega
  · have := h1 k' c
    omega
theorem ltw_double {ns : List Int} {w i j : Nat} : LtW ns (w + w) i j ↔ LtW ns w i j ∨ (EqW ns w i j ∧ LtW ns w (i + w) (j + w)) := by
  constructor
  · rintro ⟨k, hk, h1, h2⟩
    by_cases c : k < w
    · exact .inl ⟨k, c, h1, h2⟩
    · refine .inr ⟨fun t ht => h1 t (by omega), k - w, by omega, fun t ht => ?_, ?_⟩
      · have := h1 (w + t) (by omega)
        rw [← Nat.add_assoc, ← Nat.add_assoc] at this
        exact this
      · rw [Nat.add_assoc, Nat.add_assoc, show w + (k - w) = k by omega]
        exact h2
  · rintro (⟨k, hk, h1, h2⟩ | ⟨h, k, hk, h1, h2⟩)
    · exact ⟨k, by omega, h1, h2⟩
    · refine ⟨w + k, by omega, fun t ht => ?_, ?_⟩
      · by_cases c : t < w
        · exact h t c
        · have := h1 (t - w) (by omega)
          rw [Nat.add_assoc, Nat.add_assoc, show w + (t - w) = t by omega] at this
          exact this
      · rw [← Nat.add_assoc, ← Nat.add_assoc]
        exact h2
theorem pad_drop : ∀ (k : Nat) {ns : List Int} {i j : Nat}, (∀ x ∈ ns, 0 ≤ x) → (∀ t, t < k → pad ns (i + t) = pad ns (j + t)) → pad ns (i + k) < pad ns (j + k) → ns.drop i < ns.drop j
  | 0, ns, i, j, hn, _, h2 => by
    have hj : j < ns.length := by
      by_cases c : j < ns.length
      · exact c
      · rw [Nat.add_zero, Nat.add_zero, pad_end (i := j) (by omega)] at h2
        have := pad_nonneg hn i
        omega
    rw [List.drop_eq_getElem_cons hj]
    by_cases c : i < ns.length
    · rw [Nat.add_zero, Nat.add_zero, pad_at (List.getElem?_eq_getElem c), pad_at (List.getElem?_eq_getElem hj)] at h2
      rw [List.drop_eq_getElem_cons c]
      exact List.Lex.rel (by omega)
    · rw [List.drop_eq_nil_of_le (by omega)]
      exact List.Lex.nil
  | k + 1, ns, i, j, hn, h1, h2 => by
    have h0 := h1 0 (Nat.succ_pos k)
    rw [Nat.add_zero, Nat.add_zero] at h0
    have nx := pad_drop k (ns := ns) (i := i + 1) (j := j + 1) hn (fun t ht => by
      have := h1 (t + 1) (by omega)
      rw [show i + 1 + t = i + (t + 1) by omega, show j + 1 + t = j + (t + 1) by omega]
      exact this) (by
      rw [show i + 1 + k = i + (k + 1) by omega, show j + 1 + k = j + (k + 1) by omega]
      exact h2)
    by_cases c : i < ns.length
    · have a := pad_pos hn c
      have hj : j < ns.length := by
        by_cases d : j < ns.length
        · exact d
        · rw [pad_end (i := j) (by omega)] at h0
          omega
      rw [pad_at (List.getElem?_eq_getElem c), pad_at (List.getElem?_eq_getElem hj)] at h0
      rw [List.drop_eq_getElem_cons c, List.drop_eq_getElem_cons hj, show ns[i] = ns[j] by omega]
      exact List.Lex.cons nx
    · rw [pad_end (i := i) (by omega)] at h0
      have hj : ¬ j < ns.length := fun d => by
        have := pad_pos hn d
        omega
      rw [pad_end (i := i + (k + 1)) (by omega), pad_end (i := j + (k + 1)) (by omega)] at h2
      omega
theorem LtW.drop {ns : List Int} {w i j : Nat} (hn : ∀ x ∈ ns, 0 ≤ x) (h : LtW ns w i j) : ns.drop i < ns.drop j := by
  obtain ⟨k, _, h1, h2⟩ := h
  exact pad_drop k hn h1 h2
/-- rs are the ranks of ks: in their order, from 1 on -/
structure IsRank (ks rs : List Int) : Prop where
  len : rs.length = ks.length
  lo : ∀ x ∈ rs, 1 ≤ x ∧ x ≤ (ks.length : Int)
  lt : ∀ (i j : Nat) (a b x y : Int), ks[i]? = some a → ks[j]? = some b → rs[i]? = some x → rs[j]? = some y → (x < y ↔ a < b)
/-- rs are the ranks of the suffixes as far as their first w numbers -/
structure RankW (ns : List Int) (w : Nat) (rs : List Int) : Prop where
  len : rs.length = ns.length
  lo : ∀ x ∈ rs, 1 ≤ x ∧ x ≤ (ns.length : Int)
  lt : ∀ (i j : Nat) (x y : Int), rs[i]? = some x → rs[j]? = some y → (x < y ↔ LtW ns w i j)
theorem IsRank.one {ns rs : List Int} (h : IsRank ns rs) : RankW ns 1 rs := by
  refine ⟨h.len, h.lo, fun i j x y hi hj => ?_⟩
  have li : i < ns.length := by
    rw [← h.len]
    exact (List.getElem?_eq_some_iff.mp hi).1
  have lj : j < ns.length := by
    rw [← h.len]
    exact (List.getElem?_eq_some_iff.mp hj).1
  rw [h.lt i j _ _ x y (List.getElem?_eq_getElem li) (List.getElem?_eq_getElem lj) hi hj]
  constructor
  · intro c
    refine ⟨0, Nat.one_pos, fun t ht => absurd ht (Nat.not_lt_zero t), ?_⟩
    rw [Nat.add_zero, Nat.add_zero, pad_at (List.getElem?_eq_getElem li), pad_at (List.getElem?_eq_getElem lj)]
    omega
  · rintro ⟨k, hk, _, h2⟩
    obtain rfl : k = 0 := by omega
    rw [Nat.add_zero, Nat.add_zero, pad_at (List.getElem?_eq_getElem li), pad_at (List.getElem?_eq_getElem lj)] at h2
    omega
theorem RankW.eq {ns rs : List Int} {w i j : Nat} {x y : Int} (h : RankW ns w rs) (hi : rs[i]? = some x) (hj : rs[j]? = some y) : x = y ↔ EqW ns w i j := by
  have a := h.lt i j x y hi hj
  have b := h.lt j i y x hj hi
  constructor
  · intro e
    rcases tri ns i j w with c | c | c
    · have := a.mpr c
      omega
    · exact c
    · have := b.mpr c
      omega
  · intro e
    have c := mt a.mp e.not
    have d := mt b.mp e.symm.not
    omega
/-- what stands w behind i -/
def beh (rs : List Int) (w i : Nat) : Int := (rs[i + w]?).getD 0
theorem beh_lt {ns rs : List Int} {w i j : Nat} (hn : ∀ x ∈ ns, 0 ≤ x) (hw : 0 < w) (h : RankW ns w rs) : beh rs w i < beh rs w j ↔ LtW ns w (i + w) (j + w) := by
  unfold beh
  by_cases ci : i + w < rs.length
  · by_cases cj : j + w < rs.length
    · rw [List.getElem?_eq_getElem ci, List.getElem?_eq_getElem cj]
      exact h.lt _ _ _ _ (List.getElem?_eq_getElem ci) (List.getElem?_eq_getElem cj)
    · rw [List.getElem?_eq_getElem ci, List.getElem?_eq_none (by omega)]
      have a := h.lo _ (List.getElem_mem ci)
      refine ⟨fun z => ?_, fun z => ?_⟩
      · have z' : rs[i + w] < 0 := z
        omega
      · obtain ⟨k, _, h1, h2⟩ := z
        rw [h.len] at ci cj
        rw [pad_end (i := j + w + k) (by omega)] at h2
        have := pad_nonneg hn (i + w + k)
        omega
  · by_cases cj : j + w < rs.length
    · rw [List.getElem?_eq_none (by omega), List.getElem?_eq_getElem cj]
      have a := h.lo _ (List.getElem_mem cj)
      refine ⟨fun _ => ⟨0, hw, fun t ht => absurd ht (Nat.not_lt_zero t), ?_⟩, fun _ => ?_⟩
      · rw [h.len] at ci cj
        rw [Nat.add_zero, Nat.add_zero, pad_end (by omega)]
        have := pad_pos hn cj
        omega
      · show (0 : Int) < rs[j + w]
        omega
    · rw [List.getElem?_eq_none (by omega), List.getElem?_eq_none (by omega)]
      refine ⟨fun z => absurd z (Int.lt_irrefl _), fun z => ?_⟩
      obtain ⟨k, _, h1, h2⟩ := z
      rw [h.len] at ci cj
      rw [pad_end (i := j + w + k) (by omega), pad_end (i := i + w + k) (by omega)] at h2
      exact absurd h2 (Int.lt_irrefl _)
theorem beh_lo {ns rs : List Int} {w : Nat} (h : RankW ns w rs) (i : Nat) : 0 ≤ beh rs w i ∧ beh rs w i ≤ (ns.length : Int) := by
  unfold beh
  by_cases ci : i + w < rs.length
  · rw [List.getElem?_eq_getElem ci]
    have a := h.lo _ (List.getElem_mem ci)
    show 0 ≤ rs[i + w] ∧ rs[i + w] ≤ _
    omega
  · rw [List.getElem?_eq_none (by omega)]
    show (0 : Int) ≤ 0 ∧ (0 : Int) ≤ _
    omega
theorem key_lt {n x y b d : Int} (b0 : 0 ≤ b) (b1 : b ≤ n) (d0 : 0 ≤ d) (d1 : d ≤ n) : (n + 1) * x + b < (n + 1) * y + d ↔ x < y ∨ (x = y ∧ b < d) := by
  have up : ∀ {u v : Int}, u < v → (n + 1) * u + (n + 1) ≤ (n + 1) * v := fun {u v} h => by
    have e : v = u + 1 + (v - u - 1) := by omega
    have p : 0 ≤ (n + 1) * (v - u - 1) := Int.mul_nonneg (by omega) (by omega)
    rw [e, Int.mul_add, Int.mul_add, Int.mul_one]
    omega
  rcases Int.lt_trichotomy x y with c | c | c
  · have := up c
    constructor
    · intro _
      exact .inl c
    · intro _
      omega
  · subst c
    omega
  · have := up c
    omega
/-- the keys of the next ranks -/
def keysOf (rs : List Int) (w : Nat) : List Int := (List.range rs.length).map fun i => ((rs.length : Int) + 1) * rs.getD i 0 + beh rs w i
theorem keysOf_len (rs : List Int) (w : Nat) : (keysOf rs w).length = rs.length := by
  unfold keysOf
  rw [List.length_map, List.length_range]
theorem keysOf_at {rs : List Int} {w i : Nat} {x : Int} (h : rs[i]? = some x) : (keysOf rs w)[i]? = some (((rs.length : Int) + 1) * x + beh rs w i) := by
  unfold keysOf
  rw [List.getElem?_map, List.getElem?_range (List.getElem?_eq_some_iff.mp h).1]
  have e : rs.getD i 0 = x := by
    rw [List.getD_eq_getElem?_getD, h]
    rfl
  show some (((rs.length : Int) + 1) * rs.getD i 0 + beh rs w i) = _
  rw [e]
theorem RankW.next {ns rs qs : List Int} {w : Nat} (hn : ∀ x ∈ ns, 0 ≤ x) (hw : 0 < w) (h : RankW ns w rs) (q : IsRank (keysOf rs w) qs) : RankW ns (w + w) qs := by
  have hl : qs.length = ns.length := by rw [q.len, keysOf_len, h.len]
  refine ⟨hl, fun x hx => ?_, fun i j a b hi hj => ?_⟩
  · have := q.lo x hx
    rw [keysOf_len, h.len] at this
    exact this
  · have li : i < rs.length := by
      rw [h.len, ← hl]
      exact (List.getElem?_eq_some_iff.mp hi).1
    have lj : j < rs.length := by
      rw [h.len, ← hl]
      exact (List.getElem?_eq_some_iff.mp hj).1
    have ei := List.getElem?_eq_getElem li
    have ej := List.getElem?_eq_getElem lj
    have bi := beh_lo h i
    have bj := beh_lo h j
    rw [← h.len] at bi bj
    rw [q.lt i j _ _ a b (keysOf_at ei) (keysOf_at ej) hi hj, key_lt bi.1 bi.2 bj.1 bj.2, ltw_double, h.lt i j _ _ ei ej, h.eq ei ej, beh_lt hn hw h]
theorem snocI {α : Type} {p : List α → Prop} (h0 : p []) (h1 : ∀ l k, p l → p (l ++ [k])) (l : List α) : p l := by
  have h : ∀ r : List α, p r.reverse := fun r => by
    induction r with
    | nil => exact h0
    | cons a r ih =>
      rw [List.reverse_cons]
      exact h1 _ _ ih
  have := h l.reverse
  rwa [List.reverse_reverse] at this
theorem oss_nodup : ∀ (l : List Int), l.Nodup → (ossOf l).length = l.length := by
  refine snocI (fun _ => rfl) fun l k ih => ?_
  · intro h
    have hp := (List.perm_append_singleton k l).nodup_iff.mp h
    obtain ⟨h1, h2⟩ := List.nodup_cons.mp hp
    rw [oss_next, if_neg (fun z => h1 (oss_has.mp z)), List.length_append, List.length_append, ih h2]
theorem nodup_oss : ∀ (l : List Int), l.length ≤ (ossOf l).length → l.Nodup := by
  refine snocI (fun _ => List.nodup_nil) fun l k ih => ?_
  · intro h
    have ol := oss_len l
    rw [oss_next, List.length_append] at h
    by_cases m : k ∈ ossOf l
    · rw [if_pos m] at h
      simp at h
      omega
    · rw [if_neg m, List.length_append] at h
      simp only [List.length_singleton] at h
      exact (List.perm_append_singleton k l).nodup_iff.mpr (List.nodup_cons.mpr ⟨fun z => m (oss_has.mpr z), ih (by omega)⟩)
theorem RankW.all {ns rs : List Int} {w : Nat} (hn : ∀ x ∈ ns, 0 ≤ x) (hw : ns.length ≤ w) (h : RankW ns w rs) : rs.Nodup := by
  rw [List.nodup_iff_pairwise_ne, List.pairwise_iff_getElem]
  intro i j hi hj hij e
  have q := (h.eq (List.getElem?_eq_getElem hi) (List.getElem?_eq_getElem hj)).mp e
  rw [h.len] at hj
  have := q (ns.length - j) (by omega)
  rw [pad_end (i := j + (ns.length - j)) (by omega)] at this
  have := pad_pos hn (show i + (ns.length - j) < ns.length by omega)
  omega
theorem inc_exact : ∀ (l : List Int) (a : Int), l.Pairwise (· < ·) → (∀ x ∈ l, a < x ∧ x ≤ a + l.length) → ∀ i x, l[i]? = some x → x = a + 1 + (i : Nat)
  | [], _, _, _, i, x, h => by simp at h
  | d :: r, a, p, b, i, x, h => by
    obtain ⟨p1, p2⟩ := List.pairwise_cons.mp p
    have bd := b d List.mem_cons_self
    have ih := inc_exact r (a + 1) p2 fun y hy => by
      have := b y (List.mem_cons_of_mem _ hy)
      have := p1 y hy
      rw [List.length_cons] at *
      omega
    cases i with
    | zero =>
      obtain rfl : d = x := by simpa using h
      cases r with
      | nil =>
        simp at bd
        simp
        omega
      | cons e r' =>
        have := ih 0 e rfl
        have := p1 e List.mem_cons_self
        simp at *
        omega
    | succ i =>
      have := ih i x (by simpa using h)
      omega
theorem starts_pw (ns : List Int) : (starts ns).Pairwise fun x y => ns.drop x ≤ ns.drop y := by
  have h := List.pairwise_mergeSort (le := fun x y : Nat => decide (ns.drop x ≤ ns.drop y)) (fun a b c h1 h2 => decide_eq_true (List.le_trans (of_decide_eq_true h1) (of_decide_eq_true h2)))
    (fun a b => by
      rcases List.le_total (ns.drop a) (ns.drop b) with c | c
      · rw [decide_eq_true c]
        rfl
      · rw [decide_eq_true c, Bool.or_true]) (List.range ns.length)
  exact h.imp fun h => of_decide_eq_true h
theorem starts_nodup (ns : List Int) : (starts ns).Nodup := (starts_perm ns).nodup_iff.mpr List.nodup_range
/-- where the ranks differ all, they tell the places in the sorted list -/
theorem RankW.place {ns rs : List Int} {w : Nat} (hn : ∀ x ∈ ns, 0 ≤ x) (h : RankW ns w rs) (nd : rs.Nodup) {p s : Nat} (hp : (starts ns)[p]? = some s) : rs[s]? = some ((p : Int) + 1) := by
  have mem : ∀ x ∈ starts ns, x < rs.length := fun x hx => by
    rw [h.len]
    exact starts_lt hx
  have pw : ((starts ns).map fun x => rs.getD x 0).Pairwise (· < ·) := by
    rw [List.pairwise_map]
    have both := (starts_pw ns).and (List.nodup_iff_pairwise_ne.mp (starts_nodup ns))
    refine both.imp_of_mem fun {x y} hx hy c => ?_
    have ex := List.getElem?_eq_getElem (mem x hx)
    have ey := List.getElem?_eq_getElem (mem y hy)
    rw [List.getD_eq_getElem?_getD, List.getD_eq_getElem?_getD, ex, ey]
    show rs[x]'(mem x hx) < rs[y]'(mem y hy)
    rcases Int.lt_trichotomy (rs[x]'(mem x hx)) (rs[y]'(mem y hy)) with z | z | z
    · exact z
    · exact absurd ((List.getElem_inj nd).mp z) c.2
    · have l := ((h.lt y x _ _ ey ex).mp z).drop hn
      exact absurd l (List.not_lt.mpr c.1)
  have bd : ∀ x ∈ (starts ns).map fun x => rs.getD x 0, 0 < x ∧ x ≤ 0 + (((starts ns).map fun x => rs.getD x 0).length : Int) := fun x hx => by
    obtain ⟨t, ht, rfl⟩ := List.mem_map.mp hx
    rw [List.getD_eq_getElem?_getD, List.getElem?_eq_getElem (mem t ht), List.length_map, starts_len]
    have := h.lo _ (List.getElem_mem (mem t ht))
    show 0 < rs[t]'(mem t ht) ∧ rs[t]'(mem t ht) ≤ _
    omega
  have e := inc_exact _ 0 pw bd p (rs.getD s 0) (by rw [List.getElem?_map, hp]; rfl)
  have hs := mem s (List.mem_of_getElem? hp)
  rw [List.getD_eq_getElem?_getD, List.getElem?_eq_getElem hs] at e
  rw [List.getElem?_eq_getElem hs]
  refine congrArg some ?_
  have e' : rs[s] = 0 + 1 + (p : Int) := e
  omega
end
/-! ### set(xs) and sorted(set(xs)) of a list of ints, any number below the scan's bound -/
section
open PySem PySem.Spec PyProof.Rows L2 PySem.W
section
variable {P : Program} {w : World} {A : Around} {E : Value → Shared → Prop} {s : Shared}
abbrev nSet (w : World) : Obj := { cls := .type "set", dict := none, data := .set #[] 0 (.fresh 0 0 (!w.params.followText "set-order")) }
set_option maxHeartbeats 3200000 in
theorem call_set_lst {l : Addr} {items : Array Value} (ns : List Int) {Q : Value → Shared → Prop} (hh : A.handled = none) (hl : s.heap.IsList l items) (hit : IntsAre items.toList ns) (hb : ns.length + 1 < scanBound)
    (h : ∀ (h' : Heap) (tk c : Nat), SetR w h' s.heap.objs.size (fun j => decide (j ∈ ns)) c → c ≤ ns.length → (∀ b o, s.heap.get? b = some o → h'.get? b = some o) → Q (.ref s.heap.objs.size) { s with heap := h', toks := tk }) :
    wpAny (model P w) A (call (.type "set") [.ref l]) Q E s := by
  have hisz : items.size = ns.length := by rw [← Array.length_toList]; exact IntsAre.length hit
  obtain ⟨c, tl, hmro⟩ := F.called_set.mro
  have hmade := F.called_set.made
  have hsub := F.called_set.sub
  have h1 := F.called_set.notType
  have h2 := F.called_set.canCreate
  have hct := F.typeCall_set_1 (.ref l)
  refine wpAny_call (codeAny_of_tree (show wpAny _ _ (callAny (.type "set") _) _ _ _ from wpAny_pure ⟨Code.quiet_builtin _ (by decide +kernel), codeAny_builtin F.entry_type_call ?_⟩))
  rw [Around.under_plain (weight_type_call_type "set" [.ref l] []) rfl]
  repeat (any_goals (first | assumption | wp_step))
  refine codeAny_mono (code_set_led1 (.ref l) (E := E) (Q₁ := fun ob s₁ => ob = .ref s.heap.objs.size ∧ s₁ = { s with heap := s.heap.push (nSet w) }) ⟨rfl, rfl⟩) fun r s₁ hr => ?_
  cases r with
  | error e => exact hr
  | ok fl =>
    cases fl with
    | ret ob =>
      obtain ⟨rfl, rfl⟩ := hr
      have hS : (s.heap.push (nSet w)).get? s.heap.objs.size = some (nSet w) := Heap.get?_push_size _ rfl
      have hT : Shared.TypeIs { s with heap := s.heap.push (nSet w) } (.ref s.heap.objs.size) "set" := ⟨_, hS, rfl⟩
      have hli := F.called_set.init.lookup
      have hbi := F.called_set.init.bind (.ref s.heap.objs.size)
      repeat (any_goals (first | assumption | wp_step))
      refine codeAny_mono (codeAny_call_builtin (R := wants (fun r s₂ => r = .none ∧ ∃ h' tk c, s₂ = { s with heap := h', toks := tk } ∧ SetR w h' s.heap.objs.size (fun j => decide (j ∈ ns)) c ∧ c ≤ ns.length ∧ ∀ b o, s.heap.get? b = some o → h'.get? b = some o) E)
        F.called_set.init.plain F.entry_set_init (check_set_init_1 hT ?_)) fun r₂ s₂ hr₂ => ?_
      · obtain ⟨⟨ocls, odict, odata, oslots⟩, hol, hcl, nl, hdl⟩ := hl
        simp only at hcl hdl
        subst hcl; subst hdl
        have hlS : l < s.heap.objs.size := Heap.lt_size hol
        have hol' : (s.heap.push (nSet w)).get? l = some { cls := .type "list", dict := odict, data := .seq items nl, slots := oslots } := Heap.get?_push_of_some _ hol
        have hsls := F.sub_list_set
        have hslf := F.sub_list_frozenset
        have hne : (Value.type "list" == Value.type "dict") = false := by decide
        have hl1 : (s.heap.push (nSet w)).IsList l items := ⟨_, hol', rfl, nl, rfl⟩
        have hh3 : A.in1.in1.in1.handled = none := by simp [hh]
        have hz1 : (s.heap.push (nSet w)).objs.size = s.heap.objs.size + 1 := Heap.size_push ..
        have hneI : l ≠ (s.heap.push (nSet w)).objs.size := by rw [hz1]; exact Nat.ne_of_lt (Nat.lt_succ_of_lt hlS)
        have hSf : s.heap.objs.size ∉ [(s.heap.push (nSet w)).objs.size, l] := by
          rw [hz1]
          simp only [List.mem_cons, List.not_mem_nil, or_false, not_or]
          exact ⟨Nat.ne_of_lt (Nat.lt_succ_self _), Nat.ne_of_gt hlS⟩
        have hval : ∀ (i : Nat) (v : Value), items[i]? = some v → ∃ k t, ns[i]? = some k ∧ v = .int k t := fun i v hv => by
          have hi : i < ns.length := by rw [← hisz]; exact (Array.getElem?_eq_some_iff.mp hv).1
          obtain ⟨t, e⟩ := PyProof.Rows.IntsAre.int_at hit i v (by rw [Array.getElem?_toList]; exact hv)
          refine ⟨ns[i], t, List.getElem?_eq_getElem hi, ?_⟩
          rw [e, List.getD_eq_getElem?_getD, List.getElem?_eq_getElem hi] <;> rfl
        unfold Builtin.«set.__init__» noKeywords Builtin.Frozenset.updateFrom
        generalize hPI : pyIter = PI
        wp_walk
        subst hPI
        refine wpAny_pyIter_list hl1 (wpAny_bind (wpAny_runValue ?_))
        refine set_update_ints ((Walks.list hh3 _ l hneI items).toS) s.heap.objs.size hSf ns hisz hb hval (items.size - 0) 0 _ (by omega) (Nat.zero_le _) ⟨⟨_, Heap.get?_push_size _ rfl, rfl, rfl⟩, (hl1.push _)⟩ ?hS0 ?hR
        case hS0 => exact ⟨0, Nat.le_refl 0, setR_new_at (Heap.get?_push_of_some _ hS)⟩
        case hR =>
          rintro ⟨h', g2, d', tk', os'⟩ c' hm hc' hS'
          obtain rfl : g2 = s.gens := hm.gens
          obtain rfl : d' = s.drawn := hm.drawn
          obtain rfl : os' = s.os := hm.os
          show wpAny _ _ _ _ _ _
          refine wpAny_pure ?_
          show wpAny _ _ (ret Value.none) _ _ _
          refine wpAny_pure ⟨rfl, h', tk', c', rfl, hS', by omega, fun b o e => ?_⟩
          have hb0 : b < s.heap.objs.size := Heap.lt_size e
          refine hm.heap b o ?_ (Heap.get?_push_of_some _ (Heap.get?_push_of_some _ e))
          rw [hz1]
          simp only [List.mem_cons, List.not_mem_nil, or_false, not_or]
          exact ⟨Nat.ne_of_lt hb0, Nat.ne_of_lt (Nat.lt_succ_of_lt hb0)⟩
      · cases r₂ with
        | error e => exact hr₂
        | ok fl₂ =>
          cases fl₂ with
          | ret r =>
            obtain ⟨rfl, h', tk, c', rfl, hS', hc', hk'⟩ := hr₂
            repeat (any_goals (first | assumption | wp_step))
            exact h _ _ _ hS' hc' hk'
          | _ => exact hr₂.elim
    | _ => exact hr.elim
theorem sorted_setAll {a : Addr} {S : Int → Bool} {n : Nat} {Q : Value → Shared → Prop} (R : SetR w s.heap a S n) (hh : A.handled = none)
    (hQ : ∀ s' p (out : Array Value) (c : Nat) (ns : List Int), (∀ b o, s.heap.get? b = some o → s'.heap.get? b = some o) → s'.gens = s.gens → s'.os = s.os → s.heap.objs.size ≤ p →
      s'.heap.get? p = some (seqObj "list" out c) → IntsAre out.toList ns → ns.Pairwise (· < ·) → (∀ k, k ∈ ns ↔ S k = true) → ns.length = n → Q (.ref p) s') : wpAny (model P w) A (call (.builtin "sorted") [.ref a]) Q E s := by
  obtain ⟨o, es, ep, t, ho, hex, hd, g, nd, hm, hb, hf, hn, hr, hl⟩ := R
  refine Calls.call_function_entry kind_sorted plain_sorted entry_sorted (args_sorted1 _) ?_
  unfold Builtin.«sorted»
  refine wpAny_bind (m := checkCount "sorted" 1 1 _) (wpAny_pure (wpAny_bind (collect_set (A := A.in1) hh ⟨o, ho, hex.1, hd⟩ hf hb hr hl fun s1 vs k1 hz g1 o1 pm => ?_)))
  have hvl : vs.length = n := by rw [pm.length_eq, List.length_map, Array.length_toList]; exact hn
  have hvz : vs.length ≤ sizeLine := by
    rw [pm.length_eq, List.length_map, Array.length_toList]
    exact fits_of_scanBound hb
  have hI : IntsAre vs (vs.map Builtin.Re.reRawOf) := ints_of vs fun v hv => by
    obtain ⟨e, he, q⟩ := List.mem_map.mp (pm.mem_iff.mp hv)
    obtain ⟨k, tk, h1, _⟩ := g e he
    exact ⟨k, tk, by rw [← q]; exact h1⟩
  have pk : (vs.map Builtin.Re.reRawOf).Perm (es.toList.map keyOf) := by
    have q := pm.map Builtin.Re.reRawOf
    rw [List.map_map] at q
    exact q
  refine wpAny_bind (wpAny_newList ?_ hvz)
  have hoL : (s1.heap.push (seqObj "list" vs.toArray 0)).get? s1.heap.objs.size = some (seqObj "list" vs.toArray 0) := Heap.get?_push_size _ rfl
  refine wpAny_bind (wpAny_holding (wpAny_call_entry slot_list_sort ⟨_, hoL, rfl⟩ entry_list_sort (SrtO.list_sort_ord SrtO.swo_int hoL hvz (fun h2 => SrtO.ints_sortable hI h2) fun out a1 a2 => ⟨_, rfl, ?_⟩) (args_list_sort _)))
  obtain ⟨k1', k2', k3'⟩ := SrtO.ints_out hI a1 a2
  obtain ⟨c, hc⟩ := sortedHeap_at (vs := vs) (out := out.toArray) hoL
  have pn : (out.map SrtO.iv).Perm (es.toList.map keyOf) := k2'.trans pk
  refine wpAny_pure ⟨_, rfl, hQ _ s1.heap.objs.size out.toArray c (out.map SrtO.iv) (fun b u e => ?_) g1 o1 hz hc (by simpa using k1') (lt_of_le_nodup _ k3' (pn.nodup_iff.mpr nd)) (fun k => by rw [pn.mem_iff, ← hm k]) ?_⟩
  · have q := k1 b u e
    have hlt := Heap.lt_size q
    show (sortedHeap (s1.heap.push (seqObj "list" vs.toArray 0)) s1.heap.objs.size vs out.toArray).get? b = some u
    rw [sortedHeap_old (Nat.ne_of_lt hlt) (by rw [size_push']; exact Nat.lt_succ_of_lt hlt)]
    exact Heap.get?_push_of_some _ q
  · rw [pn.length_eq, List.length_map, Array.length_toList]
    exact hn
end
variable {X : Cx}
/-- set(xs) of a list of ints -/
def rSetL (K : PySem.W.Frag) (w : World) : List V → Hp → VK → Prop := fun xs H Q => ∃ (l : Addr) (ns : List Int), xs = [V.ref l] ∧ SqL K H l (ns.map V.int) ∧ ns.length ≤ 4000 ∧ ∀ (p : Addr) (c : Nat), c ≤ ns.length → H p = none → Q (.ref p) (upd H p (SetO w p (fun j => decide (j ∈ ns)) c))
theorem cr_setL (hc : X.calm = true) : CallR X (.type "set") (rSetL X.K X.w) := by
  intro pins s σ H xs us Q I r h
  obtain ⟨l, ns, rfl, hq, hz, q⟩ := h
  obtain ⟨its, rv, pl, hz'⟩ := I.list hq
  rw [Vals.ref1 r]
  refine call_set_lst ns (I.ok.hd hc) pl.isList (by simpa using rv.ints) (by unfold scanBound; omega) fun h' tk c hS hcl hk => ?_
  exact ⟨.ref _, upd H s.heap.objs.size (SetO X.w s.heap.objs.size (fun j => decide (j ∈ ns)) c), I.laid (t' := tk) hk (Nat.le_refl _) (setO_new hS), rfl, q _ c hcl (I.hok.fresh (Nat.le_refl _))⟩
/-- sorted(found) of a set of ints, any number of them -/
def rSortedSetAll (w : World) : List V → Hp → VK → Prop := fun vs H Q => ∃ (a : Addr) (S : Int → Bool) (n : Nat), vs = [V.ref a] ∧ H a = some (SetO w a S n) ∧ n ≤ 4000 ∧
  ∀ (ns : List Int) (p : Addr), ns.Pairwise (· < ·) → (∀ k : Int, k ∈ ns ↔ S k = true) → ns.length = n → H p = none → Q (.ref p) (upd H p (.lst (ns.map V.int)))
theorem cr_sortedSetAll (hc : X.calm = true) : CallR X (.builtin "sorted") (rSortedSetAll X.w) := by
  intro pins s σ H vs us Q I r h
  obtain ⟨a, S, n, rfl, ha, hn4, q⟩ := h
  rw [Vals.ref1 r]
  refine sorted_setAll (setO_get I ha) (I.ok.hd hc) fun s' p out c ns k g o hp hg hi hs hm hl => ?_
  have hlen : (ns.map V.int).length ≤ sizeLine := line_ok6 (by rw [List.length_map]; omega)
  have hn : H p = none := I.hok.fresh hp
  have J : Inv X pins σ (upd H p (.lst (ns.map V.int))) { s with heap := s'.heap, gens := s'.gens, drawn := s'.drawn, toks := s'.toks } :=
    I.call (ch := []) (Un.laid k hp hn) (I.hok.laid k hp ⟨hlen, out.toList, c, vals_of_ints hi, hg⟩) (by rw [g]; exact I.bare) (fun _ z => nomatch z)
  have e : s' = { s with heap := s'.heap, gens := s'.gens, drawn := s'.drawn, toks := s'.toks } := by
    cases s'
    cases s
    cases o
    rfl
  rw [e]
  exact ⟨.ref p, _, J, rfl, q ns p hs hm hl hn⟩
/-- len(set(xs)) of a list of ints -/
def tLenSetAll (K : PySem.W.Frag) (ta : TE) : TE := fun σ H Q => ta σ H fun x H1 => ∃ (l : Addr) (ns : List Int), x = .ref l ∧ SqL K H1 l (ns.map V.int) ∧ ns.length ≤ 4000 ∧ Q (.int ((ossOf ns).length : Nat)) H1
theorem pe_lenSetAll {a : Expr} {ta : TE} {p p2 q pos : Pos} (hg : Gl X "len") (hm : X.mg "len" = none) (hg2 : Gl X "set") (hm2 : X.mg "set" = none) (ha : PE X a ta) (hc : X.calm = true := by rfl)
    (na : starEach [a] X.env = (false, eval a X.env) :: starEach [] X.env := by rfl) : PE X (.Call (.Name "len" p) [.Call (.Name "set" p2) [a] [] q] [] pos) (tLenSetAll X.K ta) := by
  constructor
  intro pins s σ H Q I h
  refine Call_ (ld_blt I hg hm boot_len (PyProof.Rows.callWith_builtin1 (PyProof.Rows.args_cons (Call_ (ld_blt I hg2 hm2 boot_set ?_)) rfl) rfl rfl))
  refine PyProof.Rows.callWith_type1 (PyProof.Rows.args_cons (thn (ha.run pins s σ H _ I h) fun v s1 ⟨x, H1, I1, r1, q1⟩ => PyProof.Rows.args_nil ?_) na) na rfl
  obtain ⟨l, ns, rfl, hq, hl, q1⟩ := q1
  cases r1
  obtain ⟨its, r, pl, hz⟩ := I1.list hq
  have hlen : its.toArray.size = ns.length := by rw [List.size_toArray, ← r.length, List.length_map]
  refine call_set_list (I1.ok.hd hc) pl.isList (by simpa using r.ints) (by rw [hlen]; unfold scanBound; omega) fun h' tk hS hk => PyProof.Rows.args_nil ?_
  rw [hlen, oss_met] at hS
  obtain ⟨o, es, ep, t, ho, hex, hd, _, _, _, hf, hn⟩ := hS
  have I2 : Inv X pins σ H1 { s1 with heap := h', toks := tk } := I1.kept fun b o e => hk b o (Heap.lt_size e) e
  have ol := oss_len ns
  exact call_len_set ho hex hd hf (by rw [hn] <;> omega) ⟨.int (ossOf ns).length, H1, I2.tok _, ⟨_, by rw [hn]⟩, q1⟩
end
/-! ### enumerate(xs, start=k) -/
section
open PySem PySem.Spec PyProof.Rows L2 PySem.W
theorem callWith_kwT {M : Model} {A : Around} {E : Value → Shared → Prop} {s : Shared} {env : Env} {pos : Pos} {U : String} {e : Expr} {rest : List Expr} {kws : List Keyword} {Q : Value → Shared → Prop}
    (h : wpAny M A (spliced (backTo pos (starEach (e :: rest) env))) (fun vs s₁ => wpAny M A (evalAll ((backToKw pos (keywordEach kws env)).map (·.2))) (fun kvs s₂ => wpAny M A (call (.type U) vs (((backToKw pos (keywordEach kws env)).filterMap (·.1)).zip kvs)) Q E s₂) E s₁) E s)
    (he : backTo pos (starEach (e :: rest) env) = (false, eval e env) :: backTo pos (starEach rest env)) (hplain : (backTo pos (starEach (e :: rest) env)).any (·.1) = false)
    (hall : (backToKw pos (keywordEach kws env)).all (·.1.isSome) = true) (hkw : (backToKw pos (keywordEach kws env)).any (·.1.isNone) = false) :
    wpAny M A (callWith pos (.type U) [] (backTo pos (starEach (e :: rest) env)) (backToKw pos (keywordEach kws env))) Q E s := by
  have h2 : wpAny M A (evalArgs (.type U) true (backTo pos (starEach (e :: rest) env)) (backToKw pos (keywordEach kws env))) (fun a s₁ => wpAny M A (call (.type U) ([] ++ a.pos) a.kw) Q E s₁) E s := by
    rw [he] at h ⊢
    exact evalArgs_kwB hall h
  unfold callWith
  refine wpAny_bind (wpAny_holding (wpAny_mono h2 (fun a s₁ h₁ => wpAny_bind (wpAny_standAt ?_)) fun _ _ x => x))
  simp only [hplain, hkw, Bool.or_false]
  refine wpAny_bind (wpAny_pure ?_)
  exact wpAny_bind (wpAny_mono h₁ (fun r s₂ hr => wpAny_bind (wpAny_holding (wpAny_point (wpAny_pure hr)))) fun _ _ x => x)
/-- the list at a as it stands at each turn, each item in a new pair with its number from k on -/
def ItS (K : PySem.W.Frag) (k : Int) (a : Addr) : It :=
  ⟨fun i H => ∃ (xs : List V) (x : V), SqL K H a xs ∧ xs[i]? = some x, fun i H v H' => ∃ T x, v = .ref T ∧ H T = none ∧ H' = upd H T (.tup [.int (k + (i : Nat)), x]) ∧ ∀ xs, SqL K H a xs → xs[i]? = some x, fun i H => ∃ xs : List V, SqL K H a xs ∧ xs.length = i⟩
theorem turn_enumS {P : Program} {w : World} {K : PySem.W.Frag} {elts : List Expr} {kk : Nat} {tpos : Pos} (k : Int) (a e it : Addr) (hea : e ≠ a) (hai : a ≠ it) (hne : e ≠ it) :
    Turn P w K (.Tuple elts kk tpos) (ItS K k a) [e, it] e (fun i h => (∃ old, IsEnum h e it (k + ((i : Nat) : Int)) old) ∧ h.IsListIter it a i) where
  mem := by simp
  obj := fun i h st b hb => by
    obtain ⟨⟨old, he⟩, ⟨o, ho, hc, hd⟩⟩ := st
    rcases (show b = e ∨ b = it by simpa using hb) with z | z
    · rw [z]
      exact ⟨_, he, fun v q => nomatch q⟩
    · rw [z]
      exact ⟨o, ho, fun v q => by rw [hd] at q; cases q⟩
  keep := fun i h h' st k => let ⟨⟨old, he⟩, hi⟩ := st; ⟨⟨old, k e (by simp) _ he⟩, hi.at fun o q => k it (by simp) o q⟩
  item := by
    intro X hP hw hK hc i pins s σ H E I hf st hg
    subst hP hw hK
    obtain ⟨⟨old, he⟩, hit⟩ := st
    obtain ⟨xs, x, hq, hx⟩ := hg
    obtain ⟨its, rv, p, hz⟩ := I.list hq
    obtain ⟨u, hu, ru⟩ := rv.get hx
    have hel : e < s.heap.objs.size := Heap.lt_size he
    have hil : it < s.heap.objs.size := by obtain ⟨_, q, _⟩ := hit; exact Heap.lt_size q
    have hin : i < its.toArray.size := by
      rw [List.size_toArray]
      exact (List.getElem?_eq_some_iff.mp hu).1
    have hef : e ∉ [it, a] := by
      simp only [List.mem_cons, List.not_mem_nil, or_false, not_or]
      exact ⟨hne, hea⟩
    refine wpAny_pyNext_enum_itemC (Draws.list (by simpa using I.ok.hd hc) it a hai its.toArray) he ⟨hit, p.isList⟩ hin hne hef fun x1 h' tk hx1 ho hst' hT hsz hk => ?_
    obtain rfl : x1 = u := by
      rw [List.getElem?_toArray, hu] at hx1
      exact (Option.some.inj hx1).symm
    refine ⟨_, rfl, wpAny_letOwnedTupleGo_enum (s := { s with heap := h', toks := tk + 1 }) ho fun h'' he' sb => ?_⟩
    have hT2 : h''.get? s.heap.objs.size = some { cls := .type "tuple", data := .seq #[.int (k + (i : Int)) tk, x1] } := (sb.2 _ (Nat.ne_of_gt hel)).trans hT
    have new : ObjOk X.prog X.w (upd H s.heap.objs.size (.tup [.int (k + (i : Nat)), x])) h'' s.heap.objs.size (.tup [.int (k + (i : Nat)), x]) :=
      ⟨by show 2 ≤ sizeLine; decide, [.int (k + (i : Int)) tk, x1], .cons ⟨_, rfl⟩ (.cons ru .nil), ⟨_, hT2, rfl, _, rfl⟩⟩
    have I1 : Inv X pins σ (upd H s.heap.objs.size (.tup [.int (k + (i : Nat)), x])) { s with heap := h'', toks := tk + 1 } :=
      I.turnedNew (ch := [e, it]) (fun b ob hb q => (sb.2 b (fun z => hb (by simp [z]))).trans (hk b ob (fun z => hb (by simp [z])) (fun z => hb (by simp [z])) q)) hf (Nat.le_refl _) new
    refine ⟨.ref s.heap.objs.size, _, I1, rfl, ⟨_, x, rfl, I.hok.fresh (Nat.le_refl _), rfl, fun ys hy => by rw [I.list_inj hy hq]; exact hx⟩, ⟨⟨x1, ?_⟩, hst'.1.at fun o q => (sb.2 it (Ne.symm hne)).trans q⟩, fun b hb => ?_⟩
    · rw [show k + ((i + 1 : Nat) : Int) = k + (i : Int) + 1 by omega]
      exact he'
    · have hb' : b < s.heap.objs.size := by
        rcases (show b = e ∨ b = it by simpa using hb) with z | z
        · rw [z]; exact hel
        · rw [z]; exact hil
      rw [upd_ne (Nat.ne_of_lt hb')]
      exact (hf b hb).1
  done := by
    intro X hP hw hK hc i pins s σ H E I hf st hg
    subst hP hw hK
    obtain ⟨⟨old, he⟩, hit⟩ := st
    obtain ⟨xs, hq, hx⟩ := hg
    obtain ⟨its, rv, p, hz⟩ := I.list hq
    obtain ⟨f0, f1, f2, f3, f4, f5⟩ := hf it (by simp)
    have hl := rv.length
    have hin : i = its.toArray.size := by
      rw [List.size_toArray]
      omega
    refine wpAny_pyNext_enum_endD (Draws.list (by simpa using I.ok.hd hc) it a hai its.toArray) he ⟨?_, p.isList⟩ fun h' eb => ⟨rfl, I.turned (t' := s.toks) (fun b o hb q => eb b o hb q) f0 f1 f3 f4 f5⟩
    rw [← hin]
    exact hit
  self := fun A i s Q E st h => let ⟨⟨_, he⟩, _⟩ := st; wpAny_pyIter_enum he h
def iEnumS (K : PySem.W.Frag) (k : Int) (ta : TA) : TI := fun σ H R => ta σ H fun vs H1 => ∃ a xs, vs = [.ref a] ∧ SqL K H1 a xs ∧ R (ItS K k a) H1
theorem pi_enumS {X : Cx} {e : Expr} {ta : TA} {k : Int} {j : Nat} {p pos tpos cp kp : Pos} {elts : List Expr} {kk : Nat} (hg : Gl X "enumerate") (hm : X.mg "enumerate" = none) (ha : PA X [e] ta) (hk0 : -(2 ^ 63) ≤ k) (hk1 : k < 2 ^ 63)
    (he1 : backTo pos (starEach [e] X.env) = (false, eval e X.env) :: backTo pos (starEach [] X.env) := by rfl) (hpl : (backTo pos (starEach [e] X.env)).any (·.1) = false := by rfl) :
    PI X (.Tuple elts kk tpos) (.Call (.Name "enumerate" p) [e] [⟨some "start", .Constant (.int k) j cp, kp⟩] pos) (iEnumS X.K k ta) := by
  constructor
  intro pins s σ H R I h
  refine wpAny_Call_Name_kw (ld_blt I hg hm boot_enumerate ?_)
  refine callWith_kwT (thn (ha.run pos pins s σ H _ I h) fun us s1 ⟨vs, H1, I1, r1, q1⟩ => ?_) he1 hpl (by rfl) (by rfl)
  obtain ⟨a, xs, ex, hq, q⟩ := q1
  subst ex
  refine kws_cons (thn ((pe_int (X := X) (i := k) (j := j) (pos := cp)).run pins s1 σ H1 (fun x H2 => x = .int k ∧ H2 = H1) I1 ⟨rfl, rfl⟩) fun v s2 ⟨x, H2, I2, r2, ex, eh⟩ => kws_nil ?_)
  subst ex eh
  obtain ⟨t, rfl⟩ := r2
  obtain ⟨u, rfl, ru⟩ := vals1 r1
  obtain rfl : u = Value.ref a := ru
  obtain ⟨its, rv, p', hz⟩ := I2.list hq
  show wpAny _ _ (call (.type "enumerate") [.ref a] [(Str.ofString "start", .int k t)]) _ _ s2
  refine enum_begins_start (begins_list a its.toArray) p'.isList hk0 hk1 fun h' he hit hsz hk => wpAny_pyIter_enum he ?_
  have I3 : Inv X pins σ H2 { s2 with heap := h' } := I2.kept (t' := s2.toks) hk
  have hal : a < s2.heap.objs.size := by
    obtain ⟨o, ho, _⟩ := p'.isList
    exact Heap.lt_size ho
  refine ⟨s2.heap.objs.size + 1, [s2.heap.objs.size + 1, s2.heap.objs.size], _, _, H2, rfl, I3, turn_enumS k a (s2.heap.objs.size + 1) s2.heap.objs.size (Nat.ne_of_gt (Nat.lt_succ_of_lt hal)) (Nat.ne_of_lt hal) (Nat.succ_ne_self _), ⟨⟨.none, ?_⟩, ⟨_, hit, rfl, rfl⟩⟩, fun b hb => ?_, q⟩
  · rw [show k + ((0 : Nat) : Int) = k by omega]
    exact he
  · have hle : s2.heap.objs.size ≤ b := by
      rcases (show b = s2.heap.objs.size + 1 ∨ b = s2.heap.objs.size by simpa using hb) with z | z
      · rw [z]; exact Nat.le_add_right _ _
      · rw [z]; exact Nat.le_refl _
    exact I2.fpOk hle (I2.hok.fresh hle)
end
/-! ### the ranks, the keys, the rows -/
def NR : List Str := ["keys", "rank_of", "rank", "key"]
def NK : List Str := ["ranks", "width", "behind", "base", "first", "second"]
def NS : List Str := ["numbers", "ranks", "width", "rows", "start", "rank"]
theorem scRanks : FnScope NR ["keys"] (defScope sRanks) := ⟨rfl, rfl, rfl, by decide +kernel, rfl, by decide +kernel, by decide +kernel⟩
theorem scKeys : FnScope NK ["ranks", "width"] (defScope sKeys) := ⟨rfl, rfl, rfl, by decide +kernel, rfl, by decide +kernel, by decide +kernel⟩
theorem scSuffix : FnScope NS ["numbers"] (defScope sSuffix) := ⟨rfl, rfl, rfl, by decide +kernel, rfl, by decide +kernel, by decide +kernel⟩
theorem dc_gen {J : It} {n : Nat} {g : TG} {tt : TT} {tk tv : TE} {vs : List Nat} {σ : L2.St} {H1 : Hp} {D : Addr} {Qd : Hp → Prop} (Pv : Nat → Hp → Prop) (h0 : Pv 0 (upd H1 D (.dK []))) (hgo : ∀ i H, i < n → Pv i H → J.go i H) (hstop : ∀ H, Pv n H → J.stop n H)
    (hs : ∀ i H x H', i < n → Pv i H → J.yld i H x H' → g x (wipe σ vs) H' fun σ2 H2 => wipe σ2 vs = wipe σ vs ∧ tt σ2 H2 fun b H3 =>
      if b = true then tk σ2 H3 fun y H4 => tv σ2 H4 fun z H5 => ∃ kvs k, y = kV k ∧ H5 D = some (.dK kvs) ∧ kvs.length < sizeLine ∧ Pv (i + 1) (upd H5 D (.dK (putK kvs k z))) else Pv (i + 1) H3) (hd : ∀ H, Pv n H → Qd H) :
    ∃ W : Nat → Nat → Hp → Prop, (∃ m, W 0 m (upd H1 D (.dK []))) ∧ ∀ i m H, W i m H →
      (J.stop i H ∧ Qd H) ∨ (J.go i H ∧ ∃ Nx : Hp → Prop, (∀ H', Nx H' → ∃ m', m' < m ∧ W (i + 1) m' H') ∧ ∀ x H', J.yld i H x H' → g x (wipe σ vs) H' fun σ2 H2 => wipe σ2 vs = wipe σ vs ∧ tt σ2 H2 fun b H3 =>
        if b = true then tk σ2 H3 fun y H4 => tv σ2 H4 fun z H5 => ∃ kvs k, y = kV k ∧ H5 D = some (.dK kvs) ∧ kvs.length < sizeLine ∧ Nx (upd H5 D (.dK (putK kvs k z))) else Nx H3) := by
  refine ⟨fun i m H => i + m = n ∧ Pv i H, ⟨n, Nat.zero_add n, h0⟩, fun i m H hw => ?_⟩
  obtain ⟨em, p⟩ := hw
  cases m with
  | zero =>
    obtain rfl : i = n := em
    exact .inl ⟨hstop H p, hd H p⟩
  | succ m =>
    have lt : i < n := by omega
    exact .inr ⟨hgo i H lt p, Pv (i + 1), fun H' p' => ⟨m, Nat.lt_succ_self m, by omega, p'⟩, fun x H' y => hs i H x H' lt p y⟩
/-- ys in order, with the members of ks: the places in ys, from 1 on, are the ranks of ks -/
theorem rank_places {ks ys rs : List Int} (hy : ys.Pairwise (· < ·)) (hl : ys.length ≤ ks.length) (hlen : rs.length = ks.length) (h : ∀ (i : Nat) (k : Int), ks[i]? = some k → ∃ t : Nat, ys[t]? = some k ∧ rs[i]? = some (1 + (t : Int))) : IsRank ks rs := by
  refine ⟨hlen, fun x hx => ?_, fun i j a b x y ha hb hi hj => ?_⟩
  · obtain ⟨i, hi⟩ := List.mem_iff_getElem?.mp hx
    have li : i < ks.length := by
      rw [← hlen]
      exact (List.getElem?_eq_some_iff.mp hi).1
    obtain ⟨t, h1, h2⟩ := h i _ (List.getElem?_eq_getElem li)
    have lt := (List.getElem?_eq_some_iff.mp h1).1
    rw [h2] at hi
    have e := Option.some.inj hi
    omega
  · obtain ⟨t, h1, h2⟩ := h i a ha
    obtain ⟨u, h3, h4⟩ := h j b hb
    rw [h2] at hi
    rw [h4] at hj
    have ex := Option.some.inj hi
    have ey := Option.some.inj hj
    obtain ⟨lt, e1⟩ := List.getElem?_eq_some_iff.mp h1
    obtain ⟨lu, e2⟩ := List.getElem?_eq_some_iff.mp h3
    have pw := List.pairwise_iff_getElem.mp hy
    rcases Nat.lt_trichotomy t u with c | c | c
    · have := pw t u lt lu c
      omega
    · subst c
      omega
    · have := pw u t lu lt c
      omega
theorem beh_list {rs : List Int} {w j : Nat} (hw : w ≤ rs.length) (hj : j < rs.length) : (rs.drop w ++ List.replicate w 0)[j]? = some (beh rs w j) := by
  unfold beh
  by_cases c : j + w < rs.length
  · rw [List.getElem?_append_left (by rw [List.length_drop]; omega), List.getElem?_drop, show w + j = j + w by omega, List.getElem?_eq_getElem c]
    rfl
  · rw [List.getElem?_append_right (by rw [List.length_drop]; omega), List.length_drop, List.getElem?_replicate, if_pos (by omega), List.getElem?_eq_none (by omega)]
    rfl
theorem rep_one {α : Type} (x : α) : ∀ n : Nat, (List.replicate n [x]).flatten = List.replicate n x
  | 0 => rfl
  | n + 1 => by
    rw [List.replicate_succ, List.flatten_cons, rep_one x n]
    rfl
def spRanks (K : PySem.W.Frag) : Sp := fun vs H Q _ => ∃ (a : Addr) (ks : List Int), vs = [.ref a] ∧ SqL K H a (ks.map V.int) ∧ ks.length ≤ 4000 ∧ ∀ (H' : Hp) (p : Addr) (rs : List Int), Same H H' → H p = none → H' p = some (LI rs) → IsRank ks rs → Q (.ref p) H'
def spKeys (K : PySem.W.Frag) : Sp := fun vs H Q _ => ∃ (a : Addr) (rs : List Int) (w : Nat), vs = [.ref a, .int (w : Int)] ∧ SqL K H a (rs.map V.int) ∧ rs.length ≤ 4000 ∧ w ≤ rs.length ∧ ∀ (H' : Hp) (p : Addr), Same H H' → H p = none → H' p = some (LI (keysOf rs w)) → Q (.ref p) H'
section
variable {P : Program} {w : World} {K : PySem.W.Frag} {mg : Str → Option Value} {base : Heap}
theorem ok_ranks {f : Addr} {fd : FuncData} {k : Nat} (F : Fun K "_ranks" "_ranks" sRanks f fd) (menum : mg "enumerate" = none) (msorted : mg "sorted" = none) (mset : mg "set" = none) : FnOk P w K mg base CX0 (k + 1) f fd ["keys"] (spRanks K) := by
  refine F.ok scRanks (fun vs H Q E h => ?_) (fun cdv A outer s H vs Q E hr h => ?_)
  · obtain ⟨a, ks, rfl, _⟩ := h
    rfl
  · obtain ⟨a, ks, rfl, hS, hn, q⟩ := h
    refine ⟨_, pss_cons (ps_set (i := 1) scRanks.nd rfl (.inr rfl) (pe_dc (own := [("rank", 2), ("key", 3)]) (g := gTup K 2 (gCons (gName 2) (gCons (gName 3) gNil))) (tt := tYes) (tk := tVar 3) (tv := tVar 2) (by rfl) scRanks.nd
        (pi_enumS (k := 1) (by rfl) menum (pa_cons (pe_callB (cr_sortedSetAll rfl) (by rfl) msorted (by decide +kernel) (pa_cons (pe_callTy (cr_setL rfl) (by rfl) mset (by decide +kernel) (pa_cons (pv 0) pa_nil)) pa_nil)) pa_nil) (by decide) (by decide))
        (blkOk_by (own := [("rank", 2), ("key", 3)]) (N := NR) (sc := defScope sRanks) (by decide +kernel))
        (fun _ _ _ _ _ => pg_tup rfl (pgs_cons (pg_name (i := 2) scRanks.nd rfl (Or.inl rfl)) (pgs_cons (pg_name (i := 3) scRanks.nd rfl (Or.inl rfl)) pgs_nil))) (fun _ _ _ _ _ => pts_nil) (fun _ _ _ _ _ => pv 3) (fun _ _ _ _ _ => pv 2)))
      (pss_one (ps_ret (pe_lc (own := [("key", 3)]) (g := gName 3) (tt := tYes) (te := tDGet (tVar 1) (tVar 3)) (by rfl) scRanks.nd (pi_list (pv 0))
        (blkOk_by (own := [("key", 3)]) (N := NR) (sc := defScope sRanks) (by decide +kernel))
        (fun _ _ _ _ _ => pg_name (i := 3) scRanks.nd rfl (Or.inl rfl)) (fun _ _ _ _ _ => pts_nil) (fun _ _ _ _ _ => pe_dget (hu_of hr) (pv 1) (pv 3) (fun _ _ => rfl))))), ?_⟩
    refine ⟨.ref a, rfl, a, ks, rfl, hS, hn, fun p c hc hp => ?_⟩
    refine ⟨p, _, c, rfl, upd_same, by omega, fun ys p2 hys hmem hlen hp2 => ?_⟩
    refine ⟨p2, ys.map V.int, rfl, .inl (.inl upd_same), fun D hD => ?_⟩
    have nDp2 := new_ne hD
    refine dc_gen (n := ys.length) (fun i H' => Same H H' ∧ H' p2 = some (LI ys) ∧ ∃ kvs : List (Key × V), H' D = some (.dK kvs) ∧ kvs.length ≤ i ∧ ∀ (t : Nat) (y : Int), t < i → ys[t]? = some y → valV kvs (.inl y) = some (.int (1 + (t : Int)))) ?_ ?_ ?_ ?_ ?_
    · refine ⟨((same_upd hp).trans (same_upd hp2)).trans (same_upd hD), ?_, [], upd_same, Nat.le_refl _, fun t y ht => absurd ht (Nat.not_lt_zero t)⟩
      rw [upd_ne nDp2.symm, upd_same]
    · rintro i H' hi ⟨sm, h2, _⟩
      exact ⟨ys.map V.int, _, .inl (.inl h2), map_int_at hi⟩
    · rintro H' ⟨sm, h2, _⟩
      exact ⟨ys.map V.int, .inl (.inl h2), List.length_map _⟩
    · rintro i H' v H2 hi ⟨sm, h2, kvs, hk, hkl, hv⟩ ⟨U, x, rfl, hU, rfl, hx⟩
      have ex := hx _ (.inl (.inl h2))
      rw [map_int_at hi] at ex
      obtain rfl : V.int ys[i] = x := Option.some.inj ex
      have nUD : D ≠ U := ne_of_none hk hU
      have nU2 : p2 ≠ U := ne_of_none h2 hU
      refine ⟨U, _, rfl, .inl (.inl upd_same), rfl, _, _, rfl, _, _, rfl, rfl, rfl, ?_⟩
      dsimp only [tYes]
      rw [if_pos rfl]
      refine ⟨_, rfl, _, rfl, kvs, .inl ys[i], rfl, by rw [upd_ne nUD]; exact hk, line_lt (by omega), ?_, ?_, _, upd_same, ?_, fun t y ht hty => ?_⟩
      · intro b o e
        rw [upd_ne (ne_of_none e (((same_upd hp).trans (same_upd hp2)).free hD)), upd_ne (ne_of_none (sm b o e) hU)]
        exact sm b o e
      · rw [upd_ne nDp2.symm, upd_ne nU2]
        exact h2
      · have := length_putK kvs (.inl ys[i]) (V.int (1 + (i : Nat)))
        omega
      · rw [valV_put]
        by_cases c : t = i
        · subst c
          rw [List.getElem?_eq_getElem hi] at hty
          rw [if_pos (by rw [Option.some.inj hty])]
        · have lt : t < i := by omega
          rw [if_neg, hv t y lt hty]
          intro z
          have z2 : y = ys[i] := by cases z; rfl
          obtain ⟨l1, e1⟩ := List.getElem?_eq_some_iff.mp hty
          have := List.pairwise_iff_getElem.mp hys t i l1 hi lt
          omega
    · rintro H' ⟨sm, h2, kvs, hk, hkl, hv⟩
      refine ⟨.ref a, rfl, a, rfl, ⟨_, sm.seq hS⟩, fun D2 hD2 => ?_⟩
      have nD2 : D ≠ D2 := ne_of_none hk hD2
      refine lc_list (K := K) (xs := ks.map V.int) (fun j H2 => Same H' H2 ∧ ∃ rs : List Int, H2 D2 = some (LI rs) ∧ rs.length = j ∧ ∀ (i : Nat) (k : Int), i < j → ks[i]? = some k → ∃ t : Nat, ys[t]? = some k ∧ rs[i]? = some (1 + (t : Int))) ?_ (fun j H2 _ h => h.1.seq (sm.seq hS)) ?_ ?_
      · exact ⟨same_upd hD2, [], upd_same, rfl, fun i k hi => absurd hi (Nat.not_lt_zero i)⟩
      · rintro j y H2 hjy ⟨s2, rs, hr2, hl2, hall⟩
        rw [List.getElem?_map] at hjy
        obtain ⟨n, hn1, rfl⟩ := Option.map_eq_some_iff.mp hjy
        refine ⟨rfl, ?_⟩
        dsimp only [tYes]
        rw [if_pos rfl]
        have hj : j < ks.length := (List.getElem?_eq_some_iff.mp hn1).1
        obtain ⟨t, ht⟩ := List.mem_iff_getElem?.mp ((hmem n).mpr (decide_eq_true (List.mem_of_getElem? hn1)))
        refine ⟨.ref D, rfl, .int n, rfl, D, .int (1 + (t : Int)), rfl, ?_, rs.map V.int, hr2, line_lt (by rw [List.length_map]; omega), ?_, rs ++ [1 + (t : Int)], ?_, by rw [List.length_append, hl2]; rfl, fun i k hi hik => ?_⟩
        · rw [← hv t n (List.getElem?_eq_some_iff.mp ht).1 ht]
          exact DGet.k (k := Sum.inl n) (s2 _ _ hk)
        · intro b o e
          rw [upd_ne (ne_of_none e hD2)]
          exact s2 b o e
        · rw [upd_same]
          exact congrArg some (LI_snoc _ _).symm
        · by_cases c : i < j
          · obtain ⟨t2, h3, h4⟩ := hall i k c hik
            refine ⟨t2, h3, ?_⟩
            rw [List.getElem?_append_left (by omega)]
            exact h4
          · obtain rfl : i = j := by omega
            rw [hn1] at hik
            obtain rfl := Option.some.inj hik
            refine ⟨t, ht, ?_⟩
            rw [List.getElem?_append_right (by omega), hl2, Nat.sub_self]
            rfl
      · rintro H2 ⟨s2, rs, hr2, hl2, hall⟩
        rw [List.length_map] at hl2 hall
        have nf : H D2 = none := sm.free hD2
        refine q H2 D2 rs (sm.trans s2) nf hr2 (rank_places hys (by omega) hl2 fun i k hik => hall i k ?_ hik)
        exact (List.getElem?_eq_some_iff.mp hik).1
theorem ok_keys {f : Addr} {fd : FuncData} {k : Nat} (F : Fun K "_joined_keys" "_joined_keys" sKeys f fd) (B : Bl mg) (mzip : mg "zip" = none) : FnOk P w K mg base CX0 (k + 1) f fd ["ranks", "width"] (spKeys K) := by
  refine F.ok scKeys (fun vs H Q E h => ?_) (fun cdv A outer s H vs Q E hr h => ?_)
  · obtain ⟨a, rs, j, rfl, _⟩ := h
    rfl
  · obtain ⟨a, rs, j, rfl, hS, hn, hj, q⟩ := h
    refine ⟨_, pss_cons (ps_set (i := 2) scKeys.nd rfl (.inl rfl) (pe_op op_cat (pe_slice sl_list (pv 0) (po_some (pv 1)) po_none) (pe_op op_rep (pe_lst (pa_cons pe_int pa_nil)) (pv 1))))
      (pss_cons (ps_set (i := 3) scKeys.nd rfl (.inr rfl) (pe_op op_add (pe_callB call_len_seq (by rfl) B.len PySem.boot_len (pa_cons (pv 0) pa_nil)) pe_int))
      (pss_one (ps_ret (pe_lc (own := [("first", 4), ("second", 5)]) (g := gTup K 2 (gCons (gName 4) (gCons (gName 5) gNil))) (tt := tYes) (te := tOp (rI0 fun i j => V.int (i + j)) (tOp (rI CMul fun i j => V.int (i * j)) (tVar 3) (tVar 4)) (tVar 5)) (by rfl) scKeys.nd
        (pi_zip (by rfl) mzip (pa_cons (pv 0) (pa_cons (pv 2) pa_nil))) (blkOk_by (own := [("first", 4), ("second", 5)]) (N := NK) (sc := defScope sKeys) (by decide +kernel))
        (fun _ _ _ _ _ => pg_tup rfl (pgs_cons (pg_name (i := 4) scKeys.nd rfl (Or.inl rfl)) (pgs_cons (pg_name (i := 5) scKeys.nd rfl (Or.inl rfl)) pgs_nil))) (fun _ _ _ _ _ => pts_nil)
        (fun _ _ _ _ _ => pe_op op_add (pe_op op_mul (pv 3) (pv 4)) (pv 5)))))), ?_⟩
    refine ⟨.ref a, rfl, .int j, rfl, _, rfl, a, _, rfl, hS, fun p1 hp1 => ?_⟩
    refine ⟨by show 1 ≤ sizeLine; decide, fun p2 hp2 => ?_⟩
    have n12 := new_ne hp2
    refine ⟨.int j, rfl, p2, _, _, rfl, rfl, upd_same, by omega, by omega, line_ok7 (by show 1 * (j : Int).toNat ≤ _; omega), fun p3 hp3 => ?_⟩
    have n13 := new_ne hp3
    have hcut : L2.cutV (rs.map V.int) (some (j : Int)) none = (rs.drop j).map V.int := by rw [cutV_from, ← List.map_drop]
    have hrep : (List.replicate (j : Int).toNat [V.int 0]).flatten = (List.replicate j (0 : Int)).map V.int := by rw [Int.toNat_natCast, rep_one, List.map_replicate]
    have n23 : p1 ≠ p3 := fun z => by
      rw [← z, upd_ne n12.symm, upd_same] at hp3
      cases hp3
    refine ⟨p1, p3, (rs.drop j).map V.int, (List.replicate j (0 : Int)).map V.int, rfl, rfl, ?_, ?_, line_ok7 (by rw [List.length_map, List.length_map, List.length_drop, List.length_replicate]; omega), fun p4 hp4 => ?_⟩
    · rw [upd_ne n23, upd_ne n12.symm, upd_same, hcut]
    · rw [upd_same, hrep]
    have s4 := (((same_upd hp1).trans (same_upd hp2)).trans (same_upd hp3)).trans (same_upd (o := .lst ((rs.drop j).map V.int ++ (List.replicate j (0 : Int)).map V.int)) hp4)
    refine ⟨.ref a, rfl, a, _, rfl, .inl (s4.seq hS), _, 1, rfl, rfl, ?_⟩
    have hlm : (rs.map V.int).length = rs.length := List.length_map _
    refine ⟨.ref a, rfl, .ref p4, rfl, a, p4, rs.map V.int, (rs.drop j ++ List.replicate j 0).map V.int, rfl, s4.seq hS, .inl (.inl (by rw [upd_same, List.map_append])), fun D hD => ?_⟩
    have nD4 : p4 ≠ D := (new_ne hD).symm
    refine lc_gen (n := rs.length) (fun i H' => Same H H' ∧ H' p4 = some (LI (rs.drop j ++ List.replicate j 0)) ∧ H' D = some (LI ((keysOf rs j).take i))) ?_ ?_ ?_ ?_ ?_
    · refine ⟨s4.trans (same_upd hD), ?_, upd_same⟩
      rw [upd_ne nD4, upd_same]
      exact congrArg some (congrArg HO.lst (List.map_append ..).symm)
    · rintro i H' hi ⟨sm, h4, hd⟩
      exact ⟨_, _, _, _, sm.seq hS, .inl (.inl h4), map_int_at hi, by rw [List.getElem?_map, beh_list hj hi]; rfl⟩
    · rintro H' ⟨sm, h4, hd⟩
      exact ⟨_, _, sm.seq hS, .inl (.inl h4), .inl (by rw [hlm]; exact Nat.le_refl _)⟩
    · rintro i H' v H2 hi ⟨sm, h4, hd⟩ ⟨U, x, y, rfl, hU, rfl, hx, hy⟩
      have ex := hx _ (sm.seq hS)
      have ey := hy _ (.inl (.inl h4))
      rw [map_int_at hi] at ex
      rw [List.getElem?_map, beh_list hj hi] at ey
      obtain rfl : V.int rs[i] = x := Option.some.inj ex
      obtain rfl : V.int (beh rs j i) = y := Option.some.inj ey
      have nUD : D ≠ U := ne_of_none hd hU
      have nU4 : p4 ≠ U := ne_of_none h4 hU
      refine ⟨U, _, rfl, .inl (.inl upd_same), rfl, _, _, rfl, _, _, rfl, rfl, rfl, ?_⟩
      dsimp only [tYes]
      rw [if_pos rfl]
      refine ⟨_, rfl, _, rfl, _, _, rfl, rfl, .inl ⟨by omega, by omega⟩, _, rfl, _, _, rfl, rfl, _, by rw [upd_ne nUD]; exact hd, line_lt (by rw [List.length_map, List.length_take]; omega), ?_, ?_, ?_⟩
      · intro b o e
        rw [upd_ne (ne_of_none e (s4.free hD)), upd_ne (ne_of_none (sm b o e) hU)]
        exact sm b o e
      · rw [upd_ne nD4, upd_ne nU4]
        exact h4
      · rw [upd_same, List.take_add_one, keysOf_at (List.getElem?_eq_getElem hi), hlm]
        exact congrArg some (LI_snoc _ _).symm
    · rintro H' ⟨sm, h4, hd⟩
      refine q H' D sm (s4.free hD) ?_
      rw [hd, List.take_of_length_le (by rw [keysOf_len]; exact Nat.le_refl _)]
end
def spRows (K : PySem.W.Frag) : Sp := fun vs H Q _ => ∃ (a : Addr) (ns : List Int), vs = [.ref a] ∧ SqL K H a (ns.map V.int) ∧ Num ns ∧ ns.length ≤ 4000 ∧ ∀ (H' : Hp) (p : Addr), Same H H' → H p = none → H' p = some (LN (starts ns)) → Q (.ref p) H'
theorem LN_LI (ks : List Nat) : LN ks = LI (ks.map fun k : Nat => (k : Int)) := by
  show HO.lst _ = HO.lst _
  rw [List.map_map]
  rfl
section
variable {P : Program} {w : World} {K : PySem.W.Frag} {mg : Str → Option Value} {base : Heap}
open PySem.W in
theorem ok_suffix {f : Addr} {fd : FuncData} {k : Nat} (F : Fun K "suffix_rows" "suffix_rows" sSuffix f fd) (B : Bl mg) (menum : mg "enumerate" = none) (mset : mg "set" = none) (hR : Has P w K mg base k "_ranks" ["keys"] (spRanks K)) (hK : Has P w K mg base k "_joined_keys" ["ranks", "width"] (spKeys K)) :
    FnOk P w K mg base CX0 (k + 1) f fd ["numbers"] (spRows K) := by
  obtain ⟨fR, dR, GR, gR, kR, bR⟩ := hR
  obtain ⟨fK, dK, GK, gK, kK, bK⟩ := hK
  refine F.ok scSuffix (fun vs H Q E h => ?_) (fun cdv A outer s H vs Q E hr h => ?_)
  · obtain ⟨a, ks, rfl, _⟩ := h
    rfl
  · obtain ⟨a, ns, rfl, hS, hnum, hn, q⟩ := h
    have hnn : ∀ x ∈ ns, 0 ≤ x := fun x hx => (hnum x hx).1
    have hlm : (ns.map V.int).length = ns.length := List.length_map _
    refine ⟨_, pss_cons (ps_set (i := 1) scSuffix.nd rfl (.inl rfl) (pe_call GR hr (by rfl) gR kR bR .nil pass0 (pa_cons (pv 0) pa_nil)))
      (pss_cons (ps_set (i := 2) scSuffix.nd rfl (.inl rfl) pe_int)
      (C8.pss_cut (ps_while PassesOwn.never (pt_cmpR op_lt (pe_lenSetAll (by rfl) B.len (by rfl) mset (pv 1)) (pe_callB call_len_seq (by rfl) B.len PySem.boot_len (pa_cons (pv 0) pa_nil)) (nomark _))
        (pss_cons (ps_set (i := 1) scSuffix.nd rfl (.inl rfl) (pe_call GR hr (by rfl) gR kR bR .nil pass0 (pa_cons (pe_call GK hr (by rfl) gK kK bK .nil pass0 (pa_cons (pv 1) (pa_cons (pv 2) pa_nil))) pa_nil)))
        (pss_one (ps_aug (i := 2) scSuffix.nd rfl (.inl rfl) pe_int iop_mul))))
      (pss_cons (ps_set (i := 3) scSuffix.nd rfl (.inl rfl) (pe_op op_rep (pe_lst (pa_cons pe_int pa_nil)) (pe_callB call_len_seq (by rfl) B.len PySem.boot_len (pa_cons (pv 0) pa_nil))))
      (pss_cons (ps_for PassesOwn.never rfl (pi_enum (by rfl) menum (pa_cons (pv 1) pa_nil)) (pg_tup rfl (pgs_cons (pg_name (i := 4) scSuffix.nd rfl (.inl rfl)) (pgs_cons (pg_name (i := 5) scSuffix.nd rfl (.inl rfl)) pgs_nil)))
        (pss_one (ps_asg (pv 4) (pg_sub (pv 3) (pe_op op_sub (pv 5) pe_int) set_list))))
      (pss_one (ps_ret (pv 3))))))), ?_⟩
    refine ⟨.ref a, rfl, a, ns, rfl, hS, hn, fun H1 p1 rs1 s1 hp1 hr1 ir1 => ?_⟩
    refine ⟨fun σ H' => Same H H' ∧ ∃ (p : Addr) (rs : List Int) (wd : Nat), H' p = some (LI rs) ∧ RankW ns wd rs ∧ rs.Nodup ∧ σ = [some (.ref a), some (.ref p), some (.int (wd : Int)), none, none, none], ?_, ?_⟩
    · refine while_by (fun σ H' => Same H H' ∧ ∃ (p : Addr) (rs : List Int) (wd : Nat), H' p = some (LI rs) ∧ RankW ns wd rs ∧ 0 < wd ∧ σ = [some (.ref a), some (.ref p), some (.int (wd : Int)), none, none, none])
        (fun (σ : L2.St) (_ : Hp) => match σ[2]? with | some (some (V.int x)) => ns.length - x.toNat | _ => 0) ⟨s1, p1, rs1, 1, hr1, ir1.one, by decide, rfl⟩ ?_ ?_
      · rintro σ H' ⟨sm, p, rs, wd, hp, rk, hw, rfl⟩
        refine ⟨.ref p, rfl, p, rs, rfl, .inl (.inl hp), by rw [rk.len]; exact hn, .ref a, rfl, a, _, rfl, .inl (sm.seq hS), _, _, rfl, rfl, _, rfl, ite2 (fun e => ?_) (fun e => ?_)⟩
        · have lt := of_decide_eq_true e
          rw [hlm] at lt
          have hwn : wd < ns.length := by
            by_cases c : wd < ns.length
            · exact c
            · have nd := oss_nodup rs (rk.all hnn (by omega))
              rw [rk.len] at nd
              omega
          refine ⟨.ref p, rfl, .int wd, rfl, p, rs, wd, rfl, .inl (.inl hp), by rw [rk.len]; exact hn, by rw [rk.len]; omega, fun H2 p2 s2 hp2 hk2 => ?_⟩
          refine ⟨p2, keysOf rs wd, rfl, .inl (.inl hk2), by rw [keysOf_len, rk.len]; exact hn, fun H3 p3 qs s3 hp3 hr3 ir3 => ?_⟩
          refine ⟨.int wd, rfl, _, 2, rfl, rfl, .inl ⟨by omega, by omega⟩, ⟨(sm.trans s2).trans s3, p3, qs, wd + wd, hr3, rk.next hnn hw ir3, by omega, ?_⟩, ?_⟩
          · rw [show ((wd + wd : Nat) : Int) = (wd : Int) * 2 by omega]
            rfl
          · show ns.length - ((wd : Int) * 2).toNat < ns.length - (wd : Int).toNat
            omega
        · refine ⟨sm, p, rs, wd, hp, rk, nodup_oss rs ?_, rfl⟩
          have ge : ¬ ((ossOf rs).length : Int) < ((ns.map V.int).length : Nat) := fun z => e (decide_eq_true z)
          rw [hlm] at ge
          rw [rk.len]
          omega
      · rintro σ H' Q1 Q2 m ⟨v, e1, l, xs, rfl, h1, h2, v2, e2, p, ys, e3, h3, i, j, e4, e5, b, e6, h6⟩
        exact ⟨_, e1, l, xs, rfl, h1, h2, v2, e2, p, ys, e3, h3, i, j, e4, e5, b, e6, m _ _ h6⟩
    · rintro σ H' ⟨sm, p, rs, wd, hp, rk, nd, rfl⟩
      refine ⟨by show 1 ≤ sizeLine; decide, fun pz hpz => ?_⟩
      have npz : p ≠ pz := ne_of_none hp hpz
      refine ⟨.ref a, rfl, a, _, rfl, .inl ((sm.trans (same_upd hpz)).seq hS), pz, _, _, rfl, rfl, upd_same, by omega, by omega, line_ok7 (by rw [hlm]; show 1 * (ns.length : Int).toNat ≤ _; omega), fun pr hpr => ?_⟩
      have nzr := new_ne hpr
      have hrep : (List.replicate (((ns.map V.int).length : Nat) : Int).toNat [V.int 0]).flatten = (List.replicate ns.length (0 : Int)).map V.int := by rw [Int.toNat_natCast, rep_one, List.map_replicate, hlm]
      have npr : p ≠ pr := fun z => by
        rw [← z, upd_ne npz] at hpr
        rw [hp] at hpr
        cases hpr
      have s2 : Same H' (upd (upd H' pz (.lst [V.int 0])) pr (.lst (List.replicate (((ns.map V.int).length : Nat) : Int).toNat [V.int 0]).flatten)) := (same_upd hpz).trans (same_upd hpr)
      have nfr : H pr = none := (sm.trans (same_upd hpz)).free hpr
      have hp2 := s2 _ _ hp
      refine ⟨.ref p, rfl, p, rs.map V.int, rfl, .inl (.inl hp2), ?_⟩
      refine for_gen (n := rs.length) (fun i σ H2 => (∀ b o, H b = some o → H2 b = some o) ∧ H2 p = some (LI rs) ∧ ∃ (ls : List Int) (v4 v5 : Option V), H2 pr = some (LI ls) ∧ ls.length = ns.length ∧
        (∀ (t : Nat) (x : Int), t < i → rs[t]? = some x → ls[(x - 1).toNat]? = some (t : Int)) ∧ σ = [some (.ref a), some (.ref p), some (.int (wd : Int)), some (.ref pr), v4, v5]) ?_ ?_ ?_ ?_ ?_
      · refine ⟨(sm.trans s2), hp2, List.replicate ns.length 0, none, none, ?_, List.length_replicate, fun t x ht => absurd ht (Nat.not_lt_zero t), rfl⟩
        rw [upd_same, hrep]
      · rintro i σ H2 hi ⟨s3, h3, _⟩
        exact ⟨_, _, .inl (.inl h3), map_int_at hi⟩
      · rintro σ H2 ⟨s3, h3, _⟩
        exact ⟨_, .inl (.inl h3), by rw [List.length_map]; exact Nat.le_refl _⟩
      · rintro i σ H2 v H3 hi ⟨s3, h3, ls, v4, v5, hls, hll, hall, rfl⟩ ⟨U, x, rfl, hU, rfl, hx⟩
        have ex := hx _ (.inl (.inl h3))
        rw [map_int_at hi] at ex
        obtain rfl : V.int rs[i] = x := Option.some.inj ex
        have nUp : p ≠ U := ne_of_none h3 hU
        have nUr : pr ≠ U := ne_of_none hls hU
        have bd := rk.lo _ (List.getElem_mem hi)
        refine ⟨U, _, rfl, .inl (.inl upd_same), rfl, _, _, rfl, _, _, rfl, rfl, ?_⟩
        refine ⟨_, rfl, .ref pr, rfl, _, rfl, _, 1, rfl, rfl, pr, _, _, (rs[i] - 1).toNat, rfl, rfl, by rw [upd_ne nUr]; exact hls, ix_set (by omega) (by rw [List.length_map]; omega), ?_⟩
        refine ⟨fun b o e => ?_, ?_, ls.set (rs[i] - 1).toNat (i : Int), _, _, ?_, by rw [List.length_set]; exact hll, fun t x ht hxt => ?_, rfl⟩
        · rw [upd_ne (ne_of_none e nfr), upd_ne (ne_of_none (s3 b o e) hU)]
          exact s3 b o e
        · rw [upd_ne npr, upd_ne nUp]
          exact h3
        · rw [upd_same]
          show some (HO.lst ((ls.map V.int).set (rs[i] - 1).toNat (V.int (i : Nat)))) = _
          rw [← List.map_set]
        · by_cases c : t = i
          · subst c
            rw [List.getElem?_eq_getElem hi] at hxt
            obtain rfl := Option.some.inj hxt
            rw [List.getElem?_set, if_pos rfl, if_pos (by omega)]
          · have lt : t < i := by omega
            have bx := rk.lo x (List.mem_of_getElem? hxt)
            have ne : rs[i] ≠ x := fun z => by
              obtain ⟨lt2, e2⟩ := List.getElem?_eq_some_iff.mp hxt
              rw [← e2] at z
              exact c ((List.getElem_inj nd).mp z).symm
            rw [List.getElem?_set_ne (by omega)]
            exact hall t x lt hxt
      · rintro σ H2 ⟨s3, h3, ls, v4, v5, hls, hll, hall, rfl⟩
        refine ⟨.ref pr, rfl, q H2 pr s3 nfr ?_⟩
        rw [hls, LN_LI]
        refine congrArg (fun z => some (LI z)) (List.ext_getElem? fun i => ?_)
        rw [List.getElem?_map]
        by_cases c : i < (starts ns).length
        · have e := List.getElem?_eq_getElem c
          have pl := rk.place hnn nd e
          have lt : (starts ns)[i] < rs.length := (List.getElem?_eq_some_iff.mp pl).1
          have := hall _ _ lt pl
          rw [show ((i : Int) + 1 - 1).toNat = i by omega] at this
          rw [this, e]
          rfl
        · have sl := starts_len ns
          rw [List.getElem?_eq_none (by omega), List.getElem?_eq_none (by omega)]
          rfl
end
/-! ### the index: what its lists hold -/
def prevI (n s : Nat) : Nat := if s = 0 then n - 1 else s - 1
theorem prevI_lt {n s : Nat} (h : s < n) : prevI n s < n := by
  unfold prevI
  split <;> omega
/-- the last column -/
def lastc (ns : List Int) : List Int := (starts ns).map fun s => ns.getD (prevI ns.length s) 0
theorem lastc_len (ns : List Int) : (lastc ns).length = ns.length := by
  unfold lastc
  rw [List.length_map, starts_len]
def lessN (ns : List Int) (s : Nat) : Nat := ns.countP fun x => decide (x < (s : Int))
/-- how many are less, for each symbol -/
def sml (ns : List Int) : List Int := (List.range 7).map fun s : Nat => ((lessN ns s : Nat) : Int)
theorem lessN_zero {ns : List Int} (h : ∀ x ∈ ns, 0 ≤ x) : lessN ns 0 = 0 := by
  unfold lessN
  rw [List.countP_eq_zero]
  intro x hx
  have := h x hx
  simp
  omega
theorem lessN_succ (ns : List Int) (s : Nat) : lessN ns (s + 1) = lessN ns s + ns.count (s : Int) := by
  unfold lessN
  induction ns with
  | nil => rfl
  | cons x r ih =>
    rw [List.countP_cons, List.countP_cons, List.count_cons, ih]
    by_cases e : x = (s : Int)
    · subst e
      rw [if_pos (by simp; omega), if_neg (by simp), if_pos (by simp)]
      omega
    · by_cases l : x < (s : Int)
      · rw [if_pos (by simp; omega), if_pos (by simp; omega), if_neg (by simpa using e)]
        omega
      · rw [if_neg (by simp; omega), if_neg (by simp; omega), if_neg (by simpa using e)]
        rfl
/-- the counts of all symbols before a row -/
def cnt7 (L : List Int) (r : Nat) : List Int := (List.range 7).map fun s : Nat => (((L.take r).count (s : Int) : Nat) : Int)
def cntR (L : List Int) (b : Nat) : List (List Int) := (List.range (L.length / b + 1)).map fun i => cnt7 L (i * b)
theorem map7_at {f : Nat → Int} {s : Nat} (h : s < 7) : (((List.range 7).map f).map V.int)[s]? = some (.int (f s)) := by
  rw [List.getElem?_map, List.getElem?_map, List.getElem?_range h]
  rfl
/-- the kept starts of the first i rows -/
def keptK (ns : List Int) (smp i : Nat) : List (Key × V) := ((List.range i).filter fun r : Nat => decide ((starts ns).getD r 0 % smp = 0)).map fun r : Nat => (Sum.inl (r : Int), V.int (((starts ns).getD r 0 : Nat) : Int))
theorem keptK_succ (ns : List Int) (smp i : Nat) : keptK ns smp (i + 1) = if (starts ns).getD i 0 % smp = 0 then keptK ns smp i ++ [(Sum.inl (i : Int), V.int (((starts ns).getD i 0 : Nat) : Int))] else keptK ns smp i := by
  unfold keptK
  rw [List.range_succ, List.filter_append, List.map_append]
  by_cases e : (starts ns).getD i 0 % smp = 0
  · rw [if_pos e, List.filter_cons, if_pos (decide_eq_true e)]
    rfl
  · rw [if_neg e, List.filter_cons, if_neg (by rw [decide_eq_false e]; decide)]
    exact List.append_nil _
theorem keptK_none (ns : List Int) (smp : Nat) {i r : Nat} (h : i ≤ r) : valV (keptK ns smp i) (Sum.inl (r : Int)) = none := by
  induction i with
  | zero => rfl
  | succ i ih =>
    rw [keptK_succ]
    split
    · rw [valV_snoc _ _ _ _ (keptK_none ns smp (Nat.le_refl i)), if_neg, ih (by omega)]
      intro z
      have := Sum.inl.inj z
      omega
    · exact ih (by omega)
theorem keptK_val (ns : List Int) (smp : Nat) {i r : Nat} (h : r < i) : valV (keptK ns smp i) (Sum.inl (r : Int)) = if (starts ns).getD r 0 % smp = 0 then some (V.int (((starts ns).getD r 0 : Nat) : Int)) else none := by
  induction i with
  | zero => omega
  | succ i ih =>
    rw [keptK_succ]
    by_cases c : r = i
    · subst c
      split
      · rw [valV_snoc _ _ _ _ (keptK_none ns smp (Nat.le_refl _)), if_pos rfl]
      · exact keptK_none ns smp (Nat.le_refl _)
    · have ih' := ih (by omega)
      split
      · rw [valV_snoc _ _ _ _ (keptK_none ns smp (Nat.le_refl _)), if_neg, ih']
        intro z
        have := Sum.inl.inj z
        omega
      · exact ih'
theorem keptK_len (ns : List Int) (smp i : Nat) : (keptK ns smp i).length ≤ i := by
  unfold keptK
  rw [List.length_map]
  have := List.length_filter_le (fun r => decide ((starts ns).getD r 0 % smp = 0)) (List.range i)
  rw [List.length_range] at this
  exact this
/-- the joined sequence of texts -/
def jraw2 (ls : List (List Nat)) : List Int := ls.flatMap fun l => l.map sy ++ [1]
def jt (ls : List (List Nat)) : List Int := (jraw2 ls).set ((jraw2 ls).length - 1) 0
def jtl (ls : List (List Nat)) : Nat := (ls.map fun l => l.length + 1).sum
theorem jraw2_len (ls : List (List Nat)) : (jraw2 ls).length = jtl ls := by
  unfold jraw2 jtl
  rw [List.length_flatMap]
  congr 1
  exact List.map_congr_left fun r _ => by simp
theorem jraw2_snoc (ls : List (List Nat)) (l : List Nat) : jraw2 (ls ++ [l]) = jraw2 ls ++ (l.map sy ++ [1]) := by
  unfold jraw2
  rw [List.flatMap_append]
  simp
theorem jtl_snoc (ls : List (List Nat)) (l : List Nat) : jtl (ls ++ [l]) = jtl ls + (l.length + 1) := by
  unfold jtl
  rw [List.map_append, List.sum_append]
  simp
theorem jt_len (ls : List (List Nat)) : (jt ls).length = jtl ls := by
  unfold jt
  rw [List.length_set, jraw2_len]
theorem jn_jt (rs : List Rf) : jn rs = jt (rs.map (·.2)) := by
  have e : jraw rs = jraw2 (rs.map (·.2)) := by
    unfold jraw jraw2
    rw [List.flatMap_map]
  unfold jn jt
  rw [e]
theorem jl_jtl (rs : List Rf) : jl rs = jtl (rs.map (·.2)) := by
  unfold jl jtl
  rw [List.map_map]
  rfl
theorem jtl_take_le (ls : List (List Nat)) (i : Nat) : jtl (ls.take i) ≤ jtl ls := by
  have e : jtl ls = jtl (ls.take i) + jtl (ls.drop i) := by
    unfold jtl
    rw [← List.sum_append, ← List.map_append, List.take_append_drop]
  omega
/-- where each text begins -/
def bgs (ls : List (List Nat)) : List Int := (List.range ls.length).map fun i : Nat => ((jtl (ls.take i) : Nat) : Int)
theorem sy_num {c : Nat} (h : Sg c) : 0 ≤ sy c ∧ sy c ≤ 6 := ⟨by have := sy_ge c; omega, sy_le h⟩
theorem jt_num {ls : List (List Nat)} (h : ∀ l ∈ ls, Dna l) : ∀ x ∈ jt ls, 0 ≤ x ∧ x ≤ 6 := by
  intro x hx
  rcases List.mem_or_eq_of_mem_set hx with z | z
  · obtain ⟨l, hl, hm⟩ := List.mem_flatMap.mp z
    rcases List.mem_append.mp hm with y | y
    · obtain ⟨c, hc, rfl⟩ := List.mem_map.mp y
      exact sy_num (h l hl c hc)
    · obtain rfl : x = 1 := by simpa using y
      decide
  · subst z
    decide
theorem bgs_snoc (ls : List (List Nat)) {i : Nat} (h : i < ls.length) : (bgs ls).take (i + 1) = (bgs ls).take i ++ [((jtl (ls.take i) : Nat) : Int)] := by
  unfold bgs
  rw [List.take_add_one, List.getElem?_map, List.getElem?_range h]
  rfl
theorem line_lt7 {n : Nat} (h : n ≤ 10000000) : n < sizeLine := by
  rw [sizeLine_eq]
  omega
/-! ### the index's defs -/
theorem scSymbol : FnScope ["letter"] ["letter"] (defScope sSymbol) := ⟨rfl, rfl, rfl, by decide +kernel, rfl, by decide +kernel, by decide +kernel⟩
theorem scSymsOf : FnScope ["text", "letter"] ["text"] (defScope sSymsOf) := ⟨rfl, rfl, rfl, by decide +kernel, rfl, by decide +kernel, by decide +kernel⟩
theorem scPJoined : FnScope ["texts", "sequence", "text"] ["texts"] (defScope sPJoined) := ⟨rfl, rfl, rfl, by decide +kernel, rfl, by decide +kernel, by decide +kernel⟩
theorem scSmaller : FnScope ["sequence", "smaller", "symbol"] ["sequence"] (defScope sSmaller) := ⟨rfl, rfl, rfl, by decide +kernel, rfl, by decide +kernel, by decide +kernel⟩
def NC : List Str := ["last", "block", "counts", "behind", "part", "before", "symbol"]
theorem scCounts : FnScope NC ["last", "block"] (defScope sCounts) := ⟨rfl, rfl, rfl, by decide +kernel, rfl, by decide +kernel, by decide +kernel⟩
theorem scBegins : FnScope ["texts", "begins", "begin", "text"] ["texts"] (defScope sBegins) := ⟨rfl, rfl, rfl, by decide +kernel, rfl, by decide +kernel, by decide +kernel⟩
def KD (K : PySem.W.Frag) (w : World) (d : Addr) (g : Nat → V) : Prop := ∀ c, Sg c → KDct K w d (T [c]) (g c)
def spSym : Sp := fun vs H Q _ => ∃ c, vs = [.str (T [c])] ∧ Sg c ∧ Q (.int (sy c)) H
def spSymsOf : Sp := fun vs H Q _ => ∃ l : List Nat, vs = [.str (T l)] ∧ Dna l ∧ l.length ≤ 1000000 ∧ ∀ (H' : Hp) (p : Addr), Same H H' → H p = none → H' p = some (LI (l.map sy)) → Q (.ref p) H'
def spPJoined (K : PySem.W.Frag) : Sp := fun vs H Q _ => ∃ (a : Addr) (ls : List (List Nat)), vs = [.ref a] ∧ SqL K H a (ls.map fun l => V.str (T l)) ∧ 1 ≤ ls.length ∧ (∀ l ∈ ls, Dna l) ∧ jtl ls ≤ 1000000 ∧ ∀ (H' : Hp) (p : Addr), Same H H' → H p = none → H' p = some (LI (jt ls)) → Q (.ref p) H'
def spSmaller (K : PySem.W.Frag) : Sp := fun vs H Q _ => ∃ (a : Addr) (ns : List Int), vs = [.ref a] ∧ SqL K H a (ns.map V.int) ∧ (∀ x ∈ ns, 0 ≤ x) ∧ ∀ (H' : Hp) (p : Addr), Same H H' → H p = none → H' p = some (LI (sml ns)) → Q (.ref p) H'
def spCounts (K : PySem.W.Frag) : Sp := fun vs H Q _ => ∃ (a : Addr) (L : List Int) (b : Nat), vs = [.ref a, .int (b : Int)] ∧ SqL K H a (L.map V.int) ∧ 1 ≤ b ∧ b ≤ 1000 ∧ L.length ≤ 1000000 ∧ ∀ (H' : Hp) (p : Addr) (cs : List V), Same H H' → H p = none → H' p = some (.lst cs) → Bys p H' cs (cntR L b) → (∀ q, V.ref q ∈ cs → H q = none) → Q (.ref p) H'
def spBegins (K : PySem.W.Frag) : Sp := fun vs H Q _ => ∃ (a : Addr) (ls : List (List Nat)), vs = [.ref a] ∧ SqL K H a (ls.map fun l => V.str (T l)) ∧ jtl ls ≤ 1000000 ∧ ∀ (H' : Hp) (p : Addr), Same H H' → H p = none → H' p = some (LI (bgs ls)) → Q (.ref p) H'
section
variable {P : Program} {w : World} {K : PySem.W.Frag} {mg : Str → Option Value} {base : Heap}
theorem ok_sym {f d : Addr} {fd : FuncData} {k : Nat} (F : Fun K "symbol" "symbol" sSymbol f fd) (gd : mg "_SYMBOLS" = some (.ref d)) (D : KD K w d fun c => .int (sy c)) : FnOk P w K mg base CX0 (k + 1) f fd ["letter"] spSym := by
  refine F.ok scSymbol (fun vs H Q E h => ?_) (fun cdv A outer s H vs Q E hr h => ?_)
  · obtain ⟨c, rfl, _⟩ := h
    rfl
  · obtain ⟨c, rfl, hc, q⟩ := h
    refine ⟨_, pss_one (ps_ret (pe_ix ix_kdict (pe_glob (v := .ref d) (by rfl) gd rfl) (pv 0) (fun _ _ => rfl))), ?_⟩
    exact ⟨.str (T [c]), rfl, d, T [c], .int (sy c), rfl, rfl, D c hc, q⟩
theorem ok_symsOf {f : Addr} {fd : FuncData} {k : Nat} (F : Fun K "symbols_of" "symbols_of" sSymsOf f fd) (hS : Has P w K mg base k "symbol" ["letter"] spSym) : FnOk P w K mg base CX0 (k + 1) f fd ["text"] spSymsOf := by
  obtain ⟨fS, dS, GS, gS, kS, bS⟩ := hS
  refine F.ok scSymsOf (fun vs H Q E h => ?_) (fun cdv A outer s H vs Q E hr h => ?_)
  · obtain ⟨c, rfl, _⟩ := h
    rfl
  · obtain ⟨l, rfl, hd, hl, q⟩ := h
    refine ⟨_, pss_one (ps_ret (pe_lc (own := [("letter", 1)]) (g := gName 1) (tt := tYes) (te := tCall spSym [] E0 (tCons (tVar 1) tNil)) (by rfl) scSymsOf.nd (pi_str (pv 0)) (blkOk_by (own := [("letter", 1)]) (N := ["text", "letter"]) (sc := defScope sSymsOf) (by decide +kernel))
      (fun _ _ _ _ _ => pg_name (i := 1) scSymsOf.nd rfl (Or.inl rfl)) (fun _ _ _ _ _ => pts_nil) (fun _ _ _ _ _ => pe_call GS hr (by rfl) gS kS bS .nil pass0 (pa_cons (pv 1) pa_nil)))), ?_⟩
    refine ⟨.str (T l), rfl, T l, rfl, fun D hD => ?_⟩
    refine lc_gen (n := (T l).cps.size) (fun i H' => Same H H' ∧ H' D = some (LI ((l.take i).map sy))) ⟨same_upd hD, upd_same⟩ (fun i H' hi _ => hi) (fun H' _ => Nat.le_refl _) ?_ ?_
    · rintro i H' x H'' hi ⟨sm, hx⟩ ⟨rfl, c, hc, rfl⟩
      rw [T_size] at hi
      rw [T_at] at hc
      refine ⟨rfl, ?_⟩
      dsimp only [tYes]
      rw [if_pos rfl]
      refine ⟨_, rfl, c, rfl, hd c (List.mem_of_getElem? hc), _, hx, line_lt7 (by rw [List.length_map, List.length_map, List.length_take]; omega), fun b o e => ?_, ?_⟩
      · rw [upd_ne (ne_of_none e hD)]
        exact sm b o e
      · rw [upd_same, List.take_add_one, hc, List.map_append]
        exact congrArg some (LI_snoc _ _).symm
    · rintro H' ⟨sm, hx⟩
      rw [T_size, List.take_length] at hx
      exact q H' D sm hD hx
theorem ok_pjoined {f : Addr} {fd : FuncData} {k : Nat} {t1 t2 : Tok} (F : Fun K "joined" "joined" sPJoined f fd) (gB : mg "_BORDER" = some (.int 1 t1)) (gE : mg "_END" = some (.int 0 t2)) (hS : Has P w K mg base k "symbols_of" ["text"] spSymsOf) : FnOk P w K mg base CX0 (k + 1) f fd ["texts"] (spPJoined K) := by
  obtain ⟨fS, dS, GS, gS, kS, bS⟩ := hS
  refine F.ok scPJoined (fun vs H Q E h => ?_) (fun cdv A outer s H vs Q E hr h => ?_)
  · obtain ⟨a, ls, rfl, _⟩ := h
    rfl
  · obtain ⟨a, ls, rfl, hq, h1, hd, hb, q⟩ := h
    refine ⟨_, pss_cons (ps_set (i := 1) scPJoined.nd rfl (.inl rfl) (pe_lst pa_nil))
      (pss_cons (ps_for PassesOwn.never rfl (pi_list (pv 0)) (pg_name (i := 2) scPJoined.nd rfl (.inl rfl))
        (pss_cons (ps_expr (pe_bm PySem.F.plainAttrs_list PySem.F.slot_list_extend PySem.F.type_list_extend mt_extend (pv 1) (pa_cons (pe_call GS hr (by rfl) gS kS bS .nil pass0 (pa_cons (pv 2) pa_nil)) pa_nil)))
        (pss_one (ps_expr (pe_bm PySem.F.plainAttrs_list PySem.F.slot_list_append PySem.F.type_list_append mt_append (pv 1) (pa_cons (pe_glob (v := .int 1) rfl gB ⟨_, rfl⟩) pa_nil))))))
      (pss_cons (ps_asg (pe_glob (v := .int 0) rfl gE ⟨_, rfl⟩) (pg_sub (pv 1) (pe_un un_neg pe_int) set_list))
      (pss_one (ps_ret (pv 1))))), ?_⟩
    refine ⟨Nat.zero_le _, fun p hp => ?_⟩
    refine ⟨.ref a, rfl, a, rfl, ⟨_, (same_upd hp).seq hq⟩, ?_⟩
    refine for_list (K := K) (xs := ls.map fun l => V.str (T l)) (fun i σ H' => Same H H' ∧ H' p = some (LI (jraw2 (ls.take i))) ∧ ∃ kv : Option V, σ = [some (.ref a), some (.ref p), kv]) ⟨same_upd hp, upd_same, none, rfl⟩ (fun i σ H' _ h => h.1.seq hq) ?_ ?_
    · rintro i v σ H' hv ⟨sm, hx, kv, rfl⟩
      rw [List.getElem?_map] at hv
      obtain ⟨l, hl, rfl⟩ := Option.map_eq_some_iff.mp hv
      have hsn : jtl (ls.take i) + (l.length + 1) ≤ 1000000 := by
        have := jtl_take_le ls (i + 1)
        rw [List.take_add_one, hl] at this
        rw [Option.toList_some, jtl_snoc] at this
        omega
      refine ⟨.ref p, rfl, .inl ⟨rfl, _, .inl (.inl hx)⟩, .str (T l), rfl, l, rfl, hd l (List.mem_of_getElem? hl), by omega, fun H2 p2 s2 hp2 hx2 => ?_⟩
      have n2 : p ≠ p2 := ne_of_none hx hp2
      refine ⟨p, p2, _, _, rfl, rfl, s2 _ _ hx, hx2, line_ok7 (by rw [List.length_map, List.length_map, List.length_map, jraw2_len]; omega), ?_⟩
      refine ⟨.ref p, rfl, .inl ⟨rfl, _, .inl (.inl upd_same)⟩, p, _, _, rfl, rfl, upd_same, line_lt7 (by rw [List.length_append, List.length_map, List.length_map, List.length_map, jraw2_len]; omega), ?_⟩
      refine ⟨fun b o e => ?_, ?_, _, rfl⟩
      · rw [upd_ne (ne_of_none e hp), upd_ne (ne_of_none e hp)]
        exact s2 b o (sm b o e)
      · rw [upd_same, List.take_add_one, hl, Option.toList_some, jraw2_snoc]
        show some (HO.lst _) = some (HO.lst ((jraw2 (ls.take i) ++ (l.map sy ++ [1])).map V.int))
        simp only [List.map_append, List.append_assoc]
        rfl
    · rintro σ H' ⟨sm, hx, kv, rfl⟩
      rw [List.length_map, List.take_length] at hx
      have hpos : 0 < (jraw2 ls).length := by
        rw [jraw2_len]
        cases ls with
        | nil => exact absurd h1 (by decide)
        | cons l r =>
          show 0 < l.length + 1 + jtl r
          omega
      refine ⟨.ref p, rfl, 1, rfl, p, _, _, (jraw2 ls).length - 1, rfl, rfl, hx, ?_, ?_⟩
      · unfold ixN
        rw [List.length_map, if_neg (by decide), if_pos (by omega)]
        exact congrArg some (by omega)
      · refine ⟨.ref p, rfl, q _ p (fun b o e => ?_) hp ?_⟩
        · rw [upd_ne (ne_of_none e hp)]
          exact sm b o e
        · rw [upd_same]
          show some (HO.lst _) = some (HO.lst (((jraw2 ls).set ((jraw2 ls).length - 1) 0).map V.int))
          rw [List.map_set]
theorem ok_smaller {f : Addr} {fd : FuncData} {k : Nat} {t : Tok} (F : Fun K "_smaller_symbols" "_smaller_symbols" sSmaller f fd) (mrange : mg "range" = none) (gM : mg "_MANY_SYMBOLS" = some (.int 7 t)) : FnOk P w K mg base CX0 (k + 1) f fd ["sequence"] (spSmaller K) := by
  refine F.ok scSmaller (fun vs H Q E h => ?_) (fun cdv A outer s H vs Q E hr h => ?_)
  · obtain ⟨a, ns, rfl, _⟩ := h
    rfl
  · obtain ⟨a, ns, rfl, hq, hn, q⟩ := h
    refine ⟨_, pss_cons (ps_set (i := 1) scSmaller.nd rfl (.inl rfl) (pe_lst (pa_cons pe_int pa_nil)))
      (pss_cons (ps_for PassesOwn.never rfl (pi_range1 rfl mrange (pa_cons (pe_op op_sub (pe_glob (v := .int 7) rfl gM ⟨_, rfl⟩) pe_int) pa_nil)) (pg_name (i := 2) scSmaller.nd rfl (.inl rfl))
        (pss_one (ps_expr (pe_bm PySem.F.plainAttrs_list PySem.F.slot_list_append PySem.F.type_list_append mt_append (pv 1) (pa_cons (pe_op op_add (pe_ix ix_list (pv 1) (pv 2) (fun _ _ => rfl))
          (pe_bm PySem.F.plainAttrs_list PySem.F.slot_list_count PySem.F.type_list_count mt_lcount (pv 0) (pa_cons (pv 2) pa_nil))) pa_nil)))))
      (pss_one (ps_ret (pv 1)))), ?_⟩
    refine ⟨by show 1 ≤ sizeLine; decide, fun p hp => ?_⟩
    refine ⟨_, _, rfl, rfl, 6, rfl, by decide, by decide, ?_⟩
    refine for_range (lo := 0) (n := 6) (fun i σ H' => Same H H' ∧ i ≤ 6 ∧ H' p = some (LI ((List.range (i + 1)).map fun s : Nat => ((lessN ns s : Nat) : Int))) ∧ ∃ kv : Option V, σ = [some (.ref a), some (.ref p), kv]) ⟨same_upd hp, by decide, ?_, none, rfl⟩ ?_ ?_
    · rw [upd_same]
      show some (HO.lst [V.int 0]) = some (HO.lst [V.int ((lessN ns 0 : Nat) : Int)])
      rw [lessN_zero hn]
      rfl
    · rintro i σ H' hi ⟨sm, _, hx, kv, rfl⟩
      have g1 : (((List.range (i + 1)).map fun s : Nat => ((lessN ns s : Nat) : Int)).map V.int)[i]? = some (V.int (lessN ns i : Nat)) := by
        rw [List.getElem?_map, List.getElem?_map, List.getElem?_range (by omega)]
        rfl
      refine ⟨.ref p, rfl, .inl ⟨rfl, _, .inl (.inl hx)⟩, .ref p, rfl, .int (0 + (i : Nat)), rfl, p, _, _, _, rfl, rfl, .inl (.inl hx), by rw [Int.zero_add]; exact atI_nat g1, ?_⟩
      refine ⟨.ref a, rfl, .inl ⟨rfl, _, sm.seq hq⟩, .int (0 + (i : Nat)), rfl, a, ns, 0 + (i : Nat), rfl, rfl, sm.seq hq, _, _, rfl, rfl, p, _, _, rfl, rfl, hx, line_lt7 (by rw [List.length_map, List.length_map, List.length_range]; omega), ?_⟩
      refine ⟨fun b o e => ?_, by omega, ?_, _, rfl⟩
      · rw [upd_ne (ne_of_none e hp)]
        exact sm b o e
      · rw [upd_same, List.range_succ (n := i + 1), List.map_append, Int.zero_add]
        show some (HO.lst _) = some (HO.lst _)
        rw [List.map_append]
        show some (HO.lst (_ ++ [V.int (((lessN ns i : Nat) : Int) + ((ns.count (i : Int) : Nat) : Int))])) = some (HO.lst (_ ++ [V.int ((lessN ns (i + 1) : Nat) : Int)]))
        rw [lessN_succ]
        rfl
    · rintro σ H' ⟨sm, _, hx, kv, rfl⟩
      exact ⟨.ref p, rfl, q H' p sm hp hx⟩
end
theorem rg_blk {n k : Nat} (hn : n ≤ 1000000) (h1 : 1 ≤ k) (hk : k ≤ 1000) : RgC (k : Int) ((n : Int) + 1) (k : Int) (n / k) := by
  have es : Builtin.Range.rangeSize (k : Int) ((n : Int) + 1) (k : Int) = ((n / k : Nat) : Int) := by
    unfold Builtin.Range.rangeSize
    rw [if_pos (by omega)]
    by_cases c : k ≤ n
    · rw [if_pos (by omega), Int.natCast_ediv, show (n : Int) + 1 - k - 1 = (n : Int) + (-1) * (k : Int) by omega, Int.add_mul_ediv_right _ _ (by omega)]
      omega
    · rw [if_neg (by omega), Nat.div_eq_of_lt (by omega)]
      rfl
  refine ⟨by omega, by omega, ?_, es⟩
  unfold Builtin.Range.small
  rw [es]
  have q1 : n / k ≤ n := Nat.div_le_self _ _
  have q2 : n / k * k ≤ n := Nat.div_mul_le_self _ _
  generalize n / k = qq at q1 q2
  simp only [Builtin.Range.rangeFitsLong, Bool.and_eq_true, Bool.or_eq_true, decide_eq_true_eq, beq_iff_eq]
  refine ⟨⟨⟨⟨by omega, by omega, by omega⟩, by omega, by omega⟩, by omega, by omega⟩, .inr ?_⟩
  rw [if_pos (by omega), Bool.and_eq_true, decide_eq_true_eq, decide_eq_true_eq]
  omega
theorem cutV_mid (xs : List V) {a b : Nat} (h : a ≤ b) (hb : b ≤ xs.length) : L2.cutV xs (some (a : Int)) (some (b : Int)) = (xs.drop a).take (b - a) := by
  unfold L2.cutV
  rw [HT.sIx_nat, HT.sIx_nat, Nat.min_eq_left (show a ≤ xs.length by omega), Nat.min_eq_left hb]
theorem atI_neg1 {α : Type} {xs : List α} {v : α} {n : Nat} (hl : xs.length = n + 1) (h : xs[n]? = some v) : atI xs (-1) = some v := by
  unfold atI ixN
  rw [if_neg (by decide), if_pos (by omega)]
  show xs[(-1 + (xs.length : Int)).toNat]? = some v
  rw [hl, show (-1 + ((n + 1 : Nat) : Int)).toNat = n by omega]
  exact h
theorem cnt7_next (L : List Int) (b i s : Nat) : ((L.take (i * b)).count (s : Int)) + (((L.drop (i * b)).take b).count (s : Int)) = (L.take ((i + 1) * b)).count (s : Int) := by
  rw [Nat.succ_mul, List.take_add, List.count_append]
section
variable {P : Program} {w : World} {K : PySem.W.Frag} {mg : Str → Option Value} {base : Heap}
theorem ok_counts {f : Addr} {fd : FuncData} {k : Nat} {t : Tok} (F : Fun K "_counts_at_blocks" "_counts_at_blocks" sCounts f fd) (mrange : mg "range" = none) (mlen : mg "len" = none) (gM : mg "_MANY_SYMBOLS" = some (.int 7 t)) : FnOk P w K mg base CX0 (k + 1) f fd ["last", "block"] (spCounts K) := by
  refine F.ok scCounts (fun vs H Q E h => ?_) (fun cdv A outer s H vs Q E hr h => ?_)
  · obtain ⟨a, L, b, rfl, _⟩ := h
    rfl
  · obtain ⟨a, L, b, rfl, hq, hb1, hb2, hL, q⟩ := h
    refine ⟨_, pss_cons (ps_set (i := 2) scCounts.nd rfl (.inl rfl) (pe_lst (pa_cons (pe_op op_rep (pe_lst (pa_cons pe_int pa_nil)) (pe_glob (v := .int 7) rfl gM ⟨_, rfl⟩)) pa_nil)))
      (pss_cons (ps_for PassesOwn.never rfl (pi_range3 rfl mrange (pa_cons (pv 1) (pa_cons (pe_op op_add (pe_callB call_len_seq (by rfl) mlen PySem.boot_len (pa_cons (pv 0) pa_nil)) pe_int) (pa_cons (pv 1) pa_nil)))) (pg_name (i := 3) scCounts.nd rfl (.inl rfl))
        (pss_cons (ps_set (i := 4) scCounts.nd rfl (.inr rfl) (pe_slice sl_list (pv 0) (po_some (pe_op op_sub (pv 3) (pv 1))) (po_some (pv 3))))
        (pss_cons (ps_set (i := 5) scCounts.nd rfl (.inr rfl) (pe_ix ix_list (pv 2) (pe_un un_neg pe_int) (fun _ _ => rfl)))
        (pss_one (ps_expr (pe_bm PySem.F.plainAttrs_list PySem.F.slot_list_append PySem.F.type_list_append mt_append (pv 2) (pa_cons
          (pe_lc (own := [("symbol", 6)]) (g := gName 6) (tt := tYes) (te := tOp (rI0 fun i j => V.int (i + j)) (tOp (rIxL K) (tVar 5) (tVar 6)) (tBM K "list" (rCntI K) (tVar 4) (tCons (tVar 6) tNil))) (by rfl) scCounts.nd (pi_range1 rfl mrange (pa_cons (pe_glob (v := .int 7) rfl gM ⟨_, rfl⟩) pa_nil))
            (blkOk_by (own := [("symbol", 6)]) (N := NC) (sc := defScope sCounts) (by decide +kernel)) (fun _ _ _ _ _ => pg_name (i := 6) scCounts.nd rfl (Or.inl rfl)) (fun _ _ _ _ _ => pts_nil)
            (fun _ _ _ _ _ => pe_op op_add (pe_ix (r := rIxL K) ix_list (pv 5) (pv 6) (fun _ _ => rfl)) (pe_bm (r := rCntI K) PySem.F.plainAttrs_list PySem.F.slot_list_count PySem.F.type_list_count mt_lcount (pv 4) (pa_cons (pv 6) pa_nil)))) pa_nil)))))))
      (pss_one (ps_ret (pv 2)))), ?_⟩
    have hlm : (L.map V.int).length = L.length := List.length_map _
    refine ⟨by show 1 ≤ sizeLine; decide, fun p0 hp0 => ?_⟩
    refine ⟨p0, 7, _, rfl, rfl, upd_same, by decide, by decide, by show 7 ≤ sizeLine; decide, fun p1 hp1 => ?_⟩
    refine ⟨by show 1 ≤ sizeLine; decide, fun pc hpc => ?_⟩
    have nc1 := new_ne hpc
    have s0 : Same H (upd (upd (upd H p0 (.lst [.int 0])) p1 (.lst (List.replicate (7 : Int).toNat [V.int 0]).flatten)) pc (.lst [.ref p1])) := ((same_upd hp0).trans (same_upd hp1)).trans (same_upd hpc)
    have hpc0 : H pc = none := ((same_upd hp0).trans (same_upd hp1)).free hpc
    refine ⟨.int b, rfl, .ref a, rfl, a, _, rfl, .inl (s0.seq hq), _, 1, rfl, rfl, .int b, rfl, b, _, b, L.length / b, rfl, ?_, ?_⟩
    · rw [hlm]
      exact rg_blk hL hb1 hb2
    refine for_rangeC (lo := (b : Int)) (c := (b : Int)) (n := L.length / b) (fun i σ H' => Same H H' ∧ ∃ (cs : List V) (v3 v4 v5 : Option V), H' pc = some (.lst cs) ∧ Bys pc H' cs ((List.range (i + 1)).map fun j => cnt7 L (j * b)) ∧ (∀ q, V.ref q ∈ cs → H q = none) ∧ σ = [some (.ref a), some (.int (b : Int)), some (.ref pc), v3, v4, v5, none]) ?_ ?_ ?_
    · refine ⟨s0, [.ref p1], none, none, none, upd_same, .cons ⟨p1, rfl, nc1.symm, ?_⟩ .nil, (fun z hz => by obtain rfl : z = p1 := (by simpa using hz); exact (same_upd hp0).free hp1), rfl⟩
      rw [upd_ne nc1.symm, upd_same]
      refine congrArg some (congrArg HO.lst ?_)
      show _ = ((List.range 7).map fun s : Nat => (((L.take (0 * b)).count (s : Int) : Nat) : Int)).map V.int
      rw [Nat.zero_mul, List.take_zero]
      rfl
    · rintro i σ H' hi ⟨sm, cs, v3, v4, v5, hcs, hby, hfr, rfl⟩
      have hlen := paired_len hby
      rw [List.length_map, List.length_range] at hlen
      have hup : (i + 1) * b ≤ L.length := Nat.le_trans (Nat.mul_le_mul_right b hi) (Nat.div_mul_le_self _ _)
      have e1 : (b : Int) + (i : Nat) * (b : Int) - b = ((i * b : Nat) : Int) := by
        rw [Int.natCast_mul]
        omega
      have e2 : (b : Int) + (i : Nat) * (b : Int) = (((i + 1) * b : Nat) : Int) := by
        rw [Int.natCast_mul, Int.natCast_add, Int.add_mul]
        show _ = (i : Int) * b + 1 * (b : Int)
        omega
      refine ⟨.ref a, rfl, _, rfl, .int b, rfl, _, _, rfl, rfl, _, rfl, _, rfl, _, rfl, a, _, rfl, sm.seq hq, fun pp hpp => ?_⟩
      have sp := same_upd (o := .lst (L2.cutV (L.map V.int) (some ((b : Int) + (i : Nat) * (b : Int) - b)) (some ((b : Int) + (i : Nat) * (b : Int))))) hpp
      have hcut : L2.cutV (L.map V.int) (some ((b : Int) + (i : Nat) * (b : Int) - b)) (some ((b : Int) + (i : Nat) * (b : Int))) = ((L.drop (i * b)).take b).map V.int := by
        rw [e1, e2, cutV_mid _ (Nat.mul_le_mul_right b (Nat.le_succ i)) (by rw [hlm]; exact hup), ← List.map_drop, ← List.map_take, show (i + 1) * b - i * b = b by rw [Nat.succ_mul]; omega]
      have hvi : ∃ v, cs[i]? = some v := ⟨_, List.getElem?_eq_getElem (show i < cs.length by omega)⟩
      obtain ⟨v, hv⟩ := hvi
      obtain ⟨y, hy, qb, rfl, nqb, hqb⟩ := paired_get hby hv
      rw [List.getElem?_map, List.getElem?_range (by omega)] at hy
      obtain rfl := Option.some.inj hy
      refine ⟨.ref pc, rfl, 1, rfl, pc, _, _, .ref qb, rfl, rfl, .inl (.inl (sp _ _ hcs)), atI_neg1 hlen hv, ?_⟩
      refine ⟨.ref pc, rfl, .inl ⟨rfl, _, .inl (.inl (sp _ _ hcs))⟩, 7, rfl, by decide, by decide, fun D hD => ?_⟩
      have hppD : upd H' pp (.lst (L2.cutV (L.map V.int) (some ((b : Int) + (i : Nat) * (b : Int) - b)) (some ((b : Int) + (i : Nat) * (b : Int))))) pp = some (LI ((L.drop (i * b)).take b)) := by rw [upd_same, hcut]
      refine lc_gen (n := 7) (fun j H2 => Same (upd H' pp (.lst (L2.cutV (L.map V.int) (some ((b : Int) + (i : Nat) * (b : Int) - b)) (some ((b : Int) + (i : Nat) * (b : Int)))))) H2 ∧ H2 D = some (LI ((cnt7 L ((i + 1) * b)).take j))) ⟨same_upd hD, upd_same⟩ (fun j H2 hj _ => hj) (fun H2 _ => Nat.le_refl _) ?_ ?_
      · rintro j H2 x H3 hj ⟨s2, hd⟩ ⟨rfl, rfl⟩
        refine ⟨rfl, ?_⟩
        dsimp only [tYes]
        rw [if_pos rfl]
        refine ⟨.ref qb, rfl, .int (0 + (j : Nat)), rfl, qb, _, _, _, rfl, rfl, .inl (.inl (s2 _ _ (sp _ _ hqb))), by rw [Int.zero_add]; exact atI_nat (map7_at hj), ?_⟩
        refine ⟨.ref pp, rfl, .inl ⟨rfl, _, .inl (.inl (s2 _ _ hppD))⟩, .int (0 + (j : Nat)), rfl, pp, _, 0 + (j : Nat), rfl, rfl, .inl (.inl (s2 _ _ hppD)), _, _, rfl, rfl, _, hd, line_lt7 (by rw [List.length_map, List.length_take]; omega), ?_, ?_⟩
        · intro b' o e
          rw [upd_ne (ne_of_none e hD)]
          exact s2 b' o e
        · have e7 : (cnt7 L ((i + 1) * b))[j]? = some ((((L.take ((i + 1) * b)).count (j : Int) : Nat) : Int)) := by
            unfold cnt7
            rw [List.getElem?_map, List.getElem?_range hj]
            rfl
          rw [upd_same, List.take_add_one, e7, ← cnt7_next, Int.zero_add]
          refine congrArg some (Eq.trans ?_ (LI_snoc _ _).symm)
          rw [Int.natCast_add]
      · rintro H2 ⟨s2, hd⟩
        rw [List.take_of_length_le (by unfold cnt7; rw [List.length_map, List.length_range]; exact Nat.le_refl 7)] at hd
        have hc2 := s2 _ _ (sp _ _ hcs)
        have nD : pc ≠ D := ne_of_none (sp _ _ hcs) hD
        refine ⟨pc, _, _, rfl, rfl, hc2, line_lt7 (by have := Nat.div_le_self L.length b; omega), ?_⟩
        refine ⟨fun b' o e => ?_, _, _, _, _, upd_same, ?_, fun z hz => ?_, rfl⟩
        · rw [upd_ne (ne_of_none e hpc0)]
          exact s2 _ _ (sp _ _ (sm _ _ e))
        · rw [List.range_succ (n := i + 1), List.map_append]
          refine Paired.snoc (hby.mono fun qq l n1 h1 => ?_) ⟨D, rfl, nD.symm, ?_⟩
          · rw [upd_ne n1]
            exact s2 _ _ (sp _ _ h1)
          · rw [upd_ne nD.symm]
            exact hd
        · rcases List.mem_append.mp hz with y | y
          · exact hfr z y
          · obtain rfl : z = D := by simpa using y
            exact (sm.trans sp).free hD
    · rintro σ H' ⟨sm, cs, v3, v4, v5, hcs, hby, hfr, rfl⟩
      exact ⟨.ref pc, rfl, q H' pc cs sm hpc0 hcs hby hfr⟩
theorem ok_begins {f : Addr} {fd : FuncData} {k : Nat} (F : Fun K "_begins_of" "_begins_of" sBegins f fd) (mlen : mg "len" = none) : FnOk P w K mg base CX0 (k + 1) f fd ["texts"] (spBegins K) := by
  refine F.ok scBegins (fun vs H Q E h => ?_) (fun cdv A outer s H vs Q E hr h => ?_)
  · obtain ⟨a, L, rfl, _⟩ := h
    rfl
  · obtain ⟨a, ls, rfl, hq, hb, q⟩ := h
    refine ⟨_, pss_cons (ps_set (i := 1) scBegins.nd rfl (.inl rfl) (pe_lst pa_nil))
      (pss_cons (ps_set (i := 2) scBegins.nd rfl (.inl rfl) pe_int)
      (pss_cons (ps_for PassesOwn.never rfl (pi_list (pv 0)) (pg_name (i := 3) scBegins.nd rfl (.inl rfl))
        (pss_cons (ps_expr (pe_bm PySem.F.plainAttrs_list PySem.F.slot_list_append PySem.F.type_list_append mt_append (pv 1) (pa_cons (pv 2) pa_nil)))
        (pss_one (ps_aug (i := 2) scBegins.nd rfl (.inl rfl) (pe_op op_add (pe_callB call_len_str (by rfl) mlen PySem.boot_len (pa_cons (pv 3) pa_nil)) pe_int) ip_add))))
      (pss_one (ps_ret (pv 1))))), ?_⟩
    refine ⟨Nat.zero_le _, fun p hp => ?_⟩
    refine ⟨.ref a, rfl, a, rfl, ⟨_, (same_upd hp).seq hq⟩, ?_⟩
    have hll : ls.length ≤ jtl ls := by
      clear hq hb q
      induction ls with
      | nil => exact Nat.zero_le _
      | cons l r ih =>
        show r.length + 1 ≤ l.length + 1 + jtl r
        omega
    refine for_list (K := K) (xs := ls.map fun l => V.str (T l)) (fun i σ H' => Same H H' ∧ H' p = some (LI ((bgs ls).take i)) ∧ ∃ kv : Option V, σ = [some (.ref a), some (.ref p), some (.int (jtl (ls.take i) : Nat)), kv]) ⟨same_upd hp, upd_same, none, rfl⟩ (fun i σ H' _ h => h.1.seq hq) ?_ ?_
    · rintro i v σ H' hv ⟨sm, hx, kv, rfl⟩
      rw [List.getElem?_map] at hv
      obtain ⟨l, hl, rfl⟩ := Option.map_eq_some_iff.mp hv
      have hi : i < ls.length := (List.getElem?_eq_some_iff.mp hl).1
      have hsn : jtl (ls.take i) + (l.length + 1) = jtl (ls.take (i + 1)) := by
        rw [List.take_add_one, hl, Option.toList_some, jtl_snoc]
      have hle := jtl_take_le ls (i + 1)
      refine ⟨.ref p, rfl, .inl ⟨rfl, _, .inl (.inl hx)⟩, _, rfl, p, _, _, rfl, rfl, hx, line_lt7 (by rw [List.length_map, List.length_take]; omega), ?_⟩
      refine ⟨_, rfl, .str (T l), rfl, T l, rfl, line_ok7 (by rw [T_len]; omega), _, 1, rfl, rfl, _, _, rfl, rfl, ?_⟩
      refine ⟨fun b o e => ?_, ?_, some (.str (T l)), ?_⟩
      · rw [upd_ne (ne_of_none e hp)]
        exact sm b o e
      · rw [upd_same, bgs_snoc ls hi]
        exact congrArg some (LI_snoc _ _).symm
      · rw [← hsn]
        show [_, _, some (V.int (((jtl (ls.take i) : Nat) : Int) + (((T l).length : Nat) + 1))), _] = [_, _, some (V.int ((jtl (ls.take i) + (l.length + 1) : Nat) : Int)), _]
        rw [T_len]
        rfl
    · rintro σ H' ⟨sm, hx, kv, rfl⟩
      rw [List.length_map, List.take_of_length_le (by unfold bgs; rw [List.length_map, List.length_range]; exact Nat.le_refl _)] at hx
      exact ⟨.ref p, rfl, q H' p sm hp hx⟩
end
/-! ### the index as an object -/
theorem putF_new {fs : List (Str × V)} {names : List Str} {f : Str} {v : V} (hn : fs.map (·.1) = names) (h : names.contains f = false) : putF f v fs = fs ++ [(f, v)] := by
  subst hn
  induction fs with
  | nil => rfl
  | cons q r ih =>
    obtain ⟨g, x⟩ := q
    rw [List.map_cons, List.contains_cons, Bool.or_eq_false_iff] at h
    have ne : ¬ g = f := fun z => by
      have := h.1
      rw [z] at this
      simp at this
    show (if g = f then (g, v) :: r else (g, x) :: putF f v r) = _
    rw [if_neg ne, ih h.2]
    rfl
theorem lookup_of {fs : List (Str × V)} {names : List Str} {i : Nat} {f : Str} {v : V} (hn : fs.map (·.1) = names) (hi : fs[i]? = some (f, v)) (hf : (names.take i).contains f = false) : fs.lookup f = some v := by
  subst hn
  induction fs generalizing i with
  | nil => simp at hi
  | cons q r ih =>
    obtain ⟨g, x⟩ := q
    cases i with
    | zero =>
      have e : (g, x) = (f, v) := by simpa using hi
      cases e
      show (match f == f with | true => some v | false => _) = some v
      rw [beq_self_eq_true]
    | succ i =>
      rw [List.map_cons, List.take_succ_cons, List.contains_cons, Bool.or_eq_false_iff] at hf
      show (match f == g with | true => some x | false => r.lookup f) = some v
      rw [hf.1]
      exact ih (by simpa using hi) hf.2
theorem lookup_no {fs : List (Str × V)} {names : List Str} {f : Str} (hn : fs.map (·.1) = names) (hf : names.contains f = false) : fs.lookup f = none := by
  subst hn
  induction fs with
  | nil => rfl
  | cons q r ih =>
    obtain ⟨g, x⟩ := q
    rw [List.map_cons, List.contains_cons, Bool.or_eq_false_iff] at hf
    show (match f == g with | true => some x | false => r.lookup f) = none
    rw [hf.1]
    exact ih hf.2
def ixNames : List Str := ["references", "block", "sample", "_last", "_smaller", "_counts", "_starts", "_begins"]
def ixF (aR : Addr) (b s : Nat) (aL aM aC aS aB : Addr) : List (Str × V) := [("references", .ref aR), ("block", .int (b : Int)), ("sample", .int (s : Int)), ("_last", .ref aL), ("_smaller", .ref aM), ("_counts", .ref aC), ("_starts", .ref aS), ("_begins", .ref aB)]
theorem ixF_names (aR : Addr) (b s : Nat) (aL aM aC aS aB : Addr) : (ixF aR b s aL aM aC aS aB).map (·.1) = ixNames := rfl
structure IxT (K : PySem.W.Frag) (mg : Str → Option Value) (C : Addr) : Prop where
  cl : Cls K C
  n1 : NoAttr K C "references"
  n2 : NoAttr K C "block"
  n3 : NoAttr K C "sample"
  n4 : NoAttr K C "_last"
  n5 : NoAttr K C "_smaller"
  n6 : NoAttr K C "_counts"
  n7 : NoAttr K C "_starts"
  n8 : NoAttr K C "_begins"
  mgC : mg "Index" = some (.ref C)
/-- an index of the references rs stands at x -/
structure IxAt (C : Addr) (H : Hp) (x : Addr) (rs : List Rf) (b s : Nat) (dx aR : Addr) (xs : List V) (aL aM aC : Addr) (cs : List V) (aS aB : Addr) : Prop where
  ob : H x = some (.ins C dx (ixF aR b s aL aM aC aS aB))
  rf : H aR = some (.lst xs)
  tu : Tups H xs rs
  la : H aL = some (LI (lastc (jn rs)))
  sm : H aM = some (LI (sml (jn rs)))
  co : H aC = some (.lst cs)
  cr : Bys aC H cs (cntR (lastc (jn rs)) b)
  st : H aS = some (.dK (keptK (jn rs) s (jn rs).length))
  bg : H aB = some (LI (bgs (rs.map (·.2))))
def Ixd (C : Addr) (H : Hp) (x : Addr) (rs : List Rf) (b s : Nat) : Prop := ∃ dx aR xs aL aM aC cs aS aB, IxAt C H x rs b s dx aR xs aL aM aC cs aS aB
/-- the same, its own objects such as N says -/
def IxN (C : Addr) (N : Addr → Prop) (H : Hp) (x : Addr) (rs : List Rf) (b s : Nat) : Prop := ∃ dx aR xs aL aM aC cs aS aB, IxAt C H x rs b s dx aR xs aL aM aC cs aS aB ∧ N aR ∧ N aL ∧ N aM ∧ N aC ∧ N aS ∧ N aB ∧ ∀ q, V.ref q ∈ cs → N q
theorem IxN.ix {C : Addr} {N : Addr → Prop} {H : Hp} {x : Addr} {rs : List Rf} {b s : Nat} (h : IxN C N H x rs b s) : Ixd C H x rs b s := by
  obtain ⟨dx, aR, xs, aL, aM, aC, cs, aS, aB, I, _⟩ := h
  exact ⟨dx, aR, xs, aL, aM, aC, cs, aS, aB, I⟩
theorem IxN.mono {C : Addr} {N N' : Addr → Prop} {H : Hp} {x : Addr} {rs : List Rf} {b s : Nat} (h : IxN C N H x rs b s) (k : ∀ q, N q → N' q) : IxN C N' H x rs b s := by
  obtain ⟨dx, aR, xs, aL, aM, aC, cs, aS, aB, I, n1, n2, n3, n4, n5, n6, n7⟩ := h
  exact ⟨dx, aR, xs, aL, aM, aC, cs, aS, aB, I, k _ n1, k _ n2, k _ n3, k _ n4, k _ n5, k _ n6, fun q hq => k q (n7 q hq)⟩
theorem bys_keep {N : Addr → Prop} {pl : Addr} {H H' : Hp} (k : ∀ q o, N q → H q = some o → H' q = some o) : ∀ {xs : List V} {rs : List (List Int)}, Bys pl H xs rs → (∀ q, V.ref q ∈ xs → N q) → Bys pl H' xs rs
  | _, _, .nil, _ => .nil
  | _, _, .cons ⟨q, e, n, t⟩ r, h => .cons ⟨q, e, n, k q _ (h q (by rw [e]; exact List.mem_cons_self)) t⟩ (bys_keep k r fun z hz => h z (List.mem_cons_of_mem _ hz))
theorem IxN.keep {C : Addr} {N : Addr → Prop} {H H' : Hp} {x : Addr} {rs : List Rf} {b s : Nat} (h : IxN C N H x rs b s) (hx : ∀ o, H x = some o → H' x = some o) (k : ∀ q o, N q → H q = some o → H' q = some o) (kt : ∀ q ys, H q = some (.tup ys) → H' q = some (.tup ys)) : IxN C N H' x rs b s := by
  obtain ⟨dx, aR, xs, aL, aM, aC, cs, aS, aB, ⟨h1, h2, h3, h4, h5, h6, h7, h8, h9⟩, n1, n2, n3, n4, n5, n6, n7⟩ := h
  exact ⟨dx, aR, xs, aL, aM, aC, cs, aS, aB, ⟨hx _ h1, k _ _ n1 h2, h3.mono kt, k _ _ n2 h4, k _ _ n3 h5, k _ _ n4 h6, bys_keep k h7 n7, k _ _ n5 h8, k _ _ n6 h9⟩, n1, n2, n3, n4, n5, n6, n7⟩
open LamX in
theorem Ixd.ext {C : Addr} {H H' : Hp} {x : Addr} {rs : List Rf} {b s : Nat} (h : Ixd C H x rs b s) (e : ExtN H H') : Ixd C H' x rs b s := by
  obtain ⟨dx, aR, xs, aL, aM, aC, cs, aS, aB, h1, h2, h3, h4, h5, h6, h7, h8, h9⟩ := h
  refine ⟨dx, aR, xs, aL, aM, aC, cs, aS, aB, ?_, ?_, h3.mono fun q ys z => e _ _ z (fun ps z => by cases z), ?_, ?_, ?_, h7.mono fun q l _ z => e _ _ z (fun ps z => by cases z), ?_, ?_⟩ <;> first | exact e _ _ h1 (fun ps z => by cases z) | exact e _ _ h2 (fun ps z => by cases z) | exact e _ _ h4 (fun ps z => by cases z) | exact e _ _ h5 (fun ps z => by cases z) | exact e _ _ h6 (fun ps z => by cases z) | exact e _ _ h8 (fun ps z => by cases z) | exact e _ _ h9 (fun ps z => by cases z)
theorem Ixd.same {C : Addr} {H H' : Hp} {x : Addr} {rs : List Rf} {b s : Nat} (h : Ixd C H x rs b s) (e : Same H H') : Ixd C H' x rs b s := h.ext fun q o z _ => e q o z
def Sb (x : Addr) (H H' : Hp) : Prop := ∀ c o, c ≠ x → H c = some o → H' c = some o
theorem sb_free {x p : Addr} {H H' : Hp} (h : Sb x H H') (n : p ≠ x) (e : H' p = none) : H p = none := by
  cases z : H p with
  | none => rfl
  | some o =>
    rw [h p o n z] at e
    cases e
theorem putF_names1 (f : Str) (v : V) : (putF f v []).map (·.1) = [f] := rfl
def NI : List Str := ["self", "references", "block", "sample", "texts", "sequence", "rows", "reference", "start", "row"]
theorem scInit : FnScope NI ["self", "references", "block", "sample"] (defScope mInit) := ⟨rfl, rfl, rfl, by decide +kernel, rfl, by decide +kernel, by decide +kernel⟩
def spInit (K : PySem.W.Frag) (C : Addr) : Sp := fun vs H Q _ => ∃ (x a dx : Addr) (xs : List V) (rs : List Rf) (b s : Nat), vs = [.ref x, .ref a, .int (b : Int), .int (s : Int)] ∧ H x = some (.ins C dx []) ∧ SqL K H a xs ∧ Tups H xs rs ∧ 1 ≤ rs.length ∧ (∀ r ∈ rs, Dna r.2) ∧ jl rs ≤ 4000 ∧
  1 ≤ b ∧ b ≤ 1000 ∧ 1 ≤ s ∧ s ≤ 1000 ∧ ∀ H' : Hp, (∀ c o, c ≠ x → H c = some o → H' c = some o) → IxN C (fun q => H q = none) H' x rs b s → Q .non H'
theorem prev_at {ns : List Int} {s : Nat} (h : s < ns.length) : atI (ns.map V.int) ((s : Int) - 1) = some (.int (ns.getD (prevI ns.length s) 0)) := by
  have hp := prevI_lt h
  have g : ns.getD (prevI ns.length s) 0 = ns[prevI ns.length s] := by
    rw [List.getD_eq_getElem?_getD, List.getElem?_eq_getElem hp]
    rfl
  rw [g]
  unfold prevI at hp ⊢
  by_cases c : s = 0
  · subst c
    simp only [if_pos] at hp ⊢
    exact atI_neg1 (n := ns.length - 1) (by rw [List.length_map]; omega) (map_int_at hp)
  · simp only [if_neg c] at hp ⊢
    rw [show (s : Int) - 1 = ((s - 1 : Nat) : Int) by omega]
    exact atI_nat (map_int_at hp)
section
variable {P : Program} {w : World} {K : PySem.W.Frag} {mg : Str → Option Value} {base : Heap}
theorem ok_init {f C : Addr} {fd : FuncData} {k : Nat} {kws : List (Str × V)} (F : FunD K "__init__" "Index.__init__" (defArgs mInit) (defBody mInit) (defScope mInit) [] kws f fd) (X : IxT K mg C) (mlist : mg "list" = none) (menum : mg "enumerate" = none)
    (hJ : Has P w K mg base k "joined" ["texts"] (spPJoined K)) (hR : Has P w K mg base k "suffix_rows" ["numbers"] (spRows K)) (hM : Has P w K mg base k "_smaller_symbols" ["sequence"] (spSmaller K)) (hC : Has P w K mg base k "_counts_at_blocks" ["last", "block"] (spCounts K)) (hB : Has P w K mg base k "_begins_of" ["texts"] (spBegins K)) :
    FnOk P w K mg base CX0 (k + 1) f fd ["self", "references", "block", "sample"] (spInit K C) := by
  obtain ⟨fJ, dJ, GJ, gJ, kJ, bJ⟩ := hJ
  obtain ⟨fR, dR, GR, gR, kR, bR⟩ := hR
  obtain ⟨fM, dM, GM, gM, kM, bM⟩ := hM
  obtain ⟨fC, dC, GC, gC, kC, bC⟩ := hC
  obtain ⟨fB, dB, GB, gB, kB, bB⟩ := hB
  refine F.ok scInit (fun vs H Q E h => ?_) (fun cdv A outer s H vs Q E hr h => ?_)
  · obtain ⟨x, a, dx, xs, rs, b, s, rfl, _⟩ := h
    rfl
  · obtain ⟨x, a, dx, xs, rs, b, sp, rfl, hx, hq, ht, hl1, hd, hjl, hb1, hb2, hs1, hs2, q⟩ := h
    refine ⟨_, PSs.nox (pss_cons (ps_fld (pv 0) (pe_callTy call_list_of (by rfl) mlist (by decide +kernel) (pa_cons (pv 1) pa_nil)) rfl)
      (pss_cons (ps_fld (pv 0) (pv 2) rfl)
      (C8.pss_cut (ps_fld (pv 0) (pv 3) rfl)
      (C8.pss_cut (ps_setLc (i := 4) (own := [("reference", 7)]) (g := gName 7) (tt := tYes) (te := tOp (rIxT K) (tVar 7) (tC (.int 1))) (by rfl) scInit.nd rfl rfl (sw_true rfl rfl rfl (by decide +kernel)) (pi_list (pv 1)) (blkOk_by (own := [("reference", 7)]) (N := NI) (sc := defScope mInit) (by decide +kernel))
        (fun _ _ _ _ _ => pg_name (i := 7) scInit.nd rfl (Or.inl rfl)) (fun _ _ _ _ _ => pts_nil) (fun _ _ _ _ _ => pe_ix (r := rIxT K) ix_tup (pv 7) pe_int (fun _ _ => rfl)))
      (C8.pss_cut (ps_set (i := 5) scInit.nd rfl (.inr rfl) (pe_call GJ hr (by rfl) gJ kJ bJ .nil pass0 (pa_cons (pv 4) pa_nil)))
      (C8.pss_cut (ps_set (i := 6) scInit.nd rfl (.inl rfl) (pe_call GR hr (by rfl) gR kR bR .nil pass0 (pa_cons (pv 5) pa_nil)))
      (C8.pss_cut (ps_fld (pv 0) (pe_lc (own := [("start", 8)]) (g := gName 8) (tt := tYes) (te := tOp (rIxL K) (tVar 5) (tOp (rI0 fun i j => V.int (i - j)) (tVar 8) (tC (.int 1)))) (by rfl) scInit.nd (pi_list (pv 6)) (blkOk_by (own := [("start", 8)]) (N := NI) (sc := defScope mInit) (by decide +kernel))
        (fun _ _ _ _ _ => pg_name (i := 8) scInit.nd rfl (Or.inl rfl)) (fun _ _ _ _ _ => pts_nil) (fun _ _ _ _ _ => pe_ix (r := rIxL K) ix_list (pv 5) (pe_op op_sub (pv 8) pe_int) (fun _ _ => rfl))) rfl)
      (C8.pss_cut (ps_fld (pv 0) (pe_call GM hr (by rfl) gM kM bM .nil pass0 (pa_cons (pv 5) pa_nil)) rfl)
      (C8.pss_cut (ps_fld (pv 0) (pe_call GC hr (by rfl) gC kC bC .nil pass0 (pa_cons (pe_fld (pv 0) rfl) (pa_cons (pv 2) pa_nil))) rfl)
      (C8.pss_cut (ps_fld (pv 0) (pe_dc (own := [("row", 9), ("start", 8)]) (g := gTup K 2 (gCons (gName 9) (gCons (gName 8) gNil))) (tk := tVar 9) (tv := tVar 8) (by rfl) scInit.nd (pi_enum (by rfl) menum (pa_cons (pv 6) pa_nil)) (blkOk_by (own := [("row", 9), ("start", 8)]) (N := NI) (sc := defScope mInit) (by decide +kernel))
        (fun _ _ _ _ _ => pg_tup rfl (pgs_cons (pg_name (i := 9) scInit.nd rfl (Or.inl rfl)) (pgs_cons (pg_name (i := 8) scInit.nd rfl (Or.inl rfl)) pgs_nil))) (fun _ _ _ _ _ => pts_one (pt_cmpR op_eq (pe_op op_mod (pv 8) (pv 3)) pe_int (nomark _))) (fun _ _ _ _ _ => pv 9) (fun _ _ _ _ _ => pv 8)) rfl)
      (pss_one (ps_fld (pv 0) (pe_call GB hr (by rfl) gB kB bB .nil pass0 (pa_cons (pv 4) pa_nil)) rfl)))))))))))), ?_⟩
    have hjp : jl rs = jtl (rs.map (·.2)) := jl_jtl rs
    have hdl : ∀ l ∈ rs.map (·.2), Dna l := fun l hl => by
      obtain ⟨r, hr, rfl⟩ := List.mem_map.mp hl
      exact hd r hr
    have hnl : (jn rs).length ≤ 4000 := by
      rw [jn_len]
      exact hjl
    have hnum : ∀ z ∈ jn rs, 0 ≤ z ∧ z ≤ 6 := by
      rw [jn_jt]
      exact jt_num hdl
    have hxl : xs.length = rs.length := paired_len ht
    -- references, block, sample
    refine ⟨.ref a, rfl, a, xs, rfl, .inl hq, fun aR haR => ?_⟩
    have nR : x ≠ aR := ne_of_none hx haR
    refine ⟨.ref x, rfl, x, C, dx, _, rfl, by rw [upd_ne nR]; exact hx, X.cl, X.n1, by decide, ?_⟩
    refine ⟨.int b, rfl, .ref x, rfl, x, C, dx, _, rfl, upd_same, X.cl, X.n2, by show 1 < 1000; decide, ?_⟩
    refine ⟨fun σ H' => Sb x H H' ∧ ∃ aR, H aR = none ∧ aR ≠ x ∧ H' aR = some (.lst xs) ∧ H' x = some (.ins C dx [("references", .ref aR), ("block", .int (b : Int)), ("sample", .int (sp : Int))]) ∧ σ = [some (.ref x), some (.ref a), some (.int (b : Int)), some (.int (sp : Int)), none, none, none, none, none, none], ⟨.int sp, rfl, .ref x, rfl, x, C, dx, _, rfl, upd_same, X.cl, X.n3, ?_, ?_⟩, ?_⟩
    · rw [putF_new (names := ["references"]) (putF_names1 _ _) (by decide +kernel)]
      show 2 < 1000
      decide
    · refine ⟨fun c o nc e => ?_, aR, haR, nR.symm, ?_, ?_, rfl⟩
      · rw [upd_ne nc, upd_ne nc, upd_ne nc, upd_ne (ne_of_none e haR)]
        exact e
      · rw [upd_ne nR.symm, upd_ne nR.symm, upd_ne nR.symm, upd_same]
      · rw [upd_same, putF_new (names := ["references"]) (putF_names1 _ _) (by decide +kernel), putF_new (names := ["references", "block"]) rfl (by decide +kernel)]
        rfl
    rintro σ H1 ⟨sb1, aR, fR0, nR, hR1, hx1, rfl⟩
    have free1 : ∀ {p : Addr}, p ≠ x → H1 p = none → H p = none := fun {p} n e => sb_free sb1 n e
    -- texts
    refine ⟨fun σ H' => Same H1 H' ∧ ∃ aT, aT ≠ x ∧ H' aT = some (.lst ((rs.map (·.2)).map fun l => V.str (T l))) ∧ σ = [some (.ref x), some (.ref a), some (.int (b : Int)), some (.int (sp : Int)), some (.ref aT), none, none, none, none, none], ?_, ?_⟩
    · have hq1 : SqL K H1 a xs := by
        rcases hq with (z | ⟨o, z⟩) | z
        · exact .inl (.inl (sb1 a _ (fun e => by subst e; rw [hx] at z; cases z) z))
        · exact .inl (.inr ⟨o, sb1 a _ (fun e => by subst e; rw [hx] at z; cases z) z⟩)
        · exact .inr z
      have ht1 : Tups H1 xs rs := ht.mono fun z ys e => sb1 z _ (fun w => by subst w; rw [hx] at e; cases e) e
      refine ⟨.ref a, rfl, a, rfl, ⟨xs, hq1⟩, fun D hD => ?_⟩
      refine lc_list (K := K) (xs := xs) (fun j H' => Same H1 H' ∧ H' D = some (.lst (((rs.map (·.2)).take j).map fun l => V.str (T l)))) ⟨same_upd hD, upd_same⟩ (fun j H' _ h => h.1.seq hq1) ?_ ?_
      · rintro j y H' hjy ⟨s1, hd1⟩
        obtain ⟨r, hr0, qa, rfl, hqa⟩ := paired_get ht1 hjy
        have hj : j < rs.length := (List.getElem?_eq_some_iff.mp hr0).1
        refine ⟨rfl, ?_⟩
        dsimp only [tYes]
        rw [if_pos rfl]
        have hll : rs.length ≤ jl rs := by
          unfold jl
          clear hr0 hj ht1 ht hl1 hd hjl q hjp hdl hnl hnum hxl hd1
          induction rs with
          | nil => exact Nat.zero_le _
          | cons r t ih =>
            rw [List.map_cons, List.sum_cons, List.length_cons]
            omega
        refine ⟨.ref qa, rfl, qa, _, 1, .str (T r.2), rfl, rfl, .inl (.inl (s1 _ _ hqa)), atI_nat (j := 1) rfl, _, hd1, line_lt7 (by rw [List.length_map, List.length_take, List.length_map]; omega), fun c o e => ?_, ?_⟩
        · rw [upd_ne (ne_of_none e hD)]
          exact s1 c o e
        · rw [upd_same, List.take_add_one, List.getElem?_map, hr0, List.map_append]
          rfl
      · rintro H' ⟨s1, hd1⟩
        rw [hxl, List.take_of_length_le (by rw [List.length_map]; exact Nat.le_refl _)] at hd1
        exact ⟨s1, D, (ne_of_none hx1 hD).symm, hd1, rfl⟩
    rintro σ H2 ⟨s12, aT, nT, hT2, rfl⟩
    have hx2 := s12 _ _ hx1
    have hR2 := s12 _ _ hR1
    -- sequence
    refine ⟨fun σ H' => Same H2 H' ∧ ∃ aQ, aQ ≠ x ∧ H' aQ = some (LI (jn rs)) ∧ σ = [some (.ref x), some (.ref a), some (.int (b : Int)), some (.int (sp : Int)), some (.ref aT), some (.ref aQ), none, none, none, none], ?_, ?_⟩
    · refine ⟨.ref aT, rfl, aT, rs.map (·.2), rfl, .inl (.inl hT2), by rw [List.length_map]; exact hl1, hdl, by rw [← hjp]; omega, fun H3 p s3 hp h3 => ⟨s3, p, (ne_of_none hx2 hp).symm, ?_, rfl⟩⟩
      rw [h3, ← jn_jt]
    rintro σ H3 ⟨s23, aQ, nQ, hQ3, rfl⟩
    have hx3 := s23 _ _ hx2
    have hR3 := s23 _ _ hR2
    have hT3 := s23 _ _ hT2
    -- rows
    refine ⟨fun σ H' => Same H3 H' ∧ ∃ aW, aW ≠ x ∧ H' aW = some (LN (starts (jn rs))) ∧ σ = [some (.ref x), some (.ref a), some (.int (b : Int)), some (.int (sp : Int)), some (.ref aT), some (.ref aQ), some (.ref aW), none, none, none], ?_, ?_⟩
    · exact ⟨.ref aQ, rfl, aQ, jn rs, rfl, .inl (.inl hQ3), fun z hz => by have := hnum z hz; omega, hnl, fun H4 p s4 hp h4 => ⟨s4, p, (ne_of_none hx3 hp).symm, h4, rfl⟩⟩
    rintro σ H4 ⟨s34, aW, nW, hW4, rfl⟩
    have hx4 := s34 _ _ hx3
    have hR4 := s34 _ _ hR3
    have hT4 := s34 _ _ hT3
    have hQ4 := s34 _ _ hQ3
    have sb4 : Sb x H H4 := fun c o nc e => s34 _ _ (s23 _ _ (s12 _ _ (sb1 c o nc e)))
    have sl := starts_len (jn rs)
    -- _last
    refine ⟨fun σ H' => Sb x H4 H' ∧ ∃ aL, H aL = none ∧ aL ≠ x ∧ H' aL = some (LI (lastc (jn rs))) ∧ H' x = some (.ins C dx [("references", .ref aR), ("block", .int (b : Int)), ("sample", .int (sp : Int)), ("_last", .ref aL)]) ∧ σ = [some (.ref x), some (.ref a), some (.int (b : Int)), some (.int (sp : Int)), some (.ref aT), some (.ref aQ), some (.ref aW), none, none, none], ?_, ?_⟩
    · refine ⟨.ref aW, rfl, aW, rfl, ⟨_, .inl (.inl hW4)⟩, fun D hD => ?_⟩
      refine lc_list (K := K) (xs := (starts (jn rs)).map fun k : Nat => V.int (k : Nat)) (fun j H' => Same H4 H' ∧ H' D = some (LI ((lastc (jn rs)).take j))) ⟨same_upd hD, upd_same⟩ (fun j H' _ h => .inl (.inl (h.1 _ _ hW4))) ?_ ?_
      · rintro j y H' hjy ⟨s1, hd1⟩
        rw [List.getElem?_map] at hjy
        obtain ⟨st, hst, rfl⟩ := Option.map_eq_some_iff.mp hjy
        have hlt : st < (jn rs).length := starts_lt (List.mem_of_getElem? hst)
        refine ⟨rfl, ?_⟩
        dsimp only [tYes]
        rw [if_pos rfl]
        refine ⟨.ref aQ, rfl, .int (st : Nat), rfl, _, 1, rfl, rfl, aQ, _, _, _, rfl, rfl, .inl (.inl (s1 _ _ hQ4)), prev_at hlt, _, hd1, line_lt7 (by rw [List.length_map, List.length_take, lastc_len]; omega), fun c o e => ?_, ?_⟩
        · rw [upd_ne (ne_of_none e hD)]
          exact s1 c o e
        · have e1 : (lastc (jn rs))[j]? = some ((jn rs).getD (prevI (jn rs).length st) 0) := by
            unfold lastc
            rw [List.getElem?_map, hst]
            rfl
          rw [upd_same, List.take_add_one, e1]
          exact congrArg some (LI_snoc _ _).symm
      · rintro H' ⟨s1, hd1⟩
        rw [List.length_map, sl, ← lastc_len, List.take_length] at hd1
        have nD : D ≠ x := (ne_of_none hx4 hD).symm
        refine ⟨.ref x, rfl, x, C, dx, _, rfl, s1 _ _ hx4, X.cl, X.n4, by show 3 < 1000; decide, fun c o nc e => ?_, D, sb_free sb4 nD hD, nD, ?_, ?_, rfl⟩
        · rw [upd_ne nc]
          exact s1 c o e
        · rw [upd_ne nD]
          exact hd1
        · rw [upd_same, putF_new (names := ["references", "block", "sample"]) rfl (by decide +kernel)]
          rfl
    rintro σ H5 ⟨sb45, aL, fL0, nL, hL5, hx5, rfl⟩
    have sb5 : Sb x H H5 := fun c o nc e => sb45 _ _ nc (sb4 _ _ nc e)
    have hR5 := sb45 _ _ nR hR4
    have hT5 := sb45 _ _ nT hT4
    have hQ5 := sb45 _ _ nQ hQ4
    have hW5 := sb45 _ _ nW hW4
    -- _smaller
    refine ⟨fun σ H' => Sb x H5 H' ∧ ∃ aM, H aM = none ∧ aM ≠ x ∧ H' aM = some (LI (sml (jn rs))) ∧ H' x = some (.ins C dx [("references", .ref aR), ("block", .int (b : Int)), ("sample", .int (sp : Int)), ("_last", .ref aL), ("_smaller", .ref aM)]) ∧ σ = [some (.ref x), some (.ref a), some (.int (b : Int)), some (.int (sp : Int)), some (.ref aT), some (.ref aQ), some (.ref aW), none, none, none], ?_, ?_⟩
    · refine ⟨.ref aQ, rfl, aQ, jn rs, rfl, .inl (.inl hQ5), fun z hz => (hnum z hz).1, fun H' p s1 hp h1 => ?_⟩
      have nD : p ≠ x := (ne_of_none hx5 hp).symm
      refine ⟨.ref x, rfl, x, C, dx, _, rfl, s1 _ _ hx5, X.cl, X.n5, by show 4 < 1000; decide, fun c o nc e => ?_, p, sb_free sb5 nD hp, nD, ?_, ?_, rfl⟩
      · rw [upd_ne nc]
        exact s1 c o e
      · rw [upd_ne nD]
        exact h1
      · rw [upd_same, putF_new (names := ["references", "block", "sample", "_last"]) rfl (by decide +kernel)]
        rfl
    rintro σ H6 ⟨sb56, aM, fM0, nM, hM6, hx6, rfl⟩
    have sb6 : Sb x H H6 := fun c o nc e => sb56 _ _ nc (sb5 _ _ nc e)
    have hR6 := sb56 _ _ nR hR5
    have hT6 := sb56 _ _ nT hT5
    have hL6 := sb56 _ _ nL hL5
    have hW6 := sb56 _ _ nW hW5
    -- _counts
    refine ⟨fun σ H' => Sb x H6 H' ∧ ∃ (aC : Addr) (cs : List V), H aC = none ∧ (∀ q, V.ref q ∈ cs → H q = none) ∧ aC ≠ x ∧ H' aC = some (.lst cs) ∧ Bys aC H' cs (cntR (lastc (jn rs)) b) ∧ H' x = some (.ins C dx [("references", .ref aR), ("block", .int (b : Int)), ("sample", .int (sp : Int)), ("_last", .ref aL), ("_smaller", .ref aM), ("_counts", .ref aC)]) ∧ σ = [some (.ref x), some (.ref a), some (.int (b : Int)), some (.int (sp : Int)), some (.ref aT), some (.ref aQ), some (.ref aW), none, none, none], ?_, ?_⟩
    · refine ⟨.ref x, rfl, x, C, dx, _, _, rfl, hx6, X.cl, X.n4, lookup_of (names := ["references", "block", "sample", "_last", "_smaller"]) (i := 3) rfl rfl (by decide +kernel), .int b, rfl, aL, lastc (jn rs), b, rfl, .inl (.inl hL6), hb1, hb2, by rw [lastc_len]; omega, fun H' p cs s1 hp h1 hc hf => ?_⟩
      have nD : p ≠ x := (ne_of_none hx6 hp).symm
      refine ⟨.ref x, rfl, x, C, dx, _, rfl, s1 _ _ hx6, X.cl, X.n6, by show 5 < 1000; decide, fun c o nc e => ?_, p, cs, sb_free sb6 nD hp, fun z hz => sb_free sb6 (fun w => by have := hf z hz; rw [w, hx6] at this; cases this) (hf z hz), nD, ?_, ?_, ?_, rfl⟩
      · rw [upd_ne nc]
        exact s1 c o e
      · rw [upd_ne nD]
        exact h1
      · exact hc.mono fun z l _ e => by rw [upd_ne (fun w => by subst w; rw [s1 _ _ hx6] at e; cases e)]; exact e
      · rw [upd_same, putF_new (names := ["references", "block", "sample", "_last", "_smaller"]) rfl (by decide +kernel)]
        rfl
    rintro σ H7 ⟨sb67, aC, cs, fC0, fcs0, nC, hC7, hc7, hx7, rfl⟩
    have sb7 : Sb x H H7 := fun c o nc e => sb67 _ _ nc (sb6 _ _ nc e)
    have hR7 := sb67 _ _ nR hR6
    have hT7 := sb67 _ _ nT hT6
    have hL7 := sb67 _ _ nL hL6
    have hM7 := sb67 _ _ nM hM6
    have hW7 := sb67 _ _ nW hW6
    -- _starts
    refine ⟨fun σ H' => Sb x H7 H' ∧ ∃ (aS : Addr), H aS = none ∧ aS ≠ x ∧ H' aS = some (.dK (keptK (jn rs) sp (jn rs).length)) ∧ H' x = some (.ins C dx [("references", .ref aR), ("block", .int (b : Int)), ("sample", .int (sp : Int)), ("_last", .ref aL), ("_smaller", .ref aM), ("_counts", .ref aC), ("_starts", .ref aS)]) ∧ σ = [some (.ref x), some (.ref a), some (.int (b : Int)), some (.int (sp : Int)), some (.ref aT), some (.ref aQ), some (.ref aW), none, none, none], ?_, ?_⟩
    · refine ⟨.ref aW, rfl, aW, _, rfl, .inl (.inl hW7), fun D hD => ?_⟩
      refine dc_gen (n := (jn rs).length) (fun j H' => Same H7 H' ∧ H' D = some (.dK (keptK (jn rs) sp j))) ⟨same_upd hD, upd_same⟩ ?_ ?_ ?_ ?_
      · rintro j H' hj ⟨s1, hd1⟩
        exact ⟨_, _, .inl (.inl (s1 _ _ hW7)), List.getElem?_eq_getElem (by rw [List.length_map, sl]; exact hj)⟩
      · rintro H' ⟨s1, hd1⟩
        exact ⟨_, .inl (.inl (s1 _ _ hW7)), by rw [List.length_map, sl]; exact Nat.le_refl _⟩
      · rintro j H' v H'' hj ⟨s1, hd1⟩ ⟨U, y, rfl, hU, rfl, hy⟩
        have ey := hy _ (.inl (.inl (s1 _ _ hW7)))
        have hjs : j < (starts (jn rs)).length := by rw [sl]; exact hj
        have es := List.getElem?_eq_getElem hjs
        rw [List.getElem?_map, es] at ey
        obtain rfl : V.int ((starts (jn rs))[j] : Nat) = y := Option.some.inj ey
        have gd : (starts (jn rs)).getD j 0 = (starts (jn rs))[j] := by
          rw [List.getD_eq_getElem?_getD, es]
          rfl
        have nUD : D ≠ U := ne_of_none hd1 hU
        refine ⟨U, _, rfl, .inl (.inl upd_same), rfl, _, _, rfl, _, _, rfl, rfl, rfl, ?_⟩
        refine ⟨_, rfl, .int sp, rfl, _, (sp : Int), rfl, rfl, (show (0 : Int) < (sp : Int) by omega), rfl, _, rfl, ?_⟩
        have kn := keptK_none (jn rs) sp (Nat.le_refl j)
        have ks := keptK_succ (jn rs) sp j
        rw [gd] at ks
        by_cases cz : (starts (jn rs))[j] % sp = 0
        · rw [if_pos cz] at ks
          rw [decide_eq_true (show V.int (((starts (jn rs))[j] : Nat) % (sp : Int)) = V.int 0 by rw [← Int.natCast_emod, cz]; rfl)]
          refine iteT ⟨_, rfl, _, rfl, _, .inl (j : Int), rfl, by rw [upd_ne nUD]; exact hd1, line_lt7 (by have := keptK_len (jn rs) sp j; omega), fun c o e => ?_, ?_⟩
          · rw [upd_ne (ne_of_none e hD), upd_ne (ne_of_none (s1 _ _ e) hU)]
            exact s1 _ _ e
          · rw [upd_same, ks, putK_new _ kn]
        · rw [if_neg cz] at ks
          rw [decide_eq_false (show ¬ V.int (((starts (jn rs))[j] : Nat) % (sp : Int)) = V.int 0 from fun z => cz (by have := V.int.inj z; omega))]
          refine iteF ⟨fun c o e => ?_, ?_⟩
          · rw [upd_ne (ne_of_none (s1 _ _ e) hU)]
            exact s1 _ _ e
          · rw [upd_ne nUD, ks]
            exact hd1
      · rintro H' ⟨s1, hd1⟩
        have nD : D ≠ x := (ne_of_none hx7 hD).symm
        refine ⟨.ref x, rfl, x, C, dx, _, rfl, s1 _ _ hx7, X.cl, X.n7, by show 6 < 1000; decide, fun c o nc e => ?_, D, sb_free sb7 nD hD, nD, ?_, ?_, rfl⟩
        · rw [upd_ne nc]
          exact s1 c o e
        · rw [upd_ne nD]
          exact hd1
        · rw [upd_same, putF_new (names := ["references", "block", "sample", "_last", "_smaller", "_counts"]) rfl (by decide +kernel)]
          rfl
    rintro σ H8 ⟨sb78, aS, fS0, nS, hS8, hx8, rfl⟩
    have sb8 : Sb x H H8 := fun c o nc e => sb78 _ _ nc (sb7 _ _ nc e)
    have hR8 := sb78 _ _ nR hR7
    have hT8 := sb78 _ _ nT hT7
    have hL8 := sb78 _ _ nL hL7
    have hM8 := sb78 _ _ nM hM7
    have hC8 := sb78 _ _ nC hC7
    -- _begins
    refine ⟨.ref aT, rfl, aT, rs.map (·.2), rfl, .inl (.inl hT8), by rw [← hjp]; omega, fun H' p s1 hp h1 => ?_⟩
    have nD : p ≠ x := (ne_of_none hx8 hp).symm
    have sbF : Sb x H (upd H' x (.ins C dx (putF "_begins" (.ref p) [("references", .ref aR), ("block", .int (b : Int)), ("sample", .int (sp : Int)), ("_last", .ref aL), ("_smaller", .ref aM), ("_counts", .ref aC), ("_starts", .ref aS)]))) := fun c o nc e => by
      rw [upd_ne nc]
      exact s1 _ _ (sb78 _ _ nc (sb67 _ _ nc (sb56 _ _ nc (sb45 _ _ nc (sb4 _ _ nc e)))))
    refine ⟨.ref x, rfl, x, C, dx, _, rfl, s1 _ _ hx8, X.cl, X.n8, by show 7 < 1000; decide, q _ sbF ⟨dx, aR, xs, aL, aM, aC, cs, aS, p, ⟨?_, ?_, ht.mono fun z ys e => sbF z _ (fun w => by subst w; rw [hx] at e; cases e) e, ?_, ?_, ?_, ?_, ?_, ?_⟩, fR0, fL0, fM0, fC0, fS0, sb_free sb8 nD hp, fcs0⟩⟩
    · rw [upd_same, putF_new (names := ["references", "block", "sample", "_last", "_smaller", "_counts", "_starts"]) rfl (by decide +kernel)]
      rfl
    · rw [upd_ne nR]
      exact s1 _ _ hR8
    · rw [upd_ne nL]
      exact s1 _ _ hL8
    · rw [upd_ne nM]
      exact s1 _ _ hM8
    · rw [upd_ne nC]
      exact s1 _ _ hC8
    · refine hc7.mono fun z l _ e => ?_
      have nz : z ≠ x := fun w => by
        subst w
        rw [hx7] at e
        cases e
      rw [upd_ne nz]
      exact s1 _ _ (sb78 _ _ nz e)
    · rw [upd_ne nS]
      exact s1 _ _ hS8
    · rw [upd_ne nD]
      exact h1
end
/-! ### the steps -/
theorem drop_ne {ns : List Int} {x y : Nat} (hx : x < ns.length) (hy : y < ns.length) (h : x ≠ y) : ns.drop x ≠ ns.drop y := fun e => by
  have := congrArg List.length e
  rw [List.length_drop, List.length_drop] at this
  omega
theorem starts_lt_pw (ns : List Int) : (starts ns).Pairwise fun x y => ns.drop x < ns.drop y := by
  have both := (starts_pw ns).and (List.nodup_iff_pairwise_ne.mp (starts_nodup ns))
  refine both.imp_of_mem fun {x y} hx hy c => ?_
  refine List.not_le.mp fun z => ?_
  exact drop_ne (starts_lt hx) (starts_lt hy) c.2 (List.le_antisymm c.1 z)
/-- in order: those less than the one at r are the first r -/
theorem cnt_take (ns : List Int) (q : Nat → Bool) {r : Nat} (hr : r < (starts ns).length) : (starts ns).countP (fun x => q x && decide (ns.drop x < ns.drop (starts ns)[r])) = ((starts ns).take r).countP q := by
  have pw := starts_lt_pw ns
  have e : starts ns = (starts ns).take r ++ (starts ns)[r] :: (starts ns).drop (r + 1) := by
    rw [← List.drop_eq_getElem_cons hr, List.take_append_drop]
  generalize hv : (starts ns)[r] = v at e
  rw [e] at pw
  obtain ⟨_, p2, p3⟩ := List.pairwise_append.mp pw
  obtain ⟨p4, _⟩ := List.pairwise_cons.mp p2
  have c1 : ((starts ns).take r).countP (fun x => q x && decide (ns.drop x < ns.drop v)) = ((starts ns).take r).countP q := by
    refine List.countP_congr fun x hx => ?_
    rw [decide_eq_true (p3 x hx v List.mem_cons_self), Bool.and_true]
  have c2 : (v :: (starts ns).drop (r + 1)).countP (fun x => q x && decide (ns.drop x < ns.drop v)) = 0 := by
    rw [List.countP_eq_zero]
    intro x hx
    have no : ¬ ns.drop x < ns.drop v := by
      rcases List.mem_cons.mp hx with z | z
      · rw [z]
        exact List.lt_irrefl _
      · exact fun w => List.lt_irrefl _ (List.lt_trans w (p4 x z))
    rw [decide_eq_false no, Bool.and_false]
    exact Bool.false_ne_true
  calc (starts ns).countP (fun x => q x && decide (ns.drop x < ns.drop v)) = ((starts ns).take r ++ v :: (starts ns).drop (r + 1)).countP (fun x => q x && decide (ns.drop x < ns.drop v)) := by rw [← e]
    _ = _ := by rw [List.countP_append, c1, c2, Nat.add_zero]
def rk (ns : List Int) (i : Nat) : Nat := (List.range ns.length).countP fun j => decide (ns.drop j < ns.drop i)
theorem rk_starts (ns : List Int) {r : Nat} (hr : r < (starts ns).length) : rk ns (starts ns)[r] = r := by
  have h := cnt_take ns (fun _ => true) hr
  unfold rk
  rw [← (starts_perm ns).countP_eq]
  simp only [Bool.true_and] at h
  rw [h, List.countP_true, List.length_take]
  omega
theorem starts_rk {ns : List Int} {i : Nat} (hi : i < ns.length) : (starts ns)[rk ns i]? = some i := by
  obtain ⟨r, hr, e⟩ := List.mem_iff_getElem.mp ((starts_perm ns).mem_iff.mpr (List.mem_range.mpr hi))
  have := rk_starts ns hr
  rw [e] at this
  rw [this, List.getElem?_eq_getElem hr, e]
theorem rk_lt {ns : List Int} {i : Nat} (hi : i < ns.length) : rk ns i < ns.length := by
  rw [← starts_len ns]
  exact (List.getElem?_eq_some_iff.mp (starts_rk hi)).1
/-- the step from a row -/
def lf (ns : List Int) (r : Nat) : Nat := lessN ns ((lastc ns).getD r 0).toNat + ((lastc ns).take r).count ((lastc ns).getD r 0)
/-- ended by its only 0 -/
def Ended (ns : List Int) : Prop := (∀ x ∈ ns, 0 ≤ x) ∧ ∀ i x, ns[i]? = some x → (x = 0 ↔ i + 1 = ns.length)
theorem count_range (ns : List Int) (q : Int → Bool) : ns.countP q = (List.range ns.length).countP fun j => q (ns.getD j 0) := by
  have e : ns = (List.range ns.length).map fun j => ns.getD j 0 := by
    apply List.ext_getElem
    · simp
    · intro i h1 h2
      rw [List.getElem_map, List.getElem_range, List.getD_eq_getElem?_getD, List.getElem?_eq_getElem h1]
      rfl
  calc ns.countP q = ((List.range ns.length).map fun j => ns.getD j 0).countP q := by rw [← e]
    _ = _ := by rw [List.countP_map]; rfl
theorem drop_lt_iff {ns : List Int} {i j : Nat} (hi : i < ns.length) (hj : j < ns.length) : ns.drop j < ns.drop i ↔ ns.getD j 0 < ns.getD i 0 ∨ (ns.getD j 0 = ns.getD i 0 ∧ ns.drop (j + 1) < ns.drop (i + 1)) := by
  have gi : ns.getD i 0 = ns[i] := by
    rw [List.getD_eq_getElem?_getD, List.getElem?_eq_getElem hi]
    rfl
  have gj : ns.getD j 0 = ns[j] := by
    rw [List.getD_eq_getElem?_getD, List.getElem?_eq_getElem hj]
    rfl
  rw [gi, gj, List.drop_eq_getElem_cons hi, List.drop_eq_getElem_cons hj, List.cons_lt_cons_iff]
theorem countP_or {α : Type} (l : List α) (p q : α → Bool) (h : ∀ x ∈ l, ¬ (p x = true ∧ q x = true)) : l.countP (fun x => p x || q x) = l.countP p + l.countP q := by
  induction l with
  | nil => rfl
  | cons x r ih =>
    rw [List.countP_cons, List.countP_cons, List.countP_cons, ih fun y hy => h y (List.mem_cons_of_mem _ hy)]
    have := h x List.mem_cons_self
    cases hp : p x <;> cases hq : q x
    · simp
    · simp
      omega
    · simp
      omega
    · exact absurd ⟨hp, hq⟩ this
theorem rk_split {ns : List Int} {i : Nat} (hi : i < ns.length) (h0 : 0 ≤ ns.getD i 0) : rk ns i = lessN ns (ns.getD i 0).toNat + (List.range ns.length).countP fun j => decide (ns.getD j 0 = ns.getD i 0) && decide (ns.drop (j + 1) < ns.drop (i + 1)) := by
  unfold rk lessN
  rw [count_range ns, ← countP_or]
  · refine List.countP_congr fun j hj => ?_
    have hj := List.mem_range.mp hj
    rw [decide_eq_true_iff, drop_lt_iff hi hj, Bool.or_eq_true, Bool.and_eq_true, decide_eq_true_iff, decide_eq_true_iff, decide_eq_true_iff, Int.toNat_of_nonneg h0]
  · intro j _ ⟨a, b⟩
    rw [Bool.and_eq_true, decide_eq_true_iff] at b
    rw [decide_eq_true_iff, Int.toNat_of_nonneg h0] at a
    omega
theorem last_count (ns : List Int) (c : Int) {r : Nat} (hr : r < (starts ns).length) : ((lastc ns).take r).count c = (List.range ns.length).countP fun p => decide (ns.getD (prevI ns.length p) 0 = c) && decide (ns.drop p < ns.drop (starts ns)[r]) := by
  have h := cnt_take ns (fun p => decide (ns.getD (prevI ns.length p) 0 = c)) hr
  rw [(starts_perm ns).countP_eq] at h
  rw [h]
  unfold lastc List.count
  rw [← List.map_take, List.countP_map]
  refine List.countP_congr fun x _ => ?_
  simp
theorem lastc_at (ns : List Int) {r : Nat} (hr : r < (starts ns).length) : (lastc ns)[r]? = some (ns.getD (prevI ns.length (starts ns)[r]) 0) := by
  unfold lastc
  rw [List.getElem?_map, List.getElem?_eq_getElem hr]
  rfl
theorem lastc_getD (ns : List Int) {r : Nat} (hr : r < (starts ns).length) : (lastc ns).getD r 0 = ns.getD (prevI ns.length (starts ns)[r]) 0 := by
  rw [List.getD_eq_getElem?_getD, lastc_at ns hr]
  rfl
theorem Ended.at {ns : List Int} (h : Ended ns) {i : Nat} (hi : i < ns.length) : ns.getD i 0 = 0 ↔ i + 1 = ns.length := by
  rw [List.getD_eq_getElem?_getD, List.getElem?_eq_getElem hi]
  exact h.2 i _ (List.getElem?_eq_getElem hi)
theorem Ended.nonneg {ns : List Int} (h : Ended ns) (i : Nat) : 0 ≤ ns.getD i 0 := by
  rw [List.getD_eq_getElem?_getD]
  cases e : ns[i]? with
  | none => exact Int.le_refl _
  | some x => exact h.1 x (List.mem_of_getElem? e)
/-- the step leads one position back -/
theorem lf_rk {ns : List Int} (he : Ended ns) {r : Nat} (hr : r < (starts ns).length) : lf ns r = rk ns (prevI ns.length (starts ns)[r]) := by
  have hp : (starts ns)[r] < ns.length := starts_lt (List.getElem_mem hr)
  have hi := prevI_lt hp
  unfold lf
  rw [lastc_getD ns hr, rk_split hi (he.nonneg _), last_count ns _ hr]
  congr 1
  generalize (starts ns)[r] = p at hp hi ⊢
  obtain ⟨m, hm⟩ : ∃ m, ns.length = m + 1 := ⟨ns.length - 1, by omega⟩
  by_cases hp0 : p = 0
  · subst hp0
    have e1 : prevI ns.length 0 = m := by
      unfold prevI
      rw [if_pos rfl]
      omega
    have z : ns.getD m 0 = 0 := (he.at (by omega)).mpr (by omega)
    rw [e1, z]
    refine Eq.trans (b := 0) ?_ ?_
    · rw [List.countP_eq_zero]
      intro x hx
      have hx := List.mem_range.mp hx
      rw [Bool.and_eq_true, decide_eq_true_iff, decide_eq_true_iff]
      rintro ⟨a, b⟩
      have := (he.at (prevI_lt hx)).mp a
      have x0 : x = 0 := by
        unfold prevI at this
        split at this <;> omega
      rw [x0] at b
      exact List.lt_irrefl _ b
    · symm
      rw [List.countP_eq_zero]
      intro x hx
      rw [Bool.and_eq_true, decide_eq_true_iff, decide_eq_true_iff]
      rintro ⟨_, b⟩
      rw [List.drop_eq_nil_of_le (i := m + 1) (by omega)] at b
      exact List.not_lt_nil _ b
  · have e1 : prevI ns.length p = p - 1 := by
      unfold prevI
      rw [if_neg hp0]
    have cn : ns.getD (p - 1) 0 ≠ 0 := fun z => by
      have := (he.at (by omega)).mp z
      omega
    rw [e1, show p - 1 + 1 = p by omega]
    generalize ns.getD (p - 1) 0 = c at cn ⊢
    have zm : ns.getD m 0 = 0 := (he.at (by omega)).mpr (by omega)
    rw [hm]
    refine Eq.trans (b := (List.range m).countP fun j => decide (ns.getD j 0 = c) && decide (ns.drop (j + 1) < ns.drop p)) ?_ ?_
    · rw [List.range_succ_eq_map, List.countP_cons, List.countP_map]
      have e0 : prevI (m + 1) 0 = m := by
        unfold prevI
        rw [if_pos rfl]
        omega
      rw [e0, if_neg (by rw [zm, decide_eq_false (fun z => cn z.symm)]; simp)]
      rw [Nat.add_zero]
      refine List.countP_congr fun j _ => ?_
      show ((decide (ns.getD (prevI (m + 1) (j + 1)) 0 = c) && decide (ns.drop (j + 1) < ns.drop p)) = true ↔ _)
      have ej : prevI (m + 1) (j + 1) = j := by
        unfold prevI
        rw [if_neg (by omega)]
        omega
      rw [ej]
    · rw [List.range_succ, List.countP_append, List.countP_singleton, if_neg (by rw [zm, decide_eq_false (fun z => cn z.symm)]; simp)]
      rfl
theorem lf_starts {ns : List Int} (he : Ended ns) {r s : Nat} (hr : (starts ns)[r]? = some s) : (starts ns)[lf ns r]? = some (prevI ns.length s) := by
  obtain ⟨h1, e⟩ := List.getElem?_eq_some_iff.mp hr
  rw [lf_rk he h1, e]
  exact starts_rk (prevI_lt (by rw [← e]; exact starts_lt (List.getElem_mem h1)))
theorem jt_ended {ls : List (List Nat)} (h1 : 1 ≤ ls.length) (h : ∀ l ∈ ls, Dna l) : Ended (jt ls) := by
  have hraw : ∀ x ∈ jraw2 ls, 1 ≤ x := fun x hx => by
    obtain ⟨l, hl, hm⟩ := List.mem_flatMap.mp hx
    rcases List.mem_append.mp hm with y | y
    · obtain ⟨c, hc, rfl⟩ := List.mem_map.mp y
      have := sy_ge c
      omega
    · obtain rfl : x = 1 := by simpa using y
      decide
  refine ⟨fun x hx => (jt_num h x hx).1, fun i x hi => ?_⟩
  have hli := (List.getElem?_eq_some_iff.mp hi).1
  unfold jt at hi hli ⊢
  rw [List.length_set] at hli ⊢
  rw [List.getElem?_set] at hi
  by_cases c : (jraw2 ls).length - 1 = i
  · rw [if_pos c, if_pos (by omega)] at hi
    have := Option.some.inj hi
    omega
  · rw [if_neg c] at hi
    have := hraw x (List.mem_of_getElem? hi)
    omega
theorem jn_ended {rs : List Rf} (h1 : 1 ≤ rs.length) (h : ∀ r ∈ rs, Dna r.2) : Ended (jn rs) := by
  rw [jn_jt]
  refine jt_ended (by rw [List.length_map]; exact h1) fun l hl => ?_
  obtain ⟨r, hr, rfl⟩ := List.mem_map.mp hl
  exact h r hr
theorem jn_num {rs : List Rf} (h : ∀ r ∈ rs, Dna r.2) : ∀ z ∈ jn rs, 0 ≤ z ∧ z ≤ 6 := by
  rw [jn_jt]
  refine jt_num fun l hl => ?_
  obtain ⟨r, hr, rfl⟩ := List.mem_map.mp hl
  exact h r hr
/-! ### the index asked -/
theorem scLength : FnScope ["self"] ["self"] (defScope mLength) := ⟨rfl, rfl, rfl, by decide +kernel, rfl, by decide +kernel, by decide +kernel⟩
theorem scLast : FnScope ["self"] ["self"] (defScope mLast) := ⟨rfl, rfl, rfl, by decide +kernel, rfl, by decide +kernel, by decide +kernel⟩
theorem scCount : FnScope ["self", "symbol", "row", "block"] ["self", "symbol", "row"] (defScope mCount) := ⟨rfl, rfl, rfl, by decide +kernel, rfl, by decide +kernel, by decide +kernel⟩
theorem scAhead : FnScope ["self", "symbol", "row"] ["self", "symbol", "row"] (defScope mAhead) := ⟨rfl, rfl, rfl, by decide +kernel, rfl, by decide +kernel, by decide +kernel⟩
theorem scStep : FnScope ["self", "row"] ["self", "row"] (defScope mStep) := ⟨rfl, rfl, rfl, by decide +kernel, rfl, by decide +kernel, by decide +kernel⟩
theorem scStart : FnScope ["self", "row", "steps"] ["self", "row"] (defScope mStart) := ⟨rfl, rfl, rfl, by decide +kernel, rfl, by decide +kernel, by decide +kernel⟩
/-- a def of the class that keeps a promise -/
def HasM (P : Program) (w : World) (K : PySem.W.Frag) (mg : Str → Option Value) (base : Heap) (C : Addr) (k : Nat) (m : Str) (ps : List Str) (sp : Sp) : Prop :=
  ∃ f fd, FnOk P w K mg base CX0 k f fd ps sp ∧ Meth K C m f ∧ Binds K fd ps []
/-- what is asked of an index -/
def IxOk (rs : List Rf) (b s : Nat) : Prop := 1 ≤ rs.length ∧ (∀ r ∈ rs, Dna r.2) ∧ jl rs ≤ 4000 ∧ 1 ≤ b ∧ b ≤ 1000 ∧ 1 ≤ s ∧ s ≤ 1000
def spLen (C : Addr) : Sp := fun vs H Q _ => ∃ (x : Addr) (rs : List Rf) (b s : Nat), vs = [.ref x] ∧ Ixd C H x rs b s ∧ Q (.int ((jn rs).length : Nat)) H
def spLast (C : Addr) : Sp := fun vs H Q _ => ∃ (x : Addr) (rs : List Rf) (b s : Nat), vs = [.ref x] ∧ Ixd C H x rs b s ∧ ∀ p, H p = none → Q (.ref p) (upd H p (LI (lastc (jn rs))))
def spCount (C : Addr) : Sp := fun vs H Q _ => ∃ (x : Addr) (rs : List Rf) (b s c r : Nat), vs = [.ref x, .int (c : Int), .int (r : Int)] ∧ Ixd C H x rs b s ∧ IxOk rs b s ∧ c < 7 ∧ r ≤ (jn rs).length ∧ ∀ H', Same H H' → Q (.int (((lastc (jn rs)).take r).count (c : Int) : Nat)) H'
def spAhead (C : Addr) : Sp := fun vs H Q _ => ∃ (x : Addr) (rs : List Rf) (b s c r : Nat), vs = [.ref x, .int (c : Int), .int (r : Int)] ∧ Ixd C H x rs b s ∧ IxOk rs b s ∧ c < 7 ∧ r ≤ (jn rs).length ∧ ∀ H', Same H H' → Q (.int (lessN (jn rs) c + ((lastc (jn rs)).take r).count (c : Int) : Nat)) H'
def spStep (C : Addr) : Sp := fun vs H Q _ => ∃ (x : Addr) (rs : List Rf) (b s r : Nat), vs = [.ref x, .int (r : Int)] ∧ Ixd C H x rs b s ∧ IxOk rs b s ∧ r < (jn rs).length ∧ ∀ H', Same H H' → Q (.int (lf (jn rs) r : Nat)) H'
def spStart (C : Addr) : Sp := fun vs H Q _ => ∃ (x : Addr) (rs : List Rf) (b s r : Nat), vs = [.ref x, .int (r : Int)] ∧ Ixd C H x rs b s ∧ IxOk rs b s ∧ r < (jn rs).length ∧ ∀ H', Same H H' → Q (.int ((starts (jn rs)).getD r 0 : Nat)) H'
section
variable {P : Program} {w : World} {K : PySem.W.Frag} {mg : Str → Option Value} {base : Heap}
theorem ixl {aR : Addr} {b s : Nat} {aL aM aC aS aB : Addr} {f : Str} {v : V} {i : Nat} (hi : (ixF aR b s aL aM aC aS aB)[i]? = some (f, v)) (hf : (ixNames.take i).contains f = false) : (ixF aR b s aL aM aC aS aB).lookup f = some v := lookup_of (ixF_names ..) hi hf
theorem ok_len {f C : Addr} {fd : FuncData} {k : Nat} (F : Fun K "length" "Index.length" mLength f fd) (X : IxT K mg C) (mlen : mg "len" = none) : FnOk P w K mg base CX0 (k + 1) f fd ["self"] (spLen C) := by
  refine F.ok scLength (fun vs H Q E h => ?_) (fun cdv A outer s H vs Q E hr h => ?_)
  · obtain ⟨x, rs, b, s, rfl, _⟩ := h
    rfl
  · obtain ⟨x, rs, b, s, rfl, ⟨dx, aR, xs, aL, aM, aC, cs, aS, aB, I⟩, q⟩ := h
    refine ⟨_, pss_one (ps_ret (pe_callB call_len_seq (by rfl) mlen PySem.boot_len (pa_cons (pe_fld (pv 0) rfl) pa_nil))), ?_⟩
    refine ⟨.ref x, rfl, x, C, dx, _, _, rfl, I.ob, X.cl, X.n4, ixl (i := 3) rfl (by decide +kernel), aL, _, rfl, .inl (.inl (.inl I.la)), ?_⟩
    rw [List.length_map, lastc_len]
    exact q
theorem ok_last {f C : Addr} {fd : FuncData} {k : Nat} (F : Fun K "last" "Index.last" mLast f fd) (X : IxT K mg C) (mlist : mg "list" = none) : FnOk P w K mg base CX0 (k + 1) f fd ["self"] (spLast C) := by
  refine F.ok scLast (fun vs H Q E h => ?_) (fun cdv A outer s H vs Q E hr h => ?_)
  · obtain ⟨x, rs, b, s, rfl, _⟩ := h
    rfl
  · obtain ⟨x, rs, b, s, rfl, ⟨dx, aR, xs, aL, aM, aC, cs, aS, aB, I⟩, q⟩ := h
    refine ⟨_, pss_one (ps_ret (pe_callTy call_list_of (by rfl) mlist (by decide +kernel) (pa_cons (pe_fld (pv 0) rfl) pa_nil))), ?_⟩
    exact ⟨.ref x, rfl, x, C, dx, _, _, rfl, I.ob, X.cl, X.n4, ixl (i := 3) rfl (by decide +kernel), aL, _, rfl, .inl (.inl (.inl I.la)), q⟩
theorem ok_count {f C : Addr} {fd : FuncData} {k : Nat} (F : Fun K "count" "Index.count" mCount f fd) (X : IxT K mg C) : FnOk P w K mg base CX0 (k + 1) f fd ["self", "symbol", "row"] (spCount C) := by
  refine F.ok scCount (fun vs H Q E h => ?_) (fun cdv A outer s H vs Q E hr h => ?_)
  · obtain ⟨x, rs, b, s, c, r, rfl, _⟩ := h
    rfl
  · obtain ⟨x, rs, b, s, c, r, rfl, ⟨dx, aR, xs, aL, aM, aC, cs, aS, aB, I⟩, ⟨_, _, hjl, hb1, hb2, _, _⟩, hc, hr1, q⟩ := h
    refine ⟨_, pss_cons (ps_set (i := 3) scCount.nd rfl (.inl rfl) (pe_op op_fdiv (pv 2) (pe_fld (pv 0) rfl)))
      (pss_one (ps_ret (pe_op op_add (pe_ix ix_list (pe_ix ix_list (pe_fld (pv 0) rfl) (pv 3) (fun _ _ => rfl)) (pv 1) (fun _ _ => rfl))
        (pe_bm PySem.F.plainAttrs_list PySem.F.slot_list_count PySem.F.type_list_count mt_lcount (pe_slice sl_list (pe_fld (pv 0) rfl) (po_some (pe_op op_mul (pv 3) (pe_fld (pv 0) rfl))) (po_some (pv 2))) (pa_cons (pv 1) pa_nil))))), ?_⟩
    have hnl : (jn rs).length ≤ 4000 := by
      rw [jn_len]
      exact hjl
    have hll := lastc_len (jn rs)
    refine ⟨.int r, rfl, .ref x, rfl, x, C, dx, _, _, rfl, I.ob, X.cl, X.n2, ixl (i := 1) rfl (by decide +kernel), (r : Int), (b : Int), rfl, rfl, ⟨by omega, by omega⟩, ?_⟩
    have ed : (r : Int) / (b : Int) = ((r / b : Nat) : Int) := (Int.natCast_ediv r b).symm
    have hqr : r / b * b ≤ r := Nat.div_mul_le_self r b
    have hqb : r / b ≤ (lastc (jn rs)).length / b := Nat.div_le_div_right (by omega)
    have hbl := paired_len I.cr
    unfold cntR at hbl
    rw [List.length_map, List.length_range] at hbl
    have hqc : r / b < cs.length := by omega
    obtain ⟨y, hy, qb, eq, nqb, hqb⟩ := paired_get I.cr (List.getElem?_eq_getElem hqc)
    unfold cntR at hy
    rw [List.getElem?_map, List.getElem?_range (by omega)] at hy
    obtain rfl := Option.some.inj hy
    refine ⟨.ref x, rfl, x, C, dx, _, _, rfl, I.ob, X.cl, X.n6, ixl (i := 5) rfl (by decide +kernel), .int ((r : Int) / (b : Int)), rfl, aC, _, _, .ref qb, rfl, rfl, .inl (.inl I.co), by rw [ed]; exact atI_nat (by rw [List.getElem?_eq_getElem hqc, eq]), ?_⟩
    refine ⟨.int c, rfl, qb, _, _, _, rfl, rfl, .inl (.inl hqb), atI_nat (map7_at hc), ?_⟩
    refine ⟨.ref x, rfl, x, C, dx, _, _, rfl, I.ob, X.cl, X.n4, ixl (i := 3) rfl (by decide +kernel), .int ((r : Int) / (b : Int)), rfl, .ref x, rfl, x, C, dx, _, _, rfl, I.ob, X.cl, X.n2, ixl (i := 1) rfl (by decide +kernel), (r : Int) / (b : Int), (b : Int), rfl, rfl, .inl ⟨by rw [ed]; have := Int.natCast_nonneg (r / b); omega, by rw [ed]; have : r / b ≤ r := Nat.div_le_self r b; omega⟩, _, rfl, .int r, rfl, _, rfl, aL, _, rfl, .inl (.inl I.la), fun p hp => ?_⟩
    have hcut : L2.cutV ((lastc (jn rs)).map V.int) (some ((r : Int) / (b : Int) * (b : Int))) (some (r : Int)) = (((lastc (jn rs)).drop (r / b * b)).take (r - r / b * b)).map V.int := by
      rw [ed, ← Int.natCast_mul, cutV_mid _ hqr (by rw [List.length_map]; omega), ← List.map_drop, ← List.map_take]
    have hp2 : upd H p (.lst (L2.cutV ((lastc (jn rs)).map V.int) (some ((r : Int) / (b : Int) * (b : Int))) (some (r : Int)))) p = some (LI (((lastc (jn rs)).drop (r / b * b)).take (r - r / b * b))) := by
      rw [upd_same, hcut]
    refine ⟨.inl ⟨rfl, _, .inl (.inl hp2)⟩, .int c, rfl, p, _, (c : Int), rfl, rfl, .inl (.inl hp2), _, _, rfl, rfl, ?_⟩
    have e : ((((lastc (jn rs)).take (r / b * b)).count (c : Int) : Nat) : Int) + ((((lastc (jn rs)).drop (r / b * b)).take (r - r / b * b)).count (c : Int) : Nat) = (((lastc (jn rs)).take r).count (c : Int) : Nat) := by
      rw [← Int.natCast_add, ← List.count_append, ← List.take_add, show r / b * b + (r - r / b * b) = r by omega]
    have q2 := q (upd H p (.lst (L2.cutV ((lastc (jn rs)).map V.int) (some ((r : Int) / (b : Int) * (b : Int))) (some (r : Int))))) (same_upd hp)
    rw [← e] at q2
    exact q2
theorem ok_ahead {f C : Addr} {fd : FuncData} {k : Nat} (F : Fun K "_row_ahead" "Index._row_ahead" mAhead f fd) (X : IxT K mg C) (hC : HasM P w K mg base C k "count" ["self", "symbol", "row"] (spCount C)) : FnOk P w K mg base CX0 (k + 1) f fd ["self", "symbol", "row"] (spAhead C) := by
  obtain ⟨fC, dC, GC, mC, bC⟩ := hC
  refine F.ok scAhead (fun vs H Q E h => ?_) (fun cdv A outer s H vs Q E hr h => ?_)
  · obtain ⟨x, rs, b, s, c, r, rfl, _⟩ := h
    rfl
  · obtain ⟨x, rs, b, s, c, r, rfl, hI, hk, hc, hr1, q⟩ := h
    obtain ⟨dx, aR, xs, aL, aM, aC, cs, aS, aB, I⟩ := id hI
    refine ⟨_, pss_one (ps_ret (pe_op op_add (pe_ix ix_list (pe_fld (pv 0) rfl) (pv 1) (fun _ _ => rfl)) (pe_meth (pv 0) X.cl mC GC hr bC .nil pass0 (pa_cons (pv 1) (pa_cons (pv 2) pa_nil))))), ?_⟩
    refine ⟨.ref x, rfl, x, C, dx, _, _, rfl, I.ob, X.cl, X.n5, ixl (i := 4) rfl (by decide +kernel), .int c, rfl, aM, _, _, _, rfl, rfl, .inl (.inl I.sm), atI_nat (map7_at hc), ?_⟩
    refine ⟨.ref x, rfl, x, dx, _, rfl, I.ob, lookup_no (ixF_names ..) (by decide +kernel), .int c, rfl, .int r, rfl, x, rs, b, s, c, r, rfl, hI, hk, hc, hr1, fun H' s1 => ⟨_, _, rfl, rfl, ?_⟩⟩
    have q2 := q H' s1
    rw [Int.natCast_add] at q2
    exact q2
theorem ok_step {f C : Addr} {fd : FuncData} {k : Nat} (F : Fun K "step" "Index.step" mStep f fd) (X : IxT K mg C) (hC : HasM P w K mg base C k "_row_ahead" ["self", "symbol", "row"] (spAhead C)) : FnOk P w K mg base CX0 (k + 1) f fd ["self", "row"] (spStep C) := by
  obtain ⟨fC, dC, GC, mC, bC⟩ := hC
  refine F.ok scStep (fun vs H Q E h => ?_) (fun cdv A outer s H vs Q E hr h => ?_)
  · obtain ⟨x, rs, b, s, r, rfl, _⟩ := h
    rfl
  · obtain ⟨x, rs, b, s, r, rfl, hI, hk, hr1, q⟩ := h
    obtain ⟨dx, aR, xs, aL, aM, aC, cs, aS, aB, I⟩ := id hI
    refine ⟨_, pss_one (ps_ret (pe_meth (pv 0) X.cl mC GC hr bC .nil pass0 (pa_cons (pe_ix ix_list (pe_fld (pv 0) rfl) (pv 1) (fun _ _ => rfl)) (pa_cons (pv 1) pa_nil)))), ?_⟩
    have hrs : r < (starts (jn rs)).length := by rw [starts_len]; exact hr1
    have hla := lastc_at (jn rs) hrs
    have hg := lastc_getD (jn rs) hrs
    have hlt : prevI (jn rs).length (starts (jn rs))[r] < (jn rs).length := prevI_lt (starts_lt (List.getElem_mem hrs))
    obtain ⟨z0, z1⟩ := jn_num hk.2.1 _ (List.getElem_mem hlt)
    have gz : (jn rs).getD (prevI (jn rs).length (starts (jn rs))[r]) 0 = (jn rs)[prevI (jn rs).length (starts (jn rs))[r]] := by
      rw [List.getD_eq_getElem?_getD, List.getElem?_eq_getElem hlt]
      rfl
    rw [gz] at hla hg
    obtain ⟨c, hc⟩ : ∃ c : Nat, (jn rs)[prevI (jn rs).length (starts (jn rs))[r]] = (c : Int) := ⟨_, (Int.toNat_of_nonneg z0).symm⟩
    rw [hc] at hla hg z1
    refine ⟨.ref x, rfl, x, dx, _, rfl, I.ob, lookup_no (ixF_names ..) (by decide +kernel), .ref x, rfl, x, C, dx, _, _, rfl, I.ob, X.cl, X.n4, ixl (i := 3) rfl (by decide +kernel), .int r, rfl, aL, _, _, .int (c : Int), rfl, rfl, .inl (.inl I.la), atI_nat (by rw [List.getElem?_map, hla]; rfl), .int r, rfl, ?_⟩
    refine ⟨x, rs, b, s, c, r, rfl, hI, hk, by omega, by omega, fun H' s1 => ?_⟩
    have e : lf (jn rs) r = lessN (jn rs) c + ((lastc (jn rs)).take r).count (c : Int) := by
      unfold lf
      rw [hg]
      rfl
    rw [← e]
    exact q H' s1
end
section
variable {P : Program} {w : World} {K : PySem.W.Frag} {mg : Str → Option Value} {base : Heap}
theorem ok_start {f C : Addr} {fd : FuncData} {k : Nat} (F : Fun K "start" "Index.start" mStart f fd) (X : IxT K mg C) (hC : HasM P w K mg base C k "step" ["self", "row"] (spStep C)) : FnOk P w K mg base CX0 (k + 1) f fd ["self", "row"] (spStart C) := by
  obtain ⟨fC, dC, GC, mC, bC⟩ := hC
  refine F.ok scStart (fun vs H Q E h => ?_) (fun cdv A outer s H vs Q E hr h => ?_)
  · obtain ⟨x, rs, b, s, r, rfl, _⟩ := h
    rfl
  · obtain ⟨x, rs, b, s, r, rfl, hI, hk, hr1, q⟩ := h
    refine ⟨_, pss_cons (ps_set (i := 2) scStart.nd rfl (.inl rfl) pe_int)
      (C8.pss_cut (ps_while PassesOwn.never (pt_cmp (pc_dnotin (hu_of hr) (pv 1) (pe_fld (pv 0) rfl)))
        (pss_cons (ps_set (i := 1) scStart.nd rfl (.inl rfl) (pe_meth (pv 0) X.cl mC GC hr bC .nil pass0 (pa_cons (pv 1) pa_nil)))
        (pss_one (ps_aug (i := 2) scStart.nd rfl (.inl rfl) pe_int ip_add))))
      (pss_one (ps_ret (pe_op op_add (pe_dget (hu_of hr) (pe_fld (pv 0) rfl) (pv 1) (fun _ _ => rfl)) (pv 2))))), ?_⟩
    have en := jn_ended hk.1 hk.2.1
    have sl := starts_len (jn rs)
    have got : ∀ {r : Nat}, r < (jn rs).length → ∃ st, (starts (jn rs))[r]? = some st ∧ (starts (jn rs)).getD r 0 = st := fun {r} h => by
      have e := List.getElem?_eq_getElem (show r < (starts (jn rs)).length by omega)
      exact ⟨_, e, by rw [List.getD_eq_getElem?_getD, e]; rfl⟩
    obtain ⟨st0, hst0, hg0⟩ := got hr1
    rw [hg0] at q
    refine ⟨fun σ H' => Same H H' ∧ ∃ r' t : Nat, r' < (jn rs).length ∧ (starts (jn rs)).getD r' 0 + t = st0 ∧ (starts (jn rs)).getD r' 0 % s = 0 ∧ σ = [some (.ref x), some (.int (r' : Int)), some (.int (t : Int))], ?_, ?_⟩
    · refine while_by (fun σ H' => Same H H' ∧ ∃ r' t : Nat, r' < (jn rs).length ∧ (starts (jn rs)).getD r' 0 + t = st0 ∧ σ = [some (.ref x), some (.int (r' : Int)), some (.int (t : Int))])
        (fun (σ : L2.St) (_ : Hp) => match σ[1]? with | some (some (V.int z)) => (starts (jn rs)).getD z.toNat 0 | _ => 0) ⟨Same.refl _, r, 0, hr1, by omega, rfl⟩ ?_ ?_
      · rintro σ H' ⟨sm, r', t, hr', hsum, rfl⟩
        have hI' := hI.same sm
        obtain ⟨dx, aR, xs, aL, aM, aC, cs, aS, aB, I⟩ := id hI'
        obtain ⟨st, hst, hg⟩ := got hr'
        refine ⟨_, rfl, .ref x, rfl, x, C, dx, _, _, rfl, I.ob, X.cl, X.n7, ixl (i := 6) rfl (by decide +kernel), aS, _, rfl, DGet.k (k := Sum.inl (r' : Int)) I.st, _, rfl, ?_⟩
        rw [keptK_val _ _ hr', hg]
        by_cases c : st % s = 0
        · rw [if_pos c]
          refine iteF ⟨sm, r', t, hr', hsum, by rw [hg]; exact c, rfl⟩
        · rw [if_neg c]
          have st1 : st ≠ 0 := fun z => c (by rw [z]; exact Nat.zero_mod s)
          have hlf := lf_starts en hst
          have hpv : prevI (jn rs).length st = st - 1 := by
            unfold prevI
            rw [if_neg st1]
          rw [hpv] at hlf
          have hll : lf (jn rs) r' < (jn rs).length := by
            rw [← sl]
            exact (List.getElem?_eq_some_iff.mp hlf).1
          have hg2 : (starts (jn rs)).getD (lf (jn rs) r') 0 = st - 1 := by
            rw [List.getD_eq_getElem?_getD, hlf]
            rfl
          refine iteT ⟨.ref x, rfl, x, dx, _, rfl, I.ob, lookup_no (ixF_names ..) (by decide +kernel), _, rfl, x, rs, b, s, r', rfl, hI', hk, hr', fun H2 s2 => ?_⟩
          refine ⟨_, rfl, _, 1, rfl, rfl, ⟨sm.trans s2, lf (jn rs) r', t + 1, hll, by rw [hg2]; omega, rfl⟩, ?_⟩
          show (starts (jn rs)).getD ((lf (jn rs) r' : Nat) : Int).toNat 0 < (starts (jn rs)).getD ((r' : Nat) : Int).toNat 0
          rw [Int.toNat_natCast, Int.toNat_natCast, hg2, hg]
          omega
      · rintro σ H' Q1 Q2 m ⟨v, e1, v2, e2, a, C2, dx, fs, z, e3, h3, h4, h5, h6, a2, o, e4, h7, k2, e5, h8⟩
        exact ⟨v, e1, v2, e2, a, C2, dx, fs, z, e3, h3, h4, h5, h6, a2, o, e4, h7, k2, e5, m _ _ h8⟩
    · rintro σ H' ⟨sm, r', t, hr', hsum, hz, rfl⟩
      obtain ⟨dx, aR, xs, aL, aM, aC, cs, aS, aB, I⟩ := hI.same sm
      have dg := DGet.k (k := Sum.inl (r' : Int)) I.st
      rw [keptK_val _ _ hr', if_pos hz] at dg
      refine ⟨.ref x, rfl, x, C, dx, _, _, rfl, I.ob, X.cl, X.n7, ixl (i := 6) rfl (by decide +kernel), _, rfl, aS, _, rfl, dg, _, rfl, _, _, rfl, rfl, ?_⟩
      have e : (((starts (jn rs)).getD r' 0 : Nat) : Int) + (t : Int) = (st0 : Int) := by omega
      have q2 := q H' sm
      rw [← e] at q2
      exact q2
end
/-! ### an index is made -/
def gI {α : Type} (vs ms zs : List α) : List α := vs ++ (ms ++ zs)
def psI : List Str := ["self", "references", "block", "sample"]
def HasI (P : Program) (w : World) (K : PySem.W.Frag) (mg : Str → Option Value) (base : Heap) (C : Addr) (k : Nat) : Prop :=
  ∃ (f : Addr) (fd : FuncData) (mv ds : List Value), Mk K C f ∧ FnOk P w K mg base CX0 k f fd psI (spInit K C) ∧ KBn K fd psI 2 ["block", "sample"] (fun us ws => gI us mv ws) (fun vs zs => gI vs [] zs) ∧ Vals [.int 64, .int 16] ds ∧ Binds K fd psI ds
theorem hasI_of {P : Program} {w : World} {K : PySem.W.Frag} {mg : Str → Option Value} {base : Heap} {C f : Addr} {fd : FuncData} {k : Nat} (M : Mk K C f) (F : FunD K "__init__" "Index.__init__" (defArgs mInit) (defBody mInit) (defScope mInit) [] [("block", .int 64), ("sample", .int 16)] f fd) (G : FnOk P w K mg base CX0 k f fd psI (spInit K C)) : HasI P w K mg base C k := by
  obtain ⟨mv, hk⟩ := F.kbinds0 (ps := psI) 2 ["block", "sample"] [] gI (by simp) (fun q hq => by cases hq) (fun r1 r2 r3 => r1.append (r2.append r3)) fun D doc pm an cdv ct us mv ws h1 h2 h3 => by
    match us, mv, ws, h1, h2, h3 with
    | [u1, u2], [], [w1, w2], _, _, _ => exact rfl
  obtain ⟨ds, hv, hb⟩ := F.binds0 (ps := psI) 2 (by simp) (by rfl) fun D doc pm an cdv ct us ks h1 h2 => by
    match us, ks, h1, h2 with
    | [u1, u2], [w1, w2], _, _ => exact ⟨_, _, _, _, _, _, rfl, rfl, _, _, _, _, _, _, rfl, rfl, rfl⟩
  exact ⟨f, fd, mv, ds, M, G, hk, hv, hb⟩
theorem made {C x dx : Addr} {H H' : Hp} {rs : List Rf} {b s : Nat} (nx : H x = none) (ndx : H dx = none) (sb : ∀ c o, c ≠ x → upd (upd H dx (.own x)) x (.ins C dx []) c = some o → H' c = some o) (h : IxN C (fun q => upd (upd H dx (.own x)) x (.ins C dx []) q = none) H' x rs b s) :
    Same H H' ∧ IxN C (fun q => H q = none) H' x rs b s := by
  refine ⟨fun c o e => sb c o (ne_of_none e nx) ?_, ?_⟩
  · rw [upd_ne (ne_of_none e nx), upd_ne (ne_of_none e ndx)]
    exact e
  · obtain ⟨dx', aR, xs, aL, aM, aC, cs, aS, aB, I, n1, n2, n3, n4, n5, n6, n7⟩ := h
    have f : ∀ {q}, upd (upd H dx (.own x)) x (.ins C dx []) q = none → H q = none := fun e => new_old (new_old e)
    exact ⟨dx', aR, xs, aL, aM, aC, cs, aS, aB, I, f n1, f n2, f n3, f n4, f n5, f n6, fun q hq => f (n7 q hq)⟩
/-! ### data as a whole -/
def Asc (l : List Nat) : Prop := ∀ c ∈ l, c < 128
def dS (l : List Nat) : PyData := .str (T l)
def dL (ls : List (List Nat)) : PyData := .list (ls.map dS)
def dR (rs : List (List Nat × List Nat)) : PyData := .list (rs.map fun r => .tuple [dS r.1, dS r.2])
theorem can_dS {l : List Nat} (h : Asc l) : (dS l).canLay0 = true := by
  show PyData.strOk (T l) = true
  unfold PyData.strOk
  rw [Array.all_eq_true]
  intro i hi
  have hi2 : i < l.length := by rw [T_size] at hi; exact hi
  have e : (T l).cps[i]? = l[i]? := T_at l i
  rw [Array.getElem?_eq_getElem hi, List.getElem?_eq_getElem hi2] at e
  rw [Option.some.inj e]
  have := h _ (List.getElem_mem hi2)
  exact decide_eq_true (by omega)
theorem can_dL {ls : List (List Nat)} (h : ∀ l ∈ ls, Asc l) : (dL ls).canLay0 = true := by
  show PyData.canLayAll0 (ls.map dS) = true
  induction ls with
  | nil => rfl
  | cons l r ih =>
    show ((dS l).canLay0 && PyData.canLayAll0 (r.map dS)) = true
    rw [can_dS (h l List.mem_cons_self), ih fun x hx => h x (List.mem_cons_of_mem _ hx)]
    rfl
theorem depth_dL (ls : List (List Nat)) : PyData.depth (dL ls) ≤ 64 := by
  have : PyData.depthAll (ls.map dS) = 0 := by
    induction ls with
    | nil => rfl
    | cons l r ih =>
      show max (PyData.depth (dS l)) (PyData.depthAll (r.map dS)) = 0
      rw [ih]
      rfl
  show PyData.depthAll (ls.map dS) + 1 ≤ 64
  omega
theorem shaped_dL {ls : List (List Nat)} (h : ∀ l ∈ ls, Asc l) : SeqAt.shaped (dL ls) = true := by
  unfold SeqAt.shaped
  rw [can_dL h, decide_eq_true (depth_dL ls)]
  rfl
theorem can_dR {rs : List (List Nat × List Nat)} (h : ∀ r ∈ rs, Asc r.1 ∧ Asc r.2) : (dR rs).canLay0 = true := by
  show PyData.canLayAll0 (rs.map fun r => .tuple [dS r.1, dS r.2]) = true
  induction rs with
  | nil => rfl
  | cons l r ih =>
    show (((dS l.1).canLay0 && ((dS l.2).canLay0 && true)) && PyData.canLayAll0 (r.map fun r => .tuple [dS r.1, dS r.2])) = true
    rw [can_dS (h l List.mem_cons_self).1, can_dS (h l List.mem_cons_self).2, ih fun x hx => h x (List.mem_cons_of_mem _ hx)]
    rfl
theorem depth_dR (rs : List (List Nat × List Nat)) : PyData.depth (dR rs) ≤ 64 := by
  have : PyData.depthAll (rs.map fun r => .tuple [dS r.1, dS r.2]) ≤ 1 := by
    induction rs with
    | nil => exact Nat.zero_le _
    | cons l r ih =>
      show max (max 0 (max 0 0) + 1) (PyData.depthAll (r.map fun r => .tuple [dS r.1, dS r.2])) ≤ 1
      omega
  show PyData.depthAll (rs.map fun r => .tuple [dS r.1, dS r.2]) + 1 ≤ 64
  omega
theorem shaped_dR {rs : List (List Nat × List Nat)} (h : ∀ r ∈ rs, Asc r.1 ∧ Asc r.2) : SeqAt.shaped (dR rs) = true := by
  unfold SeqAt.shaped
  rw [can_dR h, decide_eq_true (depth_dR rs)]
  rfl
section
variable {K : PySem.W.Frag}
theorem dp_strs {H : Hp} : ∀ ls : List (List Nat), DpAll K H (ls.map fun l => V.str (T l)) (ls.map dS)
  | [] => .nil
  | l :: r => .cons (.str _) (dp_strs r)
theorem dp_dL {H : Hp} {a : Addr} {ls : List (List Nat)} (h : SqL K H a (ls.map fun l => V.str (T l))) : Dp K H (.ref a) (dL ls) := .lst h (dp_strs ls)
theorem dp_tups {H : Hp} : ∀ {xs : List V} {rs : List (List Nat × List Nat)}, Tups H xs rs → DpAll K H xs (rs.map fun r => .tuple [dS r.1, dS r.2])
  | _, _, .nil => .nil
  | _, _, .cons ⟨_, e, h⟩ t => .cons (by rw [e]; exact .tup (.inl (.inl h)) (.cons (.str _) (.cons (.str _) .nil))) (dp_tups t)
theorem dp_dR {H : Hp} {a : Addr} {xs : List V} {rs : List (List Nat × List Nat)} (h : SqL K H a xs) (t : Tups H xs rs) : Dp K H (.ref a) (dR rs) := .lst h (dp_tups t)
end
theorem sg_asc {c : Nat} (h : Sg c) : c < 128 := by
  rcases h with h | h | h | h | h <;> omega
theorem dna_asc {l : List Nat} (h : Dna l) : Asc l := fun c hc => sg_asc (h c hc)
open LamX in
theorem Grow.same {T : List (Addr × Str)} {H H1 H2 : Hp} (g : Grow T H H1) (s : Same H1 H2) : Grow T H H2 := ⟨fun b o e n => s _ _ (g.ext b o e n), tabs_same g.tab s⟩
open LamX in
theorem Grow.trans {T : List (Addr × Str)} {H H1 H2 : Hp} (g : Grow T H H1) (g2 : Grow T H1 H2) : Grow T H H2 := ⟨fun b o e n => g2.ext _ _ (g.ext b o e n) n, g2.tab⟩
open LamX in
theorem Grow.start {T : List (Addr × Str)} {H : Hp} (t : Tabs T H) : Grow T H H := ⟨fun _ _ e _ => e, t⟩
open LamX in
theorem Grow.lst {T : List (Addr × Str)} {H H1 : Hp} (g : Grow T H H1) {a : Addr} {xs : List V} (e : H a = some (.lst xs)) : H1 a = some (.lst xs) := g.ext _ _ e fun ps z => by cases z
abbrev lamQ : Str := Str.ofString "_law_starts.<locals>." ++ Str.ofString "<lambda>"
open LamX in
def spLaw (K : PySem.W.Frag) (T : List (Addr × Str)) : Sp := fun vs H Q _ => ∃ (a : Addr) (ns : List Int), vs = [.ref a] ∧ SqL K H a (ns.map V.int) ∧ Tabs T H ∧ ∀ H', Q (.bl true) H'
theorem gd_dna {rs : List Rf} (h : ∀ r ∈ rs, Gd r ∧ r.2.length ≤ 400) : ∀ r ∈ rs, Dna r.2 := fun r hr => (h r hr).1.2.1
theorem gd_asc {rs : List Rf} (h : ∀ r ∈ rs, Gd r ∧ r.2.length ≤ 400) : ∀ r ∈ rs, Asc r.1 ∧ Asc r.2 := fun r hr => ⟨fun c hc => ncl_asc c ((h r hr).1.1.2.2 c hc), dna_asc (h r hr).1.2.1⟩
/-! ### intervals -/
/-- the row to which a step with the symbol c would lead -/
def aheadN (ns : List Int) (c : Int) (r : Nat) : Nat := lessN ns c.toNat + ((lastc ns).take r).count c
/-- the interval that the program finds, symbol by symbol from the end -/
def ivl (ns : List Int) : List Int → Nat × Nat
  | [] => (0, ns.length)
  | c :: w => if (ivl ns w).1 = (ivl ns w).2 then ivl ns w else (aheadN ns c (ivl ns w).1, aheadN ns c (ivl ns w).2)
def bA (w x : List Int) : Bool := decide (x < w)
def bB (w x : List Int) : Bool := decide (x < w) || w.isPrefixOf x
theorem bA_cons (c d : Int) (w y : List Int) : bA (c :: w) (d :: y) = (decide (d < c) || (decide (d = c) && bA w y)) := by
  unfold bA
  rw [Bool.eq_iff_iff, Bool.or_eq_true, Bool.and_eq_true, decide_eq_true_iff, decide_eq_true_iff, decide_eq_true_iff, decide_eq_true_iff, List.cons_lt_cons_iff]
theorem bB_cons (c d : Int) (w y : List Int) : bB (c :: w) (d :: y) = (decide (d < c) || (decide (d = c) && bB w y)) := by
  have h := bA_cons c d w y
  unfold bA at h
  unfold bB
  rw [h]
  show ((decide (d < c) || (decide (d = c) && decide (y < w))) || ((c == d) && w.isPrefixOf y)) = _
  by_cases e : d = c
  · subst e
    simp
  · have e2 : (c == d) = false := beq_eq_false_iff_ne.mpr fun z => e z.symm
    rw [e2, decide_eq_false e]
    simp
/-- what holds of a suffix holds of every lesser one -/
def Closed (b : List Int → Bool) : Prop := ∀ x y, x < y → b y = true → b x = true
theorem bA_closed (w : List Int) : Closed (bA w) := fun x y h hb => by
  unfold bA at hb ⊢
  exact decide_eq_true (List.lt_trans h (of_decide_eq_true hb))
theorem pre_lt : ∀ (w x y : List Int), x < y → w <+: y → x < w ∨ w <+: x
  | [], x, y, _, _ => .inr (List.nil_prefix)
  | a :: w, [], y, _, _ => .inl List.Lex.nil
  | a :: w, b :: x, [], _, h => absurd h (by simp)
  | a :: w, b :: x, e :: y, h, hp => by
    obtain ⟨e1, hp2⟩ := List.cons_prefix_cons.mp hp
    subst e1
    rcases List.cons_lt_cons_iff.mp h with z | ⟨z, h2⟩
    · exact .inl (List.cons_lt_cons_iff.mpr (.inl z))
    · subst z
      rcases pre_lt w x y h2 hp2 with q | q
      · exact .inl (List.cons_lt_cons_iff.mpr (.inr ⟨rfl, q⟩))
      · exact .inr (List.cons_prefix_cons.mpr ⟨rfl, q⟩)
theorem bB_iff (w x : List Int) : bB w x = true ↔ x < w ∨ w <+: x := by
  unfold bB
  rw [Bool.or_eq_true, decide_eq_true_iff, List.isPrefixOf_iff_prefix]
theorem bB_closed (w : List Int) : Closed (bB w) := fun x y h hb => by
  rw [bB_iff] at hb ⊢
  rcases hb with z | z
  · exact .inl (List.lt_trans h z)
  · exact pre_lt w x y h z
theorem pre_not_lt : ∀ (w x : List Int), w <+: x → ¬ x < w
  | [], x, _ => List.not_lt_nil x
  | a :: w, [], h => absurd h (by simp)
  | a :: w, b :: x, h => fun z => by
    obtain ⟨e1, h2⟩ := List.cons_prefix_cons.mp h
    subst e1
    rcases List.cons_lt_cons_iff.mp z with q | ⟨_, q⟩
    · exact absurd q (Int.lt_irrefl _)
    · exact pre_not_lt w x h2 q
theorem down_take (f : Nat → List Int) (q : Nat → Bool) {b : List Int → Bool} (hb : Closed b) : ∀ L : List Nat, L.Pairwise (fun x y => f x < f y) → L.countP (fun x => q x && b (f x)) = (L.take (L.countP fun x => b (f x))).countP q
  | [], _ => rfl
  | x :: r, p => by
    obtain ⟨p1, p2⟩ := List.pairwise_cons.mp p
    have ih := down_take f q hb r p2
    by_cases h : b (f x) = true
    · rw [List.countP_cons, ih, List.countP_cons (p := fun x => b (f x)), if_pos h, List.take_succ_cons, List.countP_cons]
      congr 1
      rw [h, Bool.and_true]
    · have h0 : ∀ y ∈ x :: r, ¬ b (f y) = true := fun y hy z => by
        rcases List.mem_cons.mp hy with e | e
        · subst e
          exact h z
        · exact h (hb _ _ (p1 y e) z)
      have e1 : (x :: r).countP (fun x => b (f x)) = 0 := List.countP_eq_zero.mpr h0
      have e2 : (x :: r).countP (fun x => q x && b (f x)) = 0 := List.countP_eq_zero.mpr fun y hy z => h0 y hy ((Bool.and_eq_true _ _).mp z).2
      rw [e1, e2, List.take_zero]
      rfl
def cntB (ns : List Int) (b : List Int → Bool) : Nat := (List.range ns.length).countP fun j => b (ns.drop j)
theorem cntB_le (ns : List Int) (b : List Int → Bool) : cntB ns b ≤ ns.length := by
  have := List.countP_le_length (p := fun j => b (ns.drop j)) (l := List.range ns.length)
  rw [List.length_range] at this
  exact this
theorem last_cntB (ns : List Int) (c : Int) {b : List Int → Bool} (hb : Closed b) : ((lastc ns).take (cntB ns b)).count c = (List.range ns.length).countP fun p => decide (ns.getD (prevI ns.length p) 0 = c) && b (ns.drop p) := by
  have h := down_take (fun x => ns.drop x) (fun p => decide (ns.getD (prevI ns.length p) 0 = c)) hb (starts ns) (starts_lt_pw ns)
  rw [(starts_perm ns).countP_eq, (starts_perm ns).countP_eq] at h
  rw [h]
  unfold lastc List.count cntB
  rw [← List.map_take, List.countP_map]
  refine List.countP_congr fun x _ => ?_
  simp
/-- rows and positions shifted by one -/
theorem shift {ns : List Int} (he : Ended ns) {c : Int} (hc : c ≠ 0) (hn : 1 ≤ ns.length) (Z : List Int → Bool) : ((List.range ns.length).countP fun p => decide (ns.getD (prevI ns.length p) 0 = c) && Z (ns.drop p)) = (List.range ns.length).countP fun j => decide (ns.getD j 0 = c) && Z (ns.drop (j + 1)) := by
  obtain ⟨m, hm⟩ : ∃ m, ns.length = m + 1 := ⟨ns.length - 1, by omega⟩
  have zm : ns.getD m 0 = 0 := (he.at (by omega)).mpr (by omega)
  rw [hm]
  refine Eq.trans (b := (List.range m).countP fun j => decide (ns.getD j 0 = c) && Z (ns.drop (j + 1))) ?_ ?_
  · rw [List.range_succ_eq_map, List.countP_cons, List.countP_map]
    have e0 : prevI (m + 1) 0 = m := by
      unfold prevI
      rw [if_pos rfl]
      omega
    rw [e0, if_neg (by rw [zm, decide_eq_false (fun z => hc z.symm)]; simp), Nat.add_zero]
    refine List.countP_congr fun j _ => ?_
    show ((decide (ns.getD (prevI (m + 1) (j + 1)) 0 = c) && Z (ns.drop (j + 1))) = true ↔ _)
    have ej : prevI (m + 1) (j + 1) = j := by
      unfold prevI
      rw [if_neg (by omega)]
      omega
    rw [ej]
  · rw [List.range_succ, List.countP_append, List.countP_singleton, if_neg (by rw [zm, decide_eq_false (fun z => hc z.symm)]; simp)]
    rfl
theorem cnt_cons {ns : List Int} (he : Ended ns) (hn : 1 ≤ ns.length) {c : Int} (hc : 0 < c) {b b' : List Int → Bool} (hb : Closed b) (hr : ∀ d y, b' (d :: y) = (decide (d < c) || (decide (d = c) && b y))) : cntB ns b' = aheadN ns c (cntB ns b) := by
  unfold aheadN
  rw [last_cntB ns c hb, shift he (by omega) hn, lessN, count_range ns, ← countP_or]
  · unfold cntB
    refine List.countP_congr fun j hj => ?_
    have hj := List.mem_range.mp hj
    have g : ns.getD j 0 = ns[j] := by
      rw [List.getD_eq_getElem?_getD, List.getElem?_eq_getElem hj]
      rfl
    rw [List.drop_eq_getElem_cons hj, hr, g, Int.toNat_of_nonneg (by omega)]
  · rintro j _ ⟨x, y⟩
    rw [Bool.and_eq_true, decide_eq_true_iff] at y
    rw [decide_eq_true_iff, Int.toNat_of_nonneg (by omega)] at x
    omega
theorem lo_le_hi (ns : List Int) (w : List Int) : cntB ns (bA w) ≤ cntB ns (bB w) := by
  unfold cntB
  refine List.countP_mono_left fun x _ h => ?_
  unfold bA at h
  unfold bB
  rw [h]
  rfl
/-- the program's interval: the true one, or two equal numbers where nothing begins so -/
theorem ivl_spec {ns : List Int} (he : Ended ns) (hn : 1 ≤ ns.length) : ∀ w : List Int, (∀ c ∈ w, 0 < c) → ((ivl ns w).1 = cntB ns (bA w) ∧ (ivl ns w).2 = cntB ns (bB w)) ∨ ((ivl ns w).1 = (ivl ns w).2 ∧ (ivl ns w).1 ≤ ns.length ∧ ∀ j, ¬ w <+: ns.drop j)
  | [], _ => by
    refine .inl ⟨?_, ?_⟩
    · symm
      exact List.countP_eq_zero.mpr fun j _ z => List.not_lt_nil _ (of_decide_eq_true z)
    · symm
      unfold cntB
      rw [List.countP_eq_length.mpr fun j _ => (bB_iff _ _).mpr (.inr List.nil_prefix), List.length_range]
      rfl
  | c :: w, hw => by
    have ih := ivl_spec he hn w fun z hz => hw z (List.mem_cons_of_mem _ hz)
    have hc := hw c List.mem_cons_self
    have no : (∀ j, ¬ w <+: ns.drop j) → ∀ j, ¬ (c :: w) <+: ns.drop j := fun h j z => by
      by_cases hj : j < ns.length
      · rw [List.drop_eq_getElem_cons hj] at z
        exact h (j + 1) (List.cons_prefix_cons.mp z).2
      · rw [List.drop_eq_nil_of_le (by omega)] at z
        simp at z
    unfold ivl
    rcases ih with ⟨h1, h2⟩ | ⟨h1, h2, h3⟩
    · by_cases e : (ivl ns w).1 = (ivl ns w).2
      · rw [if_pos e]
        refine .inr ⟨e, by rw [h1]; exact cntB_le _ _, no fun j z => ?_⟩
        rw [h1, h2] at e
        -- the counts differ where w begins
        by_cases hj : j < ns.length
        · have lt : cntB ns (bA w) < cntB ns (bB w) := by
            unfold cntB
            have hm : j ∈ List.range ns.length := List.mem_range.mpr hj
            obtain ⟨l1, l2, el⟩ := List.append_of_mem hm
            rw [el, List.countP_append, List.countP_append, List.countP_cons, List.countP_cons]
            have a1 : l1.countP (fun j => bA w (ns.drop j)) ≤ l1.countP (fun j => bB w (ns.drop j)) := List.countP_mono_left fun x _ h => by unfold bA at h; unfold bB; rw [h]; rfl
            have a2 : l2.countP (fun j => bA w (ns.drop j)) ≤ l2.countP (fun j => bB w (ns.drop j)) := List.countP_mono_left fun x _ h => by unfold bA at h; unfold bB; rw [h]; rfl
            have b1 : ¬ bA w (ns.drop j) = true := fun q => pre_not_lt _ _ z (of_decide_eq_true q)
            have b2 : bB w (ns.drop j) = true := (bB_iff _ _).mpr (.inr z)
            rw [if_neg b1, if_pos b2]
            omega
          omega
        · rw [List.drop_eq_nil_of_le (by omega)] at z
          have w0 : w = [] := List.prefix_nil.mp z
          subst w0
          have e3 : (ivl ns []).1 = 0 := rfl
          have e4 : (ivl ns []).2 = ns.length := rfl
          rw [← h1, ← h2, e3, e4] at e
          omega
      · rw [if_neg e]
        refine .inl ⟨?_, ?_⟩
        · rw [cnt_cons he hn hc (bA_closed w) (fun d y => bA_cons c d w y), ← h1]
        · rw [cnt_cons he hn hc (bB_closed w) (fun d y => bB_cons c d w y), ← h2]
    · rw [if_pos h1]
      exact .inr ⟨h1, h2, no h3⟩
/-- the rows that begin with w -/
theorem rows_of {ns : List Int} (w : List Int) {r : Nat} (hr : r < (starts ns).length) : w <+: ns.drop (starts ns)[r] ↔ cntB ns (bA w) ≤ r ∧ r < cntB ns (bB w) := by
  have key : ∀ {b : List Int → Bool}, Closed b → (b (ns.drop (starts ns)[r]) = true ↔ r < cntB ns b) := fun {b} hb => by
    have pw := starts_lt_pw ns
    have h := down_take (fun x => ns.drop x) (fun x => decide (x = (starts ns)[r])) hb (starts ns) pw
    have e1 : (starts ns).countP (fun x => b (ns.drop x)) = cntB ns b := (starts_perm ns).countP_eq _
    rw [e1] at h
    constructor
    · intro hx
      have pos : 0 < (starts ns).countP (fun x => decide (x = (starts ns)[r]) && b (ns.drop x)) := by
        rw [List.countP_pos_iff]
        exact ⟨_, List.getElem_mem hr, by rw [hx, decide_eq_true rfl]; rfl⟩
      rw [h, List.countP_pos_iff] at pos
      obtain ⟨y, hy, e⟩ := pos
      rw [of_decide_eq_true e] at hy
      obtain ⟨i, hi, e2⟩ := List.mem_iff_getElem.mp hy
      rw [List.getElem_take] at e2
      rw [List.length_take] at hi
      have := (List.getElem_inj (starts_nodup ns)).mp e2
      omega
    · intro lt
      have pos : 0 < ((starts ns).take (cntB ns b)).countP (fun x => decide (x = (starts ns)[r])) := by
        rw [List.countP_pos_iff]
        refine ⟨(starts ns)[r], List.mem_iff_getElem.mpr ⟨r, by rw [List.length_take]; omega, by rw [List.getElem_take]⟩, decide_eq_true rfl⟩
      rw [← h, List.countP_pos_iff] at pos
      obtain ⟨y, _, e⟩ := pos
      rw [Bool.and_eq_true, decide_eq_true_iff] at e
      rw [← e.1]
      exact e.2
  have k1 := key (bA_closed w)
  have k2 := key (bB_closed w)
  constructor
  · intro h
    refine ⟨Nat.le_of_not_lt fun z => ?_, k2.mp ((bB_iff _ _).mpr (.inr h))⟩
    exact pre_not_lt _ _ h (of_decide_eq_true (k1.mpr z))
  · rintro ⟨h1, h2⟩
    rcases (bB_iff _ _).mp (k2.mpr h2) with z | z
    · have := k1.mp (decide_eq_true z)
      omega
    · exact z
theorem aheadN_le {ns : List Int} (c : Int) {r t : Nat} (h : r ≤ t) : aheadN ns c r ≤ aheadN ns c t := by
  unfold aheadN
  have e : (lastc ns).take t = (lastc ns).take r ++ ((lastc ns).drop r).take (t - r) := by
    rw [← List.take_add]
    congr 1
    omega
  rw [e, List.count_append]
  omega
theorem ivl_le {ns : List Int} (he : Ended ns) (hn : 1 ≤ ns.length) {w : List Int} (hw : ∀ c ∈ w, 0 < c) : (ivl ns w).1 ≤ (ivl ns w).2 ∧ (ivl ns w).2 ≤ ns.length := by
  rcases ivl_spec he hn w hw with ⟨h1, h2⟩ | ⟨h1, h2, _⟩
  · rw [h1, h2]
    exact ⟨lo_le_hi ns w, cntB_le _ _⟩
  · omega
/-! ### what is written -/
def keptL (ns : List Int) (s j : Nat) : List Nat := ((List.range j).filter fun r => decide ((starts ns).getD r 0 % s = 0)).map fun r => (starts ns).getD r 0
theorem keptL_kept (ns : List Int) (s j : Nat) : (keptK ns s j).map (·.2) = (keptL ns s j).map fun k : Nat => V.int (k : Nat) := by
  unfold keptK keptL
  rw [List.map_map, List.map_map]
  rfl
theorem keptL_succ (ns : List Int) (s j : Nat) : keptL ns s (j + 1) = if (starts ns).getD j 0 % s = 0 then keptL ns s j ++ [(starts ns).getD j 0] else keptL ns s j := by
  unfold keptL
  rw [List.range_succ, List.filter_append, List.map_append]
  by_cases e : (starts ns).getD j 0 % s = 0
  · rw [if_pos e, List.filter_cons, if_pos (decide_eq_true e)]
    rfl
  · rw [if_neg e, List.filter_cons, if_neg (by rw [decide_eq_false e]; decide)]
    exact List.append_nil _
theorem keptL_len (ns : List Int) (s j : Nat) : (keptL ns s j).length ≤ j := by
  unfold keptL
  rw [List.length_map]
  have := List.length_filter_le (fun r => decide ((starts ns).getD r 0 % s = 0)) (List.range j)
  rw [List.length_range] at this
  exact this
/-- two symbols a byte -/
def colN (L : List Int) (m : Nat) : List Int := (List.range m).map fun k => 16 * L.getD (2 * k) 0 + L.getD (2 * k + 1) 0
def colB (L : List Int) : List Int := colN L ((L.length + 1) / 2)
theorem colN_len (L : List Int) (m : Nat) : (colN L m).length = m := by
  unfold colN
  rw [List.length_map, List.length_range]
theorem colN_succ (L : List Int) (m : Nat) : colN L (m + 1) = colN L m ++ [16 * L.getD (2 * m) 0 + L.getD (2 * m + 1) 0] := by
  unfold colN
  rw [List.range_succ, List.map_append]
  rfl
theorem colB_byt {L : List Int} (h : ∀ x ∈ L, 0 ≤ x ∧ x ≤ 6) (m : Nat) : Byt (colN L m) := fun x hx => by
  unfold colN at hx
  obtain ⟨k, _, rfl⟩ := List.mem_map.mp hx
  have g : ∀ i, 0 ≤ L.getD i 0 ∧ L.getD i 0 ≤ 6 := fun i => by
    rw [List.getD_eq_getElem?_getD]
    by_cases c : i < L.length
    · rw [List.getElem?_eq_getElem c]
      exact h _ (List.getElem_mem c)
    · rw [List.getElem?_eq_none (by omega)]
      exact ⟨by decide, by decide⟩
  have h1 := g (2 * k)
  have h2 := g (2 * k + 1)
  omega
def padE (L : List Int) : List Int := L ++ List.replicate (L.length % 2) 0
theorem padE_len (L : List Int) : (padE L).length = 2 * ((L.length + 1) / 2) := by
  unfold padE
  rw [List.length_append, List.length_replicate]
  omega
theorem padE_at (L : List Int) {i : Nat} (h : i < (padE L).length) : (padE L)[i]? = some (L.getD i 0) := by
  have hl := padE_len L
  unfold padE
  rw [List.getElem?_append]
  split
  · next c => rw [List.getD_eq_getElem?_getD, List.getElem?_eq_getElem c]; rfl
  · next c =>
    rw [List.getElem?_replicate, if_pos (by omega), List.getD_eq_getElem?_getD, List.getElem?_eq_none (by omega)]
    rfl
theorem rg_step {m : Nat} {z t k : Int} (hz : z = 0) (ht : t = ((2 * m : Nat) : Int)) (hk : k = 2) (h : m ≤ 1000000) : RgC z t k m := by
  have es : Builtin.Range.rangeSize z t k = ((m : Nat) : Int) := by
    unfold Builtin.Range.rangeSize
    rw [if_pos (by omega)]
    by_cases c : 1 ≤ m
    · rw [if_pos (by omega), hk]
      omega
    · rw [if_neg (by omega)]
      omega
  refine ⟨by omega, by omega, ?_, es⟩
  unfold Builtin.Range.small
  rw [es]
  simp only [Builtin.Range.rangeFitsLong, Bool.and_eq_true, Bool.or_eq_true, decide_eq_true_eq, beq_iff_eq]
  refine ⟨⟨⟨⟨by omega, by omega, by omega⟩, by omega, by omega⟩, by omega, by omega⟩, .inr ?_⟩
  rw [if_pos (by omega), Bool.and_eq_true, decide_eq_true_eq, decide_eq_true_eq]
  omega
theorem rg_two {m : Nat} (h : m ≤ 1000000) : RgC 0 ((2 * m : Nat) : Int) 2 m := rg_step rfl rfl rfl h
/-- the bytes of one reference -/
def refB (r : Rf) : List Int := ((r.1.length : Nat) : Int) :: ((r.1.map fun c : Nat => (c : Int)) ++ be 4 r.2.length)
def headB (rs : List Rf) (b s : Nat) : List Int := [72, 82, 1] ++ be 2 b ++ be 2 s ++ be 2 rs.length
def wrB (rs : List Rf) (b s : Nat) : List Int := headB rs b s ++ rs.flatMap refB ++ colB (lastc (jn rs)) ++ (keptL (jn rs) s (jn rs).length).flatMap (be 4)
def allB (rs : List Rf) (b s : Nat) : List Int := wrB rs b s ++ be 4 (sumOf (wrB rs b s)).toNat
theorem scKept : FnScope ["self"] ["self"] (defScope mKept) := ⟨rfl, rfl, rfl, by decide +kernel, rfl, by decide +kernel, by decide +kernel⟩
def NCb : List Str := ["last", "symbols", "at"]
theorem scColB : FnScope NCb ["last"] (defScope sColB) := ⟨rfl, rfl, rfl, by decide +kernel, rfl, by decide +kernel, by decide +kernel⟩
section
variable {P : Program} {w : World} {K : PySem.W.Frag} {mg : Str → Option Value} {base : Heap}
def spKept (C : Addr) : Sp := fun vs H Q _ => ∃ (x : Addr) (rs : List Rf) (b s : Nat), vs = [.ref x] ∧ Ixd C H x rs b s ∧ ∀ p, H p = none → Q (.ref p) (upd H p (LN (keptL (jn rs) s (jn rs).length)))
theorem ok_kept {f C : Addr} {fd : FuncData} {k : Nat} (F : Fun K "kept_starts" "Index.kept_starts" mKept f fd) (X : IxT K mg C) (mlist : mg "list" = none) : FnOk P w K mg base CX0 (k + 1) f fd ["self"] (spKept C) := by
  refine F.ok scKept (fun vs H Q E h => ?_) (fun cdv A outer s H vs Q E hr h => ?_)
  · obtain ⟨x, rs, b, s, rfl, _⟩ := h
    rfl
  · obtain ⟨x, rs, b, s, rfl, hI, q⟩ := h
    obtain ⟨dx, aR, xs, aL, aM, aC, cs, aS, aB, I⟩ := id hI
    refine ⟨_, pss_one (ps_ret (pe_listVals (by rfl) (pe_fld (pv 0) rfl) rfl mlist (by decide +kernel))), ?_⟩
    refine ⟨.ref x, rfl, x, C, dx, _, _, rfl, I.ob, X.cl, X.n7, ixl (i := 6) rfl (by decide +kernel), aS, _, rfl, I.st, fun p hp => ?_⟩
    rw [keptL_kept]
    exact q p hp
def spColB : Sp := fun vs H Q _ => ∃ (a : Addr) (L : List Int), vs = [.ref a] ∧ H a = some (LI L) ∧ L.length ≤ 100000 ∧ (∀ x ∈ L, 0 ≤ x ∧ x ≤ 6) ∧ ∀ (H' : Hp) (p : Addr), Same H H' → H p = none → H' p = some (LI (colB L)) → Q (.ref p) H'
theorem ok_colb {f : Addr} {fd : FuncData} {k : Nat} (F : Fun K "_column_bytes" "_column_bytes" sColB f fd) (mlen : mg "len" = none) (mrange : mg "range" = none) : FnOk P w K mg base CX0 (k + 1) f fd ["last"] spColB := by
  refine F.ok scColB (fun vs H Q E h => ?_) (fun cdv A outer s H vs Q E hr h => ?_)
  · obtain ⟨a, L, rfl, _⟩ := h
    rfl
  · obtain ⟨a, L, rfl, ha, hl, h6, q⟩ := h
    refine ⟨_, C8.pss_cut (ps_set (i := 1) scColB.nd rfl (.inr rfl) (pe_op op_cat (pv 0) (pe_op op_rep (pe_lst (pa_cons pe_int pa_nil)) (pe_op op_mod (pe_callB call_len_seq (by rfl) mlen PySem.boot_len (pa_cons (pv 0) pa_nil)) pe_int))))
      (pss_one (ps_ret (pe_lc (own := [("at", 2)]) (g := gName 2) (tt := tYes) (te := tOp (rI0 fun i j => V.int (i + j)) (tOp (rI CMul fun i j => V.int (i * j)) (tC (.int 16)) (tOp (rIxL K) (tVar 1) (tVar 2))) (tOp (rIxL K) (tVar 1) (tOp (rI0 fun i j => V.int (i + j)) (tVar 2) (tC (.int 1))))) (by rfl) scColB.nd (pi_range3 rfl mrange (pa_cons pe_int (pa_cons (pe_callB call_len_seq (by rfl) mlen PySem.boot_len (pa_cons (pv 1) pa_nil)) (pa_cons pe_int pa_nil)))) (blkOk_by (own := [("at", 2)]) (N := NCb) (sc := defScope sColB) (by decide +kernel))
        (fun _ _ _ _ _ => pg_name (i := 2) scColB.nd rfl (Or.inl rfl)) (fun _ _ _ _ _ => pts_nil) (fun _ _ _ _ _ => pe_op op_add (pe_op op_mul pe_int (pe_ix (r := rIxL K) ix_list (pv 1) (pv 2) (fun _ _ => rfl))) (pe_ix (r := rIxL K) ix_list (pv 1) (pe_op op_add (pv 2) pe_int) (fun _ _ => rfl)))))), ?_⟩
    have hlm : (L.map V.int).length = L.length := List.length_map _
    have hpl := padE_len L
    refine ⟨fun σ H1 => Same H H1 ∧ ∃ p1, H1 p1 = some (LI (padE L)) ∧ σ = [some (.ref a), some (.ref p1), none], ?_, ?_⟩
    · refine ⟨.ref a, rfl, by show 1 ≤ sizeLine; decide, fun pz hpz => ?_⟩
      have sz := same_upd (o := .lst [V.int 0]) hpz
      refine ⟨.ref a, rfl, a, _, rfl, .inl (.inl (.inl (sz _ _ ha))), _, 2, rfl, rfl, (show (0 : Int) < 2 by decide), pz, _, _, rfl, rfl, upd_same, by omega, by omega, line_ok7 (by rw [hlm]; show 1 * ((L.length : Int) % 2).toNat ≤ _; omega), fun pr hpr => ?_⟩
      have hrep : (List.replicate ((((L.map V.int).length : Nat) : Int) % 2).toNat [V.int 0]).flatten = (List.replicate (L.length % 2) (0 : Int)).map V.int := by
        rw [rep_one, List.map_replicate, hlm, show ((L.length : Int) % 2).toNat = L.length % 2 by omega]
      rw [hrep]
      have sr := same_upd (o := .lst ((List.replicate (L.length % 2) (0 : Int)).map V.int)) hpr
      refine ⟨a, pr, _, _, rfl, rfl, sr _ _ (sz _ _ ha), upd_same, line_ok7 (by rw [hlm, List.length_map, List.length_replicate]; omega), fun pq hpq => ⟨(sz.trans sr).trans (same_upd hpq), pq, ?_, rfl⟩⟩
      rw [upd_same, ← List.map_append]
      rfl
    rintro σ H1 ⟨s1, p1, h1, rfl⟩
    have lmp : ((padE L).map V.int).length = 2 * ((L.length + 1) / 2) := by rw [List.length_map, hpl]
    refine ⟨.ref p1, rfl, p1, _, rfl, .inl (.inl (.inl h1)), 0, _, 2, (L.length + 1) / 2, rfl, by rw [lmp]; exact rg_two (by omega), fun D hD => ?_⟩
    refine lc_gen (n := (L.length + 1) / 2) (fun j H2 => Same H1 H2 ∧ H2 D = some (LI (colN L j))) ⟨same_upd hD, upd_same⟩ (fun j H2 hj _ => hj) (fun H2 _ => Nat.le_refl _) ?_ ?_
    · rintro j H2 x H3 hj ⟨s2, hd2⟩ ⟨rfl, rfl⟩
      have h12 := s2 _ _ h1
      have g6 : ∀ i, i < (padE L).length → 0 ≤ L.getD i 0 ∧ L.getD i 0 ≤ 6 := fun i _ => by
        rw [List.getD_eq_getElem?_getD]
        by_cases c : i < L.length
        · rw [List.getElem?_eq_getElem c]
          exact h6 _ (List.getElem_mem c)
        · rw [List.getElem?_eq_none (by omega)]
          exact ⟨by decide, by decide⟩
      have a0 : atI ((padE L).map V.int) (0 + ((j : Nat) : Int) * 2) = some (.int (L.getD (2 * j) 0)) := by
        rw [show (0 : Int) + ((j : Nat) : Int) * 2 = ((2 * j : Nat) : Int) by omega]
        exact atI_nat (by rw [List.getElem?_map, padE_at L (by omega)]; rfl)
      have a1 : atI ((padE L).map V.int) (0 + ((j : Nat) : Int) * 2 + 1) = some (.int (L.getD (2 * j + 1) 0)) := by
        rw [show (0 : Int) + ((j : Nat) : Int) * 2 + 1 = ((2 * j + 1 : Nat) : Int) by omega]
        exact atI_nat (by rw [List.getElem?_map, padE_at L (by omega)]; rfl)
      refine ⟨rfl, ?_⟩
      dsimp only [tYes]
      rw [if_pos rfl]
      refine ⟨.ref p1, rfl, _, rfl, p1, _, _, _, rfl, rfl, .inl (.inl h12), a0, 16, _, rfl, rfl, .inl ⟨by decide, by decide⟩, .ref p1, rfl, _, rfl, _, 1, rfl, rfl, p1, _, _, _, rfl, rfl, .inl (.inl h12), a1, _, _, rfl, rfl, _, hd2, line_lt7 (by rw [List.length_map, colN_len]; omega), fun c o e => ?_, ?_⟩
      · rw [upd_ne (ne_of_none e hD)]
        exact s2 _ _ e
      · rw [upd_same, colN_succ]
        exact congrArg some (LI_snoc _ _).symm
    · rintro H2 ⟨s2, hd2⟩
      exact q H2 D (s1.trans s2) (s1.free hD) hd2
end
theorem flat_len {α : Type} {f : α → List Int} {k : Nat} : ∀ {l : List α}, (∀ x ∈ l, (f x).length ≤ k) → (l.flatMap f).length ≤ l.length * k
  | [], _ => Nat.zero_le _
  | x :: l, h => by
    have h1 := flat_len (l := l) fun y hy => h y (List.mem_cons_of_mem _ hy)
    have h2 := h x List.mem_cons_self
    rw [List.flatMap_cons, List.length_append, List.length_cons, Nat.succ_mul]
    omega
theorem Byt.flat {α : Type} {f : α → List Int} {l : List α} (h : ∀ x ∈ l, Byt (f x)) : Byt (l.flatMap f) := fun y hy => by
  obtain ⟨x, hx, hy2⟩ := List.mem_flatMap.mp hy
  exact h x hx y hy2
theorem flat_take {α : Type} {f : α → List Int} {l : List α} {i : Nat} {x : α} (h : l[i]? = some x) : (l.take (i + 1)).flatMap f = (l.take i).flatMap f ++ f x := by
  rw [List.take_add_one, h, List.flatMap_append]
  simp
def Short (rs : List Rf) : Prop := rs.length ≤ 300 ∧ ∀ r ∈ rs, r.1.length ≤ 40 ∧ Asc r.1
theorem refB_len (r : Rf) : (refB r).length = r.1.length + 5 := by
  unfold refB
  rw [List.length_cons, List.length_append, List.length_map, be_len]
theorem refs_len {rs : List Rf} (h : Short rs) (i : Nat) : ((rs.take i).flatMap refB).length ≤ 13500 := by
  have h1 := flat_len (f := refB) (k := 45) (l := rs.take i) fun r hr => by
    rw [refB_len]
    have := (h.2 r (List.mem_of_mem_take hr)).1
    omega
  have h2 := List.length_take_le i rs
  have h3 : (rs.take i).length ≤ rs.length := by rw [List.length_take]; omega
  have := h.1
  have : (rs.take i).length * 45 ≤ 300 * 45 := Nat.mul_le_mul_right 45 (by omega)
  omega
theorem refB_byt {r : Rf} (h1 : r.1.length ≤ 40) (h2 : Asc r.1) : Byt (refB r) := fun x hx => by
  unfold refB at hx
  rcases List.mem_cons.mp hx with e | hx
  · omega
  · rcases List.mem_append.mp hx with hx | hx
    · obtain ⟨c, hc, rfl⟩ := List.mem_map.mp hx
      have := h2 c hc
      omega
    · exact be_byt _ _ x hx
theorem headB_len (rs : List Rf) (b s : Nat) : (headB rs b s).length = 9 := by
  unfold headB
  rw [List.length_append, List.length_append, List.length_append, be_len, be_len, be_len]
  rfl
theorem headB_byt (rs : List Rf) (b s : Nat) : Byt (headB rs b s) := by
  unfold headB
  refine ((Byt.app (fun x hx => ?_) (be_byt _ _)).app (be_byt _ _)).app (be_byt _ _)
  simp only [List.mem_cons, List.not_mem_nil, or_false] at hx
  rcases hx with e | e | e <;> subst e <;> decide
theorem lastc_num {rs : List Rf} (hd : ∀ r ∈ rs, Dna r.2) : ∀ x ∈ lastc (jn rs), 0 ≤ x ∧ x ≤ 6 := fun x hx => by
  obtain ⟨i, hi, rfl⟩ := List.mem_iff_getElem.mp hx
  have hrs : i < (starts (jn rs)).length := by
    have := lastc_len (jn rs)
    rw [starts_len]
    omega
  have hlt : prevI (jn rs).length (starts (jn rs))[i] < (jn rs).length := prevI_lt (starts_lt (List.getElem_mem hrs))
  have e1 := lastc_at (jn rs) hrs
  rw [List.getElem?_eq_getElem hi, List.getD_eq_getElem?_getD, List.getElem?_eq_getElem hlt] at e1
  have e2 : (lastc (jn rs))[i] = (jn rs)[prevI (jn rs).length (starts (jn rs))[i]] := Option.some.inj e1
  rw [e2]
  exact jn_num hd _ (List.getElem_mem hlt)
theorem kept_len {ns : List Int} {s j m : Nat} (h : j ≤ 4000) : (((keptL ns s j).take m).flatMap (be 4)).length ≤ 16000 := by
  have h1 := flat_len (f := be 4) (k := 4) (l := (keptL ns s j).take m) fun n _ => Nat.le_of_eq (be_len 4 n)
  have h2 := keptL_len ns s j
  have h3 : ((keptL ns s j).take m).length ≤ (keptL ns s j).length := by rw [List.length_take]; omega
  have : ((keptL ns s j).take m).length * 4 ≤ 4000 * 4 := Nat.mul_le_mul_right 4 (by omega)
  omega
theorem wrB_byt {rs : List Rf} (b s : Nat) (hd : ∀ r ∈ rs, Dna r.2) (h : Short rs) : Byt (wrB rs b s) := by
  unfold wrB
  exact (((headB_byt rs b s).app (Byt.flat fun r hr => refB_byt (h.2 r hr).1 (h.2 r hr).2)).app (colB_byt (lastc_num hd) _)).app (Byt.flat fun n _ => be_byt 4 n)
theorem wrB_len {rs : List Rf} (b s : Nat) (h : Short rs) (hj : jl rs ≤ 4000) : (wrB rs b s).length ≤ 40000 := by
  have h1 := refs_len h rs.length
  rw [List.take_length] at h1
  have hn : (jn rs).length ≤ 4000 := by rw [jn_len]; exact hj
  have h2 := kept_len (ns := jn rs) (s := s) (j := (jn rs).length) (m := (keptL (jn rs) s (jn rs).length).length) hn
  rw [List.take_length] at h2
  have h3 : (colB (lastc (jn rs))).length ≤ 4000 := by
    unfold colB
    rw [colN_len, lastc_len]
    omega
  unfold wrB
  rw [List.length_append, List.length_append, List.length_append, headB_len]
  omega
theorem sumOf_nonneg (l : List Int) : 0 ≤ sumOf l := by
  unfold sumOf
  have h1 := Int.emod_nonneg ((l.length : Int) + bsum l.length l) (show (65521 : Int) ≠ 0 by decide)
  have h2 := Int.emod_nonneg (1 + tot l) (show (65521 : Int) ≠ 0 by decide)
  omega
def NWx : List Str := ["index", "data", "number", "name", "text", "start", "character"]
theorem ext_same {H H2 : Hp} {p : Addr} {o : HO} (s : Same H H2) (hp : H p = none) : Same H (upd H2 p o) := fun b o' e => by
  rw [upd_ne (ne_of_none e hp)]
  exact s _ _ e
theorem ext_val {H2 : Hp} {p : Addr} (a b : List Int) : upd H2 p (.lst (a.map V.int ++ b.map V.int)) p = some (LI (a ++ b)) := by
  rw [upd_same, ← List.map_append]
theorem scWix : FnScope NWx ["index"] (defScope sWriteIx) := ⟨rfl, rfl, rfl, by decide +kernel, rfl, by decide +kernel, by decide +kernel⟩
def rOrd : List V → Hp → VK → Prop := fun xs H Q => ∃ x : Str, xs = [.str x] ∧ x.length = 1 ∧ Q (.int (x.cps.getD 0 0 : Nat)) H
section
variable {P : Program} {w : World} {K : PySem.W.Frag} {mg : Str → Option Value} {base : Heap}
def spWix (C : Addr) : Sp := fun vs H Q _ => ∃ (x : Addr) (rs : List Rf) (b s : Nat), vs = [.ref x] ∧ Ixd C H x rs b s ∧ IxOk rs b s ∧ Short rs ∧ ∀ (H' : Hp) (p : Addr), Same H H' → H p = none → H' p = some (LI (allB rs b s)) → Q (.ref p) H'
theorem ok_wix {f C qF : Addr} {fd : FuncData} {t1 t2 t3 : Tok} (F : Fun K "write_index" "write_index" sWriteIx f fd) (X : IxT K mg C) (mlist : mg "list" = none) (mlen : mg "len" = none) (mord : mg "ord" = none)
    (gF : mg "_FIRST_BYTES" = some (.ref qF)) (hF : ∀ H, SqT K H qF [.int 72, .int 82, .int 1]) (g1 : mg "_LENGTH_SIZE" = some (.int 4 t1)) (g2 : mg "_START_SIZE" = some (.int 4 t2)) (g3 : mg "_SUM_SIZE" = some (.int 4 t3))
    (hN : Has P w K mg base 2 "number_bytes" ["number", "size"] spNumB) (hC : Has P w K mg base 2 "_column_bytes" ["last"] spColB) (hS : Has P w K mg base 2 "sum_of" ["data"] (spSum K)) (hL : HasM P w K mg base C 2 "last" ["self"] (spLast C)) (hK : HasM P w K mg base C 2 "kept_starts" ["self"] (spKept C)) : FnOk P w K mg base CX0 3 f fd ["index"] (spWix C) := by
  obtain ⟨fN, dN, GN, gN, kN, bN⟩ := hN
  obtain ⟨fC, dC, GC, gC, kC, bC⟩ := hC
  obtain ⟨fS, dS', GS, gS, kS, bS⟩ := hS
  obtain ⟨f1, d1, G1, m1, b1⟩ := hL
  obtain ⟨f2, d2, G2, m2, b2⟩ := hK
  refine F.ok scWix (fun vs H Q E h => ?_) (fun cdv A outer s H vs Q E hr h => ?_)
  · obtain ⟨x, rs, b, s, rfl, _⟩ := h
    rfl
  · obtain ⟨x, rs, b, s, rfl, hI, hk, hsh, q⟩ := h
    refine ⟨_, pss_cons (ps_set (i := 1) scWix.nd rfl (.inl rfl) (pe_callTy call_list_of (by rfl) mlist (by decide +kernel) (pa_cons (pe_glob (v := .ref qF) rfl gF rfl) pa_nil)))
      (C8.pss_cut (ps_for PassesOwn.never rfl (pi_tup (pe_tup (pa_cons (pe_fld (pv 0) rfl) (pa_cons (pe_fld (pv 0) rfl) (pa_cons (pe_callB call_len_seq (by rfl) mlen PySem.boot_len (pa_cons (pe_fld (pv 0) rfl) pa_nil)) pa_nil))))) (pg_name (i := 2) scWix.nd rfl (.inl rfl))
        (pss_one (ps_expr (pe_bm PySem.F.plainAttrs_list PySem.F.slot_list_extend PySem.F.type_list_extend mt_extend (pv 1) (pa_cons (pe_call GN hr (by rfl) gN kN bN .nil pass0 (pa_cons (pv 2) (pa_cons pe_int pa_nil))) pa_nil)))))
      (C8.pss_cut (ps_for PassesOwn.never rfl (pi_list (pe_fld (pv 0) rfl)) (pg_tup rfl (pgs_cons (pg_name (i := 3) scWix.nd rfl (.inl rfl)) (pgs_cons (pg_name (i := 4) scWix.nd rfl (.inl rfl)) pgs_nil)))
        (C8.pss_cut (ps_expr (pe_bm PySem.F.plainAttrs_list PySem.F.slot_list_append PySem.F.type_list_append mt_append (pv 1) (pa_cons (pe_callB call_len_str (by rfl) mlen PySem.boot_len (pa_cons (pv 3) pa_nil)) pa_nil)))
        (C8.pss_cut (ps_expr (pe_bm PySem.F.plainAttrs_list PySem.F.slot_list_extend PySem.F.type_list_extend mt_extend (pv 1) (pa_cons (pe_lc (own := [("character", 6)]) (g := gName 6) (tt := tYes) (te := tCB rOrd (tCons (tVar 6) tNil)) (by rfl) scWix.nd (pi_str (pv 3)) (blkOk_by (own := [("character", 6)]) (N := NWx) (sc := defScope sWriteIx) (by decide +kernel))
          (fun _ _ _ _ _ => pg_name (i := 6) scWix.nd rfl (Or.inl rfl)) (fun _ _ _ _ _ => pts_nil) (fun _ _ _ _ _ => pe_callB (r := rOrd) call_ord (by rfl) mord (by decide +kernel) (pa_cons (pv 6) pa_nil))) pa_nil)))
        (pss_one (ps_expr (pe_bm PySem.F.plainAttrs_list PySem.F.slot_list_extend PySem.F.type_list_extend mt_extend (pv 1) (pa_cons (pe_call GN hr (by rfl) gN kN bN .nil pass0 (pa_cons (pe_callB call_len_str (by rfl) mlen PySem.boot_len (pa_cons (pv 4) pa_nil)) (pa_cons (pe_glob (v := .int 4) rfl g1 ⟨_, rfl⟩) pa_nil))) pa_nil)))))))
      (C8.pss_cut (ps_expr (pe_bm PySem.F.plainAttrs_list PySem.F.slot_list_extend PySem.F.type_list_extend mt_extend (pv 1) (pa_cons (pe_call GC hr (by rfl) gC kC bC .nil pass0 (pa_cons (pe_meth0 (pv 0) X.cl m1 G1 hr b1 .nil pass0) pa_nil)) pa_nil)))
      (C8.pss_cut (ps_for PassesOwn.never rfl (pi_list (pe_meth0 (pv 0) X.cl m2 G2 hr b2 .nil pass0)) (pg_name (i := 5) scWix.nd rfl (.inl rfl))
        (pss_one (ps_expr (pe_bm PySem.F.plainAttrs_list PySem.F.slot_list_extend PySem.F.type_list_extend mt_extend (pv 1) (pa_cons (pe_call GN hr (by rfl) gN kN bN .nil pass0 (pa_cons (pv 5) (pa_cons (pe_glob (v := .int 4) rfl g2 ⟨_, rfl⟩) pa_nil))) pa_nil)))))
      (pss_cons (ps_expr (pe_bm PySem.F.plainAttrs_list PySem.F.slot_list_extend PySem.F.type_list_extend mt_extend (pv 1) (pa_cons (pe_call GN hr (by rfl) gN kN bN .nil pass0 (pa_cons (pe_call GS hr (by rfl) gS kS bS .nil pass0 (pa_cons (pv 1) pa_nil)) (pa_cons (pe_glob (v := .int 4) rfl g3 ⟨_, rfl⟩) pa_nil))) pa_nil)))
      (pss_one (ps_ret (pv 1)))))))), ?_⟩
    have hn4 : (jn rs).length ≤ 4000 := by
      rw [jn_len]
      exact hk.2.2.1
    have hd := hk.2.1
    obtain ⟨dx, aR, xs, aL, aM, aC, cs, aS, aB, I⟩ := id hI
    have hxl : xs.length = rs.length := paired_len I.tu
    refine ⟨qF, _, rfl, .inr (hF _), fun p0 hp0 => ?_⟩
    have s0 := same_upd (o := .lst [V.int 72, V.int 82, V.int 1]) hp0
    -- the three numbers
    refine ⟨fun σ H' => Same H H' ∧ ∃ (p : Addr) (v2 : Option V), H p = none ∧ H' p = some (LI (headB rs b s)) ∧ σ = [some (.ref x), some (.ref p), v2, none, none, none, none], ?_, ?_⟩
    · obtain ⟨dx, aR, xs, aL, aM, aC, cs, aS, aB, I⟩ := hI.same s0
      have hxl : xs.length = rs.length := paired_len I.tu
      refine ⟨.ref x, rfl, x, C, dx, _, _, rfl, I.ob, X.cl, X.n2, ixl (i := 1) rfl (by decide +kernel), .ref x, rfl, x, C, dx, _, _, rfl, I.ob, X.cl, X.n3, ixl (i := 2) rfl (by decide +kernel), .ref x, rfl, x, C, dx, _, _, rfl, I.ob, X.cl, X.n1, ixl (i := 0) rfl (by decide +kernel), aR, _, rfl, .inl (.inl (.inl I.rf)), by show 3 ≤ sizeLine; decide, fun pt hpt => ?_⟩
      rw [hxl]
      have st := same_upd (o := .tup [V.int (b : Int), V.int (s : Int), V.int ((rs.length : Nat) : Int)]) hpt
      have n0t : p0 ≠ pt := ne_of_none (upd_same) hpt
      refine ⟨pt, rfl, ⟨_, .inl (.inl upd_same)⟩, ?_⟩
      refine for_tup (K := K) (xs := [b, s, rs.length].map fun n : Nat => V.int (n : Nat)) (fun i σ H' => Same H H' ∧ H' pt = some (.tup [V.int (b : Int), V.int (s : Int), V.int ((rs.length : Nat) : Int)]) ∧ H' p0 = some (LI ([72, 82, 1] ++ ([b, s, rs.length].take i).flatMap (be 2))) ∧ ∃ v2 : Option V, σ = [some (.ref x), some (.ref p0), v2, none, none, none, none]) ⟨s0.trans st, upd_same, by rw [upd_ne n0t, upd_same]; rfl, none, rfl⟩ (fun i σ H' _ h => .inl (.inl h.2.1)) ?_ ?_
      · rintro i v σ H1 hv ⟨s1, ht1, h1, v2, rfl⟩
        rw [List.getElem?_map] at hv
        obtain ⟨n, hn, rfl⟩ := Option.map_eq_some_iff.mp hv
        have hi3 : i < 3 := (List.getElem?_eq_some_iff.mp hn).1
        refine ⟨.ref p0, rfl, .inl ⟨rfl, _, .inl (.inl h1)⟩, .int n, rfl, n, 2, rfl, by decide, fun H2 pb s2 hpb hb2 => ?_⟩
        have h02 := s2 _ _ h1
        refine ⟨p0, pb, _, _, rfl, rfl, h02, hb2, line_ok7 ?_, ?_⟩
        · rw [List.length_map, List.length_map, be_len, List.length_append]
          have := flat_len (f := be 2) (k := 2) (l := [b, s, rs.length].take i) fun n _ => Nat.le_of_eq (be_len 2 n)
          have h3 : ([b, s, rs.length].take i).length ≤ 3 := List.length_take_le' i _
          show 3 + _ + 2 ≤ _
          omega
        refine ⟨ext_same (s1.trans s2) hp0, ?_, ?_, some (.int n), rfl⟩
        · rw [upd_ne n0t.symm]
          exact s2 _ _ ht1
        · rw [ext_val, flat_take hn, List.append_assoc]
      · rintro σ H1 ⟨s1, ht1, h1, v2, rfl⟩
        refine ⟨s1, p0, v2, hp0, ?_, rfl⟩
        rw [h1]
        unfold headB
        simp
    rintro σ H1 ⟨s1, p, v2, hp, h1, rfl⟩
    -- the references
    refine ⟨fun σ H' => Same H H' ∧ H' p = some (LI (headB rs b s ++ rs.flatMap refB)) ∧ ∃ (v2 v3 v4 : Option V), σ = [some (.ref x), some (.ref p), v2, v3, v4, none, none], ?_, ?_⟩
    · have hI1 := hI.same s1
      refine ⟨.ref x, rfl, x, C, dx, _, _, rfl, s1 _ _ I.ob, X.cl, X.n1, ixl (i := 0) rfl (by decide +kernel), aR, rfl, ⟨_, .inl (.inl (s1 _ _ I.rf))⟩, ?_⟩
      refine for_list (K := K) (xs := xs) (fun i σ H' => Same H H' ∧ H' p = some (LI (headB rs b s ++ (rs.take i).flatMap refB)) ∧ ∃ (v2 v3 v4 : Option V), σ = [some (.ref x), some (.ref p), v2, v3, v4, none, none]) ⟨s1, by rw [h1, List.take_zero, List.flatMap_nil, List.append_nil], v2, none, none, rfl⟩ (fun i σ H' _ h => .inl (.inl (h.1 _ _ I.rf))) ?_ ?_
      · rintro i v σ H2 hv ⟨s2, h2, v2, v3, v4, rfl⟩
        obtain ⟨r, hr0, qa, rfl, hqa⟩ := paired_get (I.tu.same s2) hv
        have hrm := List.mem_of_getElem? hr0
        obtain ⟨hr40, hrA⟩ := hsh.2 r hrm
        have hrl := refs_len hsh i
        have hhl := headB_len rs b s
        have hjr : r.2.length ≤ 4000 := by
          have hq : ∀ (l : List Rf), r ∈ l → r.2.length ≤ jl l := fun l => by
            induction l with
            | nil => intro z; cases z
            | cons r' l ih =>
              intro z
              show _ ≤ r'.2.length + 1 + jl l
              rcases List.mem_cons.mp z with e | z
              · rw [e]
                omega
              · have := ih z
                omega
          have := hq rs hrm
          have := hk.2.2.1
          omega
        refine ⟨qa, _, rfl, .inl (.inl hqa), rfl, _, _, rfl, _, _, rfl, rfl, ?_⟩
        refine ⟨fun σ H' => Same H H' ∧ H' p = some (LI (headB rs b s ++ (rs.take i).flatMap refB ++ [((r.1.length : Nat) : Int)])) ∧ σ = [some (.ref x), some (.ref p), v2, some (.str (T r.1)), some (.str (T r.2)), none, none], ?_, ?_⟩
        · refine ⟨.ref p, rfl, .inl ⟨rfl, _, .inl (.inl h2)⟩, .str (T r.1), rfl, T r.1, rfl, line_ok6 (by rw [T_len]; omega), p, _, _, rfl, rfl, h2, line_lt7 (by rw [List.length_map, List.length_append]; omega), ext_same s2 hp, ?_, rfl⟩
          rw [upd_same, T_len]
          exact congrArg some (LI_snoc _ _).symm
        rintro σ H3 ⟨s3, h3, rfl⟩
        refine ⟨fun σ H' => Same H H' ∧ H' p = some (LI (headB rs b s ++ (rs.take i).flatMap refB ++ [((r.1.length : Nat) : Int)] ++ r.1.map fun c : Nat => (c : Int))) ∧ σ = [some (.ref x), some (.ref p), v2, some (.str (T r.1)), some (.str (T r.2)), none, none], ?_, ?_⟩
        · refine ⟨.ref p, rfl, .inl ⟨rfl, _, .inl (.inl h3)⟩, .str (T r.1), rfl, T r.1, rfl, fun D hD => ?_⟩
          refine lc_gen (n := (T r.1).cps.size) (fun j H4 => Same H3 H4 ∧ j ≤ r.1.length ∧ H4 D = some (LI ((r.1.take j).map fun c : Nat => (c : Int)))) ⟨same_upd hD, Nat.zero_le _, upd_same⟩ (fun j H4 hj _ => hj) (fun H4 _ => Nat.le_refl _) ?_ ?_
          · rintro j H4 y H5 hj ⟨s4, _, hd4⟩ ⟨rfl, c, hc, rfl⟩
            have hc2 : r.1[j]? = some c := by
              rw [← T_at]
              exact hc
            have hjl2 : j < r.1.length := (List.getElem?_eq_some_iff.mp hc2).1
            refine ⟨rfl, ?_⟩
            dsimp only [tYes]
            rw [if_pos rfl]
            refine ⟨.str ⟨#[c]⟩, rfl, ⟨#[c]⟩, rfl, rfl, _, hd4, line_ok6 (by rw [List.length_map, List.length_map, List.length_take]; omega), fun b o e => ?_, hjl2, ?_⟩
            · rw [upd_ne (ne_of_none e hD)]
              exact s4 b o e
            · rw [upd_same, List.take_add_one, hc2, List.map_append]
              exact congrArg some (LI_snoc _ _).symm
          · rintro H4 ⟨s4, _, hd4⟩
            rw [T_size, List.take_length] at hd4
            refine ⟨p, D, _, _, rfl, rfl, s4 _ _ h3, hd4, line_ok7 ?_, ext_same (s3.trans s4) hp, ext_val _ _, rfl⟩
            rw [List.length_map, List.length_map, List.length_map, List.length_append, List.length_append]
            show _ + 1 + _ ≤ _
            omega
        rintro σ H4 ⟨s4, h4, rfl⟩
        refine ⟨.ref p, rfl, .inl ⟨rfl, _, .inl (.inl h4)⟩, .str (T r.2), rfl, T r.2, rfl, line_ok6 (by rw [T_len]; omega), r.2.length, 4, by rw [T_len]; rfl, by decide, fun H5 pb s5 hpb hb5 => ?_⟩
        refine ⟨p, pb, _, _, rfl, rfl, s5 _ _ h4, hb5, line_ok7 ?_, ext_same (s4.trans s5) hp, ?_, _, _, _, rfl⟩
        · rw [List.length_map, List.length_map, be_len, List.length_append, List.length_append, List.length_append, List.length_map]
          show _ + 1 + _ + 4 ≤ _
          omega
        · rw [ext_val, flat_take hr0]
          unfold refB
          simp
      · rintro σ H2 ⟨s2, h2, v2, v3, v4, rfl⟩
        rw [hxl, List.take_length] at h2
        exact ⟨s2, h2, v2, v3, v4, rfl⟩
    rintro σ H2 ⟨s2, h2, v2, v3, v4, rfl⟩
    have hrl := refs_len hsh rs.length
    rw [List.take_length] at hrl
    have hhl := headB_len rs b s
    have hcl : (colB (lastc (jn rs))).length ≤ 4000 := by
      unfold colB
      rw [colN_len, lastc_len]
      omega
    -- the column
    refine ⟨fun σ H' => Same H H' ∧ H' p = some (LI (headB rs b s ++ rs.flatMap refB ++ colB (lastc (jn rs)))) ∧ σ = [some (.ref x), some (.ref p), v2, v3, v4, none, none], ?_, ?_⟩
    · have hI2 := hI.same s2
      refine ⟨.ref p, rfl, .inl ⟨rfl, _, .inl (.inl h2)⟩, .ref x, rfl, x, dx, _, rfl, s2 _ _ I.ob, lookup_no (ixF_names ..) (by decide +kernel), x, rs, b, s, rfl, hI2, fun pl hpl => ?_⟩
      have sl := same_upd (o := LI (lastc (jn rs))) hpl
      refine ⟨pl, lastc (jn rs), rfl, upd_same, by rw [lastc_len]; omega, lastc_num hd, fun H3 pb s3 hpb hb3 => ?_⟩
      refine ⟨p, pb, _, _, rfl, rfl, s3 _ _ (sl _ _ h2), hb3, line_ok7 ?_, ext_same (s2.trans (sl.trans s3)) hp, ext_val _ _, rfl⟩
      rw [List.length_map, List.length_map, List.length_append]
      omega
    rintro σ H3 ⟨s3, h3, rfl⟩
    -- the kept starts
    refine ⟨fun σ H' => Same H H' ∧ H' p = some (LI (wrB rs b s)) ∧ ∃ v5 : Option V, σ = [some (.ref x), some (.ref p), v2, v3, v4, v5, none], ?_, ?_⟩
    · have hI3 := hI.same s3
      refine ⟨.ref x, rfl, x, dx, _, rfl, s3 _ _ I.ob, lookup_no (ixF_names ..) (by decide +kernel), x, rs, b, s, rfl, hI3, fun pk hpk => ?_⟩
      obtain ⟨kl, hkl⟩ : ∃ kl, kl = keptL (jn rs) s (jn rs).length := ⟨_, rfl⟩
      have npk : p ≠ pk := ne_of_none h3 hpk
      have sk := same_upd (o := LN (keptL (jn rs) s (jn rs).length)) hpk
      refine ⟨pk, rfl, ⟨_, .inl (.inl upd_same)⟩, ?_⟩
      refine for_list (K := K) (xs := (keptL (jn rs) s (jn rs).length).map fun n : Nat => V.int (n : Nat)) (fun i σ H' => Same H H' ∧ H' pk = some (LN (keptL (jn rs) s (jn rs).length)) ∧ H' p = some (LI (headB rs b s ++ rs.flatMap refB ++ colB (lastc (jn rs)) ++ ((keptL (jn rs) s (jn rs).length).take i).flatMap (be 4))) ∧ ∃ v5 : Option V, σ = [some (.ref x), some (.ref p), v2, v3, v4, v5, none]) ⟨s3.trans sk, upd_same, by rw [upd_ne npk, h3, List.take_zero, List.flatMap_nil, List.append_nil], none, rfl⟩ (fun i σ H' _ h => .inl (.inl h.2.1)) ?_ ?_
      · rintro i v σ H4 hv ⟨s4, hk4, h4, v5, rfl⟩
        rw [List.getElem?_map] at hv
        obtain ⟨n, hn, rfl⟩ := Option.map_eq_some_iff.mp hv
        have hkb := kept_len (ns := jn rs) (s := s) (m := i) hn4
        refine ⟨.ref p, rfl, .inl ⟨rfl, _, .inl (.inl h4)⟩, .int n, rfl, n, 4, rfl, by decide, fun H5 pb s5 hpb hb5 => ?_⟩
        refine ⟨p, pb, _, _, rfl, rfl, s5 _ _ h4, hb5, line_ok7 ?_, ext_same (s4.trans s5) hp, ?_, ?_, _, rfl⟩
        · rw [List.length_map, List.length_map, be_len, List.length_append, List.length_append, List.length_append]
          omega
        · rw [upd_ne npk.symm]
          exact s5 _ _ hk4
        · rw [ext_val, flat_take hn, List.append_assoc (headB rs b s ++ rs.flatMap refB ++ colB (lastc (jn rs)))]
      · rintro σ H4 ⟨s4, hk4, h4, v5, rfl⟩
        rw [List.length_map, List.take_length] at h4
        exact ⟨s4, h4, v5, rfl⟩
    rintro σ H4 ⟨s4, h4, v5, rfl⟩
    have hwl := wrB_len b s hsh hk.2.2.1
    refine ⟨.ref p, rfl, .inl ⟨rfl, _, .inl (.inl h4)⟩, .ref p, rfl, p, _, rfl, .inl (.inl h4), wrB_byt b s hd hsh, by omega, fun H5 s5 => ?_⟩
    refine ⟨(sumOf (wrB rs b s)).toNat, 4, by rw [Int.toNat_of_nonneg (sumOf_nonneg _)]; rfl, by decide, fun H6 pb s6 hpb hb6 => ?_⟩
    refine ⟨p, pb, _, _, rfl, rfl, s6 _ _ (s5 _ _ h4), hb6, line_ok7 (by rw [List.length_map, List.length_map, be_len]; omega), .ref p, rfl, ?_⟩
    exact q _ p (ext_same (s4.trans (s5.trans s6)) hp) hp (ext_val _ _)
end
open LamX in
theorem Grow.sq {T : List (Addr × Str)} {K : PySem.W.Frag} {H H1 : Hp} (g : Grow T H H1) {a : Addr} {xs : List V} (h : SqL K H a xs) : SqL K H1 a xs := by
  rcases h with (h | ⟨o, h⟩) | h
  · exact .inl (.inl (g.lst h))
  · exact .inl (.inr ⟨o, g.ext _ _ h fun ps z => by cases z⟩)
  · exact .inr h
open LamX in
theorem Grow.tups {T : List (Addr × Str)} {H H1 : Hp} (g : Grow T H H1) {xs : List V} {rs : List Rf} (h : Tups H xs rs) : Tups H1 xs rs := h.mono fun q ys e => g.ext _ _ e fun ps z => by cases z
/-! ### what the law writes -/
theorem scSummed : FnScope ["data"] ["data"] (defScope sSummed) := ⟨rfl, rfl, rfl, by decide +kernel, rfl, by decide +kernel, by decide +kernel⟩
def NWr : List Str := ["references", "block", "sample", "numbers", "starts", "data", "name", "text", "start", "last", "k", "sign"]
theorem scWritten : FnScope NWr ["references", "block", "sample"] (defScope sWritten) := ⟨rfl, rfl, rfl, by decide +kernel, rfl, by decide +kernel, by decide +kernel⟩
theorem lz_at (L : List Int) {i : Nat} (h : i < L.length + 1) : (L ++ [0])[i]? = some (L.getD i 0) := by
  rw [List.getElem?_append]
  split
  · next c => rw [List.getD_eq_getElem?_getD, List.getElem?_eq_getElem c]; rfl
  · next c =>
    rw [show i - L.length = 0 by omega, List.getD_eq_getElem?_getD, List.getElem?_eq_none (l := L) (by omega)]
    rfl
theorem whole_iff {st s : Nat} (h : 1 ≤ s) : ((st : Int) / (s : Int) * (s : Int) = (st : Int)) ↔ st % s = 0 := by
  have e : (st : Int) / (s : Int) * (s : Int) = ((st / s * s : Nat) : Int) := by rw [Int.natCast_mul, Int.natCast_ediv]
  rw [e]
  have h2 := Nat.div_add_mod st s
  rw [Nat.mul_comm] at h2
  generalize st / s * s = q at h2 ⊢
  omega
section
variable {P : Program} {w : World} {K : PySem.W.Frag} {mg : Str → Option Value} {base : Heap}
def spSummed : Sp := fun vs H Q _ => ∃ (a : Addr) (ns : List Int), vs = [.ref a] ∧ H a = some (LI ns) ∧ ns.length ≤ 100000 ∧ ∀ (H' : Hp) (p : Addr), Same H H' → H p = none → H' p = some (LI (ns ++ be 4 (sumOf ns).toNat)) → Q (.ref p) H'
theorem ok_summed {f : Addr} {fd : FuncData} (F : Fun K "_law_summed" "_law_summed" sSummed f fd) (hB : Has P w K mg base 2 "_law_bytes" ["number", "count"] spBytes) (hS : Has P w K mg base 2 "_law_sum" ["data"] (spLSum K)) : FnOk P w K mg base CX0 3 f fd ["data"] spSummed := by
  obtain ⟨fB, dB, GB, gB, kB, bB⟩ := hB
  obtain ⟨fS, dS', GS, gS, kS, bS⟩ := hS
  refine F.ok scSummed (fun vs H Q E h => ?_) (fun cdv A outer s H vs Q E hr h => ?_)
  · obtain ⟨a, ns, rfl, _⟩ := h
    rfl
  · obtain ⟨a, ns, rfl, ha, hl, q⟩ := h
    refine ⟨_, pss_one (ps_ret (pe_op op_cat (pv 0) (pe_call GB hr (by rfl) gB kB bB .nil pass0 (pa_cons (pe_call GS hr (by rfl) gS kS bS .nil pass0 (pa_cons (pv 0) pa_nil)) (pa_cons pe_int pa_nil))))), ?_⟩
    refine ⟨.ref a, rfl, .ref a, rfl, a, ns, rfl, .inl (.inl ha), by omega, (sumOf ns).toNat, 4, by rw [Int.toNat_of_nonneg (sumOf_nonneg _)]; rfl, by decide, fun H1 pb s1 hpb hb => ⟨a, pb, _, _, rfl, rfl, s1 _ _ ha, hb, line_ok7 (by rw [List.length_map, List.length_map, be_len]; omega), fun p hp => ?_⟩⟩
    refine q _ p (s1.trans (same_upd hp)) (s1.free hp) ?_
    rw [upd_same, ← List.map_append]
open LamX in
def spWritten (K : PySem.W.Frag) (T : List (Addr × Str)) : Sp := fun vs H Q _ => ∃ (pr : Addr) (xs : List V) (rs : List Rf) (b s : Nat), vs = [.ref pr, .int (b : Int), .int (s : Int)] ∧ H pr = some (.lst xs) ∧ Tups H xs rs ∧ 1 ≤ rs.length ∧ (∀ r ∈ rs, Dna r.2) ∧ Short rs ∧ jl rs ≤ 4000 ∧ 1 ≤ s ∧ s ≤ 1000 ∧ Tabs T H ∧
  ∀ (H' : Hp) (p : Addr), Grow T H H' → H' p = some (LI (allB rs b s)) → Q (.ref p) H'
open LamX in
theorem ok_written {f : Addr} {fd : FuncData} {T : List (Addr × Str)} (F : Fun K "_law_written" "_law_written" sWritten f fd) (B : Bl mg) (mord : mg "ord" = none) (hJ : Has P w K mg base 4 "_law_joined" ["references"] (spJoined K)) (hSt : Has P w K mg base 4 "_law_starts" ["numbers"] (spStarts K T))
    (hB : Has P w K mg base 2 "_law_bytes" ["number", "count"] spBytes) (hS : Has P w K mg base 3 "_law_summed" ["data"] spSummed) : FnOk P w K mg base CX0 5 f fd ["references", "block", "sample"] (spWritten K T) := by
  obtain ⟨fJ, dJ, GJ, gJ, kJ, bJ⟩ := hJ
  obtain ⟨fT, dT', GT, gT, kT, bT⟩ := hSt
  obtain ⟨fB, dB, GB, gB, kB, bB⟩ := hB
  obtain ⟨fS, dS', GS, gS, kS, bS⟩ := hS
  refine F.ok scWritten (fun vs H Q E h => ?_) (fun cdv A outer s H vs Q E hr h => ?_)
  · obtain ⟨pr, xs, rs, b, s, rfl, _⟩ := h
    rfl
  · obtain ⟨pr, xs, rs, b, s, rfl, hx, ht, hl1, hd, hsh, hjl, hs1, hs2, hT, q⟩ := h
    have hr2 : Room 2 _ := hr.mono (by decide)
    have hr3 : Room 3 _ := hr.mono (by decide)
    refine ⟨_, pss_cons (ps_set (i := 3) scWritten.nd rfl (.inr rfl) (pe_call GJ hr (by rfl) gJ kJ bJ .nil pass0 (pa_cons (pv 0) pa_nil)))
      (pss_cons (ps_set (i := 4) scWritten.nd rfl (.inl rfl) (pe_call GT hr (by rfl) gT kT bT .nil pass0 (pa_cons (pv 3) pa_nil)))
      (C8.pss_cut (ps_set (i := 5) scWritten.nd rfl (.inl rfl) (pe_op op_cat (pe_op op_cat (pe_op op_cat (pe_lst (pa_cons pe_int (pa_cons pe_int (pa_cons pe_int pa_nil)))) (pe_call GB hr2 (by rfl) gB kB bB .nil pass0 (pa_cons (pv 1) (pa_cons pe_int pa_nil)))) (pe_call GB hr2 (by rfl) gB kB bB .nil pass0 (pa_cons (pv 2) (pa_cons pe_int pa_nil)))) (pe_call GB hr2 (by rfl) gB kB bB .nil pass0 (pa_cons (pe_callB call_len_seq (by rfl) B.len PySem.boot_len (pa_cons (pv 0) pa_nil)) (pa_cons pe_int pa_nil)))))
      (C8.pss_cut (ps_for PassesOwn.never rfl (pi_list (pv 0)) (pg_tup rfl (pgs_cons (pg_name (i := 6) scWritten.nd rfl (.inl rfl)) (pgs_cons (pg_name (i := 7) scWritten.nd rfl (.inl rfl)) pgs_nil)))
        (pss_one (ps_expr (pe_bm PySem.F.plainAttrs_list PySem.F.slot_list_extend PySem.F.type_list_extend mt_extend (pv 5) (pa_cons (pe_op op_cat (pe_op op_cat (pe_lst (pa_cons (pe_callB call_len_str (by rfl) B.len PySem.boot_len (pa_cons (pv 6) pa_nil)) pa_nil)) (pe_lc (own := [("sign", 11)]) (g := gName 11) (tt := tYes) (te := tCB rOrd (tCons (tVar 11) tNil)) (by rfl) scWritten.nd (pi_str (pv 6)) (blkOk_by (own := [("sign", 11)]) (N := NWr) (sc := defScope sWritten) (by decide +kernel))
          (fun _ _ _ _ _ => pg_name (i := 11) scWritten.nd rfl (Or.inl rfl)) (fun _ _ _ _ _ => pts_nil) (fun _ _ _ _ _ => pe_callB (r := rOrd) call_ord (by rfl) mord (by decide +kernel) (pa_cons (pv 11) pa_nil)))) (pe_call GB hr2 (by rfl) gB kB bB .nil pass0 (pa_cons (pe_callB call_len_str (by rfl) B.len PySem.boot_len (pa_cons (pv 7) pa_nil)) (pa_cons pe_int pa_nil)))) pa_nil)))))
      (C8.pss_cut (ps_set (i := 9) scWritten.nd rfl (.inl rfl) (pe_op op_cat (pe_lc (own := [("start", 8)]) (g := gName 8) (tt := tYes) (te := tOp (rIxL K) (tVar 3) (tOp (rI0 fun i j => V.int (i - j)) (tVar 8) (tC (.int 1)))) (by rfl) scWritten.nd (pi_list (pv 4)) (blkOk_by (own := [("start", 8)]) (N := NWr) (sc := defScope sWritten) (by decide +kernel))
          (fun _ _ _ _ _ => pg_name (i := 8) scWritten.nd rfl (Or.inl rfl)) (fun _ _ _ _ _ => pts_nil) (fun _ _ _ _ _ => pe_ix (r := rIxL K) ix_list (pv 3) (pe_op op_sub (pv 8) pe_int) (fun _ _ => rfl))) (pe_lst (pa_cons pe_int pa_nil))))
      (C8.pss_cut (ps_for PassesOwn.never rfl (pi_range1 rfl B.range (pa_cons (pe_op op_fdiv (pe_op op_add (pe_callB call_len_seq (by rfl) B.len PySem.boot_len (pa_cons (pv 3) pa_nil)) pe_int) pe_int) pa_nil)) (pg_name (i := 10) scWritten.nd rfl (.inl rfl))
        (pss_one (ps_expr (pe_bm PySem.F.plainAttrs_list PySem.F.slot_list_append PySem.F.type_list_append mt_append (pv 5) (pa_cons (pe_op op_add (pe_op op_mul (pe_ix ix_list (pv 9) (pe_op op_mul pe_int (pv 10)) (fun _ _ => rfl)) pe_int) (pe_ix ix_list (pv 9) (pe_op op_add (pe_op op_mul pe_int (pv 10)) pe_int) (fun _ _ => rfl))) pa_nil)))))
      (C8.pss_cut (ps_for PassesOwn.never rfl (pi_list (pv 4)) (pg_name (i := 8) scWritten.nd rfl (.inl rfl))
        (pss_one (ps_if (pt_cmpR op_eq (pe_op op_mul (pe_op op_fdiv (pv 8) (pv 2)) (pv 2)) (pv 8) (nomark _)) (pss_one (ps_expr (pe_bm PySem.F.plainAttrs_list PySem.F.slot_list_extend PySem.F.type_list_extend mt_extend (pv 5) (pa_cons (pe_call GB hr2 (by rfl) gB kB bB .nil pass0 (pa_cons (pv 8) (pa_cons pe_int pa_nil))) pa_nil)))) pss_nil)))
      (pss_one (ps_ret (pe_call GS hr3 (by rfl) gS kS bS .nil pass0 (pa_cons (pv 5) pa_nil)))))))))), ?_⟩
    have hxl : xs.length = rs.length := paired_len ht
    have hn4 : (jn rs).length ≤ 4000 := by
      rw [jn_len]
      exact hjl
    have hlm : ((jn rs).map V.int).length = (jn rs).length := List.length_map _
    have sl := starts_len (jn rs)
    have ll := lastc_len (jn rs)
    refine ⟨.ref pr, rfl, pr, xs, rs, rfl, .inl (.inl hx), ht, hl1, hd, by omega, fun H1 pn s1 hpn hn1 => ?_⟩
    have hT1 := tabs_same hT s1
    refine ⟨.ref pn, rfl, pn, jn rs, rfl, .inl (.inl hn1), hT1, by omega, fun H1' pS g hpS => ?_⟩
    obtain ⟨H2, hH2⟩ : ∃ H2, H2 = upd H1' pS (LN (starts (jn rs))) := ⟨_, rfl⟩
    have hS2 : H2 pS = some (LN (starts (jn rs))) := by rw [hH2, upd_same]
    have sS := same_upd (o := LN (starts (jn rs))) hpS
    rw [← hH2] at sS
    have g2 : Grow T H H2 := (Grow.trans ⟨fun b o e _ => s1 _ _ e, hT1⟩ g).same sS
    have hn2 : H2 pn = some (LI (jn rs)) := (g.same sS).lst hn1
    have hx2 := g2.lst hx
    have ht2 := g2.tups ht
    rw [← hH2]
    clear hH2 sS hpS
    have hhl := headB_len rs b s
    -- the first bytes
    refine ⟨fun σ H' => Same H2 H' ∧ ∃ p, H2 p = none ∧ H' p = some (LI (headB rs b s)) ∧ σ = [some (.ref pr), some (.int (b : Int)), some (.int (s : Int)), some (.ref pn), some (.ref pS), some (.ref p), none, none, none, none, none, none], ?_, ?_⟩
    · refine ⟨by show 3 ≤ sizeLine; decide, fun p1 hp1 => ?_⟩
      have t1 := same_upd (o := .lst [V.int 72, V.int 82, V.int 1]) hp1
      refine ⟨.int b, rfl, b, 2, rfl, by decide, fun Ha pa sa hpa ha => ⟨p1, pa, _, _, rfl, rfl, sa _ _ upd_same, ha, line_ok7 (by rw [List.length_map, be_len]; show 3 + 2 ≤ _; decide), fun p2 hp2 => ?_⟩⟩
      have t2 := same_upd (o := .lst ([V.int 72, V.int 82, V.int 1] ++ (be 2 b).map V.int)) hp2
      refine ⟨.int s, rfl, s, 2, rfl, by decide, fun Hb pb sb hpb hb => ⟨p2, pb, _, _, rfl, rfl, sb _ _ upd_same, hb, line_ok7 (by rw [List.length_append, List.length_map, List.length_map, be_len, be_len]; show 3 + 2 + 2 ≤ _; decide), fun p3 hp3 => ?_⟩⟩
      have t3 := same_upd (o := .lst ([V.int 72, V.int 82, V.int 1] ++ (be 2 b).map V.int ++ (be 2 s).map V.int)) hp3
      have t0 := ((((t1.trans sa).trans t2).trans sb).trans t3)
      refine ⟨.ref pr, rfl, pr, _, rfl, .inl (.inl (.inl (t0 _ _ hx2))), rs.length, 2, by rw [hxl]; rfl, by decide, fun Hc pc sc hpc hc => ⟨p3, pc, _, _, rfl, rfl, sc _ _ upd_same, hc, line_ok7 (by rw [List.length_append, List.length_append, List.length_map, List.length_map, List.length_map, be_len, be_len, be_len]; show 3 + 2 + 2 + 2 ≤ _; decide), fun p4 hp4 => ?_⟩⟩
      refine ⟨(t0.trans sc).trans (same_upd hp4), p4, (t0.trans sc).free hp4, ?_, rfl⟩
      rw [upd_same]
      show _ = some (HO.lst ((headB rs b s).map V.int))
      unfold headB
      rw [List.map_append, List.map_append, List.map_append]
      rfl
    rintro σ H3 ⟨s23, p, hp, h3, rfl⟩
    -- the references
    refine ⟨fun σ H' => Same H2 H' ∧ H' p = some (LI (headB rs b s ++ rs.flatMap refB)) ∧ ∃ v6 v7 : Option V, σ = [some (.ref pr), some (.int (b : Int)), some (.int (s : Int)), some (.ref pn), some (.ref pS), some (.ref p), v6, v7, none, none, none, none], ?_, ?_⟩
    · refine ⟨.ref pr, rfl, pr, rfl, ⟨_, .inl (.inl (s23 _ _ hx2))⟩, ?_⟩
      refine for_list (K := K) (xs := xs) (fun i σ H' => Same H2 H' ∧ H' p = some (LI (headB rs b s ++ (rs.take i).flatMap refB)) ∧ ∃ v6 v7 : Option V, σ = [some (.ref pr), some (.int (b : Int)), some (.int (s : Int)), some (.ref pn), some (.ref pS), some (.ref p), v6, v7, none, none, none, none]) ⟨s23, by rw [h3, List.take_zero, List.flatMap_nil, List.append_nil], none, none, rfl⟩ (fun i σ H' _ h => .inl (.inl (h.1 _ _ hx2))) ?_ ?_
      · rintro i v σ H4 hv ⟨s4, h4, v6, v7, rfl⟩
        obtain ⟨r, hr0, qa, rfl, hqa⟩ := paired_get (ht2.same s4) hv
        have hrm := List.mem_of_getElem? hr0
        obtain ⟨hr40, hrA⟩ := hsh.2 r hrm
        have hrl := refs_len hsh i
        have hjr : r.2.length ≤ 4000 := by
          have hq : ∀ (l : List Rf), r ∈ l → r.2.length ≤ jl l := fun l => by
            induction l with
            | nil => intro z; cases z
            | cons r' l ih =>
              intro z
              show _ ≤ r'.2.length + 1 + jl l
              rcases List.mem_cons.mp z with e | z
              · rw [e]
                omega
              · have := ih z
                omega
          have := hq rs hrm
          omega
        refine ⟨qa, _, rfl, .inl (.inl hqa), rfl, _, _, rfl, _, _, rfl, rfl, ?_⟩
        refine ⟨.ref p, rfl, .inl ⟨rfl, _, .inl (.inl h4)⟩, .str (Hr.T r.1), rfl, Hr.T r.1, rfl, line_ok6 (by rw [T_len]; omega), by show 1 ≤ sizeLine; decide, fun q1 hq1 => ?_⟩
        have u1 := same_upd (o := .lst [V.int ((Hr.T r.1).length : Nat)]) hq1
        refine ⟨.str (Hr.T r.1), rfl, Hr.T r.1, rfl, fun D hD => ?_⟩
        refine lc_gen (n := (Hr.T r.1).cps.size) (fun j H5 => Same (upd H4 q1 (.lst [V.int ((Hr.T r.1).length : Nat)])) H5 ∧ j ≤ r.1.length ∧ H5 D = some (LI ((r.1.take j).map fun c : Nat => (c : Int)))) ⟨same_upd hD, Nat.zero_le _, upd_same⟩ (fun j H5 hj _ => hj) (fun H5 _ => Nat.le_refl _) ?_ ?_
        · rintro j H5 y H6 hj ⟨s5, _, hd5⟩ ⟨rfl, c, hc, rfl⟩
          have hc2 : r.1[j]? = some c := by
            rw [← T_at]
            exact hc
          have hjl2 : j < r.1.length := (List.getElem?_eq_some_iff.mp hc2).1
          refine ⟨rfl, ?_⟩
          dsimp only [tYes]
          rw [if_pos rfl]
          refine ⟨.str ⟨#[c]⟩, rfl, ⟨#[c]⟩, rfl, rfl, _, hd5, line_ok6 (by rw [List.length_map, List.length_map, List.length_take]; omega), fun b o e => ?_, hjl2, ?_⟩
          · rw [upd_ne (ne_of_none e hD)]
            exact s5 b o e
          · rw [upd_same, List.take_add_one, hc2, List.map_append]
            exact congrArg some (LI_snoc _ _).symm
        · rintro H5 ⟨s5, _, hd5⟩
          rw [T_size, List.take_length] at hd5
          refine ⟨q1, D, _, _, rfl, rfl, s5 _ _ upd_same, hd5, line_ok7 (by rw [List.length_map, List.length_map]; show 1 + _ ≤ _; omega), fun q2 hq2 => ?_⟩
          have u2 := same_upd (o := .lst ([V.int ((Hr.T r.1).length : Nat)] ++ (r.1.map fun c : Nat => (c : Int)).map V.int)) hq2
          refine ⟨.str (Hr.T r.2), rfl, Hr.T r.2, rfl, line_ok6 (by rw [T_len]; omega), r.2.length, 4, by rw [T_len]; rfl, by decide, fun Hc pc sc hpc hc => ?_⟩
          refine ⟨q2, pc, _, _, rfl, rfl, sc _ _ upd_same, hc, line_ok7 (by rw [List.length_append, List.length_map, List.length_map, List.length_map, be_len]; show 1 + _ + 4 ≤ _; omega), fun q3 hq3 => ?_⟩
          have u3 := same_upd (o := .lst ([V.int ((Hr.T r.1).length : Nat)] ++ (r.1.map fun c : Nat => (c : Int)).map V.int ++ (be 4 r.2.length).map V.int)) hq3
          have u0 := (((u1.trans s5).trans u2).trans sc).trans u3
          have er : ([V.int ((Hr.T r.1).length : Nat)] ++ (r.1.map fun c : Nat => (c : Int)).map V.int ++ (be 4 r.2.length).map V.int) = (refB r).map V.int := by
            unfold refB
            rw [T_len, List.map_cons, List.map_append]
            rfl
          rw [er] at u0 ⊢
          refine ⟨p, q3, _, _, rfl, rfl, u0 _ _ h4, upd_same, line_ok7 ?_, ext_same (s4.trans u0) hp, ?_, _, _, rfl⟩
          · rw [List.length_map, List.length_map, refB_len, List.length_append]
            omega
          · rw [ext_val, flat_take hr0, List.append_assoc]
      · rintro σ H4 ⟨s4, h4, v6, v7, rfl⟩
        rw [hxl, List.take_length] at h4
        exact ⟨s4, h4, v6, v7, rfl⟩
    rintro σ H4 ⟨s24, h4, v6, v7, rfl⟩
    have hrl := refs_len hsh rs.length
    rw [List.take_length] at hrl
    -- last
    refine ⟨fun σ H' => Same H2 H' ∧ H' p = some (LI (headB rs b s ++ rs.flatMap refB)) ∧ ∃ pL, pL ≠ p ∧ H' pL = some (LI (lastc (jn rs) ++ [0])) ∧ σ = [some (.ref pr), some (.int (b : Int)), some (.int (s : Int)), some (.ref pn), some (.ref pS), some (.ref p), v6, v7, none, some (.ref pL), none, none], ?_, ?_⟩
    · refine ⟨.ref pS, rfl, pS, rfl, ⟨_, .inl (.inl (s24 _ _ hS2))⟩, fun D hD => ?_⟩
      refine lc_list (K := K) (xs := (starts (jn rs)).map fun k : Nat => V.int (k : Nat)) (fun j H' => Same H4 H' ∧ H' D = some (LI ((lastc (jn rs)).take j))) ⟨same_upd hD, upd_same⟩ (fun j H' _ h => .inl (.inl (h.1 _ _ (s24 _ _ hS2)))) ?_ ?_
      · rintro j y H' hjy ⟨s1, hd1⟩
        rw [List.getElem?_map] at hjy
        obtain ⟨st, hst, rfl⟩ := Option.map_eq_some_iff.mp hjy
        have hlt : st < (jn rs).length := starts_lt (List.mem_of_getElem? hst)
        refine ⟨rfl, ?_⟩
        dsimp only [tYes]
        rw [if_pos rfl]
        refine ⟨.ref pn, rfl, .int (st : Nat), rfl, _, 1, rfl, rfl, pn, _, _, _, rfl, rfl, .inl (.inl (s1 _ _ (s24 _ _ hn2))), prev_at hlt, _, hd1, line_lt7 (by rw [List.length_map, List.length_take]; omega), fun c o e => ?_, ?_⟩
        · rw [upd_ne (ne_of_none e hD)]
          exact s1 c o e
        · have e1 : (lastc (jn rs))[j]? = some ((jn rs).getD (prevI (jn rs).length st) 0) := by
            unfold lastc
            rw [List.getElem?_map, hst]
            rfl
          rw [upd_same, List.take_add_one, e1]
          exact congrArg some (LI_snoc _ _).symm
      · rintro H' ⟨s1, hd1⟩
        rw [List.length_map, sl, ← ll, List.take_length] at hd1
        refine ⟨by show 1 ≤ sizeLine; decide, fun p2 hp2 => ?_⟩
        have t2 := same_upd (o := .lst [V.int 0]) hp2
        refine ⟨D, p2, _, _, rfl, rfl, t2 _ _ hd1, upd_same, line_ok7 (by rw [List.length_map]; show _ + 1 ≤ _; omega), fun p3 hp3 => ?_⟩
        have t3 := same_upd (o := .lst ((lastc (jn rs)).map V.int ++ [V.int 0])) hp3
        have np3 : p ≠ p3 := ne_of_none (t2 _ _ (s1 _ _ h4)) hp3
        refine ⟨s24.trans (s1.trans (t2.trans t3)), t3 _ _ (t2 _ _ (s1 _ _ h4)), p3, np3.symm, ?_, rfl⟩
        rw [upd_same]
        exact congrArg some (LI_snoc _ _).symm
    rintro σ H5 ⟨s25, h5, pL, npL, hL5, rfl⟩
    have hcl : ∀ j, j ≤ ((jn rs).length + 1) / 2 → (colN (lastc (jn rs)) j).length ≤ 4000 := fun j hj => by
      rw [colN_len]
      omega
    have lmL : ((lastc (jn rs) ++ [0]).map V.int).length = (jn rs).length + 1 := by
      rw [List.length_map, List.length_append, ll]
      rfl
    -- the column
    refine ⟨fun σ H' => Same H2 H' ∧ H' p = some (LI (headB rs b s ++ rs.flatMap refB ++ colB (lastc (jn rs)))) ∧ ∃ v10 : Option V, σ = [some (.ref pr), some (.int (b : Int)), some (.int (s : Int)), some (.ref pn), some (.ref pS), some (.ref p), v6, v7, none, some (.ref pL), v10, none], ?_, ?_⟩
    · refine ⟨.ref pn, rfl, pn, _, rfl, .inl (.inl (.inl (s25 _ _ hn2))), _, 1, rfl, rfl, _, 2, rfl, rfl, ⟨by decide, by decide⟩, _, rfl, ?_, ?_, ?_⟩
      · rw [hlm]
        omega
      · rw [hlm]
        omega
      rw [hlm, show (((((jn rs).length : Nat) : Int) + 1) / 2).toNat = ((jn rs).length + 1) / 2 by omega]
      refine for_range (lo := 0) (n := ((jn rs).length + 1) / 2) (fun i σ H' => Same H2 H' ∧ H' pL = some (LI (lastc (jn rs) ++ [0])) ∧ H' p = some (LI (headB rs b s ++ rs.flatMap refB ++ colN (lastc (jn rs)) i)) ∧ ∃ v10 : Option V, σ = [some (.ref pr), some (.int (b : Int)), some (.int (s : Int)), some (.ref pn), some (.ref pS), some (.ref p), v6, v7, none, some (.ref pL), v10, none]) ⟨s25, hL5, by rw [h5]; show _ = some (LI (_ ++ [])); rw [List.append_nil], none, rfl⟩ ?_ ?_
      · rintro i σ H6 hi ⟨s6, hL6, h6, v10, rfl⟩
        have hcb := hcl i (by omega)
        have nm := lastc_num hd
        have a0 : atI ((lastc (jn rs) ++ [0]).map V.int) (2 * (0 + ((i : Nat) : Int))) = some (.int ((lastc (jn rs)).getD (2 * i) 0)) := by
          rw [show (2 : Int) * (0 + ((i : Nat) : Int)) = ((2 * i : Nat) : Int) by omega]
          exact atI_nat (by rw [List.getElem?_map, lz_at _ (by omega)]; rfl)
        have a1 : atI ((lastc (jn rs) ++ [0]).map V.int) (2 * (0 + ((i : Nat) : Int)) + 1) = some (.int ((lastc (jn rs)).getD (2 * i + 1) 0)) := by
          rw [show (2 : Int) * (0 + ((i : Nat) : Int)) + 1 = ((2 * i + 1 : Nat) : Int) by omega]
          exact atI_nat (by rw [List.getElem?_map, lz_at _ (by omega)]; rfl)
        refine ⟨.ref p, rfl, .inl ⟨rfl, _, .inl (.inl h6)⟩, .ref pL, rfl, _, rfl, 2, _, rfl, rfl, .inl ⟨by decide, by decide⟩, pL, _, _, _, rfl, rfl, .inl (.inl hL6), a0, _, 16, rfl, rfl, .inr ⟨by decide, by decide⟩, .ref pL, rfl, _, rfl, 2, _, rfl, rfl, .inl ⟨by decide, by decide⟩, _, 1, rfl, rfl, pL, _, _, _, rfl, rfl, .inl (.inl hL6), a1, _, _, rfl, rfl, p, _, _, rfl, rfl, h6, line_lt7 ?_, ext_same s6 hp, ?_, ?_, _, rfl⟩
        · rw [List.length_map, List.length_append, List.length_append]
          omega
        · rw [upd_ne npL]
          exact hL6
        · rw [upd_same, colN_succ, ← List.append_assoc]
          refine congrArg some (Eq.trans ?_ (LI_snoc _ _).symm)
          show HO.lst (_ ++ [V.int ((lastc (jn rs)).getD (2 * i) 0 * 16 + (lastc (jn rs)).getD (2 * i + 1) 0)]) = _
          rw [Int.mul_comm]
      · rintro σ H6 ⟨s6, hL6, h6, v10, rfl⟩
        rw [← ll] at h6
        exact ⟨s6, h6, v10, rfl⟩
    rintro σ H6 ⟨s26, h6, v10, rfl⟩
    have hcb : (colB (lastc (jn rs))).length ≤ 4000 := by
      unfold colB
      rw [ll]
      exact hcl _ (Nat.le_refl _)
    -- the kept starts
    refine ⟨fun σ H' => Same H2 H' ∧ H' p = some (LI (wrB rs b s)) ∧ ∃ v8 : Option V, σ = [some (.ref pr), some (.int (b : Int)), some (.int (s : Int)), some (.ref pn), some (.ref pS), some (.ref p), v6, v7, v8, some (.ref pL), v10, none], ?_, ?_⟩
    · refine ⟨.ref pS, rfl, pS, rfl, ⟨_, .inl (.inl (s26 _ _ hS2))⟩, ?_⟩
      refine for_list (K := K) (xs := (starts (jn rs)).map fun k : Nat => V.int (k : Nat)) (fun i σ H' => Same H2 H' ∧ H' p = some (LI (headB rs b s ++ rs.flatMap refB ++ colB (lastc (jn rs)) ++ (keptL (jn rs) s i).flatMap (be 4))) ∧ ∃ v8 : Option V, σ = [some (.ref pr), some (.int (b : Int)), some (.int (s : Int)), some (.ref pn), some (.ref pS), some (.ref p), v6, v7, v8, some (.ref pL), v10, none]) ⟨s26, by rw [h6]; show _ = some (LI (_ ++ [])); rw [List.append_nil], none, rfl⟩ (fun i σ H' _ h => .inl (.inl (h.1 _ _ hS2))) ?_ ?_
      · rintro i v σ H7 hv ⟨s7, h7, v8, rfl⟩
        rw [List.getElem?_map] at hv
        obtain ⟨st, hst, rfl⟩ := Option.map_eq_some_iff.mp hv
        have hlt : st < (jn rs).length := starts_lt (List.mem_of_getElem? hst)
        have his : i < (starts (jn rs)).length := (List.getElem?_eq_some_iff.mp hst).1
        have hg : (starts (jn rs)).getD i 0 = st := by
          rw [List.getD_eq_getElem?_getD, hst]
          rfl
        have hkb := kept_len (ns := jn rs) (s := s) (j := i) (m := (keptL (jn rs) s i).length) (by omega)
        rw [List.take_length] at hkb
        have hq : (0 : Int) ≤ (st : Int) / (s : Int) ∧ (st : Int) / (s : Int) < 2 ^ 64 := by
          rw [← Int.natCast_ediv]
          have := Nat.div_le_self st s
          generalize st / s = qq at this
          exact ⟨Int.natCast_nonneg _, by omega⟩
        refine ⟨.int st, rfl, .int s, rfl, _, _, rfl, rfl, ⟨by omega, by omega⟩, .int s, rfl, _, _, rfl, rfl, .inl ⟨by omega, hq.2⟩, .int st, rfl, rfl, _, rfl, ite2 (fun e => ?_) (fun e => ?_)⟩
        · have e1 := (whole_iff hs1).mp (V.int.inj (of_decide_eq_true e))
          refine ⟨.ref p, rfl, .inl ⟨rfl, _, .inl (.inl h7)⟩, .int st, rfl, st, 4, rfl, by decide, fun H8 pb s8 hpb hb8 => ?_⟩
          refine ⟨p, pb, _, _, rfl, rfl, s8 _ _ h7, hb8, line_ok7 ?_, ext_same (s7.trans s8) hp, ?_, _, rfl⟩
          · rw [List.length_map, List.length_map, be_len, List.length_append, List.length_append, List.length_append]
            omega
          · rw [ext_val, keptL_succ, hg, if_pos e1, List.flatMap_append, List.append_assoc (headB rs b s ++ rs.flatMap refB ++ colB (lastc (jn rs)))]
            simp
        · have e1 : ¬ st % s = 0 := fun z => e (decide_eq_true (congrArg V.int ((whole_iff hs1).mpr z)))
          refine ⟨s7, ?_, _, rfl⟩
          rw [h7, keptL_succ, hg, if_neg e1]
      · rintro σ H7 ⟨s7, h7, v8, rfl⟩
        rw [List.length_map, sl] at h7
        exact ⟨s7, h7, v8, rfl⟩
    rintro σ H7 ⟨s27, h7, v8, rfl⟩
    have hwl := wrB_len b s hsh hjl
    refine ⟨.ref p, rfl, p, _, rfl, h7, by omega, fun H8 pz s8 hpz hz => ?_⟩
    exact q H8 pz (g2.same (s27.trans s8)) hz
end
theorem w_pos {l : List Nat} : ∀ c ∈ l.map sy, 0 < c := fun c hc => by
  obtain ⟨d, _, rfl⟩ := List.mem_map.mp hc
  have := sy_ge d
  omega
/-! ### places -/
theorem asc_uniq : ∀ (l m : List Int), l.Pairwise (· < ·) → m.Pairwise (· < ·) → (∀ x, x ∈ l ↔ x ∈ m) → l = m
  | [], [], _, _, _ => rfl
  | [], b :: m, _, _, h => absurd ((h b).mpr List.mem_cons_self) (by simp)
  | a :: l, [], _, _, h => absurd ((h a).mp List.mem_cons_self) (by simp)
  | a :: l, b :: m, p, q, h => by
    obtain ⟨p1, p2⟩ := List.pairwise_cons.mp p
    obtain ⟨q1, q2⟩ := List.pairwise_cons.mp q
    have e : a = b := by
      rcases List.mem_cons.mp ((h a).mp List.mem_cons_self) with z | z
      · exact z
      · rcases List.mem_cons.mp ((h b).mpr List.mem_cons_self) with y | y
        · exact y.symm
        · have := q1 a z
          have := p1 b y
          omega
    subst e
    rw [asc_uniq l m p2 q2 fun x => ?_]
    constructor
    · intro hx
      rcases List.mem_cons.mp ((h x).mp (List.mem_cons_of_mem _ hx)) with z | z
      · have := p1 x hx
        omega
      · exact z
    · intro hx
      rcases List.mem_cons.mp ((h x).mpr (List.mem_cons_of_mem _ hx)) with z | z
      · have := q1 x hx
        omega
      · exact z
/-- the text of a reference -/
def txt (rs : List Rf) (k : Nat) : List Nat := (rs.map (·.2)).getD k []
theorem txt_at {rs : List Rf} {k : Nat} (h : k < rs.length) : (rs.map (·.2))[k]? = some (txt rs k) := by
  unfold txt
  rw [List.getD_eq_getElem?_getD, List.getElem?_eq_getElem (by rw [List.length_map]; exact h)]
  rfl
/-- where the text of a reference begins -/
def bg (rs : List Rf) (k : Nat) : Nat := jtl ((rs.map (·.2)).take k)
theorem bg_succ {rs : List Rf} {k : Nat} (h : k < rs.length) : bg rs (k + 1) = bg rs k + ((txt rs k).length + 1) := by
  unfold bg
  rw [List.take_add_one, txt_at h, Option.toList_some, jtl_snoc]
theorem bg_mono {rs : List Rf} {k : Nat} : ∀ {m : Nat}, k ≤ m → m ≤ rs.length → bg rs k ≤ bg rs m := fun {m} h1 h2 => by
  induction m with
  | zero =>
    obtain rfl : k = 0 := by omega
    exact Nat.le_refl _
  | succ m ih =>
    by_cases e : k = m + 1
    · rw [e]
      exact Nat.le_refl _
    · have := ih (by omega) (by omega)
      have := bg_succ (rs := rs) (k := m) (by omega)
      omega
theorem bg_all (rs : List Rf) : bg rs rs.length = (jn rs).length := by
  unfold bg
  rw [List.take_of_length_le (by rw [List.length_map]; exact Nat.le_refl _), jn_len, jl_jtl]
theorem bgs_at {rs : List Rf} {k : Nat} (h : k < rs.length) : (bgs (rs.map (·.2)))[k]? = some ((bg rs k : Nat) : Int) := by
  unfold bgs
  rw [List.getElem?_map, List.getElem?_range (by rw [List.length_map]; exact h)]
  rfl
/-- position j of the joined sequence is at of reference k -/
def Loc (rs : List Rf) (k at' j : Nat) : Prop := k < rs.length ∧ bg rs k + at' = j ∧ at' ≤ (txt rs k).length
theorem Loc.uniq {rs : List Rf} {k a k' a' j : Nat} (h : Loc rs k a j) (h' : Loc rs k' a' j) : k = k' ∧ a = a' := by
  obtain ⟨h1, h2, h3⟩ := h
  obtain ⟨g1, g2, g3⟩ := h'
  rcases Nat.lt_trichotomy k k' with c | c | c
  · have := bg_mono (rs := rs) (show k + 1 ≤ k' by omega) (by omega)
    have := bg_succ h1
    omega
  · subst c
    omega
  · have := bg_mono (rs := rs) (show k' + 1 ≤ k by omega) (by omega)
    have := bg_succ g1
    omega
theorem loc_of {rs : List Rf} {j : Nat} : ∀ m, m ≤ rs.length → j < bg rs m → ∃ k a, Loc rs k a j
  | 0, _, h => absurd h (Nat.not_lt_zero _)
  | m + 1, hm, h => by
    by_cases c : j < bg rs m
    · exact loc_of m (by omega) c
    · have := bg_succ (rs := rs) (k := m) (by omega)
      exact ⟨m, j - bg rs m, by omega, by omega, by omega⟩
theorem set_last_cons (x : Int) (R : List Int) : ∃ s B, (x :: R).set R.length 0 = s :: B ∧ (s = 0 ∨ s = x) := by
  cases R with
  | nil => exact ⟨0, [], rfl, .inl rfl⟩
  | cons r R => exact ⟨x, _, rfl, .inr rfl⟩
theorem jn_split {rs : List Rf} {k : Nat} (h : k < rs.length) : ∃ (A : List Int) (s : Int) (B : List Int), jn rs = A ++ ((txt rs k).map sy ++ s :: B) ∧ A.length = bg rs k ∧ s < 2 := by
  obtain ⟨ls, hls⟩ : ∃ ls, ls = rs.map (·.2) := ⟨_, rfl⟩
  have ht := txt_at h
  rw [← hls] at ht
  have hk : k < ls.length := (List.getElem?_eq_some_iff.mp ht).1
  have e0 : ls = ls.take k ++ txt rs k :: ls.drop (k + 1) := by
    have := (List.getElem?_eq_some_iff.mp ht).2
    rw [← this, ← List.drop_eq_getElem_cons hk, List.take_append_drop]
  have e : jraw2 ls = jraw2 (ls.take k) ++ ((txt rs k).map sy ++ 1 :: jraw2 (ls.drop (k + 1))) := by
    conv => lhs; rw [e0]
    unfold jraw2
    rw [List.flatMap_append, List.flatMap_cons]
    simp
  obtain ⟨s, B, hs, hs2⟩ := set_last_cons 1 (jraw2 (ls.drop (k + 1)))
  refine ⟨jraw2 (ls.take k), s, B, ?_, ?_, by rcases hs2 with z | z <;> omega⟩
  · rw [jn_jt, ← hls]
    unfold jt
    rw [e, List.length_append, List.length_append, List.length_cons, List.set_append_right _ _ (by omega), List.set_append_right _ _ (by omega), ← hs]
    congr 3
    omega
  · rw [jraw2_len]
    unfold bg
    rw [hls]
theorem prefix_stop : ∀ (w u : List Int) (s : Int) (B : List Int), (∀ c ∈ w, 2 ≤ c) → s < 2 → (w <+: u ++ s :: B ↔ w <+: u)
  | [], u, s, B, _, _ => ⟨fun _ => List.nil_prefix, fun _ => List.nil_prefix⟩
  | c :: w, [], s, B, hw, hs => by
    constructor
    · intro h
      have e : c = s := (List.cons_prefix_cons.mp h).1
      have := hw c List.mem_cons_self
      omega
    · intro h
      simp at h
  | c :: w, d :: u, s, B, hw, hs => by
    rw [List.cons_append, List.cons_prefix_cons, List.cons_prefix_cons, prefix_stop w u s B (fun z hz => hw z (List.mem_cons_of_mem _ hz)) hs]
theorem sy_inj {c d : Nat} (hc : Sg c) (hd : Sg d) (h : sy c = sy d) : c = d := by
  rcases hc with z | z | z | z | z <;> rcases hd with y | y | y | y | y <;> subst z <;> subst y <;> first | rfl | exact absurd h (by decide)
theorem pre_map : ∀ {l u : List Nat}, Dna l → Dna u → (l.map sy <+: u.map sy ↔ u.take l.length = l)
  | [], u, _, _ => ⟨fun _ => rfl, fun _ => List.nil_prefix⟩
  | c :: l, [], _, _ => by simp
  | c :: l, d :: u, hl, hu => by
    have ih := pre_map (l := l) (u := u) (fun z hz => hl z (List.mem_cons_of_mem _ hz)) (fun z hz => hu z (List.mem_cons_of_mem _ hz))
    rw [List.map_cons, List.map_cons, List.cons_prefix_cons, ih, List.length_cons, List.take_succ_cons]
    constructor
    · rintro ⟨e, h⟩
      rw [h, sy_inj (hl c List.mem_cons_self) (hu d List.mem_cons_self) e]
    · intro h
      obtain ⟨e1, e2⟩ := List.cons_eq_cons.mp h
      exact ⟨by rw [e1], e2⟩
/-- the places of a piece -/
def plc (rs : List Rf) (l : List Nat) : List (Nat × Nat) := (List.range rs.length).flatMap fun k => ((List.range (txt rs k).length).filter fun a => decide (((txt rs k).drop a).take l.length = l)).map fun a => (k, a)
def plp (rs : List Rf) (p : Nat × Nat) : Int := ((bg rs p.1 + p.2 : Nat) : Int)
theorem plc_mem {rs : List Rf} {l : List Nat} {p : Nat × Nat} : p ∈ plc rs l ↔ p.1 < rs.length ∧ p.2 < (txt rs p.1).length ∧ ((txt rs p.1).drop p.2).take l.length = l := by
  unfold plc
  rw [List.mem_flatMap]
  constructor
  · rintro ⟨k, hk, hp⟩
    obtain ⟨a, ha, rfl⟩ := List.mem_map.mp hp
    obtain ⟨h1, h2⟩ := List.mem_filter.mp ha
    exact ⟨List.mem_range.mp hk, List.mem_range.mp h1, of_decide_eq_true h2⟩
  · rintro ⟨h1, h2, h3⟩
    exact ⟨p.1, List.mem_range.mpr h1, List.mem_map.mpr ⟨p.2, List.mem_filter.mpr ⟨List.mem_range.mpr h2, decide_eq_true h3⟩, rfl⟩⟩
theorem plc_asc (rs : List Rf) (l : List Nat) : ((plc rs l).map (plp rs)).Pairwise (· < ·) := by
  rw [List.pairwise_map]
  unfold plc
  rw [List.pairwise_flatMap]
  constructor
  · intro k hk
    rw [List.pairwise_map]
    refine (List.pairwise_lt_range.filter _).imp fun {a b} h => ?_
    unfold plp
    show ((bg rs k + a : Nat) : Int) < ((bg rs k + b : Nat) : Int)
    omega
  · have h := List.pairwise_lt_range (n := rs.length)
    refine h.imp_of_mem fun {k k'} hk hk' lt x hx y hy => ?_
    obtain ⟨a, ha, rfl⟩ := List.mem_map.mp hx
    obtain ⟨b, hb, rfl⟩ := List.mem_map.mp hy
    have h1 := List.mem_range.mp (List.mem_filter.mp ha).1
    have h2 := List.mem_range.mp hk
    have h3 := List.mem_range.mp hk'
    have := bg_mono (rs := rs) (show k + 1 ≤ k' by omega) (by omega)
    have := bg_succ h2
    unfold plp
    show ((bg rs k + a : Nat) : Int) < ((bg rs k' + b : Nat) : Int)
    omega
theorem txt_dna {rs : List Rf} (h : ∀ r ∈ rs, Dna r.2) (k : Nat) : Dna (txt rs k) := by
  unfold txt
  rw [List.getD_eq_getElem?_getD]
  cases e : (rs.map (·.2))[k]? with
  | none => exact fun c hc => by cases hc
  | some t =>
    obtain ⟨r, hr, rfl⟩ := List.mem_map.mp (List.mem_of_getElem? e)
    exact h r hr
theorem drop_loc {rs : List Rf} {k a j : Nat} (h : Loc rs k a j) : ∃ s B, (jn rs).drop j = ((txt rs k).drop a).map sy ++ s :: B ∧ s < 2 := by
  obtain ⟨h1, h2, h3⟩ := h
  obtain ⟨A, s, B, e, hA, hs⟩ := jn_split h1
  refine ⟨s, B, ?_, hs⟩
  rw [e, ← h2, ← hA, List.drop_append, show A.length + a - A.length = a by omega, List.drop_of_length_le (by omega), List.nil_append, List.drop_append_of_le_length (by rw [List.length_map]; exact h3), List.map_drop]
theorem plc_pos {rs : List Rf} {l : List Nat} (hd : ∀ r ∈ rs, Dna r.2) (hl : Dna l) (hn : l ≠ []) (j : Nat) : ((j : Nat) : Int) ∈ (plc rs l).map (plp rs) ↔ j < (jn rs).length ∧ l.map sy <+: (jn rs).drop j := by
  have w2 : ∀ c ∈ l.map sy, 2 ≤ c := fun c hc => by
    obtain ⟨d, _, rfl⟩ := List.mem_map.mp hc
    exact sy_ge d
  constructor
  · intro h
    obtain ⟨p, hp, e⟩ := List.mem_map.mp h
    obtain ⟨h1, h2, h3⟩ := plc_mem.mp hp
    have ej : bg rs p.1 + p.2 = j := by
      unfold plp at e
      omega
    have lc : Loc rs p.1 p.2 j := ⟨h1, ej, by omega⟩
    obtain ⟨s, B, e2, hs⟩ := drop_loc lc
    refine ⟨?_, ?_⟩
    · have := bg_mono (rs := rs) (show p.1 + 1 ≤ rs.length by omega) (Nat.le_refl _)
      have := bg_succ h1
      rw [bg_all] at *
      omega
    · rw [e2, prefix_stop _ _ _ _ w2 hs, pre_map hl (fun c hc => txt_dna hd p.1 c (List.mem_of_mem_drop hc))]
      exact h3
  · rintro ⟨h1, h2⟩
    obtain ⟨k, a, lc⟩ := loc_of rs.length (Nat.le_refl _) (by rw [bg_all]; exact h1)
    obtain ⟨s, B, e2, hs⟩ := drop_loc lc
    rw [e2, prefix_stop _ _ _ _ w2 hs, pre_map hl (fun c hc => txt_dna hd k c (List.mem_of_mem_drop hc))] at h2
    refine List.mem_map.mpr ⟨(k, a), plc_mem.mpr ⟨lc.1, ?_, h2⟩, ?_⟩
    · have := congrArg List.length h2
      rw [List.length_take, List.length_drop] at this
      have : 0 < l.length := List.length_pos_iff.mpr hn
      show a < (txt rs k).length
      omega
    · unfold plp
      show ((bg rs k + a : Nat) : Int) = (j : Int)
      have := lc.2.1
      omega
/-- the starts of the rows of an interval, as numbers -/
def rowS (ns : List Int) (lo hi : Nat) : List Int := (((starts ns).drop lo).take (hi - lo)).map fun k : Nat => (k : Int)
theorem rowS_mem {ns : List Int} (he : Ended ns) (hn : 1 ≤ ns.length) {w : List Int} (hw : ∀ c ∈ w, 0 < c) (x : Int) : x ∈ rowS ns (ivl ns w).1 (ivl ns w).2 ↔ ∃ j : Nat, x = (j : Int) ∧ j < ns.length ∧ w <+: ns.drop j := by
  have sl := starts_len ns
  unfold rowS
  rw [List.mem_map]
  rcases ivl_spec he hn w hw with ⟨h1, h2⟩ | ⟨h1, h2, h3⟩
  · rw [h1, h2]
    have hB := cntB_le ns (bB w)
    constructor
    · rintro ⟨j, hj, rfl⟩
      obtain ⟨i, hi, e⟩ := List.mem_iff_getElem.mp hj
      rw [List.length_take, List.length_drop] at hi
      rw [List.getElem_take, List.getElem_drop] at e
      have hr : cntB ns (bA w) + i < (starts ns).length := by omega
      refine ⟨j, rfl, ?_, ?_⟩
      · rw [← e]
        exact starts_lt (List.getElem_mem hr)
      · rw [← e]
        exact (rows_of w hr).mpr ⟨by omega, by omega⟩
    · rintro ⟨j, rfl, hj, hp⟩
      refine ⟨j, ?_, rfl⟩
      have hs := starts_rk hj
      obtain ⟨hr, e⟩ := List.getElem?_eq_some_iff.mp hs
      obtain ⟨a, b⟩ := (rows_of w hr).mp (by rw [e]; exact hp)
      refine List.mem_iff_getElem?.mpr ⟨rk ns j - cntB ns (bA w), ?_⟩
      rw [List.getElem?_take, if_pos (by omega), List.getElem?_drop, show cntB ns (bA w) + (rk ns j - cntB ns (bA w)) = rk ns j by omega]
      exact hs
  · rw [h1, Nat.sub_self, List.take_zero]
    constructor
    · rintro ⟨j, hj, _⟩
      cases hj
    · rintro ⟨j, _, _, hp⟩
      exact absurd hp (h3 j)
theorem rowS_nodup (ns : List Int) (lo hi : Nat) : (rowS ns lo hi).Nodup := by
  unfold rowS
  have h : (((starts ns).drop lo).take (hi - lo)).Nodup := ((starts_nodup ns).sublist (List.drop_sublist _ _)).sublist (List.take_sublist _ _)
  rw [List.nodup_iff_pairwise_ne] at h ⊢
  rw [List.pairwise_map]
  exact h.imp fun {a b} z y => z (by omega)
/-- the sorted starts are the places -/
theorem sorted_places {rs : List Rf} {l : List Nat} {ms : List Int} (h1 : 1 ≤ rs.length) (hd : ∀ r ∈ rs, Dna r.2) (hl : Dna l) (hn : l ≠ []) (hp : ms.Perm (rowS (jn rs) (ivl (jn rs) (l.map sy)).1 (ivl (jn rs) (l.map sy)).2)) (ha : ms.Pairwise (· ≤ ·)) : ms = (plc rs l).map (plp rs) := by
  have en := jn_ended h1 hd
  have hn1 : 1 ≤ (jn rs).length := by
    rw [jn_len]
    exact jl_pos h1
  refine asc_uniq _ _ (lt_of_le_nodup _ ha (hp.nodup_iff.mpr (rowS_nodup _ _ _))) (plc_asc rs l) fun x => ?_
  rw [hp.mem_iff, rowS_mem en hn1 w_pos]
  constructor
  · rintro ⟨j, rfl, h⟩
    exact (plc_pos hd hl hn j).mpr h
  · intro h
    obtain ⟨p, _, e⟩ := List.mem_map.mp h
    have e2 : x = ((bg rs p.1 + p.2 : Nat) : Int) := e.symm
    rw [e2] at h ⊢
    exact ⟨_, rfl, (plc_pos hd hl hn _).mp h⟩
/-! ### read_index's parts that raise nothing -/
theorem bn_app1 (l : List Int) (x : Int) : l.foldl (fun a x => a * 256 + x) 0 * 256 + x = (l ++ [x]).foldl (fun a x => a * 256 + x) 0 := by
  rw [List.foldl_append]
  rfl
theorem cutV_any (xs : List V) (a k : Nat) : L2.cutV xs (some (a : Int)) (some ((a : Int) + (k : Int))) = (xs.drop a).take k := by
  unfold L2.cutV
  rw [← Int.natCast_add, HT.sIx_nat, HT.sIx_nat]
  by_cases h : a ≤ xs.length
  · rw [Nat.min_eq_left h]
    by_cases c : a + k ≤ xs.length
    · rw [Nat.min_eq_left c, Nat.add_sub_cancel_left]
    · rw [Nat.min_eq_right (by omega), List.take_of_length_le (by rw [List.length_drop]; exact Nat.le_refl _), List.take_of_length_le (by rw [List.length_drop]; omega)]
  · rw [Nat.min_eq_right (show xs.length ≤ a by omega), List.drop_of_length_le (Nat.le_refl _), List.drop_of_length_le (by omega), List.take_nil, List.take_nil]
theorem scNumAt : FnScope ["data", "at", "size", "number", "byte"] ["data", "at", "size"] (defScope sNumAt) := ⟨rfl, rfl, rfl, by decide +kernel, rfl, by decide +kernel, by decide +kernel⟩
/-- the number that bytes tell, the highest first -/
def bnN (l : List Int) : Int := l.foldl (fun a x => a * 256 + x) 0
section
variable {P : Program} {w : World} {K : PySem.W.Frag} {mg : Str → Option Value} {base : Heap}
def spNumAt (K : PySem.W.Frag) : Sp := fun vs H Q _ => ∃ (a : Addr) (ns : List Int) (b c : Nat), vs = [.ref a, .int (b : Int), .int (c : Int)] ∧ SqL K H a (ns.map V.int) ∧ ∀ H', Same H H' → Q (.int (bnN ((ns.drop b).take c))) H'
theorem ok_numat {f : Addr} {fd : FuncData} {k : Nat} (F : Fun K "number_at" "number_at" sNumAt f fd) : FnOk P w K mg base CX0 (k + 1) f fd ["data", "at", "size"] (spNumAt K) := by
  refine F.ok scNumAt (fun vs H Q E h => ?_) (fun cdv A outer s H vs Q E hr h => ?_)
  · obtain ⟨a, ns, b, c, rfl, _⟩ := h
    rfl
  · obtain ⟨a, ns, b, c, rfl, ha, q⟩ := h
    refine ⟨_, pss_cons (ps_set (i := 3) scNumAt.nd rfl (.inl rfl) pe_int)
      (pss_cons (ps_for PassesOwn.never rfl (pi_list (pe_slice sl_list (pv 0) (po_some (pv 1)) (po_some (pe_op op_add (pv 1) (pv 2))))) (pg_name (i := 4) scNumAt.nd rfl (.inl rfl))
        (pss_one (ps_set (i := 3) scNumAt.nd rfl (.inl rfl) (pe_op op_add (pe_op op_mul pe_int (pv 3)) (pv 4)))))
      (pss_one (ps_ret (pv 3)))), ?_⟩
    refine ⟨.ref a, rfl, .int b, rfl, b, rfl, .int b, rfl, .int c, rfl, b, c, rfl, rfl, _, rfl, a, _, rfl, ha, fun p hp => ?_⟩
    have hcu : upd H p (.lst (L2.cutV (ns.map V.int) (some (b : Int)) (some ((b : Int) + (c : Int))))) p = some (LI ((ns.drop b).take c)) := by
      rw [upd_same, cutV_any, ← List.map_drop, ← List.map_take]
    have sp := same_upd (o := .lst (L2.cutV (ns.map V.int) (some (b : Int)) (some ((b : Int) + (c : Int))))) hp
    generalize upd H p (.lst (L2.cutV (ns.map V.int) (some (b : Int)) (some ((b : Int) + (c : Int))))) = H1 at hcu sp
    refine ⟨p, rfl, ⟨_, .inl (.inl hcu)⟩, ?_⟩
    refine for_list (K := K) (xs := ((ns.drop b).take c).map V.int) (fun i σ H' => H' = H1 ∧ ∃ v4 : Option V, σ = [some (.ref a), some (.int (b : Int)), some (.int (c : Int)), some (.int (bnN (((ns.drop b).take c).take i))), v4]) ⟨rfl, none, rfl⟩ (fun i σ H' _ h => by rw [h.1]; exact .inl (.inl hcu)) ?_ ?_
    · rintro i v σ H2 hv ⟨rfl, v4, rfl⟩
      rw [List.getElem?_map] at hv
      obtain ⟨z, hz, rfl⟩ := Option.map_eq_some_iff.mp hv
      refine ⟨_, rfl, 256, _, rfl, rfl, .inl ⟨by decide, by decide⟩, _, rfl, _, _, rfl, rfl, rfl, some (.int z), ?_⟩
      rw [List.take_add_one, hz]
      show [_, _, _, some (V.int (256 * bnN (((ns.drop b).take c).take i) + z)), _] = _
      unfold bnN
      rw [Int.mul_comm, bn_app1]
      rfl
    · rintro σ H2 ⟨rfl, v4, rfl⟩
      rw [List.length_map, List.take_length]
      exact ⟨_, rfl, q _ sp⟩
end
theorem scTCol : FnScope ["data", "size", "symbols", "byte"] ["data", "size"] (defScope sColumn) := ⟨rfl, rfl, rfl, by decide +kernel, rfl, by decide +kernel, by decide +kernel⟩
/-- the two symbols of a byte -/
def nib (x : Int) : List Int := [x / 16, x % 16]
theorem nib_len (l : List Int) : (l.flatMap nib).length = 2 * l.length := by
  induction l with
  | nil => rfl
  | cons x l ih =>
    rw [List.flatMap_cons, List.length_append, ih, List.length_cons]
    show 2 + _ = _
    omega
section
variable {P : Program} {w : World} {K : PySem.W.Frag} {mg : Str → Option Value} {base : Heap}
def spTCol (K : PySem.W.Frag) : Sp := fun vs H Q _ => ∃ (a : Addr) (ns : List Int) (z : Nat), vs = [.ref a, .int (z : Int)] ∧ SqL K H a (ns.map V.int) ∧ ns.length ≤ 100000 ∧ ∀ (H' : Hp) (p : Addr), Same H H' → H p = none → H' p = some (LI ((ns.flatMap nib).take z)) → Q (.ref p) H'
theorem ok_tcol {f : Addr} {fd : FuncData} {k : Nat} (F : Fun K "_told_column" "_told_column" sColumn f fd) : FnOk P w K mg base CX0 (k + 1) f fd ["data", "size"] (spTCol K) := by
  refine F.ok scTCol (fun vs H Q E h => ?_) (fun cdv A outer s H vs Q E hr h => ?_)
  · obtain ⟨a, ns, z, rfl, _⟩ := h
    rfl
  · obtain ⟨a, ns, z, rfl, ha, hl, q⟩ := h
    refine ⟨_, pss_cons (ps_set (i := 2) scTCol.nd rfl (.inl rfl) (pe_lst pa_nil))
      (pss_cons (ps_for PassesOwn.never rfl (pi_list (pv 0)) (pg_name (i := 3) scTCol.nd rfl (.inl rfl))
        (pss_one (ps_expr (pe_bm PySem.F.plainAttrs_list PySem.F.slot_list_extend PySem.F.type_list_extend mt_extend (pv 2) (pa_cons (pe_lst (pa_cons (pe_op op_fdiv (pv 3) pe_int) (pa_cons (pe_op op_mod (pv 3) pe_int) pa_nil))) pa_nil)))))
      (pss_one (ps_ret (pe_slice sl_list (pv 2) po_none (po_some (pv 1)))))), ?_⟩
    refine ⟨Nat.zero_le _, fun p hp => ⟨.ref a, rfl, a, rfl, ⟨_, (same_upd hp).seq ha⟩, ?_⟩⟩
    refine for_list (K := K) (xs := ns.map V.int) (fun i σ H' => Same H H' ∧ H' p = some (LI ((ns.take i).flatMap nib)) ∧ ∃ v3 : Option V, σ = [some (.ref a), some (.int (z : Int)), some (.ref p), v3]) ⟨same_upd hp, upd_same, none, rfl⟩ (fun i σ H' _ h => h.1.seq ha) ?_ ?_
    · rintro i v σ H1 hv ⟨s1, h1, v3, rfl⟩
      rw [List.getElem?_map] at hv
      obtain ⟨x, hx, rfl⟩ := Option.map_eq_some_iff.mp hv
      have hi : i < ns.length := (List.getElem?_eq_some_iff.mp hx).1
      have hnl := nib_len (ns.take i)
      rw [List.length_take] at hnl
      refine ⟨.ref p, rfl, .inl ⟨rfl, _, .inl (.inl h1)⟩, .int x, rfl, x, 16, rfl, rfl, ⟨by decide, by decide⟩, .int x, rfl, x, 16, rfl, rfl, (show (0 : Int) < 16 by decide), by show 2 ≤ sizeLine; decide, fun p2 hp2 => ?_⟩
      have n2 : p ≠ p2 := ne_of_none h1 hp2
      have s2 := same_upd (o := .lst [V.int (x / 16), V.int (x % 16)]) hp2
      refine ⟨p, p2, _, _, rfl, rfl, s2 _ _ h1, upd_same, line_ok7 (by rw [List.length_map, hnl]; show _ + 2 ≤ _; omega), fun b o e => ?_, ?_, _, rfl⟩
      · rw [upd_ne (ne_of_none e hp)]
        exact s2 _ _ (s1 _ _ e)
      · rw [upd_same, List.take_add_one, hx]
        show some (HO.lst _) = some (HO.lst _)
        rw [List.flatMap_append, List.map_append]
        rfl
    · rintro σ H1 ⟨s1, h1, v3, rfl⟩
      rw [List.length_map, List.take_length] at h1
      refine ⟨.ref p, rfl, .int z, rfl, z, rfl, p, _, rfl, .inl (.inl h1), fun p2 hp2 => ?_⟩
      refine q _ p2 (s1.trans (same_upd hp2)) (s1.free hp2) ?_
      rw [upd_same, cutV_to, ← List.map_take]
end
/-! ### the last column holds the same symbols -/
theorem prev_range : ∀ n : Nat, ((List.range n).map (prevI n)).Perm (List.range n)
  | 0 => List.Perm.nil
  | k + 1 => by
    have e : (List.range (k + 1)).map (prevI (k + 1)) = k :: List.range k := by
      rw [List.range_succ_eq_map, List.map_cons, List.map_map]
      refine congr (congrArg List.cons rfl) ?_
      refine (List.map_congr_left fun i _ => ?_).trans (List.map_id _)
      show prevI (k + 1) (i + 1) = i
      unfold prevI
      rw [if_neg (by omega)]
      omega
    rw [e, List.range_succ]
    exact (List.perm_append_singleton k (List.range k)).symm
theorem lastc_count (ns : List Int) (q : Int → Bool) : (lastc ns).countP q = ns.countP q := by
  unfold lastc
  rw [((starts_perm ns).map _).countP_eq, count_range ns q]
  have h := ((prev_range ns.length).map fun j => ns.getD j 0).countP_eq q
  rw [List.map_map] at h
  refine Eq.trans h ?_
  rw [List.countP_map]
  rfl
/-! ### back from the last column -/
/-- a list of rows in which the row that leads to q stands at q -/
def Lat (ns : List Int) (lat : List Nat) : Prop := ∀ r, r < ns.length → lat[lf ns r]? = some r
theorem lat_next {ns : List Int} (he : Ended ns) {lat : List Nat} (h : Lat ns lat) {q s : Nat} (hq : (starts ns)[q]? = some s) : ∃ r, lat[q]? = some r ∧ (starts ns)[r]? = some (if s + 1 = ns.length then 0 else s + 1) := by
  have hs : s < ns.length := starts_lt (List.mem_of_getElem? hq)
  obtain ⟨hql, hqe⟩ := List.getElem?_eq_some_iff.mp hq
  obtain ⟨s', hs'⟩ : ∃ s', s' = if s + 1 = ns.length then 0 else s + 1 := ⟨_, rfl⟩
  have hs2 : s' < ns.length := by
    rw [hs']
    split <;> omega
  have hr := starts_rk hs2
  have hrl := rk_lt hs2
  have hpv : prevI ns.length s' = s := by
    rw [hs']
    unfold prevI
    split
    · rw [if_pos rfl]
      omega
    · rw [if_neg (by omega)]
      omega
  obtain ⟨h1, h2⟩ := List.getElem?_eq_some_iff.mp hr
  have hlf := lf_rk he (r := rk ns s') h1
  rw [h2, hpv] at hlf
  have hq2 : rk ns s = q := by
    have := rk_starts ns hql
    rw [hqe] at this
    exact this
  refine ⟨rk ns s', ?_, ?_⟩
  · have := h (rk ns s') hrl
    rw [hlf, hq2] at this
    exact this
  · rw [← hs']
    exact hr
/-- rows in the order of their last symbols, the lesser row first where those agree -/
def LexL (L : List Int) (x y : Nat) : Prop := L.getD x 0 < L.getD y 0 ∨ (L.getD x 0 = L.getD y 0 ∧ x < y)
instance (L : List Int) (x y : Nat) : Decidable (LexL L x y) := inferInstanceAs (Decidable (_ ∨ _))
theorem LexL.irr {L : List Int} {x : Nat} (h : LexL L x x) : False := by
  unfold LexL at h
  omega
theorem LexL.asym {L : List Int} {x y : Nat} (h : LexL L x y) (k : LexL L y x) : False := by
  unfold LexL at h k
  omega
theorem pos_count {L : List Int} {l : List Nat} (pw : l.Pairwise (LexL L)) {i : Nat} (hi : i < l.length) : l.countP (fun x => decide (LexL L x l[i])) = i := by
  have e : l = l.take i ++ l[i] :: l.drop (i + 1) := by
    rw [← List.drop_eq_getElem_cons hi, List.take_append_drop]
  generalize hv : l[i] = v at e
  rw [e] at pw
  obtain ⟨_, p2, p3⟩ := List.pairwise_append.mp pw
  obtain ⟨p4, _⟩ := List.pairwise_cons.mp p2
  have c1 : (l.take i).countP (fun x => decide (LexL L x v)) = i := by
    rw [List.countP_eq_length.mpr fun x hx => decide_eq_true (p3 x hx v List.mem_cons_self), List.length_take]
    omega
  have c2 : (v :: l.drop (i + 1)).countP (fun x => decide (LexL L x v)) = 0 := by
    rw [List.countP_eq_zero]
    intro x hx c
    have c := of_decide_eq_true c
    rcases List.mem_cons.mp hx with z | z
    · rw [z] at c
      exact c.irr
    · exact c.asym (p4 x z)
  calc l.countP (fun x => decide (LexL L x v)) = (l.take i ++ v :: l.drop (i + 1)).countP (fun x => decide (LexL L x v)) := by rw [← e]
    _ = i := by rw [List.countP_append, c1, c2, Nat.add_zero]
theorem lex_count (L : List Int) {r : Nat} (hr : r < L.length) : (List.range L.length).countP (fun x => decide (LexL L x r)) = L.countP (fun z => decide (z < L.getD r 0)) + (L.take r).count (L.getD r 0) := by
  have e1 : ∀ x, decide (LexL L x r) = (decide (L.getD x 0 < L.getD r 0) || (decide (L.getD x 0 = L.getD r 0) && decide (x < r))) := fun x => by
    by_cases h : LexL L x r
    · rw [decide_eq_true h]
      refine Eq.symm ?_
      rw [Bool.or_eq_true, Bool.and_eq_true, decide_eq_true_iff, decide_eq_true_iff, decide_eq_true_iff]
      exact h
    · rw [decide_eq_false h]
      refine Eq.symm (Bool.eq_false_iff.mpr fun c => h ?_)
      rw [Bool.or_eq_true, Bool.and_eq_true, decide_eq_true_iff, decide_eq_true_iff, decide_eq_true_iff] at c
      exact c
  have e2 : (List.range L.length).countP (fun x => decide (LexL L x r)) = (List.range L.length).countP (fun x => decide (L.getD x 0 < L.getD r 0)) + (List.range L.length).countP (fun x => decide (L.getD x 0 = L.getD r 0) && decide (x < r)) := by
    rw [List.countP_congr fun x _ => by rw [e1 x]]
    generalize List.range L.length = m
    induction m with
    | nil => rfl
    | cons x m ih =>
      rw [List.countP_cons, List.countP_cons, List.countP_cons, ih]
      by_cases a : L.getD x 0 < L.getD r 0
      · rw [decide_eq_true a, decide_eq_false (show ¬ L.getD x 0 = L.getD r 0 by omega)]
        simp
        omega
      · rw [decide_eq_false a]
        by_cases b : (decide (L.getD x 0 = L.getD r 0) && decide (x < r)) = true
        · rw [b]
          simp
          omega
        · rw [Bool.not_eq_true] at b
          rw [b]
          simp
  rw [e2, count_range L]
  congr 1
  have e3 : List.range L.length = List.range r ++ (List.range (L.length - r)).map (r + ·) := by
    rw [← List.range_add, show r + (L.length - r) = L.length by omega]
  rw [e3, List.countP_append]
  have z : ((List.range (L.length - r)).map (r + ·)).countP (fun x => decide (L.getD x 0 = L.getD r 0) && decide (x < r)) = 0 := by
    rw [List.countP_eq_zero]
    intro x hx c
    obtain ⟨y, _, rfl⟩ := List.mem_map.mp hx
    have := of_decide_eq_true ((Bool.and_eq_true _ _).mp c).2
    omega
  rw [z, Nat.add_zero]
  have e4 : (List.range r).countP (fun x => decide (L.getD x 0 = L.getD r 0) && decide (x < r)) = (List.range r).countP fun x => decide (L.getD x 0 = L.getD r 0) :=
    List.countP_congr fun x hx => by rw [decide_eq_true (List.mem_range.mp hx), Bool.and_true]
  rw [e4]
  have e5 := count_range (L.take r) (fun z => z == L.getD r 0)
  have hl : (L.take r).length = r := by
    rw [List.length_take]
    omega
  rw [hl] at e5
  show _ = (L.take r).countP (fun z => z == L.getD r 0)
  rw [e5]
  refine List.countP_congr fun x hx => ?_
  have hx2 := List.mem_range.mp hx
  rw [show (L.take r).getD x 0 = L.getD x 0 by rw [List.getD_eq_getElem?_getD, List.getD_eq_getElem?_getD, List.getElem?_take_of_lt hx2]]
  rw [decide_eq_true_iff, beq_iff_eq]
theorem lat_of {ns : List Int} (h0 : ∀ x ∈ lastc ns, 0 ≤ x) {lat : List Nat} (hp : lat.Perm (List.range ns.length)) (pw : lat.Pairwise (LexL (lastc ns))) : Lat ns lat := fun r hr => by
  have hll := lastc_len ns
  have hm : r ∈ lat := hp.mem_iff.mpr (List.mem_range.mpr hr)
  obtain ⟨i, hi, e⟩ := List.mem_iff_getElem.mp hm
  have h1 := pos_count pw hi
  rw [e, hp.countP_eq] at h1
  have h2 := lex_count (lastc ns) (r := r) (by omega)
  rw [hll, h1] at h2
  have hg : 0 ≤ (lastc ns).getD r 0 := by
    rw [List.getD_eq_getElem?_getD, List.getElem?_eq_getElem (by omega)]
    exact h0 _ (List.getElem_mem (by omega))
  have h3 : lf ns r = i := by
    rw [h2, lastc_count]
    unfold lf lessN
    rw [Int.toNat_of_nonneg hg]
  rw [h3, List.getElem?_eq_getElem hi, e]
/-- from row 0 the rows behind one another spell the sequence -/
def walk (lat : List Nat) : Nat → Nat
  | 0 => 0
  | k + 1 => lat.getD (walk lat k) 0
theorem walk_start {ns : List Int} (he : Ended ns) (hn : 1 ≤ ns.length) {lat : List Nat} (h : Lat ns lat) : ∀ k, k ≤ ns.length → (starts ns)[walk lat k]? = some (if k = 0 then ns.length - 1 else k - 1)
  | 0, _ => by
    rw [if_pos rfl]
    have hs := starts_rk (ns := ns) (i := ns.length - 1) (by omega)
    have hz : rk ns (ns.length - 1) = 0 := by
      have z : ns.getD (ns.length - 1) 0 = 0 := (he.at (by omega)).mpr (by omega)
      rw [rk_split (by omega) (he.nonneg _), z, show (0 : Int).toNat = 0 from rfl, lessN_zero he.1, Nat.zero_add, List.countP_eq_zero]
      intro x hx
      rw [Bool.and_eq_true, decide_eq_true_iff, decide_eq_true_iff]
      rintro ⟨_, b⟩
      rw [List.drop_eq_nil_of_le (i := ns.length - 1 + 1) (by omega)] at b
      exact List.not_lt_nil _ b
    rw [hz] at hs
    exact hs
  | k + 1, hk => by
    have ih := walk_start he hn h k (by omega)
    obtain ⟨r, h1, h2⟩ := lat_next he h ih
    have e : walk lat (k + 1) = r := by
      show lat.getD (walk lat k) 0 = r
      rw [List.getD_eq_getElem?_getD, h1]
      rfl
    rw [e, h2]
    by_cases c : k = 0
    · subst c
      show some (if ns.length - 1 + 1 = ns.length then 0 else ns.length - 1 + 1) = some 0
      rw [if_pos (by omega)]
    · rw [if_neg c, if_neg (show ¬ k - 1 + 1 = ns.length by omega), if_neg (Nat.succ_ne_zero k)]
      congr 1
      omega
/-- the symbol that is told in step k + 1 is the k-th of the sequence -/
theorem walk_sym {ns : List Int} (he : Ended ns) (hn : 1 ≤ ns.length) {lat : List Nat} (h : Lat ns lat) {k : Nat} (hk : k < ns.length) : ∃ r, lat[walk lat (k + 1)]? = some r ∧ (lastc ns)[r]? = ns[k]? := by
  have hw := walk_start he hn h (k + 1) (by omega)
  rw [if_neg (by omega), Nat.add_sub_cancel] at hw
  obtain ⟨r, h1, h2⟩ := lat_next he h hw
  refine ⟨r, h1, ?_⟩
  obtain ⟨hr, e⟩ := List.getElem?_eq_some_iff.mp h2
  rw [lastc_at ns hr, e]
  have hp : prevI ns.length (if k + 1 = ns.length then 0 else k + 1) = k := by
    unfold prevI
    split
    · rw [if_pos rfl]
      omega
    · rw [if_neg (by omega)]
      omega
  rw [hp, List.getD_eq_getElem?_getD, List.getElem?_eq_getElem hk]
  rfl
/-! ### a dict of the module with ints as keys -/
def KDctI (K : PySem.W.Frag) (a : Addr) (i : Int) (v : V) : Prop :=
  ∃ es n u, K.lookup a = some ⟨.type "dict", none, .dict es n, #[]⟩ ∧ (∀ e ∈ es, ∃ k t, e.key = Value.int k t ∧ e.hash = PySem.hashInt k) ∧ PySem.findBy PySem.Value.isInt es i = some u ∧ RelV v u
def rIxDI (K : PySem.W.Frag) : R2 := fun x y H Q => ∃ p z v, x = .ref p ∧ y = .int z ∧ KDctI K p z v ∧ Q v H
section
variable {X : Cx}
theorem ix_kdictI : IxR X (rIxDI X.K) := by
  intro value slice pins s σ H x y v u Q I rx ry h hs
  obtain ⟨p, z, r, rfl, rfl, ⟨es, n, u0, hl, hk, e, ru⟩, q⟩ := h
  obtain rfl : v = Value.ref p := rx
  obtain ⟨t, rfl⟩ := ry
  have hm : s.heap.MapOf (PySem.intKind X.prog X.w) p (fun k => PySem.findBy PySem.Value.isInt es k) := ⟨_, es, n, I.kIn _ _ hl, ⟨rfl, rfl, rfl⟩, rfl, fun d hd => by
    obtain ⟨k, t, e1, e2⟩ := hk d hd
    exact ⟨k, by rw [e1]; exact PySem.intKind_is X.prog X.w k t, e2⟩, fun _ => rfl⟩
  exact tail_any hm.typeIs PySem.F.slot_dict_getitem.lookup (wpAny_getItem_of (PySem.intKind_is X.prog X.w z t) hm e ⟨r, H, I.tok _, ru, q⟩) hs
end
/-! ### for x, y in zip(list, tuple) -/
section
open PySem PySem.Spec PyProof.Rows L2 PySem.W
def ItzM (K : PySem.W.Frag) (a b : Addr) : It :=
  ⟨fun i H => ∃ (xs ys : List V) (x y : V), SqL K H a xs ∧ SqT K H b ys ∧ xs[i]? = some x ∧ ys[i]? = some y,
    fun i H v H' => ∃ T x y, v = .ref T ∧ H T = none ∧ H' = upd H T (.tup [x, y]) ∧ (∀ xs, SqL K H a xs → xs[i]? = some x) ∧ ∀ ys, SqT K H b ys → ys[i]? = some y,
    fun i H => ∃ xs ys : List V, SqL K H a xs ∧ SqT K H b ys ∧ i ≤ xs.length ∧ i ≤ ys.length ∧ (i = xs.length ∨ i = ys.length)⟩
theorem turn_zipM {P : Program} {w : World} {K : PySem.W.Frag} {elts : List Expr} {kk : Nat} {tpos : Pos} {a b z TI TO i1 i2 : Addr} (S : ZipSep2 z TI TO i1 i2 [i1, a] [i2, b]) (n1 : a ≠ i1) (n2 : b ≠ i2) :
    Turn P w K (.Tuple elts kk tpos) (ItzM K a b) [z, TI, TO, i1, i2] z (fun i h => IsZip h z TI TO .none ∧ IsTupOf2 h TI (.ref i1) (.ref i2) ∧ (∃ x y, IsTupOf2 h TO x y) ∧ h.IsListIter i1 a i ∧ h.IsTupleIter i2 b i) where
  mem := by simp
  obj := fun i h st c hc => by
    obtain ⟨hz, hTI, ⟨x, y, hTO⟩, ⟨o1, e1, _, d1⟩, ⟨o2, e2, _, d2⟩⟩ := st
    have e' : c = z ∨ c = TI ∨ c = TO ∨ c = i1 ∨ c = i2 := by simpa using hc
    rcases e' with q | q | q | q | q
    · rw [q]; exact ⟨_, hz, fun v q => nomatch q⟩
    · rw [q]; exact ⟨_, hTI, fun v q => nomatch q⟩
    · rw [q]; exact ⟨_, hTO, fun v q => nomatch q⟩
    · rw [q]; exact ⟨o1, e1, fun v q => by rw [d1] at q; cases q⟩
    · rw [q]; exact ⟨o2, e2, fun v q => by rw [d2] at q; cases q⟩
  keep := fun i h h' st k => by
    obtain ⟨hz, hTI, ⟨x, y, hTO⟩, h1, h2⟩ := st
    exact ⟨k z (by simp) _ hz, k TI (by simp) _ hTI, ⟨x, y, k TO (by simp) _ hTO⟩, h1.at fun o q => k i1 (by simp) o q, h2.at fun o q => k i2 (by simp) o q⟩
  item := by
    intro X hP hw hK hc i pins s σ H E I hf st hg
    subst hP hw hK
    obtain ⟨hz, hTI, ⟨x0, y0, hTO⟩, h1, h2⟩ := st
    obtain ⟨xs, ys, x, y, hqx, hqy, hx, hy⟩ := hg
    obtain ⟨its, rv, p, _⟩ := I.list hqx
    obtain ⟨its2, rv2, p2, _⟩ := I.tuple hqy
    obtain ⟨u, hu, ru⟩ := rv.get hx
    obtain ⟨u2, hu2, ru2⟩ := rv2.get hy
    have hzl : z < s.heap.objs.size := Heap.lt_size hz
    have hh : X.A.in1.handled = none := by simpa using I.ok.hd hc
    have l1 : i < its.toArray.size := by rw [List.size_toArray]; exact (List.getElem?_eq_some_iff.mp hu).1
    have l2 : i < its2.toArray.size := by rw [List.size_toArray]; exact (List.getElem?_eq_some_iff.mp hu2).1
    refine wpAny_pyNext_zipD2_item S (Draws.list hh i1 a n1 its.toArray) (Draws.tuple hh i2 b n2 its2.toArray) hz hTI hTO ⟨h1, p.isList⟩ ⟨h2, show s.heap.IsTuple b its2.toArray from p2⟩ l1 l2 fun x1 x2 h' tk y1 y2 z' TO' d1 d2 hT hsz hk => ?_
    have ex1 : x1 = u := by
      have y1' : its.toArray[i]? = some x1 := y1
      have := y1'.symm.trans (by simpa using hu)
      exact Option.some.inj this
    have ex2 : x2 = u2 := by
      have y2' : its2.toArray[i]? = some x2 := y2
      have := y2'.symm.trans (by simpa using hu2)
      exact Option.some.inj this
    subst ex1 ex2
    refine ⟨_, rfl, wpAny_letOwnedTupleGo_zip (s := { s with heap := h', toks := tk }) z' fun h'' z'' sb => ?_⟩
    have hT2 : h''.get? s.heap.objs.size = some { cls := .type "tuple", data := .seq #[x1, x2] } := (sb.2 _ (Nat.ne_of_gt hzl)).trans hT
    have new : ObjOk X.prog X.w (upd H s.heap.objs.size (.tup [x, y])) h'' s.heap.objs.size (.tup [x, y]) :=
      ⟨by show 2 ≤ sizeLine; decide, [x1, x2], .cons ru (.cons ru2 .nil), ⟨_, hT2, rfl, _, rfl⟩⟩
    have I1 : Inv X pins σ (upd H s.heap.objs.size (.tup [x, y])) { s with heap := h'', toks := tk } :=
      I.turnedNew (t' := tk) (ch := [z, TI, TO, i1, i2]) (fun c o hb q => (sb.2 c (fun q' => hb (by simp [q']))).trans (hk c o (fun q' => hb (by simp [q'])) (fun q' => hb (by simp [q'])) (fun q' => hb (by simp [q'])) (fun q' => hb (by simp [q'])) q)) hf (Nat.le_refl _) new
    refine ⟨.ref s.heap.objs.size, _, I1, rfl, ⟨_, x, y, rfl, I.hok.fresh (Nat.le_refl _), rfl, fun l hl => by rw [I.list_inj hl hqx]; exact hx, fun l hl => by rw [I.tuple_inj hl hqy]; exact hy⟩, ⟨z'', ?_, ⟨x1, x2, ?_⟩, ?_, ?_⟩, fun c hcm => ?_⟩
    · exact (sb.2 _ S.TIz).trans (hk _ _ S.TIz S.TITO S.TIi1 S.TIi2 hTI)
    · exact (sb.2 _ S.TOz).trans TO'
    · exact d1.1.at fun o q => (sb.2 _ (Ne.symm S.zi1)).trans q
    · exact d2.1.at fun o q => (sb.2 _ (Ne.symm S.zi2)).trans q
    · have hlt : c < s.heap.objs.size := by
        have e' : c = z ∨ c = TI ∨ c = TO ∨ c = i1 ∨ c = i2 := by simpa using hcm
        rcases e' with q | q | q | q | q
        · rw [q]; exact hzl
        · rw [q]; exact Heap.lt_size hTI
        · rw [q]; exact Heap.lt_size hTO
        · rw [q]; obtain ⟨_, e1, _⟩ := h1; exact Heap.lt_size e1
        · rw [q]; obtain ⟨_, e2, _⟩ := h2; exact Heap.lt_size e2
      rw [upd_ne (Nat.ne_of_lt hlt)]
      exact (hf c hcm).1
  done := by
    intro X hP hw hK hc i pins s σ H E I hf st hg
    subst hP hw hK
    obtain ⟨hz, hTI, ⟨x0, y0, hTO⟩, h1, h2⟩ := st
    obtain ⟨xs, ys, hqx, hqy, e1, e2, hend⟩ := hg
    obtain ⟨its, rv, p, _⟩ := I.list hqx
    obtain ⟨its2, rv2, p2, _⟩ := I.tuple hqy
    have l1 := rv.length
    have l2 := rv2.length
    have hh : X.A.in1.handled = none := by simpa using I.ok.hd hc
    refine wpAny_pyNext_zipD2_end S (Draws.list hh i1 a n1 its.toArray) (Draws.tuple hh i2 b n2 its2.toArray) hz hTI hTO ⟨h1, p.isList⟩ ⟨h2, show s.heap.IsTuple b its2.toArray from p2⟩ (by rw [List.size_toArray]; omega) (by rw [List.size_toArray]; omega) (by rw [List.size_toArray, List.size_toArray]; omega) fun h' tk hk => ⟨rfl, I.turnedL (t' := tk) (ch := [z, TI, TO, i1, i2]) (fun c o hb q =>
      hk c o (fun q' => hb (by simp [q'])) (fun q' => hb (by simp [q'])) (fun q' => hb (by simp [q'])) (fun q' => hb (by simp [q'])) q) hf⟩
  self := fun A i s Q E st h => wpAny_pyIter_zip st.1 h
def iZipM (K : PySem.W.Frag) (ta : TA) : TI := fun σ H R => ta σ H fun vs H1 => ∃ a b xs ys, vs = [.ref a, .ref b] ∧ SqL K H1 a xs ∧ SqT K H1 b ys ∧ R (ItzM K a b) H1
theorem pi_zipM {X : Cx} {e e2 : Expr} {ta : TA} {p pos tpos : Pos} {elts : List Expr} {kk : Nat} (hg : Gl X "zip") (hm : X.mg "zip" = none) (ha : PA X [e, e2] ta)
    (hs : starEach [e, e2] X.env = (false, eval e X.env) :: starEach [e2] X.env := by rfl) (hpl : (backTo pos (starEach [e2] X.env)).any (·.1) = false := by rfl) :
    PI X (.Tuple elts kk tpos) (.Call (.Name "zip" p) [e, e2] [] pos) (iZipM X.K ta) := by
  refine ⟨fun pins s σ H R I h => ?_⟩
  refine Call_ (ld_blt I hg hm PyProof.Rows.boot_zip (PyProof.Rows.callWith_type1 (thn (ha.run pos pins s σ H _ I h) fun us s1 ⟨vs, H1, I1, r1, q1⟩ => ?_) hs hpl))
  obtain ⟨a, b, xs, ys, ex, hqx, hqy, q⟩ := q1
  subst ex
  obtain ⟨u1, u2, rfl, r, r'⟩ := vals2 r1
  obtain rfl : u1 = Value.ref a := r
  obtain rfl : u2 = Value.ref b := r'
  have fresh5 : ∀ c, c ∈ [s1.heap.objs.size + 4, s1.heap.objs.size + 2, s1.heap.objs.size + 3, s1.heap.objs.size, s1.heap.objs.size + 1] → FpOk X pins H1 c := fun c hcm => by
    have e' : c = s1.heap.objs.size + 4 ∨ c = s1.heap.objs.size + 2 ∨ c = s1.heap.objs.size + 3 ∨ c = s1.heap.objs.size ∨ c = s1.heap.objs.size + 1 := by simpa using hcm
    have hle : s1.heap.objs.size ≤ c := by
      rcases e' with z | z | z | z | z
      · rw [z]; exact Nat.le_add_right _ _
      · rw [z]; exact Nat.le_add_right _ _
      · rw [z]; exact Nat.le_add_right _ _
      · rw [z]; exact Nat.le_refl _
      · rw [z]; exact Nat.le_add_right _ _
    exact I1.fpOk hle (I1.hok.fresh hle)
  obtain ⟨its, rv, p1, _⟩ := I1.list hqx
  obtain ⟨its2, rv2, p2, _⟩ := I1.tuple hqy
  obtain ⟨o2, ho2, _⟩ := id p2
  have la : a < s1.heap.objs.size := p1.lt
  have lb : b < s1.heap.objs.size := Heap.lt_size ho2
  refine zip_begins2 (begins_list a its.toArray) (begins_tuple b its2.toArray) p1.isList (show s1.heap.IsTuple b its2.toArray from p2) fun h' hz hTI hTO h1 h2 hsz hk => wpAny_pyIter_zip hz ?_
  have I2 : Inv X pins σ H1 { s1 with heap := h' } := I1.kept (t' := s1.toks) hk
  exact ⟨s1.heap.objs.size + 4, [s1.heap.objs.size + 4, s1.heap.objs.size + 2, s1.heap.objs.size + 3, s1.heap.objs.size, s1.heap.objs.size + 1], _, _, H1, rfl, I2, turn_zipM (zip_sep2 (fun c hc => by rw [List.mem_singleton.mp hc]; exact la) (fun c hc => by rw [List.mem_singleton.mp hc]; exact lb)) (Nat.ne_of_lt la) (Nat.ne_of_lt (Nat.lt_succ_of_lt lb)), ⟨hz, hTI, ⟨_, _, hTO⟩, ⟨_, h1, rfl, rfl⟩, ⟨_, h2, rfl, rfl⟩⟩, fresh5, q⟩
theorem for_zipM {K : PySem.W.Frag} {a b : Addr} {xs ys : List V} {g : TG} {tb : TS} {D : Ends} {σ : L2.St} {H : Hp} {n : Nat} (hn : n = min xs.length ys.length) (Pv : Nat → L2.St → Hp → Prop) (h0 : Pv 0 σ H) (hq : ∀ i σ H, Pv i σ H → SqL K H a xs ∧ SqT K H b ys)
    (hs : ∀ (i : Nat) (x y : V) (T : Addr) (σ : L2.St) (H : Hp), i < n → xs[i]? = some x → ys[i]? = some y → Pv i σ H → H T = none → g (.ref T) σ (upd H T (.tup [x, y])) fun σ2 H2 => tb { D with nx := Pv (i + 1), ct := Pv (i + 1), bk := D.nx } σ2 H2) (hd : ∀ σ H, Pv n σ H → D.nx σ H) :
    ∃ W : Nat → Nat → L2.St → Hp → Prop, (∃ m, W 0 m σ H) ∧ ∀ i m σ H, W i m σ H →
      ((ItzM K a b).stop i H ∧ D.nx σ H) ∨ ((ItzM K a b).go i H ∧ ∃ N : L2.St → Hp → Prop, (∀ σ' H', N σ' H' → ∃ m', m' < m ∧ W (i + 1) m' σ' H') ∧ ∀ v H', (ItzM K a b).yld i H v H' → g v σ H' fun σ2 H2 => tb { D with nx := N, ct := N, bk := D.nx } σ2 H2) := by
  refine ⟨fun i m σ H => m = n - i ∧ i ≤ n ∧ Pv i σ H, ⟨n, rfl, Nat.zero_le _, h0⟩, ?_⟩
  rintro i m σ H ⟨rfl, hi, p⟩
  obtain ⟨qx, qy⟩ := hq i σ H p
  by_cases hlt : i < n
  · have hx : xs[i]? = some (xs[i]'(by omega)) := List.getElem?_eq_getElem _
    have hy : ys[i]? = some (ys[i]'(by omega)) := List.getElem?_eq_getElem _
    refine .inr ⟨⟨xs, ys, _, _, qx, qy, hx, hy⟩, Pv (i + 1), fun σ' H' p' => ⟨n - (i + 1), by omega, rfl, hlt, p'⟩, fun v H' y => ?_⟩
    obtain ⟨T, x', y', rfl, hT, rfl, f1, f2⟩ := y
    exact hs i x' y' T σ H hlt (f1 xs qx) (f2 ys qy) p hT
  · have e : i = n := by omega
    subst e
    exact .inl ⟨⟨xs, ys, qx, qy, by omega, by omega, by omega⟩, hd σ H p⟩
end
/-! ### list(zip(xs, ys)) -/
section
open PySem PySem.Spec PyProof.Rows L2 PySem.W
theorem zip_no_len : typeLookup (.type "zip") "__len__" = pure none := by rw [typeLookup_type, builtinLookup_eq_fast]; kernel_rfl
theorem zip_no_hint : typeLookup (.type "zip") "__length_hint__" = pure none := by rw [typeLookup_type, builtinLookup_eq_fast]; kernel_rfl
structure ZSt (h : Heap) (b0 z TI TO i1 i2 l1 l2 : Addr) (xs ys : Array Value) (i : Nat) : Prop where
  z : (IsZip h z TI TO .none ∧ ∃ a b, IsPair h TO a b) ∨ ∃ T f oT, IsZipHeld h z TI TO T f ∧ h.get? T = some oT ∧ b0 ≤ T
  ti : IsPair h TI (.ref i1) (.ref i2)
  a1 : h.IsListIter i1 l1 i
  a2 : h.IsListIter i2 l2 i
  c1 : h.IsList l1 xs
  c2 : h.IsList l2 ys
structure ZMade (h : Heap) (b0 : Addr) (xs ys : Array Value) (Ts : List Addr) : Prop where
  nd : Ts.Nodup
  lo : ∀ T ∈ Ts, b0 ≤ T
  hi : ∀ T ∈ Ts, T < h.objs.size
  pr : ∀ (j : Nat) (T : Addr), Ts[j]? = some T → ∃ x y, xs[j]? = some x ∧ ys[j]? = some y ∧ IsPair h T x y
section
variable {prog : Program} {w : World} {A : Around} {s : Shared} {R : Result → Shared → Prop}
theorem zst_next {b0 z TI TO i1 i2 l1 l2 : Addr} {xs ys : Array Value} {i : Nat} {x y : Value} {Q : Option Value → Shared → Prop} {E : Value → Shared → Prop} (D : ZipApart z TI TO i1 i2 l1 l2) (st : ZSt s.heap b0 z TI TO i1 i2 l1 l2 xs ys i) (lz : b0 ≤ s.heap.objs.size) (hx : xs[i]? = some x) (hy : ys[i]? = some y)
    (hQ : ∀ h', ZSt h' b0 z TI TO i1 i2 l1 l2 xs ys (i + 1) → IsPair h' s.heap.objs.size x y → h'.objs.size = s.heap.objs.size + 1 → (∀ c o, c ≠ z → c ≠ TO → c ≠ i1 → c ≠ i2 → s.heap.get? c = some o → h'.get? c = some o) → Q (some (.ref s.heap.objs.size)) { s with heap := h' }) :
    wpAny (model prog w) A (pyNext (.ref z)) Q E s := by
  obtain ⟨hz, ti, a1, a2, c1, c2⟩ := st
  rcases hz with ⟨hz, a, b, hTO⟩ | ⟨T, f, oT, hz, hT, hb⟩
  · refine wpAny_pyNext_zip_item D hz ti hTO a1 a2 c1 c2 hx hy fun h' z' TO' b1 b2 hT hsz hk => hQ h' ⟨.inr ⟨_, false, _, z', hT, lz⟩, hk _ _ D.TIz D.TITO D.TIi1 D.TIi2 ti, b1, b2, c1.at fun o e => hk _ o D.l1z D.l1TO D.l1i1 D.l1i2 e, c2.at fun o e => hk _ o D.l2z D.l2TO D.l2i1 D.l2i2 e⟩ hT hsz hk
  · refine wpAny_pyNext_zip_item_held D hz hT ti a1 a2 c1 c2 hx hy fun h' z' b1 b2 hT2 hsz hk => hQ h' ⟨.inr ⟨T, true, ?_⟩, hk _ _ D.TIz D.TIi1 D.TIi2 ti, b1, b2, c1.at fun o e => hk _ o D.l1z D.l1i1 D.l1i2 e, c2.at fun o e => hk _ o D.l2z D.l2i1 D.l2i2 e⟩ hT2 hsz fun c o h1 _ h3 h4 e => hk c o h1 h3 h4 e
    have q : T ≠ z ∧ T ≠ i1 ∧ T ≠ i2 → h'.get? T = some oT := fun ⟨q1, q2, q3⟩ => hk _ _ q1 q2 q3 hT
    by_cases e1 : T = z
    · exact ⟨_, z', by rw [e1]; exact z', hb⟩
    · by_cases e2 : T = i1
      · obtain ⟨o, ho, _⟩ := b1
        exact ⟨o, z', by rw [e2]; exact ho, hb⟩
      · by_cases e3 : T = i2
        · obtain ⟨o, ho, _⟩ := b2
          exact ⟨o, z', by rw [e3]; exact ho, hb⟩
        · exact ⟨oT, z', q ⟨e1, e2, e3⟩, hb⟩
theorem zst_end {b0 z TI TO i1 i2 l1 l2 : Addr} {xs ys : Array Value} {i : Nat} {Q : Option Value → Shared → Prop} {E : Value → Shared → Prop} (hh : A.handled = none) (D : ZipApart z TI TO i1 i2 l1 l2) (st : ZSt s.heap b0 z TI TO i1 i2 l1 l2 xs ys i) (hend : xs[i]? = none ∨ ys[i]? = none)
    (hQ : ∀ h', (∀ c o, c ≠ z → c ≠ TO → c ≠ i1 → c ≠ i2 → s.heap.get? c = some o → h'.get? c = some o) → Q none { s with heap := h' }) :
    wpAny (model prog w) A (pyNext (.ref z)) Q E s := by
  obtain ⟨hz, ti, a1, a2, c1, c2⟩ := st
  rcases hz with ⟨hz, a, b, hTO⟩ | ⟨T, f, oT, hz, hT, hb⟩
  · exact wpAny_pyNext_zip_end hh D hz ti hTO a1 a2 c1 c2 hend hQ
  · exact wpAny_pyNext_zip_end_held hh D hz hT ti a1 a2 c1 c2 hend fun h' hk => hQ h' fun c o h1 _ h3 h4 e => hk c o h1 h3 h4 e
theorem zst_keep {h h' : Heap} {b0 z TI TO i1 i2 l1 l2 S : Addr} {xs ys : Array Value} {i : Nat} (st : ZSt h b0 z TI TO i1 i2 l1 l2 xs ys i) (hS : S < b0) (ne : S ∉ [z, TI, TO, i1, i2, l1, l2]) (k : ∀ c o, c ≠ S → h.get? c = some o → h'.get? c = some o) : ZSt h' b0 z TI TO i1 i2 l1 l2 xs ys i := by
  obtain ⟨hz, ti, a1, a2, c1, c2⟩ := st
  have n : ∀ b, b ∈ [z, TI, TO, i1, i2, l1, l2] → b ≠ S := fun b hb e => ne (e ▸ hb)
  refine ⟨?_, k _ _ (n _ (by simp)) ti, a1.at fun o e => k _ o (n _ (by simp)) e, a2.at fun o e => k _ o (n _ (by simp)) e, c1.at fun o e => k _ o (n _ (by simp)) e, c2.at fun o e => k _ o (n _ (by simp)) e⟩
  rcases hz with ⟨hz, a, b, hTO⟩ | ⟨T, f, oT, hz, hT, hb⟩
  · exact .inl ⟨k _ _ (n _ (by simp)) hz, a, b, k _ _ (n _ (by simp)) hTO⟩
  · exact .inr ⟨T, f, oT, k _ _ (n _ (by simp)) hz, k _ _ (fun e => absurd hS (by rw [← e]; exact Nat.not_lt.mpr hb)) hT, hb⟩
theorem zip_loop {b0 z TI TO i1 i2 l1 l2 S : Addr} {xs ys : Array Value} {n : Nat} (hh : A.handled = none) (D : ZipApart z TI TO i1 i2 l1 l2) (hn : n = min xs.size ys.size) (hsz : n ≤ sizeLine) (res : Value) {h₁ : Heap} (hS0 : S < b0) (ne : S ∉ [z, TI, TO, i1, i2, l1, l2]) (lows : z < b0 ∧ TO < b0 ∧ i1 < b0 ∧ i2 < b0)
    (hR : ∀ h' tk acc c Ts, (∀ b o, b ∉ [S, z, TO, i1, i2] → h₁.get? b = some o → h'.get? b = some o) → h'.get? S = some { cls := .type "list", dict := none, data := .seq acc c, slots := #[] } → Ts.length = n → acc.toList = Ts.map Value.ref → ZMade h' b0 xs ys Ts → R (.ok (.ret res)) { s with heap := h', toks := tk }) :
    ∀ (k i : Nat) (h : Heap) (tk c : Nat) (acc : Array Value) (Ts : List Addr), n - i = k → i ≤ n → ZSt h b0 z TI TO i1 i2 l1 l2 xs ys i → (∀ b o, b ∉ [S, z, TO, i1, i2] → h₁.get? b = some o → h.get? b = some o) →
      h.get? S = some { cls := .type "list", dict := none, data := .seq acc c, slots := #[] } → acc.toList = Ts.map Value.ref → Ts.length = i → ZMade h b0 xs ys Ts → b0 ≤ h.objs.size →
      codeAny (model prog w) A (.builtin "list.extend.loop" ⟨[.ref S, .ref z, res], []⟩) R { s with heap := h, toks := tk } := by
  have nS : ∀ b, b ∈ [z, TI, TO, i1, i2, l1, l2] → S ≠ b := fun b hb e => ne (e ▸ hb)
  have up4 : ∀ (c : Addr), c ∉ [S, z, TO, i1, i2] → c ≠ S ∧ c ≠ z ∧ c ≠ TO ∧ c ≠ i1 ∧ c ≠ i2 := fun c hc => by simpa using hc
  have big : ∀ (T : Addr), b0 ≤ T → T ≠ S ∧ T ≠ z ∧ T ≠ TO ∧ T ≠ i1 ∧ T ≠ i2 := fun T hT => ⟨fun e => Nat.not_lt.mpr (e ▸ hT) hS0, fun e => Nat.not_lt.mpr (e ▸ hT) lows.1, fun e => Nat.not_lt.mpr (e ▸ hT) lows.2.1, fun e => Nat.not_lt.mpr (e ▸ hT) lows.2.2.1, fun e => Nat.not_lt.mpr (e ▸ hT) lows.2.2.2⟩
  intro k
  induction k with
  | zero =>
    intro i h tk c acc Ts hk hi st keep hS hacc hl hM hb
    have e : i = n := by omega
    refine codeAny_builtin PySem.F.entry_extend_loop ?_
    rw [Around.under_plainId PySem.F.plain_extend_loop _]
    show wpAny _ A.in1 (pyNext (.ref z) >>= _) _ _ _
    refine wpAny_bind (zst_end (s := { s with heap := h, toks := tk }) (A := A.in1) hh D st (by
      rcases Nat.le_total xs.size ys.size with q | q
      · exact .inl (Array.getElem?_eq_none (by omega))
      · exact .inr (Array.getElem?_eq_none (by omega))) fun h' hk' => ?_)
    have up : ∀ (T : Addr) o, T ∉ [z, TO, i1, i2] → h.get? T = some o → h'.get? T = some o := fun T o hT e => by
      have : T ≠ z ∧ T ≠ TO ∧ T ≠ i1 ∧ T ≠ i2 := by simpa using hT
      exact hk' T o this.1 this.2.1 this.2.2.1 this.2.2.2 e
    refine wpAny_pure (hR h' tk acc c Ts (fun b o hb' e' => ?_) (hk' S _ (nS _ (by simp)) (nS _ (by simp)) (nS _ (by simp)) (nS _ (by simp)) hS) (hl.trans e) hacc ⟨hM.nd, hM.lo, fun T hT => ?_, fun j T hj => ?_⟩)
    · obtain ⟨_, q2, q3, q4, q5⟩ := up4 b hb'
      exact hk' b o q2 q3 q4 q5 (keep b o hb' e')
    · obtain ⟨j, hj⟩ := List.mem_iff_getElem?.mp hT
      obtain ⟨x, y, _, _, hp⟩ := hM.pr j T hj
      obtain ⟨_, q2, q3, q4, q5⟩ := big T (hM.lo T hT)
      exact Heap.lt_size (hk' T _ q2 q3 q4 q5 hp)
    · obtain ⟨x, y, e1, e2, hp⟩ := hM.pr j T hj
      obtain ⟨_, q2, q3, q4, q5⟩ := big T (hM.lo T (List.mem_of_getElem? hj))
      exact ⟨x, y, e1, e2, hk' T _ q2 q3 q4 q5 hp⟩
  | succ k ih =>
    intro i h tk c acc Ts hk hi st keep hS hacc hl hM hb
    have hlt : i < n := by omega
    have hasz : acc.size = i := by rw [← Array.length_toList, hacc, List.length_map, hl]
    have hx : xs[i]? = some (xs[i]'(by omega)) := Array.getElem?_eq_getElem _
    have hy : ys[i]? = some (ys[i]'(by omega)) := Array.getElem?_eq_getElem _
    refine codeAny_builtin PySem.F.entry_extend_loop ?_
    rw [Around.under_plainId PySem.F.plain_extend_loop _]
    show wpAny _ A.in1 (pyNext (.ref z) >>= _) _ _ _
    refine wpAny_bind (zst_next (s := { s with heap := h, toks := tk }) D st hb hx hy fun h' st' hT hz' hkp => ?_)
    dsimp only at hT hz' hkp ⊢
    have hS' := hkp S _ (nS _ (by simp)) (nS _ (by simp)) (nS _ (by simp)) (nS _ (by simp)) hS
    have up : ∀ b o, b ≠ S → h'.get? b = some o → (h'.update S (Obj.mapSeq (·.push (Value.ref h.objs.size)))).get? b = some o := fun b o hb e => (Heap.get?_update_other _ _ (Ne.symm hb)).trans e
    have hTS : h.objs.size ≠ S := Nat.ne_of_gt (Heap.lt_size hS)
    show wpAny _ A.in1 (updateSeq S (·.push (Value.ref h.objs.size)) >>= _) _ _ _
    refine wpAny_bind ?_
    have hT2 := up _ _ hTS hT
    refine wpAny_updateSeq hS' rfl (wpAny_pure ⟨plainId_quiet PySem.F.plain_extend_loop _, ih (i + 1) _ tk _ (acc.push (Value.ref h.objs.size)) (Ts ++ [h.objs.size]) (by omega) hlt (zst_keep st' hS0 ne up)
      (fun b o hb' e => ?_) (Heap.get?_update_self _ hS' rfl) (by rw [Array.toList_push, hacc, List.map_append]; rfl) (by rw [List.length_append, hl]; rfl) ⟨?_, ?_, ?_, ?_⟩ ?_⟩) (by rw [hasz]; omega) (by show (acc.push (Value.ref h.objs.size)).size ≤ sizeLine + 1; rw [Array.size_push, hasz]; omega)
    · obtain ⟨q1, q2, q3, q4, q5⟩ := up4 b hb'
      exact up b o q1 (hkp b o q2 q3 q4 q5 (keep b o hb' e))
    · refine List.nodup_append.mpr ⟨hM.nd, List.nodup_cons.mpr ⟨List.not_mem_nil, List.nodup_nil⟩, fun a ha b hb' e => ?_⟩
      have h1 := hM.hi a ha
      rw [e, List.mem_singleton.mp hb'] at h1
      exact Nat.lt_irrefl _ h1
    · intro T hT'
      rcases List.mem_append.mp hT' with q | q
      · exact hM.lo T q
      · rw [List.mem_singleton.mp q]
        exact hb
    · intro T hT'
      rw [Heap.size_update, hz']
      rcases List.mem_append.mp hT' with q | q
      · exact Nat.lt_succ_of_lt (hM.hi T q)
      · rw [List.mem_singleton.mp q]
        exact Nat.lt_succ_self _
    · intro j T hj
      rcases Nat.lt_trichotomy j Ts.length with h1 | h1 | h1
      · rw [List.getElem?_append_left h1] at hj
        obtain ⟨x, y, e1, e2, hp⟩ := hM.pr j T hj
        obtain ⟨q1, q2, q3, q4, q5⟩ := big T (hM.lo T (List.mem_of_getElem? hj))
        exact ⟨x, y, e1, e2, up _ _ q1 (hkp T _ q2 q3 q4 q5 hp)⟩
      · subst h1
        have hb' : h.objs.size = T := by simpa using hj
        subst hb'
        rw [hl]
        exact ⟨_, _, hx, hy, hT2⟩
      · rw [List.getElem?_eq_none (by rw [List.length_append, List.length_singleton]; omega)] at hj
        cases hj
    · rw [Heap.size_update, hz']
      exact Nat.le_succ_of_le hb
end
section
variable {prog : Program} {w : World} {A : Around} {E : Value → Shared → Prop} {s : Shared}
theorem call_list_zip {b0 z TI TO i1 i2 l1 l2 : Addr} {xs ys : Array Value} {n : Nat} {Q : Value → Shared → Prop} (hh : A.handled = none) (D : ZipApart z TI TO i1 i2 l1 l2) (hn : n = min xs.size ys.size) (hsz : n ≤ sizeLine) (hb : b0 = s.heap.objs.size) (st : ZSt s.heap (b0 + 1) z TI TO i1 i2 l1 l2 xs ys 0) (hz0 : IsZip s.heap z TI TO .none)
    (there : ∀ b ∈ [z, TI, TO, i1, i2, l1, l2], b < b0)
    (hQ : ∀ h' tk acc c Ts, (∀ b o, b ∉ [z, TO, i1, i2] → s.heap.get? b = some o → h'.get? b = some o) → h'.get? b0 = some { cls := .type "list", dict := none, data := .seq acc c, slots := #[] } → Ts.length = n → acc.toList = Ts.map Value.ref → ZMade h' (b0 + 1) xs ys Ts → Q (.ref b0) { s with heap := h', toks := tk }) :
    wpAny (model prog w) A (call (.type "list") [.ref z]) Q E s := by
  subst hb
  refine callType_codes (Q₁ := fun obj s₁ => obj = .ref s.heap.objs.size ∧ s₁ = { s with heap := s.heap.push { cls := .type "list", data := .seq #[] } }) PySem.F.called_list (PySem.F.typeCall_list_1 _) PySem.F.entry_list_init
    (code_list_new _ ⟨rfl, rfl⟩) fun obj s₁ h₁ => ?_
  obtain ⟨rfl, rfl⟩ := h₁
  have hS : (s.heap.push { cls := .type "list", data := .seq #[] }).get? s.heap.objs.size = some { cls := .type "list", data := .seq #[] } := Heap.get?_push_size _ rfl
  refine ⟨⟨_, hS, rfl⟩, PySem.F.args_list_init_2 _ _, ?_⟩
  show wpAny _ A.in1.in1 (do let old ← Builtin.List.listItems (.ref s.heap.objs.size); Builtin.List.listUpdate (.ref s.heap.objs.size) (fun _ => #[]); letGo old.toList.reverse; Builtin.List.listExtendWith (.ref s.heap.objs.size) (.ref z) .none) _ _ _
  refine wpAny_bind ?_
  unfold Builtin.List.listItems
  refine wpAny_bind (wpAny_seqItems hS rfl (wpAny_pure ?_))
  show wpAny _ A.in1.in1 (updateSeq s.heap.objs.size (fun _ => #[]) >>= fun _ => letGo (#[] : Array Value).toList.reverse >>= fun _ => Builtin.List.listExtendWith (.ref s.heap.objs.size) (.ref z) .none) _ _ _
  refine wpAny_bind (wpAny_updateSeq hS rfl ?_)
  have hS2 := Heap.get?_update_self (Obj.mapSeq (fun _ => (#[] : Array Value))) hS rfl
  have oth : ∀ b o, b ≠ s.heap.objs.size → s.heap.get? b = some o → ((s.heap.push { cls := .type "list", data := .seq #[] }).update s.heap.objs.size (Obj.mapSeq (fun _ => (#[] : Array Value)))).get? b = some o :=
    fun b o hb e => (Heap.get?_update_other _ _ (Ne.symm hb)).trans (Heap.get?_push_of_some _ e)
  refine wpAny_bind (wpAny_letGo ?_)
  have hSz : s.heap.objs.size ≠ z := Nat.ne_of_gt (there z (by simp))
  have hty : Shared.TypeIs { s with heap := (s.heap.push { cls := .type "list", data := .seq #[] }).update s.heap.objs.size (Obj.mapSeq (fun _ => (#[] : Array Value))) } (.ref z) "zip" := ⟨_, oth _ _ (Ne.symm hSz) hz0, rfl⟩
  unfold Builtin.List.listExtendWith
  refine wpAny_bind (wpAny_typeOf hty ?_)
  have h1 : Builtin.List.listSameRef (.ref s.heap.objs.size) (.ref z) = false := by simp [Builtin.List.listSameRef, hSz]
  have h2 : (Value.type "zip" == Value.type "list") = false := by decide
  have h3 : (Value.type "zip" == Value.type "tuple") = false := by decide
  simp only [h1, h2, h3, Bool.or_false, Bool.false_eq_true, if_false]
  refine wpAny_bind (wpAny_pyIter_zip (oth _ _ (Ne.symm hSz) hz0) ?_)
  refine wpAny_bind (wpAny_holding ?_)
  unfold Builtin.List.listLengthHint
  refine wpAny_bind (wpAny_specialOf hty zip_no_len ?_)
  show wpAny _ A.in1.in1 (specialOf (Value.ref z) (Str.ofString "__length_hint__") >>= _) _ _ _
  refine wpAny_bind (wpAny_specialOf hty zip_no_hint ?_)
  refine wpAny_pure ?_
  show wpAny _ A.in1.in1 (rule "list.extend.makes-room" >>= fun _ => Builtin.List.listTouch (.ref s.heap.objs.size) >>= fun _ =>
    again (.builtin "list.extend.loop" ⟨[.ref s.heap.objs.size, .ref z, .none], []⟩)) _ _ _
  refine wpAny_bind (wpAny_rule ?_)
  refine wpAny_bind ?_
  show wpAny _ A.in1.in1 (updateSeq s.heap.objs.size (·.push .none) >>= fun _ => updateSeq s.heap.objs.size (·.pop)) _ _ _
  refine wpAny_bind (wpAny_updateSeq hS2 rfl ?_)
  have hS3 := Heap.get?_update_self (Obj.mapSeq (·.push Value.none)) hS2 rfl
  refine wpAny_updateSeq (hz := by seq_fits) hS3 rfl ?_
  have hS4 := Heap.get?_update_self (Obj.mapSeq (·.pop)) hS3 rfl
  have oth4 : ∀ b o, b ≠ s.heap.objs.size → s.heap.get? b = some o → ((((s.heap.push { cls := .type "list", data := .seq #[] }).update s.heap.objs.size (Obj.mapSeq (fun _ => (#[] : Array Value)))).update s.heap.objs.size (Obj.mapSeq (·.push Value.none))).update s.heap.objs.size (Obj.mapSeq (·.pop))).get? b = some o :=
    fun b o hb e => (Heap.get?_update_other _ _ (Ne.symm hb)).trans ((Heap.get?_update_other _ _ (Ne.symm hb)).trans (oth b o hb e))
  have hne : s.heap.objs.size ∉ [z, TI, TO, i1, i2, l1, l2] := fun hm => Nat.lt_irrefl _ (there _ hm)
  have hsz4 : ((((s.heap.push { cls := .type "list", data := .seq #[] }).update s.heap.objs.size (Obj.mapSeq (fun _ => (#[] : Array Value)))).update s.heap.objs.size (Obj.mapSeq (·.push Value.none))).update s.heap.objs.size (Obj.mapSeq (·.pop))).objs.size = s.heap.objs.size + 1 := by
    rw [Heap.size_update, Heap.size_update, Heap.size_update, Heap.size_push]
  refine wpAny_pure ⟨plainId_quiet PySem.F.plain_extend_loop _, zip_loop (A := A.in1) (b0 := s.heap.objs.size + 1) (s := s) (h₁ := s.heap) (n := n) (show A.in1.handled = none from hh) D hn hsz .none (Nat.lt_succ_self _) hne ⟨Nat.lt_succ_of_lt (there _ (by simp)), Nat.lt_succ_of_lt (there _ (by simp)), Nat.lt_succ_of_lt (there _ (by simp)), Nat.lt_succ_of_lt (there _ (by simp))⟩
    (fun h' tk acc c Ts hk hS' hl hacc hM => ?_) n 0 _ s.toks _ #[] [] (Nat.sub_zero _) (Nat.zero_le _) (zst_keep st (Nat.lt_succ_self _) hne oth4) (fun b o hb e => oth4 b o (fun q => hb (by simp [q])) e) hS4 rfl rfl ⟨List.nodup_nil, fun T hT => (List.not_mem_nil hT).elim, fun T hT => (List.not_mem_nil hT).elim, fun j T hj => by simp at hj⟩ (Nat.le_of_eq hsz4.symm)⟩
  refine ⟨rfl, hQ h' tk acc c Ts (fun b o hb e => hk b o (fun hm => ?_) e) hS' hl hacc hM⟩
  rcases List.mem_cons.mp hm with q | q
  · exact absurd (Heap.lt_size e) (by rw [q]; exact Nat.lt_irrefl _)
  · exact hb q
end
/-- new pairs, laid at once -/
theorem lay_pairs {X : Cx} {pins : List (Addr × Obj)} {σ : L2.St} {h' : Heap} {tk : Nat} : ∀ (R : List (Addr × V × V)) {H : Hp} {s : Shared}, Inv X pins σ H s → (∀ b, b ∉ R.map (·.1) → s.heap.get? b = h'.get? b) → (∀ b ∈ R.map (·.1), s.heap.get? b = none) → (∀ p ∈ R, H p.1 = none) → (R.map (·.1)).Nodup →
    (∀ p ∈ R, ∃ u v, RelV p.2.1 u ∧ RelV p.2.2 v ∧ h'.get? p.1 = some { cls := .type "tuple", data := .seq #[u, v] }) →
    ∃ H', Inv X pins σ H' { s with heap := h', toks := tk } ∧ (∀ b, b ∉ R.map (·.1) → H' b = H b) ∧ ∀ p ∈ R, H' p.1 = some (.tup [p.2.1, p.2.2])
  | [], H, s, I, hG, _, _, _, _ => ⟨H, I.kept (t' := tk) fun b u e => by rw [← hG b List.not_mem_nil]; exact e, fun _ _ => rfl, fun p hp => (List.not_mem_nil hp).elim⟩
  | p :: R, H, s, I, hG, hN, hH, nd, ok => by
    rw [List.map_cons, List.nodup_cons] at nd
    obtain ⟨G, g1, g2⟩ := L2.restrict h' fun b => decide (b ∉ R.map (·.1))
    obtain ⟨u, v, ru, rv, hp⟩ := ok p List.mem_cons_self
    have gp : G.get? p.1 = some { cls := .type "tuple", data := .seq #[u, v] } := (g1 _ (decide_eq_true nd.1)).trans hp
    have k : ∀ b o, s.heap.get? b = some o → G.get? b = some o := fun b o e => by
      have n1 : b ∉ (p :: R).map (·.1) := fun hb => by rw [hN b hb] at e; cases e
      have n2 : b ∉ R.map (·.1) := fun hb => n1 (by rw [List.map_cons]; exact List.mem_cons_of_mem _ hb)
      rw [g1 b (decide_eq_true n2), ← hG b n1]
      exact e
    have I1 : Inv X pins σ (upd H p.1 (.tup [p.2.1, p.2.2])) { s with heap := G, toks := tk } := L2.Inv.laidN I (t' := tk) k (hN p.1 (by rw [List.map_cons]; exact List.mem_cons_self)) (hH p List.mem_cons_self) ⟨by show 2 ≤ sizeLine; decide, [u, v], .cons ru (.cons rv .nil), ⟨_, gp, rfl, _, rfl⟩⟩
    obtain ⟨H', I2, h1, h2⟩ := lay_pairs R I1 (fun b hb => g1 b (decide_eq_true hb)) (fun b hb => g2 b (decide_eq_false fun z => z hb)) (fun q hq => by
      rw [upd_ne (fun z => nd.1 (by rw [← z]; exact List.mem_map.mpr ⟨q, hq, rfl⟩))]
      exact hH q (List.mem_cons_of_mem _ hq)) nd.2 fun q hq => ok q (List.mem_cons_of_mem _ hq)
    refine ⟨H', I2, fun b hb => ?_, fun q hq => ?_⟩
    · rw [List.map_cons] at hb
      rw [h1 b fun z => hb (List.mem_cons_of_mem _ z), upd_ne fun z => hb (by rw [z]; exact List.mem_cons_self)]
    · rcases List.mem_cons.mp hq with z | z
      · rw [z, h1 _ nd.1, upd_same]
      · exact h2 q z
end
section
open PySem PySem.Spec PyProof.Rows L2 PySem.W
theorem refs_vals : ∀ Ts : List Addr, Vals (Ts.map V.ref) (Ts.map Value.ref)
  | [] => .nil
  | _ :: Ts => .cons rfl (refs_vals Ts)
/-- pairs of things, each a tuple of its own -/
def Twos (H : Hp) : List V → List (V × V) → Prop := Paired fun z p => ∃ q, z = .ref q ∧ H q = some (.tup [p.1, p.2])
def tListZip (K : PySem.W.Frag) (ta : TA) : TE := fun σ H Q => ta σ H fun vs H1 => ∃ a b xs ys, vs = [.ref a, .ref b] ∧ SqL K H1 a xs ∧ SqL K H1 b ys ∧ xs.length = ys.length ∧
  ∀ (H2 : Hp) (p : Addr) (zs : List V), Same H1 H2 → H1 p = none → H2 p = some (.lst zs) → Twos H2 zs (xs.zip ys) → Q (.ref p) H2
theorem pe_listZip {X : Cx} {e e2 : Expr} {ta : TA} {p1 p2 pos pos2 : Pos} (hc : X.calm = true) (hg : Gl X "zip") (hm : X.mg "zip" = none) (hgl : Gl X "list") (hml : X.mg "list" = none) (ha : PA X [e, e2] ta)
    (hs : starEach [e, e2] X.env = (false, eval e X.env) :: starEach [e2] X.env := by rfl) (hpl : (backTo pos2 (starEach [e2] X.env)).any (·.1) = false := by rfl)
    (hs2 : backTo pos (starEach [Expr.Call (.Name "zip" p2) [e, e2] [] pos2] X.env) = (false, eval (.Call (.Name "zip" p2) [e, e2] [] pos2) X.env) :: backTo pos (starEach [] X.env) := by rfl) :
    PE X (.Call (.Name "list" p1) [.Call (.Name "zip" p2) [e, e2] [] pos2] [] pos) (tListZip X.K ta) := by
  refine ⟨fun pins s σ H Q I h => ?_⟩
  refine wpAny_Call_Name_kw (ld_blt I hgl hml (by rfl) ?_)
  refine PyProof.Rows.callWith_type1 ?_ hs2 rfl
  rw [hs2]
  refine Calls.spliced_cons ?_
  refine Call_ (ld_blt I hg hm PyProof.Rows.boot_zip (PyProof.Rows.callWith_type1 (thn (ha.run pos2 pins s σ H _ I h) fun us s1 ⟨vs, H1, I1, r1, q1⟩ => ?_) hs hpl))
  obtain ⟨a, b, xs, ys, ex, hqx, hqy, hlen, q⟩ := q1
  subst ex
  obtain ⟨u1, u2, rfl, r, r'⟩ := vals2 r1
  obtain rfl : u1 = Value.ref a := r
  obtain rfl : u2 = Value.ref b := r'
  obtain ⟨its, rv, p1', zx⟩ := I1.list hqx
  obtain ⟨its2, rv2, p2', zy⟩ := I1.list hqy
  have la : a < s1.heap.objs.size := p1'.lt
  have lb : b < s1.heap.objs.size := p2'.lt
  have D := PySem.W.ktu_apart s1.heap.objs.size a b la lb
  refine call_zip_2 p1'.isList p2'.isList fun h' hz hTI hTO h1 h2 hsz hk => ?_
  refine Calls.spliced_nil ?_
  have lx := rv.length
  have ly := rv2.length
  have hn : xs.length = min its.toArray.size its2.toArray.size := by
    rw [List.size_toArray, List.size_toArray]
    omega
  have there : ∀ c ∈ [s1.heap.objs.size + 4, s1.heap.objs.size + 2, s1.heap.objs.size + 3, s1.heap.objs.size, s1.heap.objs.size + 1, a, b], c < s1.heap.objs.size + 5 := fun c hc => by
    have e' : c = s1.heap.objs.size + 4 ∨ c = s1.heap.objs.size + 2 ∨ c = s1.heap.objs.size + 3 ∨ c = s1.heap.objs.size ∨ c = s1.heap.objs.size + 1 ∨ c = a ∨ c = b := by simpa using hc
    rcases e' with z | z | z | z | z | z | z
    · rw [z]; exact Nat.lt_succ_self _
    · rw [z]; exact Nat.add_lt_add_left (by decide) _
    · rw [z]; exact Nat.add_lt_add_left (by decide) _
    · rw [z]; exact Nat.lt_add_of_pos_right (by decide)
    · rw [z]; exact Nat.add_lt_add_left (by decide) _
    · rw [z]; exact Nat.lt_of_lt_of_le la (Nat.le_add_right _ _)
    · rw [z]; exact Nat.lt_of_lt_of_le lb (Nat.le_add_right _ _)
  refine call_list_zip (b0 := s1.heap.objs.size + 5) (s := { s1 with heap := h' }) (n := xs.length) (I1.ok.hd hc) D hn zx hsz.symm ⟨.inl ⟨hz, _, _, hTO⟩, hTI, h1, h2, p1'.isList.at fun o e => hk _ o e, p2'.isList.at fun o e => hk _ o e⟩ hz there fun hF tk acc c Ts hk2 hS hl hacc hM => ?_
  have old : ∀ b o, s1.heap.get? b = some o → b < s1.heap.objs.size := fun b o e => Heap.lt_size e
  have keepF : ∀ b o, s1.heap.get? b = some o → hF.get? b = some o := fun b o e => by
    have lt := old b o e
    refine hk2 b o (fun hm => ?_) (hk b o e)
    have e' : b = s1.heap.objs.size + 4 ∨ b = s1.heap.objs.size + 3 ∨ b = s1.heap.objs.size ∨ b = s1.heap.objs.size + 1 := by simpa using hm
    rcases e' with z | z | z | z
    · rw [z] at lt; exact Nat.not_lt.mpr (Nat.le_add_right _ _) lt
    · rw [z] at lt; exact Nat.not_lt.mpr (Nat.le_add_right _ _) lt
    · rw [z] at lt; exact Nat.lt_irrefl _ lt
    · rw [z] at lt; exact Nat.not_lt.mpr (Nat.le_add_right _ _) lt
  have TS : ∀ T ∈ Ts, T ≠ s1.heap.objs.size + 5 := fun T hT e => Nat.not_lt.mpr (hM.lo T hT) (by rw [e]; exact Nat.lt_succ_self _)
  have Tbig : ∀ T ∈ Ts, s1.heap.objs.size ≤ T := fun T hT => Nat.le_trans (Nat.le_add_right _ 6) (hM.lo T hT)
  have oldT : ∀ b o, s1.heap.get? b = some o → b ∉ Ts := fun b o e hb => Nat.not_lt.mpr (Tbig b hb) (old b o e)
  have oldS : ∀ b o, s1.heap.get? b = some o → b ≠ s1.heap.objs.size + 5 := fun b o e hb => by
    have := old b o e
    rw [hb] at this
    exact Nat.not_lt.mpr (Nat.le_add_right _ _) this
  obtain ⟨G0, g1, g2⟩ := L2.restrict hF fun b => decide (b ∉ Ts ∧ b ≠ s1.heap.objs.size + 5)
  obtain ⟨G1, k1, k2⟩ := L2.restrict hF fun b => decide (b ≠ s1.heap.objs.size + 5)
  have I2 : Inv X pins σ H1 { s1 with heap := G0, toks := tk } := I1.kept (t' := tk) fun b o e => (g1 b (decide_eq_true ⟨oldT b o e, oldS b o e⟩)).trans (keepF b o e)
  obtain ⟨R, hR⟩ : ∃ R, R = Ts.zip (xs.zip ys) := ⟨_, rfl⟩
  have hzl : (xs.zip ys).length = xs.length := by rw [List.length_zip, ← hlen, Nat.min_self]
  have hRm : R.map (·.1) = Ts := by rw [hR]; exact List.map_fst_zip (by omega)
  obtain ⟨H', I3, w1, w2⟩ := lay_pairs (h' := G1) (tk := tk) R I2 (fun b hb => by
      rw [hRm] at hb
      by_cases cS : b = s1.heap.objs.size + 5
      · rw [k2 b (decide_eq_false fun z => z cS), g2 b (decide_eq_false fun z => z.2 cS)]
      · rw [k1 b (decide_eq_true cS), g1 b (decide_eq_true ⟨hb, cS⟩)]) (fun b hb => by
      rw [hRm] at hb
      exact g2 b (decide_eq_false fun z => z.1 hb)) (fun p hp => I1.hok.fresh (Tbig _ (by rw [← hRm]; exact List.mem_map.mpr ⟨p, hp, rfl⟩))) (by rw [hRm]; exact hM.nd) fun p hp => by
      rw [hR] at hp
      obtain ⟨j, hj⟩ := List.mem_iff_getElem?.mp hp
      rw [List.getElem?_zip_eq_some] at hj
      obtain ⟨hj1, hj2⟩ := hj
      rw [List.getElem?_zip_eq_some] at hj2
      obtain ⟨hj2, hj3⟩ := hj2
      obtain ⟨x, y, e1, e2, hp'⟩ := hM.pr j _ hj1
      obtain ⟨u, hu, ru⟩ := rv.get hj2
      obtain ⟨v, hv, rv'⟩ := rv2.get hj3
      have e3 : u = x := Option.some.inj (hu.symm.trans (by simpa using e1))
      have e4 : v = y := Option.some.inj (hv.symm.trans (by simpa using e2))
      refine ⟨u, v, ru, rv', (k1 _ (decide_eq_true (TS _ (List.mem_of_getElem? hj1)))).trans ?_⟩
      rw [e3, e4]
      exact hp'
  have nS : s1.heap.objs.size + 5 ∉ R.map (·.1) := fun hm => by
    rw [hRm] at hm
    exact TS _ hm rfl
  have hS1 : H1 (s1.heap.objs.size + 5) = none := I1.hok.fresh (Nat.le_add_right _ _)
  have hH' : H' (s1.heap.objs.size + 5) = none := (w1 _ nS).trans hS1
  have I4 : Inv X pins σ (upd H' (s1.heap.objs.size + 5) (.lst (Ts.map V.ref))) { s1 with heap := hF, toks := tk } := L2.Inv.laidN (s := { s1 with heap := G1, toks := tk }) I3 (t' := tk) (fun b o e => by
      have n : b ≠ s1.heap.objs.size + 5 := fun z => by
        rw [z, k2 _ (decide_eq_false fun z => z rfl)] at e
        cases e
      rw [← k1 b (decide_eq_true n)]
      exact e) (k2 _ (decide_eq_false fun z => z rfl)) hH' ⟨by rw [List.length_map, hl]; exact zx, acc.toList, c, by rw [hacc]; exact refs_vals Ts, by rw [Array.toArray_toList]; exact hS⟩
  refine ⟨.ref (s1.heap.objs.size + 5), _, I4, rfl, q _ _ (Ts.map V.ref) (fun b o e => ?_) hS1 upd_same ?_⟩
  · have n1 : b ≠ s1.heap.objs.size + 5 := fun z => by rw [z, hS1] at e; cases e
    have n2 : b ∉ R.map (·.1) := fun hm => by
      rw [hRm] at hm
      rw [I1.hok.fresh (Tbig b hm)] at e
      cases e
    rw [upd_ne n1, w1 b n2]
    exact e
  · have gen : ∀ (Us : List Addr) (ps : List (V × V)), Us.length = ps.length → (∀ q ∈ Us.zip ps, H' q.1 = some (.tup [q.2.1, q.2.2])) → (∀ T ∈ Us, T ≠ s1.heap.objs.size + 5) → Twos (upd H' (s1.heap.objs.size + 5) (.lst (Ts.map V.ref))) (Us.map V.ref) ps := by
      intro Us
      induction Us with
      | nil =>
        intro ps hl' _ _
        cases ps with
        | nil => exact .nil
        | cons => cases hl'
      | cons T Us ih =>
        intro ps hl' hw hT
        cases ps with
        | nil => cases hl'
        | cons p ps => exact .cons ⟨T, rfl, by rw [upd_ne (hT T List.mem_cons_self)]; exact hw (T, p) (by rw [List.zip_cons_cons]; exact List.mem_cons_self)⟩ (ih ps (Nat.succ.inj hl') (fun q hq => hw q (by rw [List.zip_cons_cons]; exact List.mem_cons_of_mem _ hq)) fun T' h' => hT T' (List.mem_cons_of_mem _ h'))
    exact gen Ts _ (by omega) (fun q hq => w2 q (by rw [hR]; exact hq)) TS
end
/-! ### sorted(range(n), key=lambda at: xs[at]) -/
section
open PySem PySem.W PySem.Calls PyProof.Rows
section
variable {pr : Program} {wo : World} {Ar : Around} {st : Shared}
theorem sorted_range {β : Type} {bs : List β} {R : Value → β → Prop} {l : Addr} {f : Addr} {n : Nat} {tt uu vv : Tok} {Q : Value → Shared → Prop} (k : β → PyData) (hh : Ar.handled = none) (hr : IsRange st.heap l 0 (n : Int) 1 tt uu vv) (hsmall : Builtin.Range.small 0 (n : Int) 1 = true) (hsize : Builtin.Range.rangeSize 0 (n : Int) 1 = (n : Int)) (hlen : n ≤ 2 ^ 24)
    (he : ∀ acc : Array Value, ItemsOf (fun i v => ∃ t, v = Value.int (0 + (i : Int) * 1) t) acc n → EachIs R acc.toList bs) (hal : AllAlike (bs.map k)) (hsk : Sortable (bs.map k)) (hz : bs.length ≤ sizeLine)
    (hu : ∀ x, x ∈ bs → Ar.units + 2 + (k x).depth < cLine)
    (turn : ∀ (v : Value) (x : β), R v x → x ∈ bs → ∀ (g : Heap) (t : Nat), (∀ c o, st.heap.get? c = some o → g.get? c = some o) → wpAny (model pr wo) Ar.in1.in1 (call (.ref f) [v]) (KeyNew (k x) { st with heap := g, toks := t }) (fun _ _ => False) { st with heap := g, toks := t })
    (fin : ∀ out c g t (hm : Heap), (∀ b o, st.heap.get? b = some o → hm.get? b = some o) → (∀ b o, hm.get? b = some o → g.get? b = some o) → g.get? hm.objs.size = some (seqObj "list" (List.toArray out) c) → out.length = bs.length → EachIs R out (bs.mergeSort (dataLe false k)) → Q (.ref hm.objs.size) { st with heap := g, toks := t }) :
    wpAny (model pr wo) Ar (call (.builtin "sorted") [.ref l] [(Str.ofString "key", .ref f)]) Q (fun _ _ => False) st := by
  refine call_function_entry_kw kind_sorted plain_sorted entry_sorted (ksk_s1 _ _) ?_
  unfold Builtin.«sorted»
  refine wpAny_bind (m := checkCount "sorted" 1 1 _) (wpAny_pure ?_)
  refine wpAny_bind (collect_range (A := Ar.in1) (show Ar.in1.handled = none from hh) hr hsmall hsize hlen fun h' tk acc hk hi => ?_)
  have e := he acc hi
  have hzl : acc.toList.length ≤ sizeLine := by rw [e.length]; exact hz
  refine wpAny_bind (wpAny_newList ?_ hzl)
  have at0 : (h'.push (seqObj "list" acc.toList.toArray 0)).get? h'.objs.size = some (seqObj "list" acc.toList.toArray 0) := Heap.get?_push_size _ rfl
  have up1 : ∀ c o, st.heap.get? c = some o → (h'.push (seqObj "list" acc.toList.toArray 0)).get? c = some o := fun c o q => Heap.get?_push_of_some _ (hk c o q)
  have ne1 : ∀ c o, h'.get? c = some o → c ≠ h'.objs.size := fun c o q => Nat.ne_of_lt (Heap.lt_size q)
  refine wpAny_bind (wpAny_holding (wpAny_call_entry_kw slot_list_sort ⟨_, at0, rfl⟩ entry_list_sort ?body (ksk_l1 _ _)))
  case body =>
    rw [ksk_t1]
    refine fresh_tree (kz := bs.map k) (st := { st with heap := h'.push (seqObj "list" acc.toList.toArray 0), toks := tk }) at0 (by rw [List.length_map]; exact e.length.symm) hzl hal hsk (bound_map (A := Ar.in1.in1) hu) (fun i v d hv hd g t kp => ?_) fun g t out c kp hD ko => ?_
    · rw [List.getElem?_map] at hd
      cases q : bs[i]? with
      | none =>
        rw [q] at hd
        cases hd
      | some x =>
        rw [q] at hd
        cases hd
        have hm : (v, x) ∈ acc.toList.zip bs := List.mem_of_getElem? (i := i) (by rw [List.getElem?_zip_eq_some]; exact ⟨hv, q⟩)
        exact turn v x (e.zip _ hm) (List.mem_of_getElem? q) g t fun c o hc => kp c o (ne1 c o (hk c o hc)) (up1 c o hc)
    · exact ⟨_, rfl, wpAny_pure ⟨_, rfl, fin out c g t h' hk (fun b o hc => kp b o (ne1 b o hc) (Heap.get?_push_of_some _ hc)) hD ((ko.length (by rw [List.length_map]; exact e.length.symm)).trans e.length) (keyedOut_each k ko e)⟩⟩
end
end
section
open PySem PySem.Spec PyProof.Rows L2 PySem.W
section
variable {pr : Program} {wo : World} {Ar : Around} {st : Shared}
/-- the key's call: lambda at: numbers[at] -/
theorem item_call {f c' b cc : Addr} {q : Str} {params : Arguments} {scope : Scope} {cl : List (Str × Addr)} {pm ctv : Value} {p1 p2 p4 : Pos} {xs y : Str} {us : List Value} {ns : List Int} {k : Nat} {t : Tok}
    (hf : st.heap.get? f = some (kla_obj "<lambda>" q params (.Subscript (.Name xs p1) (.Name y p2) p4) scope cl pm c' ctv)) (hcd : st.heap.CodeRec (.ref c') q) (lim : st.heap.NoLimit) (hroom : Ar.depth < recursionLimit)
    (kd : scope.kind = .function) (co : scope.isCoroutine = false) (gn : scope.isGenerator = false) (ky : scope.names.lookup y = some .local) (kx : scope.names.lookup xs = some .free) (nc : ∀ z ∈ scope.names, z.2 ≠ .cell)
    (hb : ∀ (cl : List (Str × Addr)) (pm cv ctv : Value), bindArgs (kla_fn "<lambda>" q params (.Subscript (.Name xs p1) (.Name y p2) p4) scope cl pm cv ctv) ⟨[.int (k : Int) t], []⟩ = pure [(y, .int (k : Int) t)])
    (hcl : cl.lookup xs = some cc) (hcell : st.heap.IsCell cc (some (.ref b))) (hls : st.heap.IsList b us.toArray) (hi : IntsAre us ns) (hz : ns.length ≤ sizeLine) (hk : k < ns.length)
    (dx : (xs == ("__debug__" : Str)) = false := by decide) (cx : (xs == ("__classdict__" : Str)) = false := by decide) (dy : (y == ("__debug__" : Str)) = false := by decide) :
    wpAny (model pr wo) Ar (call (.ref f) [.int (k : Int) t]) (KeyNew (.int (ns.getD k 0)) st) (fun _ _ => False) st := by
  have rc : codeAny (model pr wo) Ar (.call (.ref f) ⟨[.int (k : Int) t], []⟩) (fun r s' => ∃ u, r = .ok (.ret u) ∧ KeyNew (.int (ns.getD k 0)) st u s') st := by
    refine kla_callFunE hroom hf rfl co gn rfl hcd ?_
    rw [hb]
    refine wpAny_pure (wpAny_newFunctionEnv nc (fun z hz => ?_) (fun h1 hns hsb => ⟨lim.fresh _ hsb, ?_⟩) kd)
    · have e : z = (y, .int (k : Int) t) := List.mem_singleton.mp hz
      rw [e]
      exact ky
    have kp : ∀ c o, st.heap.get? c = some o → h1.get? c = some o := fun c o e => hsb.extBut c o (Nat.ne_of_lt (Heap.lt_size e)) (Heap.get?_push_of_some _ e)
    show codeAny _ _ (.expr _ (envX q scope st.heap.objs.size f (.ref c') cl)) _ _
    refine kla_codeExpr ?_
    refine Subscript_ (wpAny_Name (wpAny_loadName_free kd kx hcl (v := .ref b) (let ⟨o, ho, hd⟩ := hcell; ⟨o, kp _ _ ho, hd⟩) ?_ cx) dx)
    refine wpAny_Name ?_ dy
    refine wpAny_loadName_local (v := .int (k : Int) t) kd ky hns (by simp [List.lookup]) ?_
    have hl2 : h1.IsList b us.toArray := by
      obtain ⟨x, h, r⟩ := hls
      exact ⟨x, kp _ _ h, r⟩
    have hlen := hi.length
    have hu : ∃ t2, us[k]? = some (.int (ns.getD k 0) t2) := by
      have gen : ∀ {us : List Value} {ns : List Int} {k : Nat}, IntsAre us ns → k < ns.length → ∃ t2, us[k]? = some (.int (ns.getD k 0) t2) := by
        intro us ns k h
        induction h generalizing k with
        | nil => intro hk; exact absurd hk (Nat.not_lt_zero _)
        | cons n t2 r ih =>
          intro hk
          cases k with
          | zero => exact ⟨t2, rfl⟩
          | succ k => exact ih (Nat.lt_of_succ_lt_succ hk)
      exact gen hi hk
    obtain ⟨t2, hu⟩ := hu
    show wpAny _ _ (subscriptTail _ _ (.ref b) (.int (k : Int) t)) _ _ _
    have hk63 : (k : Int) < 2 ^ 63 := by
      have : sizeLine ≤ 2 ^ 62 := by decide
      omega
    refine tail_any (ops := [.ref b, .int (k : Int) t]) (T := "list") hl2.typeIs slot_list_getitem.lookup (wpAny_getItem_list hl2 (Int.natCast_nonneg _) hk63 (by simpa using hu) ?_) (by with_unfolding_all rfl)
    exact ⟨_, rfl, _, _, rfl, kp, [], .int _ _, fun c hc => (List.not_mem_nil hc).elim⟩
  refine wpAny_call (codeAny_mono rc fun r s' hq => ?_)
  obtain ⟨u, rfl, q⟩ := hq
  exact q
end
end
section
open PySem PySem.Spec PyProof.Rows L2 LamX PySem.W
theorem cr_range1 {X : Cx} : CallR X (.type "range") (fun vs H Q => ∃ j, vs = [V.int j] ∧ ∀ p, H p = none → Q (.ref p) (upd H p (.rng 0 j))) := by
  intro pins s σ H vs us Q I r h
  obtain ⟨j, rfl, q⟩ := h
  obtain ⟨u1, rfl, ri⟩ := vals1 r
  obtain ⟨t, rfl⟩ := ri
  refine call_range_1 ⟨.ref s.heap.objs.size, upd H s.heap.objs.size (.rng 0 j), I.laid (t' := s.toks + 1 + 1) (fun b o e => Heap.get?_push_of_some _ e) (Nat.le_refl _) ?_, rfl, q _ (I.hok.fresh (Nat.le_refl _))⟩
  exact ⟨s.toks, t, s.toks + 1, Heap.get?_push_size _ rfl⟩
theorem each_of {α β : Type} {R : α → β → Prop} : ∀ {l : List α} {ks : List β}, l.length = ks.length → (∀ (j : Nat) (v : α) (k : β), l[j]? = some v → ks[j]? = some k → R v k) → EachIs R l ks
  | [], [], _, _ => .nil
  | [], _ :: _, h, _ => nomatch h
  | _ :: _, [], h, _ => nomatch h
  | v :: l, k :: ks, h, f => .cons (f 0 v k rfl rfl) (each_of (Nat.succ.inj h) fun j v' k' a b => f (j + 1) v' k' a b)
def byItem (ns : List Int) : List Nat := (List.range ns.length).mergeSort fun x y => decide (ns.getD x 0 ≤ ns.getD y 0)
/-- sorted(range(len(xs)), key=lambda y: xs[y]), xs in slot j -/
def tByItem (K : PySem.W.Frag) (T : List (Addr × Str)) (j : Nat) (te : TE) : TE := fun σ H Q => te σ H fun v H1 => Tabs T H1 ∧ ∃ (a b : Addr) (ns : List Int), v = .ref a ∧ σ[j]? = some (some (.ref b)) ∧ H1 a = some (.rng 0 (ns.length : Nat)) ∧
  SqL K H1 b (ns.map V.int) ∧ ns.length ≤ 1000000 ∧ ∀ (H2 : Hp) (p : Addr), ExtN H1 H2 → Tabs T H2 → H2 p = none → Q (.ref p) (upd H2 p (.lst ((byItem ns).map fun k => V.int (k : Nat))))
theorem pe_byItem {X : Cx} {T : List (Addr × Str)} {c P : Addr} {j : Nat} {e : Expr} {te : TE} {xs y : Str} {params : Arguments} {scope : Scope} {p pos lpos kpos p1 p2 p4 : Pos} (hc : X.calm = true) (hg : Gl X "sorted") (hm : X.mg "sorted" = none) (ha : PA X [e] (tCons te tNil)) (TB : TabB X.base X.mg c P) (hcode : X.env.code = .ref c)
    (hmT : (P, X.env.qual ++ "<lambda>") ∈ T) (hu : ∀ p ∈ T, p.1 = P → p.2 = X.env.qual ++ "<lambda>") (hr : Room 3 X.A) (hN : X.N[j]? = some xs) (hcx : X.env.scope.names.lookup xs = some .cell)
    (hfree : ∀ z ∈ scope.names, z.2 = .free → z.1 = xs) (kd : scope.kind = .function) (co : scope.isCoroutine = false) (gn : scope.isGenerator = false) (ky : scope.names.lookup y = some .local) (kx : scope.names.lookup xs = some .free) (nc : ∀ z ∈ scope.names, z.2 ≠ .cell)
    (hdef : defaultsOf params X.env = ([], []))
    (hb : ∀ (q : Str) (cl : List (Str × Addr)) (pm cv ctv u : Value), bindArgs (PySem.W.kla_fn "<lambda>" q params (.Subscript (.Name xs p1) (.Name y p2) p4) scope cl pm cv ctv) ⟨[u], []⟩ = pure [(y, u)])
    (dx : (xs == ("__debug__" : Str)) = false := by decide) (cx : (xs == ("__classdict__" : Str)) = false := by decide) (dy : (y == ("__debug__" : Str)) = false := by decide)
    (he1 : backTo pos (starEach [e] X.env) = (false, eval e X.env) :: backTo pos (starEach [] X.env) := by rfl) (hpl : (backTo pos (starEach [e] X.env)).any (·.1) = false := by rfl) :
    PE X (.Call (.Name "sorted" p) [e] [⟨some "key", .Lambda params (.Subscript (.Name xs p1) (.Name y p2) p4) scope lpos, kpos⟩] pos) (tByItem X.K T j te) := by
  refine ⟨fun pins s σ H Q I h => ?_⟩
  refine wpAny_Call_Name_kw (ld_blt I hg hm (by rfl) ?_)
  have h2 : tCons te tNil σ H fun vs H1 => match vs with
      | [v] => Tabs T H1 ∧ ∃ (a b : Addr) (ns : List Int), v = .ref a ∧ σ[j]? = some (some (.ref b)) ∧ H1 a = some (.rng 0 (ns.length : Nat)) ∧
        SqL X.K H1 b (ns.map V.int) ∧ ns.length ≤ 1000000 ∧ ∀ (H2 : Hp) (p : Addr), ExtN H1 H2 → Tabs T H2 → H2 p = none → Q (.ref p) (upd H2 p (.lst ((byItem ns).map fun k => V.int (k : Nat))))
      | _ => False := h
  refine PyProof.Rows.callWith_kw (thn (ha.run pos pins s σ H _ I h2) fun us s1 ⟨vs, H1, I1, r1, hq⟩ => ?_) he1 hpl (by rfl) (by rfl)
  obtain ⟨v, rfl⟩ : ∃ v, vs = [v] := by
    match vs, hq with
    | [v], _ => exact ⟨v, rfl⟩
  obtain ⟨hT, a, b, ns, ea, hσ, hA, hB, hn, q⟩ := hq
  subst ea
  obtain ⟨u, rfl, ru⟩ := vals1 r1
  obtain rfl : u = Value.ref a := ru
  have hf1 : ∀ z ∈ scope.names, z.2 = .free → X.env.scope.names.lookup z.1 = some .cell := fun z hz e => by
    rw [hfree z hz e]
    exact hcx
  have hf2 : ∀ z ∈ scope.names, z.2 = .free → ∃ c, X.env.cells.lookup z.1 = some c := fun z hz e => I1.ok.has _ (.inl (hf1 z hz e))
  show wpAny _ _ (evalAll [(do let v ← eval (.Lambda params (.Subscript (.Name xs p1) (.Name y p2) p4) scope lpos) X.env; standAt pos; pure v)]) _ _ s1
  refine wpAny_evalAll_cons (wpAny_bind (lam_make2 I1 TB hcode hmT hu hT hdef hf2 fun f c' pm' ctv H2 s2 I2 eN T2 hf hfn hfr hco => wpAny_bind (wpAny_standAt (wpAny_pure (wpAny_evalAll_nil ?_)))))
  show wpAny _ _ (call (.builtin "sorted") [.ref a] [(Str.ofString "key", .ref f)]) _ _ s2
  have hA2 : H2 a = some (.rng 0 (ns.length : Nat)) := eN _ _ hA fun ps z => by cases z
  have hB2 := sql_ext hB eN
  obtain ⟨itB, rvB, lB, zB⟩ := I2.list hB2
  obtain ⟨m, hns, hl⟩ := I2.loc
  obtain ⟨w, rw1, lk⟩ := hl j xs (.ref b) hN hσ (.inr (.inl hcx))
  obtain rfl : w = Value.ref b := rw1
  obtain ⟨cc, hcc, hcell⟩ : ∃ cc, X.env.cells.lookup xs = some cc ∧ s2.heap.IsCell cc (some (.ref b)) := by
    rcases lk with ⟨z, _⟩ | ⟨_, z⟩
    · have z2 : X.env.scope.names.lookup xs = some .local := z
      rw [hcx] at z2
      cases z2
    · exact z
  have hmem : (xs, NameKind.free) ∈ scope.names := PySem.mem_of_lookup kx
  have hclo := NdefX.clo_has hf2 hmem hcc
  obtain ⟨⟨oc, fvs, tq, c1, c2, c3⟩, _, _⟩ := I2.hok c' _ hco
  have hiB : IntsAre itB ns := intsAre_of rvB
  have zB2 : ns.length ≤ sizeLine := by rw [List.length_map] at zB; exact zB
  obtain ⟨t1, t2, t3, hrg⟩ := I2.hok a _ hA2
  have hrs : Builtin.Range.rangeSize 0 (ns.length : Int) 1 = (ns.length : Int) := by
    rw [rangeSize_one]
    split <;> omega
  have hsm : Builtin.Range.small 0 (ns.length : Int) 1 = true := by
    refine small_one (by decide) (by decide) ?_ ?_
    · have : (0 : Int) ≤ (ns.length : Int) := Int.natCast_nonneg _
      have h0 : -(2 ^ 62 : Int) ≤ 0 := by decide
      omega
    · have h0 : (1000000 : Int) < 2 ^ 62 := by decide
      omega
  refine wpAny_mono (sorted_range (bs := List.range ns.length) (R := fun (v : Value) (k : Nat) => ∃ t, v = .int (k : Int) t) (fun k => .int (ns.getD k 0)) (I2.ok.hd hc) hrg hsm hrs (Nat.le_trans hn (by decide)) (fun acc hi => ?_) (AllAlike.of fun _ _ => by simp only [alike]) (Sortable.others fun k => ⟨(fun z => by cases z), (fun z1 z => by cases z)⟩) (by rw [List.length_range]; exact zB2) (fun x _ => ?_) (fun v x hv hx g t kg => ?_) fun out cN g t hm2 k1 k2 hD ho eo => ?_) (fun _ _ x => x) (fun _ _ x => x.elim)
  · refine each_of (by rw [Array.length_toList, hi.1, List.length_range]) fun j v k hv hk => ?_
    obtain ⟨t, e⟩ := hi.2 j v (by rw [← Array.getElem?_toList]; exact hv)
    have ek : j = k := by
      have hj : j < ns.length := by
        have := (List.getElem?_eq_some_iff.mp hk).1
        rw [List.length_range] at this
        exact this
      rw [List.getElem?_range hj] at hk
      exact Option.some.inj hk
    refine ⟨t, ?_⟩
    rw [e, ← ek, Int.mul_one, Int.zero_add]
  · have e : (PyData.int (ns.getD x 0)).depth = 0 := rfl
    have := hr.un
    omega
  · obtain ⟨tt, rfl⟩ := hv
    refine item_call (st := { s2 with heap := g, toks := t }) (kg _ _ hf) ⟨c', oc, fvs, tq, rfl, kg _ _ c1, c2, c3⟩ (I2.mod.nolimit.keeps fun b o e => kg _ _ (I2.bk _ _ e)) (by have := hr.dp; show X.A.depth < recursionLimit; omega) kd co gn ky kx nc (fun cl pm cv ctv => hb _ cl pm cv ctv _) hclo
      (let ⟨o, ho, hd⟩ := hcell; ⟨o, kg _ _ ho, hd⟩) (b := b) (us := itB) (let ⟨o, ho, hd⟩ := lB.isList; ⟨o, kg _ _ ho, hd⟩) hiB zB2 (List.mem_range.mp hx) dx cx dy
  · rw [dataLe_int (fun k => ns.getD k 0)] at eo
    have rvO : Vals ((byItem ns).map fun k => V.int (k : Nat)) out := vals_nats eo
    have I3 := I2.kept (t' := t) k1
    have nN : H2 hm2.objs.size = none := I3.hok.fresh (Nat.le_refl _)
    have I4 := I3.laid (t' := t) (o := .lst ((byItem ns).map fun k => V.int (k : Nat))) k2 (Nat.le_refl _) ⟨by rw [rvO.length, ho, List.length_range]; exact zB2, out, cN, rvO, hD⟩
    exact ⟨.ref _, _, I4, rfl, q _ _ eN T2 nN⟩
end
/-- a def of the module that may let InvalidLine out -/
def HasX (P : Program) (w : World) (K : PySem.W.Frag) (mg : Str → Option Value) (base : Heap) (k : Nat) (x : Str) (ps : List Str) (sp : Sp) : Prop :=
  ∃ f fd, FnOk P w K mg base (L2.CX P w) k f fd ps sp ∧ mg x = some (.ref f) ∧ PySem.W.keepIn K (.ref f) = true ∧ Binds K fd ps []
/-! ### the texts that are read -/
def NTo : List Str := ["symbols", "number"]
theorem scTextOf : FnScope NTo ["symbols"] (defScope sTextOf) := ⟨rfl, rfl, rfl, by decide +kernel, rfl, by decide +kernel, by decide +kernel⟩
theorem scSeqOf : FnScope ["last", "later", "sequence", "row", "_"] ["last"] (defScope sSeqOf) := ⟨rfl, rfl, rfl, by decide +kernel, rfl, by decide +kernel, by decide +kernel⟩
theorem scTTexts : FnScope ["last", "lengths", "sequence", "texts", "begin", "length"] ["last", "lengths"] (defScope sTTexts) := ⟨rfl, rfl, rfl, by decide +kernel, rfl, by decide +kernel, by decide +kernel⟩
def NTn : List Str := ["heads", "character_of", "names", "codes", "_", "character", "code"]
theorem scTNames : FnScope NTn ["heads"] (defScope sTNames) := ⟨rfl, rfl, rfl, by decide +kernel, rfl, by decide +kernel, by decide +kernel⟩
def KDI (K : PySem.W.Frag) (d : Addr) : Prop := ∀ c, Sg c → KDctI K d (sy c) (.str (T [c]))
theorem txt_le {rs : List Rf} {r : Nat} (h : r < rs.length) : (txt rs r).length < jl rs := by
  have h1 := bg_succ h
  have h2 := bg_mono (rs := rs) (show r + 1 ≤ rs.length by omega) (Nat.le_refl _)
  rw [bg_all, jn_len] at h2
  omega
theorem jl_many : ∀ rs : List Rf, rs.length ≤ jl rs
  | [] => Nat.zero_le _
  | r :: rs => by
    have := jl_many rs
    show rs.length + 1 ≤ r.2.length + 1 + jl rs
    omega
/-! the order by the last column -/
theorem sub_range : ∀ {n x y : Nat}, y < x → x < n → [y, x].Sublist (List.range n)
  | 0, _, _, _, h => absurd h (Nat.not_lt_zero _)
  | n + 1, x, y, h1, h2 => by
    rw [List.range_succ]
    by_cases c : x = n
    · have hy : [y].Sublist (List.range n) := List.singleton_sublist.mpr (List.mem_range.mpr (by omega))
      rw [c]
      exact hy.append (List.Sublist.refl [n])
    · exact (sub_range h1 (by omega)).trans (List.sublist_append_left _ _)
theorem sub_two : ∀ {l : List Nat} {x y : Nat}, l.Nodup → [x, y].Sublist l → [y, x].Sublist l → False
  | [], _, _, _, h, _ => nomatch h
  | a :: l, x, y, nd, h1, h2 => by
    rw [List.nodup_cons] at nd
    cases h1 with
    | cons _ h1 =>
      cases h2 with
      | cons _ h2 => exact sub_two nd.2 h1 h2
      | cons_cons _ h2 => exact nd.1 (h1.subset (by simp))
    | cons_cons _ h1 =>
      cases h2 with
      | cons _ h2 => exact nd.1 (h2.subset (by simp))
      | cons_cons _ h2 => exact nd.1 (h1.subset (by simp))
theorem byItem_perm (L : List Int) : (byItem L).Perm (List.range L.length) := List.mergeSort_perm _ _
theorem byItem_lex (L : List Int) : (byItem L).Pairwise (LexL L) := by
  have tr : ∀ a b c : Nat, decide (L.getD a 0 ≤ L.getD b 0) = true → decide (L.getD b 0 ≤ L.getD c 0) = true → decide (L.getD a 0 ≤ L.getD c 0) = true := fun a b c h1 h2 => decide_eq_true (Int.le_trans (of_decide_eq_true h1) (of_decide_eq_true h2))
  have to : ∀ a b : Nat, (decide (L.getD a 0 ≤ L.getD b 0) || decide (L.getD b 0 ≤ L.getD a 0)) = true := fun a b => by
    rw [Bool.or_eq_true, decide_eq_true_iff, decide_eq_true_iff]
    omega
  have pw := List.pairwise_mergeSort (le := fun x y : Nat => decide (L.getD x 0 ≤ L.getD y 0)) tr to (List.range L.length)
  have nd : (byItem L).Nodup := (byItem_perm L).nodup_iff.mpr List.nodup_range
  rw [List.pairwise_iff_forall_sublist] at pw ⊢
  intro x y hs
  have hle : L.getD x 0 ≤ L.getD y 0 := of_decide_eq_true (pw hs)
  by_cases c : L.getD x 0 < L.getD y 0
  · exact .inl c
  · have e : L.getD x 0 = L.getD y 0 := by omega
    refine .inr ⟨e, ?_⟩
    by_cases hxy : x < y
    · exact hxy
    · exfalso
      by_cases hxe : x = y
      · rw [hxe] at hs
        have := nd.sublist hs
        simp at this
      · have hx : x < L.length := List.mem_range.mp ((byItem_perm L).mem_iff.mp (hs.subset (by simp)))
        have hsr := sub_range (show y < x by omega) hx
        exact sub_two nd hs (List.pair_sublist_mergeSort tr to (decide_eq_true (by omega)) hsr)
section
variable {P : Program} {w : World} {K : PySem.W.Frag} {mg : Str → Option Value} {base : Heap}
def spTextOf (K : PySem.W.Frag) : Sp := fun vs H Q _ => ∃ (a : Addr) (l : List Nat), vs = [.ref a] ∧ SqL K H a ((l.map sy).map V.int) ∧ Dna l ∧ l.length ≤ 10000 ∧ ∀ H', Same H H' → Q (.str (T l)) H'
theorem ok_textof {f d : Addr} {fd : FuncData} {k : Nat} (F : Fun K "text_of" "text_of" sTextOf f fd) (gd : mg "_LETTER_OF" = some (.ref d)) (D : KDI K d) : FnOk P w K mg base CX0 (k + 1) f fd ["symbols"] (spTextOf K) := by
  refine F.ok scTextOf (fun vs H Q E h => ?_) (fun cdv A outer s H vs Q E hr h => ?_)
  · obtain ⟨a, l, rfl, _⟩ := h
    rfl
  · obtain ⟨a, l, rfl, ha, dl, ll, q⟩ := h
    refine ⟨_, (pss_one (ps_ret (pe_join pe_str (pe_lc (own := [("number", 1)]) (g := gName 1) (tt := tYes) (te := tOp (rIxDI K) (tC (.ref d)) (tVar 1)) (by rfl) scTextOf.nd (pi_list (pv 0)) (blkOk_by (own := [("number", 1)]) (N := NTo) (sc := defScope sTextOf) (by decide +kernel)) (fun _ _ _ _ _ => pg_name (i := 1) scTextOf.nd rfl (Or.inl rfl)) (fun _ _ _ _ _ => pts_nil) (fun _ _ _ _ _ => pe_ix (r := rIxDI K) ix_kdictI (pe_glob (v := .ref d) (by rfl) gd rfl) (pv 1) (fun _ _ => rfl)))))), ?_⟩
    refine ⟨⟨_, rfl⟩, .ref a, rfl, a, rfl, ⟨_, ha⟩, fun Dn hD => ?_⟩
    refine lc_list (K := K) (xs := (l.map sy).map V.int) (fun j H2 => Same H H2 ∧ H2 Dn = some (.lst (((l.take j).map fun c => T [c]).map V.str))) ⟨same_upd hD, upd_same⟩ (fun j H2 _ h => h.1.seq ha) ?_ ?_
    · rintro j y H2 hjy ⟨s2, hd⟩
      rw [List.getElem?_map, List.getElem?_map] at hjy
      obtain ⟨z, hz, rfl⟩ := Option.map_eq_some_iff.mp hjy
      obtain ⟨c, hc, rfl⟩ := Option.map_eq_some_iff.mp hz
      have hj : j < l.length := (List.getElem?_eq_some_iff.mp hc).1
      refine ⟨rfl, ?_⟩
      dsimp only [tYes]
      rw [if_pos rfl]
      refine ⟨.int (sy c), rfl, d, sy c, .str (T [c]), rfl, rfl, D c (dl c (List.mem_of_getElem? hc)), _, hd, line_ok6 (by rw [List.length_map, List.length_map, List.length_take]; omega), fun b o e => ?_, ?_⟩
      · rw [upd_ne (ne_of_none e hD)]
        exact s2 b o e
      · rw [upd_same, List.take_add_one, hc, List.map_append, List.map_append]
        rfl
    · rintro H2 ⟨s2, hd⟩
      rw [List.length_map, List.length_map, List.take_length] at hd
      refine ⟨Str.ofString "", Dn, l.map fun c => T [c], rfl, rfl, .inl (.inl (.inl hd)), ?_, ?_⟩
      · rw [sum_ones, show (Str.ofString "").length = 0 by decide +kernel]
        omega
      · rw [TL.join_eq, T_nil, join_ones]
        exact q H2 s2
def spSeqOf (K : PySem.W.Frag) (T : List (Addr × Str)) : Sp := fun vs H Q _ => ∃ (a : Addr) (ns : List Int), vs = [.ref a] ∧ SqL K H a ((lastc ns).map V.int) ∧ LamX.Tabs T H ∧ Ended ns ∧ 1 ≤ ns.length ∧ ns.length ≤ 4000 ∧ (∀ x ∈ lastc ns, 0 ≤ x) ∧ ∀ (H' : Hp) (p : Addr), Grow T H H' → H' p = some (LI ns) → Q (.ref p) H'
theorem ok_seqof {f c Pt : Addr} {fd : FuncData} {T : List (Addr × Str)} {k : Nat} (F : FunC K "_sequence_of" "_sequence_of" sSeqOf f c fd) (mlen : mg "len" = none) (mrange : mg "range" = none) (msort : mg "sorted" = none) (TB : LamX.TabB base mg c Pt) (hmT : (Pt, Str.ofString "_sequence_of.<locals>." ++ Str.ofString "<lambda>") ∈ T)
    (hu : ∀ p ∈ T, p.1 = Pt → p.2 = Str.ofString "_sequence_of.<locals>." ++ Str.ofString "<lambda>") : FnOk P w K mg base CX0 4 f fd ["last"] (spSeqOf K T) := by
  refine F.ok scSeqOf (fun vs H Q E h => ?_) (fun A outer s H vs Q E hr h => ?_)
  · obtain ⟨a, ns, rfl, _⟩ := h
    rfl
  · obtain ⟨a, ns, rfl, ha, hT, he, hn1, hn4, hlc, q⟩ := h
    refine ⟨_, (pss_cons (ps_set (i := 1) scSeqOf.nd rfl (.inl rfl) (pe_byItem (T := T) (j := 0) rfl (by rfl) msort (pa_cons (pe_callTy cr_range1 (by rfl) mrange (by decide +kernel) (pa_cons (pe_callB call_len_seq (by rfl) mlen PySem.boot_len (pa_cons (pv 0) pa_nil)) pa_nil)) pa_nil) TB rfl hmT hu hr rfl rfl (by decide +kernel) rfl rfl rfl rfl rfl (by decide +kernel) rfl (fun _ _ _ _ _ _ => rfl)))
      (pss_cons (ps_set (i := 2) scSeqOf.nd rfl (.inl rfl) (pe_lst pa_nil))
      (pss_cons (ps_set (i := 3) scSeqOf.nd rfl (.inl rfl) pe_int)
      (pss_cons (ps_for PassesOwn.never rfl (pi_list (pv 1)) (pg_name (i := 4) scSeqOf.nd rfl (.inl rfl))
        (pss_cons (ps_set (i := 3) scSeqOf.nd rfl (.inl rfl) (pe_ix ix_list (pv 1) (pv 3) (fun _ _ => rfl)))
      (pss_one (ps_expr (pe_bm PySem.F.plainAttrs_list PySem.F.slot_list_append PySem.F.type_list_append mt_append (pv 2) (pa_cons (pe_ix ix_list (pv 0) (pe_ix ix_list (pv 1) (pv 3) (fun _ _ => rfl)) (fun _ _ => rfl)) pa_nil))))))
      (pss_one (ps_ret (pv 2))))))), ?_⟩
    have hll := lastc_len ns
    have hlm : ((lastc ns).map V.int).length = ns.length := by rw [List.length_map, hll]
    refine ⟨.ref a, rfl, a, _, rfl, .inl ha, (((lastc ns).map V.int).length : Nat), rfl, fun pr hpr => ?_⟩
    have sr := same_upd (o := .rng 0 (((lastc ns).map V.int).length : Nat)) hpr
    refine ⟨tabs_same hT sr, pr, a, lastc ns, rfl, rfl, by rw [upd_same, List.length_map], sr.seq ha, by omega, fun H2 p eN T2 hp => ?_⟩
    have hz : (byItem (lastc ns)).length = ns.length := by
      rw [(byItem_perm _).length_eq, List.length_range, hll]
    obtain ⟨lat, hlat⟩ : ∃ lat, lat = byItem (lastc ns) := ⟨_, rfl⟩
    have hL : Lat ns lat := by
      rw [hlat]
      exact lat_of hlc (by have := byItem_perm (lastc ns); rw [hll] at this; exact this) (byItem_lex _)
    rw [← hlat] at hz ⊢
    obtain ⟨H3, hH3⟩ : ∃ H3, H3 = upd H2 p (.lst (lat.map fun k => V.int (k : Nat))) := ⟨_, rfl⟩
    rw [← hH3]
    have h3 : H3 p = some (.lst (lat.map fun k => V.int (k : Nat))) := by rw [hH3, upd_same]
    have g02 : Grow T H H2 := ⟨fun b o e n => eN b o (sr _ _ e) n, T2⟩
    have g03 : Grow T H H3 := by rw [hH3]; exact g02.same (same_upd hp)
    have ha3 := g03.sq ha
    refine ⟨Nat.zero_le _, fun ps hps => ?_⟩
    have nps : p ≠ ps := ne_of_none h3 hps
    have s4 := same_upd (o := .lst []) hps
    refine ⟨.ref p, rfl, p, rfl, ⟨_, .inl (.inl (s4 _ _ h3))⟩, ?_⟩
    refine for_list (K := K) (xs := lat.map fun k => V.int (k : Nat)) (fun i σ H' => Same H3 H' ∧ H' ps = some (LI (ns.take i)) ∧ ∃ v4 : Option V, σ = [some (.ref a), some (.ref p), some (.ref ps), some (.int (walk lat i : Nat)), v4]) ⟨s4, upd_same, none, rfl⟩ (fun i σ H' _ h => .inl (.inl (h.1 _ _ h3))) ?_ ?_
    · rintro i v σ H' hv ⟨s5, hps5, v4, rfl⟩
      have hi : i < ns.length := by
        have := (List.getElem?_eq_some_iff.mp hv).1
        rw [List.length_map] at this
        omega
      have hp5 := s5 _ _ h3
      have ws := walk_start he hn1 hL i (by omega)
      have wl : walk lat i < lat.length := by
        have := (List.getElem?_eq_some_iff.mp ws).1
        rw [starts_len] at this
        omega
      have e1 : lat[walk lat i]? = some (walk lat (i + 1)) := by
        show _ = some (lat.getD (walk lat i) 0)
        rw [List.getD_eq_getElem?_getD, List.getElem?_eq_getElem wl]
        rfl
      obtain ⟨r, e2, e3⟩ := walk_sym he hn1 hL hi
      have e4 : ((lastc ns).map V.int)[r]? = some (.int ns[i]) := by
        rw [List.getElem?_map, e3, List.getElem?_eq_getElem hi]
        rfl
      refine ⟨.ref p, rfl, .int (walk lat i : Nat), rfl, p, _, _, .int (walk lat (i + 1) : Nat), rfl, rfl, .inl (.inl hp5), atI_nat (by rw [List.getElem?_map, e1]; rfl), ?_⟩
      refine ⟨.ref ps, rfl, .inl ⟨rfl, _, .inl (.inl hps5)⟩, .ref a, rfl, .ref p, rfl, .int (walk lat (i + 1) : Nat), rfl, p, _, _, .int (r : Nat), rfl, rfl, .inl (.inl hp5), atI_nat (by rw [List.getElem?_map, e2]; rfl), a, _, _, .int ns[i], rfl, rfl, s5.seq ha3, atI_nat e4, ?_⟩
      refine ⟨ps, _, _, rfl, rfl, hps5, line_ok7 (by rw [List.length_map, List.length_take]; omega), fun b o e => ?_, ?_, _, rfl⟩
      · rw [upd_ne (ne_of_none e hps)]
        exact s5 b o e
      · rw [upd_same, List.take_add_one, List.getElem?_eq_getElem hi, Option.toList_some]
        exact congrArg some (LI_snoc _ _).symm
    · rintro σ H' ⟨s5, hps5, v4, rfl⟩
      rw [List.length_map, hz, List.take_length] at hps5
      exact ⟨.ref ps, rfl, q H' ps (g03.same s5) hps5⟩
/-- the texts that follow one another in the sequence -/
def spTTexts (K : PySem.W.Frag) (T : List (Addr × Str)) : Sp := fun vs H Q _ => ∃ (a al : Addr) (rs : List Rf), vs = [.ref a, .ref al] ∧ SqL K H a ((lastc (jn rs)).map V.int) ∧ SqL K H al (rs.map fun r => V.int (r.2.length : Nat)) ∧ LamX.Tabs T H ∧ 1 ≤ rs.length ∧ (∀ r ∈ rs, Dna r.2) ∧ jl rs ≤ 4000 ∧
  ∀ (H' : Hp) (p : Addr), Grow T H H' → H' p = some (.lst (rs.map fun r => V.str (Hr.T r.2))) → Q (.ref p) H'
theorem jn_seg {rs : List Rf} {k : Nat} {r : Rf} (h : rs[k]? = some r) : ((jn rs).drop (bg rs k)).take r.2.length = r.2.map sy := by
  have hk : k < rs.length := (List.getElem?_eq_some_iff.mp h).1
  have e : txt rs k = r.2 := by
    have := txt_at hk
    rw [List.getElem?_map, h] at this
    exact (Option.some.inj this).symm
  obtain ⟨A, s, B, e1, e2, _⟩ := jn_split hk
  rw [e1, ← e2, List.drop_left, e, ← List.length_map (f := sy), List.take_left]
theorem ok_ttexts {f : Addr} {fd : FuncData} {T : List (Addr × Str)} (F : Fun K "_told_texts" "_told_texts" sTTexts f fd) (hSO : Has P w K mg base 4 "_sequence_of" ["last"] (spSeqOf K T)) (hTO : Has P w K mg base 2 "text_of" ["symbols"] (spTextOf K)) :
    FnOk P w K mg base CX0 5 f fd ["last", "lengths"] (spTTexts K T) := by
  obtain ⟨fSO, dSO, GSO, gSO, kSO, bSO⟩ := hSO
  obtain ⟨fTO, dTO, GTO, gTO, kTO, bTO⟩ := hTO
  refine F.ok scTTexts (fun vs H Q E h => ?_) (fun cdv A outer s H vs Q E hr h => ?_)
  · obtain ⟨a, al, rs, rfl, _⟩ := h
    rfl
  · obtain ⟨a, al, rs, rfl, ha, hal, hT, hl1, hd, hj, q⟩ := h
    have hr4 : Room 4 _ := hr
    have hr2 : Room 2 _ := hr.mono (by omega)
    refine ⟨_, (C8.pss_cut (ps_set (i := 2) scTTexts.nd rfl (.inl rfl) (pe_call GSO hr4 (by rfl) gSO kSO bSO .nil pass0 (pa_cons (pv 0) pa_nil)))
      (pss_cons (ps_set (i := 3) scTTexts.nd rfl (.inl rfl) (pe_lst pa_nil))
      (pss_cons (ps_set (i := 4) scTTexts.nd rfl (.inl rfl) pe_int)
      (pss_cons (ps_for PassesOwn.never rfl (pi_list (pv 1)) (pg_name (i := 5) scTTexts.nd rfl (.inl rfl))
        (pss_cons (ps_expr (pe_bm PySem.F.plainAttrs_list PySem.F.slot_list_append PySem.F.type_list_append mt_append (pv 3) (pa_cons (pe_call GTO hr2 (by rfl) gTO kTO bTO .nil pass0 (pa_cons (pe_slice sl_list (pv 2) (po_some (pv 4)) (po_some (pe_op op_add (pv 4) (pv 5)))) pa_nil)) pa_nil)))
      (pss_one (ps_aug (i := 4) scTTexts.nd rfl (.inl rfl) (pe_op op_add (pv 5) pe_int) ip_add))))
      (pss_one (ps_ret (pv 3))))))), ?_⟩
    have hjl := jn_len rs
    have hjm := jl_many rs
    refine ⟨fun σ H1 => Grow T H H1 ∧ ∃ p, H1 p = some (LI (jn rs)) ∧ σ = [some (.ref a), some (.ref al), some (.ref p), none, none, none], ?_, ?_⟩
    · exact ⟨.ref a, rfl, a, jn rs, rfl, ha, hT, jn_ended hl1 hd, by rw [hjl]; exact jl_pos hl1, by omega, fun x hx => (lastc_num hd x hx).1, fun H1 p g1 hp => ⟨g1, p, hp, rfl⟩⟩
    rintro σ H1 ⟨g1, p, hp, rfl⟩
    refine ⟨Nat.zero_le _, fun ps hps => ?_⟩
    have nps : p ≠ ps := ne_of_none hp hps
    have s2 := same_upd (o := .lst []) hps
    have hal1 := g1.sq hal
    refine ⟨.ref al, rfl, al, rfl, ⟨_, s2.seq hal1⟩, ?_⟩
    refine for_list (K := K) (xs := rs.map fun r => V.int (r.2.length : Nat)) (fun i σ H' => Same H1 H' ∧ H' ps = some (.lst ((rs.take i).map fun r => V.str (Hr.T r.2))) ∧ ∃ v5 : Option V, σ = [some (.ref a), some (.ref al), some (.ref p), some (.ref ps), some (.int (bg rs i : Nat)), v5]) ⟨s2, upd_same, none, rfl⟩ (fun i σ H' _ h => h.1.seq hal1) ?_ ?_
    · rintro i v σ H' hv ⟨s3, h3, v5, rfl⟩
      rw [List.getElem?_map] at hv
      obtain ⟨r, hr0, rfl⟩ := Option.map_eq_some_iff.mp hv
      have hi : i < rs.length := (List.getElem?_eq_some_iff.mp hr0).1
      have hp3 := s3 _ _ hp
      have hrm := List.mem_of_getElem? hr0
      have er : txt rs i = r.2 := by
        have := txt_at hi
        rw [List.getElem?_map, hr0] at this
        exact (Option.some.inj this).symm
      have hrl : r.2.length ≤ 4000 := by
        have := txt_le hi
        rw [er] at this
        omega
      refine ⟨.ref ps, rfl, .inl ⟨rfl, _, .inl (.inl h3)⟩, .ref p, rfl, .int (bg rs i : Nat), rfl, bg rs i, rfl, .int (bg rs i : Nat), rfl, .int (r.2.length : Nat), rfl, _, _, rfl, rfl, _, rfl, p, _, rfl, .inl (.inl hp3), fun pc hpc => ?_⟩
      have ec : L2.cutV ((jn rs).map V.int) (some (bg rs i : Nat)) (some ((bg rs i : Nat) + (r.2.length : Nat))) = (r.2.map sy).map V.int := by
        rw [cutV_any, ← List.map_drop, ← List.map_take, jn_seg hr0]
      have sc := same_upd (o := .lst (L2.cutV ((jn rs).map V.int) (some (bg rs i : Nat)) (some ((bg rs i : Nat) + (r.2.length : Nat))))) hpc
      refine ⟨pc, r.2, rfl, .inl (.inl (by rw [upd_same, ec])), hd r hrm, by omega, fun H4 s4 => ?_⟩
      have h4 := s4 _ _ (sc _ _ h3)
      refine ⟨ps, _, _, rfl, rfl, h4, line_ok7 (by rw [List.length_map, List.length_take]; omega), ?_⟩
      refine ⟨.int (bg rs i : Nat), rfl, .int (r.2.length : Nat), rfl, _, 1, rfl, rfl, _, _, rfl, rfl, fun b o e => ?_, ?_, some (.int (r.2.length : Nat)), ?_⟩
      · rw [upd_ne (ne_of_none e hps)]
        exact s4 _ _ (sc _ _ (s3 _ _ e))
      · rw [upd_same, List.take_add_one, hr0, Option.toList_some, List.map_append]
        rfl
      · rw [bg_succ hi, er]
        rfl
    · rintro σ H' ⟨s3, h3, v5, rfl⟩
      rw [List.length_map, List.take_length] at h3
      exact ⟨.ref ps, rfl, q H' ps (g1.same s3) h3⟩
/-- heads: the codes of a name, and how long the text is -/
def Heads (K : PySem.W.Frag) (H : Hp) : List V → List (List Int × Nat) → Prop := Paired fun z r => ∃ q qa, z = .ref q ∧ H q = some (.tup [.ref qa, .int (r.2 : Nat)]) ∧ H qa = some (LI r.1)
theorem Heads.keep {K : PySem.W.Frag} {H H' : Hp} {xs : List V} {hs : List (List Int × Nat)} (h : Heads K H xs hs) (k1 : ∀ q ys, H q = some (.tup ys) → H' q = some (.tup ys)) (k2 : ∀ q (ns : List Int), H q = some (LI ns) → H' q = some (LI ns)) : Heads K H' xs hs := Paired.mapP h fun _ _ ⟨q, qa, e, h1, h2⟩ => ⟨q, qa, e, k1 _ _ h1, k2 _ _ h2⟩
theorem Heads.same {K : PySem.W.Frag} {H H' : Hp} {xs : List V} {hs : List (List Int × Nat)} (h : Heads K H xs hs) (s : Same H H') : Heads K H' xs hs := h.keep (fun _ _ e => s _ _ e) fun _ _ e => s _ _ e
def codesOf (r : Rf) : List Int := r.1.map fun c : Nat => (c : Int)
def spTNames (K : PySem.W.Frag) : Sp := fun vs H Q _ => ∃ (a : Addr) (xs : List V) (rs : List Rf), vs = [.ref a] ∧ SqL K H a xs ∧ Heads K H xs (rs.map fun r => (codesOf r, r.2.length)) ∧ rs.length ≤ 4000 ∧ (∀ r ∈ rs, r.1.length ≤ 40 ∧ ∀ c ∈ r.1, c ∈ ncl) ∧
  ∀ (H' : Hp) (p : Addr), Same H H' → H p = none → H' p = some (.lst (rs.map fun r => V.str (Hr.T r.1))) → Q (.ref p) H'
theorem ok_tnames {f : Addr} {fd : FuncData} {k : Nat} {tN : Tok} (F : Fun K "_told_names" "_told_names" sTNames f fd) (mord : mg "ord" = none) (gN : mg "NAME_CHARACTERS" = some (.str (Str.ofString "0123456789ABCDEFGHIJKLMNOPQRSTUVWXYZabcdefghijklmnopqrstuvwxyz") tN)) : FnOk P w K mg base CX0 (k + 1) f fd ["heads"] (spTNames K) := by
  refine F.ok scTNames (fun vs H Q E h => ?_) (fun cdv A outer s H vs Q E hr h => ?_)
  · obtain ⟨a, xs, rs, rfl, _⟩ := h
    rfl
  · obtain ⟨a, xs, rs, rfl, ha, hh, hrl, hg, q⟩ := h
    refine ⟨_, (C8.pss_cut (ps_set (i := 1) scTNames.nd rfl (.inr rfl) (pe_dc (own := [("character", 5)]) (g := gName 5) (tt := tYes) (tk := tCB rOrd (tCons (tVar 5) tNil)) (tv := tVar 5) (by rfl) scTNames.nd (pi_str (pe_glob (v := .str (Str.ofString "0123456789ABCDEFGHIJKLMNOPQRSTUVWXYZabcdefghijklmnopqrstuvwxyz")) (by rfl) gN ⟨_, rfl⟩)) (blkOk_by (own := [("character", 5)]) (N := NTn) (sc := defScope sTNames) (by decide +kernel)) (fun _ _ _ _ _ => pg_name (i := 5) scTNames.nd rfl (Or.inl rfl)) (fun _ _ _ _ _ => pts_nil) (fun _ _ _ _ _ => pe_callB (r := rOrd) call_ord (by rfl) mord (by decide +kernel) (pa_cons (pv 5) pa_nil)) (fun _ _ _ _ _ => pv 5)))
      (pss_cons (ps_set (i := 2) scTNames.nd rfl (.inl rfl) (pe_lst pa_nil))
      (pss_cons (ps_for PassesOwn.never rfl (pi_list (pv 0)) (pg_tup rfl (pgs_cons (pg_name (i := 3) scTNames.nd rfl (.inl rfl)) (pgs_cons (pg_name (i := 4) scTNames.nd rfl (.inl rfl)) pgs_nil)))
        (pss_one (ps_expr (pe_bm PySem.F.plainAttrs_list PySem.F.slot_list_append PySem.F.type_list_append mt_append (pv 2) (pa_cons (pe_join pe_str (pe_lc (own := [("code", 6)]) (g := gName 6) (tt := tYes) (te := tDGet (tVar 1) (tVar 6)) (by rfl) scTNames.nd (pi_list (pv 3)) (blkOk_by (own := [("code", 6)]) (N := NTn) (sc := defScope sTNames) (by decide +kernel)) (fun _ _ _ _ _ => pg_name (i := 6) scTNames.nd rfl (Or.inl rfl)) (fun _ _ _ _ _ => pts_nil) (fun _ _ _ _ _ => pe_dget (hu_of hr) (pv 1) (pv 6) (fun _ _ => rfl)))) pa_nil)))))
      (pss_one (ps_ret (pv 2)))))), ?_⟩
    refine ⟨fun σ H1 => Same H H1 ∧ ∃ (D : Addr) (kvs : List (Key × V)), H1 D = some (.dK kvs) ∧ (∀ c, c ∈ ncl → valV kvs (.inl (c : Int)) = some (.str (Hr.T [c]))) ∧ σ = [some (.ref a), some (.ref D), none, none, none, none, none], ?_, ?_⟩
    · refine ⟨T ncl, by rw [← ncl_text], fun D hD => ?_⟩
      refine dc_gen (n := ncl.length) (fun i H' => Same H H' ∧ ∃ kvs : List (Key × V), H' D = some (.dK kvs) ∧ kvs.length ≤ i ∧ ∀ c, c ∈ ncl.take i → valV kvs (.inl (c : Int)) = some (.str (Hr.T [c]))) ⟨same_upd hD, [], upd_same, Nat.zero_le _, fun c hc => (List.not_mem_nil hc).elim⟩ ?_ ?_ ?_ ?_
      · intro i H' hi _
        show i < (Str.ofString "0123456789ABCDEFGHIJKLMNOPQRSTUVWXYZabcdefghijklmnopqrstuvwxyz").cps.size
        rw [ncl_text, T_size]
        exact hi
      · intro H' _
        show (Str.ofString "0123456789ABCDEFGHIJKLMNOPQRSTUVWXYZabcdefghijklmnopqrstuvwxyz").cps.size ≤ ncl.length
        rw [ncl_text, T_size]
        exact Nat.le_refl _
      · rintro i H' x H2 hi ⟨sm, kvs, hk, hkl, hv⟩ ⟨rfl, c, hc, rfl⟩
        rw [T_at] at hc
        have hnl := ncl_len
        refine ⟨rfl, ?_⟩
        dsimp only [tYes]
        rw [if_pos rfl]
        refine ⟨.str ⟨#[c]⟩, rfl, ⟨#[c]⟩, rfl, rfl, .str ⟨#[c]⟩, rfl, kvs, .inl (c : Int), rfl, hk, line_ok (by omega), fun b o e => ?_, _, upd_same, ?_, fun d hdm => ?_⟩
        · rw [upd_ne (ne_of_none e hD)]
          exact sm b o e
        · have := length_putK kvs (.inl (c : Int)) (.str ⟨#[c]⟩)
          omega
        · rw [valV_put]
          by_cases e : (Sum.inl (d : Int) : Key) = .inl (c : Int)
          · rw [if_pos e]
            have : (d : Int) = (c : Int) := Sum.inl.inj e
            have : d = c := by omega
            rw [this]
            rfl
          · rw [if_neg e]
            rw [List.take_add_one, hc] at hdm
            rcases List.mem_append.mp hdm with z | z
            · exact hv d z
            · obtain rfl : d = c := by simpa using z
              exact absurd rfl e
      · rintro H' ⟨sm, kvs, hk, hkl, hv⟩
        rw [List.take_length] at hv
        exact ⟨sm, D, kvs, hk, hv, rfl⟩
    rintro σ H1 ⟨s1, D, kvs, hk1, hv, rfl⟩
    refine ⟨Nat.zero_le _, fun ps hps => ?_⟩
    have s2 := s1.trans (same_upd (o := .lst []) hps)
    have hh2 := hh.same s2
    have hxl : xs.length = rs.length := by
      have := paired_len hh
      rw [List.length_map] at this
      exact this
    have nDs : D ≠ ps := ne_of_none hk1 hps
    have hps0 : H ps = none := s1.free hps
    refine ⟨.ref a, rfl, a, rfl, ⟨_, s2.seq ha⟩, ?_⟩
    refine for_list (K := K) (xs := xs) (fun i σ H' => Same H H' ∧ H' D = some (.dK kvs) ∧ H' ps = some (.lst ((rs.take i).map fun r => V.str (Hr.T r.1))) ∧ ∃ v3 v4 : Option V, σ = [some (.ref a), some (.ref D), some (.ref ps), v3, v4, none, none]) ⟨s2, by rw [upd_ne nDs]; exact hk1, upd_same, none, none, rfl⟩ (fun i σ H' _ h => h.1.seq ha) ?_ ?_
    · rintro i v σ H' hv' ⟨s3, hk3, h3, v3, v4, rfl⟩
      obtain ⟨r', hr0, q1, qa, rfl, hq1, hqa⟩ := paired_get (hh.same s3) hv'
      rw [List.getElem?_map] at hr0
      obtain ⟨r, hr1, rfl⟩ := Option.map_eq_some_iff.mp hr0
      clear hr0
      have hr0 := hr1
      have hi : i < rs.length := (List.getElem?_eq_some_iff.mp hr0).1
      obtain ⟨hr40, hrn⟩ := hg r (List.mem_of_getElem? hr0)
      refine ⟨q1, _, rfl, .inl (.inl hq1), rfl, _, _, rfl, _, _, rfl, rfl, ?_⟩
      refine ⟨.ref ps, rfl, .inl ⟨rfl, _, .inl (.inl h3)⟩, ⟨_, rfl⟩, .ref qa, rfl, qa, rfl, ⟨_, .inl (.inl hqa)⟩, fun Dl hDl => ?_⟩
      refine lc_list (K := K) (xs := (codesOf r).map V.int) (fun j H2 => Same H' H2 ∧ H2 Dl = some (.lst (((r.1.take j).map fun c => T [c]).map V.str))) ⟨same_upd hDl, upd_same⟩ (fun j H2 _ h => .inl (.inl (h.1 _ _ hqa))) ?_ ?_
      · rintro j y H2 hjy ⟨s4, hd⟩
        unfold codesOf at hjy
        rw [List.getElem?_map, List.getElem?_map] at hjy
        obtain ⟨z, hz, rfl⟩ := Option.map_eq_some_iff.mp hjy
        obtain ⟨c, hc, rfl⟩ := Option.map_eq_some_iff.mp hz
        have hj : j < r.1.length := (List.getElem?_eq_some_iff.mp hc).1
        refine ⟨rfl, ?_⟩
        dsimp only [tYes]
        rw [if_pos rfl]
        have g := DGet.k (k := .inl (c : Int)) (s4 _ _ hk3)
        rw [hv c (hrn c (List.mem_of_getElem? hc))] at g
        refine ⟨.ref D, rfl, .int (c : Int), rfl, D, .str (Hr.T [c]), rfl, g, _, hd, line_ok6 (by rw [List.length_map, List.length_map, List.length_take]; omega), fun b o e => ?_, ?_⟩
        · rw [upd_ne (ne_of_none e hDl)]
          exact s4 b o e
        · rw [upd_same, List.take_add_one, hc, List.map_append, List.map_append]
          rfl
      · rintro H2 ⟨s4, hd⟩
        have ecl : ((codesOf r).map V.int).length = r.1.length := by unfold codesOf; rw [List.length_map, List.length_map]
        rw [ecl, List.take_length] at hd
        have h4 := s4 _ _ h3
        refine ⟨Str.ofString "", Dl, r.1.map fun c => T [c], rfl, rfl, .inl (.inl (.inl hd)), ?_, ?_⟩
        · rw [sum_ones, show (Str.ofString "").length = 0 by decide +kernel]
          omega
        · rw [TL.join_eq, T_nil, join_ones]
          refine ⟨ps, _, _, rfl, rfl, h4, line_ok7 (by rw [List.length_map, List.length_take]; omega), ext_same (s3.trans s4) hps0, ?_, ?_, _, _, rfl⟩
          · rw [upd_ne nDs]
            exact s4 _ _ hk3
          · rw [upd_same, List.take_add_one, hr0, Option.toList_some, List.map_append]
            rfl
    · rintro σ H' ⟨s3, hk3, h3, v3, v4, rfl⟩
      rw [hxl, List.take_length] at h3
      exact ⟨.ref ps, rfl, q H' ps s3 hps0 h3⟩
end
/-! ### bytes back -/
theorem bn_be : ∀ c n : Nat, bn (be c n) = ((n % 256 ^ c : Nat) : Int)
  | 0, n => by
    rw [Nat.pow_zero, Nat.mod_one]
    rfl
  | c + 1, n => by
    have key : ∀ (l : List Int) (a : Int), l.foldl (fun a x => a * 256 + x) a = a * 256 ^ l.length + l.foldl (fun a x => a * 256 + x) 0 := by
      intro l
      induction l with
      | nil =>
        intro a
        show a = a * 256 ^ 0 + 0
        omega
      | cons x r ih =>
        intro a
        rw [List.foldl_cons, List.foldl_cons, ih (a * 256 + x), ih (0 * 256 + x), List.length_cons, Int.pow_succ, Int.zero_mul, Int.zero_add, Int.add_mul, Int.mul_assoc, Int.mul_comm 256, Int.add_assoc]
    have ih := bn_be c n
    unfold bn at ih ⊢
    show (be c n).foldl (fun a x => a * 256 + x) (0 * 256 + ((n / 256 ^ c % 256 : Nat) : Int)) = _
    rw [key, ih, be_len, Int.zero_mul, Int.zero_add]
    have e2 : (n / 256 ^ c % 256) * 256 ^ c + n % 256 ^ c = n % 256 ^ (c + 1) := by
      rw [Nat.pow_succ, Nat.mod_mul, Nat.mul_comm, Nat.add_comm]
    rw [← e2, Int.natCast_add, Int.natCast_mul, Int.natCast_pow]
    rfl
theorem bn_be4 {n : Nat} (h : n < 4294967296) : bn (be 4 n) = (n : Int) := by
  rw [bn_be, Nat.mod_eq_of_lt (Nat.lt_of_lt_of_le h (by decide))]
/-! ### what the bytes tell -/
def nAt (d : List Int) (a c : Nat) : Nat := (bnN ((d.drop a).take c)).toNat
theorem nAt_val {d : List Int} (hb : Byt d) (a c : Nat) : bnN ((d.drop a).take c) = (nAt d a c : Int) := by
  have h := bn_bound (l := (d.drop a).take c) fun x hx => hb x (List.mem_of_mem_drop (List.mem_of_mem_take hx))
  unfold nAt
  show bn ((d.drop a).take c) = ((bn ((d.drop a).take c)).toNat : Int)
  rw [Int.toNat_of_nonneg h.1]
theorem nAt_lt {d : List Int} (hb : Byt d) (a c : Nat) : nAt d a c < 256 ^ c := by
  have h := (bn_bound (l := (d.drop a).take c) fun x hx => hb x (List.mem_of_mem_drop (List.mem_of_mem_take hx)))
  have h2 : ((d.drop a).take c).length ≤ c := List.length_take_le _ _
  have h3 : (256 : Int) ^ ((d.drop a).take c).length ≤ 256 ^ c := by
    have := Nat.pow_le_pow_right (show 0 < 256 by decide) h2
    have h4 : ((256 ^ ((d.drop a).take c).length : Nat) : Int) ≤ ((256 ^ c : Nat) : Int) := Int.ofNat_le.mpr this
    rw [Int.natCast_pow, Int.natCast_pow] at h4
    exact h4
  have h5 : ((256 ^ c : Nat) : Int) = 256 ^ c := by rw [Int.natCast_pow]; rfl
  have h6 : bnN ((d.drop a).take c) < 256 ^ c := Int.lt_of_lt_of_le h.2 h3
  have h7 : 0 ≤ bnN ((d.drop a).take c) := h.1
  unfold nAt
  omega
def ffs : List Int := [72, 82, 1]
def headOk (d : List Int) : Prop := ∀ i, i < min d.length 3 → d.getD i 0 = ffs.getD i 0
def bAt (d : List Int) (p : Nat) : Nat := (d.getD p 0).toNat
def hpos (d : List Int) : Nat → Nat
  | 0 => 9
  | i + 1 => hpos d i + 1 + bAt d (hpos d i) + 4
def hnm (d : List Int) (i : Nat) : List Int := (d.drop (hpos d i + 1)).take (bAt d (hpos d i))
def hln (d : List Int) (i : Nat) : Nat := nAt d (hpos d i + 1 + bAt d (hpos d i)) 4
def mAt (d : List Int) : Nat := nAt d 7 2
def szT (d : List Int) : Nat := ((List.range (mAt d)).map (hln d)).sum + mAt d
def sAt (d : List Int) : Nat := hpos d (mAt d) + (szT d + 1) / 2
def eAt (d : List Int) : Nat := sAt d + 4 * ((szT d + nAt d 5 2 - 1) / nAt d 5 2)
open Classical in
noncomputable def vdt (d : List Int) : Nat :=
  if ¬ headOk d then 1 else if d.length < 9 then 2 else if nAt d 3 2 = 0 ∨ nAt d 5 2 = 0 ∨ mAt d = 0 then 3 else if ∃ i, i < mAt d ∧ d.length ≤ hpos d i then 2 else
    if d.length < eAt d + 4 then 2 else if eAt d + 4 < d.length ∨ bnN ((d.drop (eAt d)).take 4) ≠ sumOf (d.take (eAt d)) then 3 else 0
theorem read_mid {A B C : List Int} {p k : Nat} (hp : A.length = p) (hk : B.length = k) : ((A ++ (B ++ C)).drop p).take k = B := by
  rw [← hp, List.drop_left, ← hk, List.take_left]
theorem bnN_be {c n : Nat} (h : n < 256 ^ c) : bnN (be c n) = (n : Int) := by
  show bn (be c n) = _
  rw [bn_be, Nat.mod_eq_of_lt h]
theorem nAt_be {A C d : List Int} {p c n : Nat} (hp : A.length = p) (e : d = A ++ (be c n ++ C)) (h : n < 256 ^ c) : nAt d p c = n := by
  unfold nAt
  rw [e, read_mid hp (be_len c n), bnN_be h, Int.toNat_natCast]
theorem flat_split {rs : List Rf} {i : Nat} {r : Rf} (h : rs[i]? = some r) : rs.flatMap refB = (rs.take i).flatMap refB ++ (refB r ++ (rs.drop (i + 1)).flatMap refB) := by
  have e : rs = rs.take i ++ (r :: rs.drop (i + 1)) := by
    obtain ⟨hi, e⟩ := List.getElem?_eq_some_iff.mp h
    rw [← e, ← List.drop_eq_getElem_cons hi, List.take_append_drop]
  conv => lhs; rw [e]
  rw [List.flatMap_append, List.flatMap_cons]
section
variable {rs : List Rf} {b s : Nat}
theorem all_head : allB rs b s = [72, 82, 1] ++ (be 2 b ++ (be 2 s ++ (be 2 rs.length ++ (rs.flatMap refB ++ (colB (lastc (jn rs)) ++ ((keptL (jn rs) s (jn rs).length).flatMap (be 4) ++ be 4 (sumOf (wrB rs b s)).toNat)))))) := by
  unfold allB wrB headB
  simp only [List.append_assoc]
theorem all_b (h : b ≤ 1000) : nAt (allB rs b s) 3 2 = b := nAt_be (A := [72, 82, 1]) rfl all_head (Nat.lt_of_le_of_lt h (by decide))
theorem all_s (h : s ≤ 1000) : nAt (allB rs b s) 5 2 = s := by
  obtain ⟨C, e⟩ : ∃ C, allB rs b s = ([72, 82, 1] ++ be 2 b) ++ (be 2 s ++ C) := ⟨_, by rw [all_head, List.append_assoc]⟩
  exact nAt_be (A := [72, 82, 1] ++ be 2 b) (by rw [List.length_append, be_len]; rfl) e (Nat.lt_of_le_of_lt h (by decide))
theorem all_m (h : rs.length ≤ 300) : mAt (allB rs b s) = rs.length := by
  obtain ⟨C, e⟩ : ∃ C, allB rs b s = ([72, 82, 1] ++ (be 2 b ++ be 2 s)) ++ (be 2 rs.length ++ C) := ⟨_, by rw [all_head, List.append_assoc, List.append_assoc]⟩
  exact nAt_be (A := [72, 82, 1] ++ (be 2 b ++ be 2 s)) (by rw [List.length_append, List.length_append, be_len, be_len]; rfl) e (Nat.lt_of_le_of_lt h (by decide))
theorem all_ok : headOk (allB rs b s) := fun i hi => by
  rw [all_head]
  have : i = 0 ∨ i = 1 ∨ i = 2 := by omega
  rcases this with e | e | e <;> subst e <;> rfl
/-- the bytes ahead of reference i, and from it on -/
theorem all_at {i : Nat} {r : Rf} (h : rs[i]? = some r) : ∃ C, allB rs b s = (headB rs b s ++ (rs.take i).flatMap refB) ++ (((r.1.length : Nat) : Int) :: (codesOf r ++ (be 4 r.2.length ++ C))) := by
  refine ⟨(rs.drop (i + 1)).flatMap refB ++ (colB (lastc (jn rs)) ++ ((keptL (jn rs) s (jn rs).length).flatMap (be 4) ++ be 4 (sumOf (wrB rs b s)).toNat)), ?_⟩
  unfold allB wrB
  rw [flat_split h]
  unfold refB codesOf
  simp only [List.append_assoc, List.cons_append]
theorem hpos_all : ∀ i, i ≤ rs.length → hpos (allB rs b s) i = 9 + ((rs.take i).flatMap refB).length
  | 0, _ => rfl
  | i + 1, hi => by
    have ih := hpos_all i (by omega)
    have hr : rs[i]? = some rs[i] := List.getElem?_eq_getElem (by omega)
    obtain ⟨C, e⟩ := all_at (b := b) (s := s) hr
    have hl : (headB rs b s ++ (rs.take i).flatMap refB).length = hpos (allB rs b s) i := by rw [ih, List.length_append, headB_len]
    have hb : bAt (allB rs b s) (hpos (allB rs b s) i) = (rs[i]).1.length := by
      unfold bAt
      rw [← hl, e, List.getD_eq_getElem?_getD, List.getElem?_append_right (Nat.le_refl _), Nat.sub_self]
      rfl
    show hpos (allB rs b s) i + 1 + bAt (allB rs b s) (hpos (allB rs b s) i) + 4 = _
    rw [hb, ih, flat_take hr, List.length_append, refB_len]
    omega
theorem all_parts {i : Nat} {r : Rf} (h : rs[i]? = some r) (hl : r.2.length ≤ 4000) : bAt (allB rs b s) (hpos (allB rs b s) i) = r.1.length ∧ hnm (allB rs b s) i = codesOf r ∧ hln (allB rs b s) i = r.2.length ∧ hpos (allB rs b s) i < (allB rs b s).length := by
  have hi : i < rs.length := (List.getElem?_eq_some_iff.mp h).1
  have ih := hpos_all (rs := rs) (b := b) (s := s) i (by omega)
  obtain ⟨C, e⟩ := all_at (b := b) (s := s) h
  have hp : (headB rs b s ++ (rs.take i).flatMap refB).length = hpos (allB rs b s) i := by rw [ih, List.length_append, headB_len]
  have hb : bAt (allB rs b s) (hpos (allB rs b s) i) = r.1.length := by
    unfold bAt
    rw [← hp, e, List.getD_eq_getElem?_getD, List.getElem?_append_right (Nat.le_refl _), Nat.sub_self]
    rfl
  have hc : (codesOf r).length = r.1.length := List.length_map _
  refine ⟨hb, ?_, ?_, ?_⟩
  · unfold hnm
    rw [hb]
    have e2 : allB rs b s = ((headB rs b s ++ (rs.take i).flatMap refB) ++ [((r.1.length : Nat) : Int)]) ++ (codesOf r ++ (be 4 r.2.length ++ C)) := by rw [e, List.append_assoc _ [_]]; rfl
    conv => lhs; arg 2; arg 2; rw [e2]
    exact read_mid (by rw [List.length_append, hp]; rfl) hc
  · unfold hln
    rw [hb]
    refine nAt_be (A := ((headB rs b s ++ (rs.take i).flatMap refB) ++ [((r.1.length : Nat) : Int)]) ++ codesOf r) (C := C) ?_ ?_ (Nat.lt_of_le_of_lt hl (by decide))
    · rw [List.length_append, List.length_append, hp, hc]
      rfl
    · rw [e, List.append_assoc _ (codesOf r), List.append_assoc _ [_]]
      rfl
  · have h5 := congrArg List.length e
    rw [List.length_append, List.length_cons, hp] at h5
    omega
theorem all_heads (h3 : rs.length ≤ 300) (hl : ∀ r ∈ rs, r.2.length ≤ 4000) : (List.range (mAt (allB rs b s))).map (fun i => (hnm (allB rs b s) i, hln (allB rs b s) i)) = rs.map fun r => (codesOf r, r.2.length) := by
  rw [all_m h3]
  refine List.ext_getElem? fun i => ?_
  by_cases hi : i < rs.length
  · have hr : rs[i]? = some rs[i] := List.getElem?_eq_getElem hi
    obtain ⟨_, h1, h2, _⟩ := all_parts (b := b) (s := s) hr (hl _ (List.getElem_mem hi))
    rw [List.getElem?_map, List.getElem?_range hi, List.getElem?_map, hr]
    show some (_, _) = some (_, _)
    rw [h1, h2]
  · rw [List.getElem?_eq_none (by rw [List.length_map, List.length_range]; omega), List.getElem?_eq_none (by rw [List.length_map]; omega)]
theorem all_sz (h3 : rs.length ≤ 300) (hl : ∀ r ∈ rs, r.2.length ≤ 4000) : szT (allB rs b s) = jl rs := by
  have h := congrArg (List.map Prod.snd) (all_heads (b := b) (s := s) h3 hl)
  rw [List.map_map, List.map_map] at h
  have h' : (List.range (mAt (allB rs b s))).map (hln (allB rs b s)) = rs.map fun r => r.2.length := h
  unfold szT
  rw [h', all_m h3]
  unfold jl
  have gen : ∀ l : List Rf, (l.map fun r => r.2.length).sum + l.length = (l.map fun r => r.2.length + 1).sum := fun l => by
    induction l with
    | nil => rfl
    | cons r l ih =>
      rw [List.map_cons, List.map_cons, List.sum_cons, List.sum_cons, List.length_cons, ← ih]
      omega
  exact gen rs
theorem mults (s : Nat) (hs : 1 ≤ s) : ∀ n, ((List.range n).filter fun j => decide (j % s = 0)).length = (n + s - 1) / s
  | 0 => by
    rw [Nat.zero_add, Nat.div_eq_of_lt (by omega)]
    rfl
  | n + 1 => by
    rw [List.range_succ, List.filter_append, List.length_append, mults s hs n]
    have hq := Nat.div_add_mod n s
    have hr := Nat.mod_lt n (show s > 0 by omega)
    obtain ⟨q, hq'⟩ : ∃ q, q = n / s := ⟨_, rfl⟩
    obtain ⟨r, hr'⟩ : ∃ r, r = n % s := ⟨_, rfl⟩
    rw [← hq', ← hr'] at hq
    rw [← hr'] at hr
    have e2 : (n + 1 + s - 1) / s = q + 1 := by
      rw [show n + 1 + s - 1 = r + s * (q + 1) by rw [Nat.mul_succ]; omega, Nat.add_mul_div_left _ _ (by omega), Nat.div_eq_of_lt hr, Nat.zero_add]
    rw [e2, List.filter_cons]
    by_cases c : r = 0
    · rw [if_pos (decide_eq_true (by rw [← hr', c]))]
      rw [show n + s - 1 = (s - 1) + s * q by omega, Nat.add_mul_div_left _ _ (by omega), Nat.div_eq_of_lt (by omega), Nat.zero_add]
      rfl
    · rw [if_neg (by rw [decide_eq_false (by rw [← hr']; exact c)]; decide)]
      rw [show n + s - 1 = (r - 1) + s * (q + 1) by rw [Nat.mul_succ]; omega, Nat.add_mul_div_left _ _ (by omega), Nat.div_eq_of_lt (by omega), Nat.zero_add]
      rfl
theorem keptL_all {ns : List Int} (hs : 1 ≤ s) : (keptL ns s ns.length).length = (ns.length + s - 1) / s := by
  rw [← mults s hs]
  unfold keptL
  rw [List.length_map, ← List.countP_eq_length_filter, ← List.countP_eq_length_filter, ← (starts_perm ns).countP_eq (fun j => decide (j % s = 0))]
  have e : starts ns = (List.range ns.length).map fun r => (starts ns).getD r 0 := by
    refine List.ext_getElem? fun i => ?_
    by_cases hi : i < ns.length
    · rw [List.getElem?_map, List.getElem?_range hi, List.getElem?_eq_getElem (by rw [starts_len]; exact hi)]
      show _ = some ((starts ns).getD i 0)
      rw [List.getD_eq_getElem?_getD, List.getElem?_eq_getElem (by rw [starts_len]; exact hi)]
      rfl
    · rw [List.getElem?_eq_none (by rw [starts_len]; omega), List.getElem?_eq_none (by rw [List.length_map, List.length_range]; omega)]
  conv => rhs; rw [e]
  rw [List.countP_map]
  rfl
theorem flat_be (l : List Nat) : (l.flatMap (be 4)).length = 4 * l.length := by
  induction l with
  | nil => rfl
  | cons x l ih =>
    rw [List.flatMap_cons, List.length_append, be_len, ih, List.length_cons]
    omega
theorem colB_len (L : List Int) : (colB L).length = (L.length + 1) / 2 := by
  unfold colB
  rw [colN_len]
theorem all_end (h1 : 1 ≤ s) (h2 : s ≤ 1000) (h3 : rs.length ≤ 300) (hl : ∀ r ∈ rs, r.2.length ≤ 4000) : sAt (allB rs b s) = 9 + (rs.flatMap refB).length + (colB (lastc (jn rs))).length ∧ eAt (allB rs b s) = (wrB rs b s).length := by
  have hp : hpos (allB rs b s) (mAt (allB rs b s)) = 9 + (rs.flatMap refB).length := by
    rw [all_m h3, hpos_all _ (Nat.le_refl _), List.take_length]
  have e1 : sAt (allB rs b s) = 9 + (rs.flatMap refB).length + (colB (lastc (jn rs))).length := by
    unfold sAt
    rw [hp, all_sz h3 hl, colB_len, lastc_len, jn_len]
  refine ⟨e1, ?_⟩
  unfold eAt wrB
  rw [e1, all_sz h3 hl, all_s h2, List.length_append, List.length_append, List.length_append, headB_len, flat_be, keptL_all h1, jn_len]
theorem all_verdict (hb1 : 1 ≤ b) (hb2 : b ≤ 1000) (h1 : 1 ≤ s) (h2 : s ≤ 1000) (hr : 1 ≤ rs.length) (h3 : rs.length ≤ 300) (hl : ∀ r ∈ rs, r.2.length ≤ 4000) : vdt (allB rs b s) = 0 := by
  have he := (all_end (b := b) h1 h2 h3 hl).2
  have hlen : (allB rs b s).length = eAt (allB rs b s) + 4 := by
    rw [he]
    unfold allB
    rw [List.length_append, be_len]
  have n0 := sumOf_nonneg (wrB rs b s)
  have n1 : sumOf (wrB rs b s) < 4294967296 := by
    unfold sumOf
    have := Int.emod_lt_of_pos (((wrB rs b s).length : Int) + bsum (wrB rs b s).length (wrB rs b s)) (show (0 : Int) < 65521 by decide)
    have := Int.emod_lt_of_pos (1 + tot (wrB rs b s)) (show (0 : Int) < 65521 by decide)
    omega
  have hsum : bnN (((allB rs b s).drop (eAt (allB rs b s))).take 4) = sumOf ((allB rs b s).take (eAt (allB rs b s))) := by
    rw [he]
    have e : allB rs b s = wrB rs b s ++ (be 4 (sumOf (wrB rs b s)).toNat ++ []) := by rw [List.append_nil]; rfl
    have e2 : (allB rs b s).take (wrB rs b s).length = wrB rs b s := by rw [e, List.take_left]
    rw [e2, e, read_mid rfl (be_len _ _), bnN_be (by have : (256 : Nat) ^ 4 = 4294967296 := by decide
                                                     omega), Int.toNat_of_nonneg n0]
  unfold vdt
  rw [if_neg (fun z => z all_ok), if_neg (by rw [hlen]; have := headB_len rs b s; rw [he]; unfold wrB; rw [List.length_append, List.length_append, List.length_append, this]; omega), all_b hb2, all_s h2, all_m h3, if_neg (by omega), if_neg, if_neg (by omega), if_neg]
  · rintro (z | z)
    · omega
    · exact z hsum
  · rintro ⟨i, hi, h⟩
    have := (all_parts (b := b) (s := s) (List.getElem?_eq_getElem hi) (hl _ (List.getElem_mem hi))).2.2.2
    omega
theorem nib_colN (L : List Int) (hL : ∀ x ∈ L, 0 ≤ x ∧ x ≤ 6) : ∀ m, (colN L m).flatMap nib = (List.range (2 * m)).map fun i => L.getD i 0
  | 0 => rfl
  | m + 1 => by
    have g : ∀ i, 0 ≤ L.getD i 0 ∧ L.getD i 0 ≤ 6 := fun i => by
      rw [List.getD_eq_getElem?_getD]
      by_cases c : i < L.length
      · rw [List.getElem?_eq_getElem c]
        exact hL _ (List.getElem_mem c)
      · rw [List.getElem?_eq_none (by omega)]
        exact ⟨by decide, by decide⟩
    have h1 := g (2 * m)
    have h2 := g (2 * m + 1)
    rw [colN_succ, List.flatMap_append, nib_colN L hL m, show 2 * (m + 1) = 2 * m + 1 + 1 by omega, List.range_succ, List.range_succ, List.map_append, List.map_append, List.append_assoc]
    congr 1
    show [(16 * L.getD (2 * m) 0 + L.getD (2 * m + 1) 0) / 16, (16 * L.getD (2 * m) 0 + L.getD (2 * m + 1) 0) % 16] = [L.getD (2 * m) 0, L.getD (2 * m + 1) 0]
    rw [show (16 * L.getD (2 * m) 0 + L.getD (2 * m + 1) 0) / 16 = L.getD (2 * m) 0 by omega, show (16 * L.getD (2 * m) 0 + L.getD (2 * m + 1) 0) % 16 = L.getD (2 * m + 1) 0 by omega]
theorem col_back (L : List Int) (hL : ∀ x ∈ L, 0 ≤ x ∧ x ≤ 6) : ((colB L).flatMap nib).take L.length = L := by
  unfold colB
  rw [nib_colN L hL]
  refine List.ext_getElem? fun i => ?_
  by_cases hi : i < L.length
  · rw [List.getElem?_take, if_pos hi, List.getElem?_map, List.getElem?_range (by omega), List.getElem?_eq_getElem hi]
    show some (L.getD i 0) = _
    rw [List.getD_eq_getElem?_getD, List.getElem?_eq_getElem hi]
    rfl
  · rw [List.getElem?_take, if_neg hi, List.getElem?_eq_none (by omega)]
theorem all_col (h1 : 1 ≤ s) (h2 : s ≤ 1000) (h3 : rs.length ≤ 300) (hl : ∀ r ∈ rs, r.2.length ≤ 4000) : ((allB rs b s).drop (hpos (allB rs b s) (mAt (allB rs b s)))).take ((szT (allB rs b s) + 1) / 2) = colB (lastc (jn rs)) := by
  have hp : hpos (allB rs b s) (mAt (allB rs b s)) = 9 + (rs.flatMap refB).length := by
    rw [all_m h3, hpos_all _ (Nat.le_refl _), List.take_length]
  rw [hp, all_sz h3 hl]
  have e : allB rs b s = (headB rs b s ++ rs.flatMap refB) ++ (colB (lastc (jn rs)) ++ ((keptL (jn rs) s (jn rs).length).flatMap (be 4) ++ be 4 (sumOf (wrB rs b s)).toNat)) := by
    unfold allB wrB
    simp only [List.append_assoc]
  rw [e]
  exact read_mid (by rw [List.length_append, headB_len]) (by rw [colB_len, lastc_len, jn_len])
end
/-! ### the program: reading the bytes -/
theorem scCheckF : FnScope ["data", "byte", "expected"] ["data"] (defScope sCheckF) := ⟨rfl, rfl, rfl, by decide +kernel, rfl, by decide +kernel, by decide +kernel⟩
theorem scHeads : FnScope ["data", "many", "heads", "at", "_", "length_at"] ["data", "many"] (defScope sHeads) := ⟨rfl, rfl, rfl, by decide +kernel, rfl, by decide +kernel, by decide +kernel⟩
theorem scCheckE : FnScope ["data", "sum_at", "end"] ["data", "sum_at"] (defScope sCheckE) := ⟨rfl, rfl, rfl, by decide +kernel, rfl, by decide +kernel, by decide +kernel⟩
def NRx : List Str := ["data", "block", "sample", "many", "heads", "column_at", "lengths", "size", "starts_at", "many_starts", "last", "references", "_", "length"]
theorem scReadIx : FnScope NRx ["data"] (defScope sReadIx) := ⟨rfl, rfl, rfl, by decide +kernel, rfl, by decide +kernel, by decide +kernel⟩
theorem iteN {c A B : Prop} [Decidable c] (h1 : ¬ c → A) (h2 : c → B) : if (!decide c) = true then A else B := by
  by_cases h : c
  · rw [decide_eq_true h]
    exact iteF (h2 h)
  · rw [decide_eq_false h]
    exact iteT (h1 h)
structure Ex3 (K : PySem.W.Frag) (mg : Str → Option Value) (nm : Str) (C : Addr) : Prop where
  gC : mg nm = some (.ref C)
  q : PySem.W.excIn K C [.type "ValueError", .type "Exception", .type "BaseException", .type "object"] "ValueError.__new__" = true
  kC : PySem.W.keepIn K (.ref C) = true
  sb : PySem.W.subIn K (.ref C) (.type "BaseException") = some true
  ty : PySem.W.typeIn K (.ref C) = some (.type "type")
def BadP (E : XK) (C : Addr) (H : Hp) : Prop := ∀ H', Same H H' → E (.ref C) none H'
theorem BadP.same {E : XK} {C : Addr} {H H1 : Hp} (b : BadP E C H) (s : Same H H1) : BadP E C H1 := fun H' s' => b H' (s.trans s')
section
variable {P : Program} {w : World} {K : PySem.W.Frag} {mg : Str → Option Value} {base : Heap}
def spCheckF (K : PySem.W.Frag) (CN : Addr) : Sp := fun vs H Q E => ∃ (a : Addr) (d : List Int), vs = [.ref a] ∧ SqL K H a (d.map V.int) ∧ (headOk d → ∀ H', Same H H' → Q .non H') ∧ (¬ headOk d → BadP E CN H)
theorem ok_checkF {f CN qF : Addr} {fd : FuncData} {k : Nat} (F : Fun K "_check_first_bytes" "_check_first_bytes" sCheckF f fd) (mzip : mg "zip" = none) (DN : Ex3 K mg "NotAnIndex" CN) (gF : mg "_FIRST_BYTES" = some (.ref qF)) (hF : ∀ H, SqT K H qF [.int 72, .int 82, .int 1]) :
    FnOk P w K mg base (L2.CX P w) (k + 1) f fd ["data"] (spCheckF K CN) := by
  refine F.okX scCheckF (fun vs H Q E h => ?_) (fun cdv A outer s H vs Q E hr h => ?_)
  · obtain ⟨a, d, rfl, _⟩ := h
    rfl
  · obtain ⟨a, d, rfl, ha, q, qb⟩ := h
    refine ⟨_, (pss_one (ps_for (passes_of rfl) rfl (pi_zipM (by rfl) mzip (pa_cons (pv 0) (pa_cons (pe_glob (v := .ref qF) rfl gF rfl) pa_nil))) (pg_tup rfl (pgs_cons (pg_name (i := 1) scCheckF.nd rfl (.inl rfl)) (pgs_cons (pg_name (i := 2) scCheckF.nd rfl (.inl rfl)) pgs_nil)))
        (pss_one (ps_if (pt_cmpR op_ne (pv 1) (pv 2) (nomark _)) (pss_one (ps_raise rfl (takes_of rfl rfl rfl rfl) (pmk_own PySem.F.excBase_ValueError DN.q DN.gC DN.kC (raises_own DN.sb DN.ty) (by exact rfl)))) pss_nil)))), ?_⟩
    refine ⟨.ref a, rfl, a, qF, _, [.int 72, .int 82, .int 1], rfl, ha, hF _, ?_⟩
    refine for_zipM (n := min d.length 3) (by rw [List.length_map]; rfl) (fun i σ H' => Same H H' ∧ (∀ j, j < i → d.getD j 0 = ffs.getD j 0) ∧ ∃ v1 v2 : Option V, σ = [some (.ref a), v1, v2]) ⟨Same.refl _, fun j hj => absurd hj (Nat.not_lt_zero _), none, none, rfl⟩ (fun i σ H' h => ⟨h.1.seq ha, hF _⟩) ?_ ?_
    · rintro i x y T σ H' hi hx hy ⟨s1, hall, v1, v2, rfl⟩ hT
      have hy' : y = .int (ffs.getD i 0) := by
        have : i = 0 ∨ i = 1 ∨ i = 2 := by omega
        rcases this with e | e | e <;> subst e <;> exact (Option.some.inj hy).symm
      have hx' : x = .int (d.getD i 0) := by
        rw [List.getElem?_map] at hx
        obtain ⟨z, hz, rfl⟩ := Option.map_eq_some_iff.mp hx
        rw [List.getD_eq_getElem?_getD, hz]
        rfl
      subst hx' hy'
      have sT := same_upd (o := .tup [V.int (d.getD i 0), V.int (ffs.getD i 0)]) hT
      refine ⟨T, _, rfl, .inl (.inl upd_same), rfl, _, _, rfl, _, _, rfl, rfl, ?_⟩
      refine ⟨_, rfl, _, rfl, rfl, _, rfl, iteN (fun z => ?_) (fun z => ?_)⟩
      · exact qb (fun hk => z (congrArg V.int (hk i hi))) _ (s1.trans sT)
      · refine ⟨s1.trans sT, fun j hj => ?_, _, _, rfl⟩
        by_cases hji : j = i
        · rw [hji]
          exact V.int.inj z
        · exact hall j (by omega)
    · rintro σ H' ⟨s1, hall, v1, v2, rfl⟩
      exact q (fun i hi => hall i hi) H' s1
/-- what the heads tell -/
def spHeads (K : PySem.W.Frag) (CT : Addr) : Sp := fun vs H Q E => ∃ (a : Addr) (d : List Int) (m : Nat), vs = [.ref a, .int (m : Int)] ∧ SqL K H a (d.map V.int) ∧ Byt d ∧ m ≤ 100000 ∧
  ((∀ i, i < m → hpos d i < d.length) → ∀ (H' : Hp) (p ph : Addr) (zs : List V), Same H H' → H' p = some (.tup [.ref ph, .int (hpos d m : Nat)]) → H' ph = some (.lst zs) → Heads K H' zs ((List.range m).map fun i => (hnm d i, hln d i)) → Q (.ref p) H') ∧
  ((∃ i, i < m ∧ d.length ≤ hpos d i) → BadP E CT H)
theorem ok_heads {f CT : Addr} {fd : FuncData} {k : Nat} {t4 t9 : Tok} (F : Fun K "_told_heads" "_told_heads" sHeads f fd) (mrange : mg "range" = none) (mlen : mg "len" = none) (DT : Ex3 K mg "Truncated" CT) (g9 : mg "_HEAD_SIZE" = some (.int 9 t9)) (g4 : mg "_LENGTH_SIZE" = some (.int 4 t4))
    (hN : Has P w K mg base (k + 1) "number_at" ["data", "at", "size"] (spNumAt K)) : FnOk P w K mg base (L2.CX P w) (k + 2) f fd ["data", "many"] (spHeads K CT) := by
  obtain ⟨fN, dN, GN, gN, kN, bN⟩ := hN
  refine F.okX scHeads (fun vs H Q E h => ?_) (fun cdv A outer s H vs Q E hr h => ?_)
  · obtain ⟨a, d, m, rfl, _⟩ := h
    rfl
  · obtain ⟨a, d, m, rfl, ha, hb, hm, q, qb⟩ := h
    refine ⟨_, (pss_cons (ps_set (i := 2) scHeads.nd rfl (.inl rfl) (pe_lst pa_nil))
      (pss_cons (ps_set (i := 3) scHeads.nd rfl (.inl rfl) (pe_glob (v := .int 9) (by rfl) g9 ⟨_, rfl⟩))
      (pss_cons (ps_for (passes_of rfl) rfl (pi_range1 rfl mrange (pa_cons (pv 1) pa_nil)) (pg_name (i := 4) scHeads.nd rfl (.inl rfl))
        (pss_cons (ps_if (pt_cmpR op_ge (pv 3) (pe_callB call_len_seq (by rfl) mlen PySem.boot_len (pa_cons (pv 0) pa_nil)) (nomark _)) (pss_one (ps_raise rfl (takes_of rfl rfl rfl rfl) (pmk_own PySem.F.excBase_ValueError DT.q DT.gC DT.kC (raises_own DT.sb DT.ty) (by exact rfl)))) pss_nil)
      (pss_cons (ps_set (i := 5) scHeads.nd rfl (.inl rfl) (pe_op op_add (pe_op op_add (pv 3) pe_int) (pe_ix ix_list (pv 0) (pv 3) (fun _ _ => rfl))))
      (pss_cons (ps_expr (pe_bm PySem.F.plainAttrs_list PySem.F.slot_list_append PySem.F.type_list_append mt_append (pv 2) (pa_cons (pe_tup (pa_cons (pe_slice sl_list (pv 0) (po_some (pe_op op_add (pv 3) pe_int)) (po_some (pv 5))) (pa_cons (pe_call GN (hr.mono (by omega)) (by rfl) gN kN bN .nil pass0 (pa_cons (pv 0) (pa_cons (pv 5) (pa_cons (pe_glob (v := .int 4) (by rfl) g4 ⟨_, rfl⟩) pa_nil)))) pa_nil))) pa_nil)))
      (pss_one (ps_set (i := 3) scHeads.nd rfl (.inl rfl) (pe_op op_add (pv 5) (pe_glob (v := .int 4) (by rfl) g4 ⟨_, rfl⟩))))))))
      (pss_one (ps_ret (pe_tup (pa_cons (pv 2) (pa_cons (pv 3) pa_nil)))))))), ?_⟩
    refine ⟨Nat.zero_le _, fun ph hph => ?_⟩
    have s0 := same_upd (o := .lst []) hph
    refine ⟨.int m, rfl, m, rfl, by omega, by omega, ?_⟩
    refine for_range (lo := 0) (n := (m : Int).toNat) (fun i σ H' => Same H H' ∧ (∀ j, j < i → hpos d j < d.length) ∧ ∃ (zs : List V) (v4 v5 : Option V), H' ph = some (.lst zs) ∧ Paired (fun z r => ∃ q qa, z = .ref q ∧ H' q = some (.tup [.ref qa, .int (r.2 : Nat)]) ∧ H' qa = some (LI r.1) ∧ qa ≠ ph) zs ((List.range i).map fun i => (hnm d i, hln d i)) ∧ σ = [some (.ref a), some (.int (m : Int)), some (.ref ph), some (.int (hpos d i : Nat)), v4, v5]) ⟨s0, fun j hj => absurd hj (Nat.not_lt_zero _), [], none, none, upd_same, .nil, rfl⟩ ?_ ?_
    · rintro i σ H' hi ⟨s1, hall, zs, v4, v5, hz, hzs, rfl⟩
      rw [Int.toNat_natCast] at hi
      have ha1 := s1.seq ha
      have hzl := paired_len hzs
      rw [List.length_map, List.length_range] at hzl
      refine ⟨.int (hpos d i : Nat), rfl, .ref a, rfl, a, _, rfl, .inl ha1, _, _, rfl, rfl, _, rfl, ite2 (fun z => ?_) (fun z => ?_)⟩
      · have hle : d.length ≤ hpos d i := by
          have := of_decide_eq_true z
          rw [List.length_map] at this
          omega
        exact qb ⟨i, hi, hle⟩ _ s1
      · have hlt : hpos d i < d.length := by
          refine Nat.lt_of_not_le fun y => z (decide_eq_true ?_)
          rw [List.length_map]
          omega
        have hx : d[hpos d i]? = some d[hpos d i] := List.getElem?_eq_getElem hlt
        have hby := hb _ (List.getElem_mem hlt)
        have hat : d[hpos d i] = ((bAt d (hpos d i) : Nat) : Int) := by
          unfold bAt
          rw [List.getD_eq_getElem?_getD, hx]
          show d[hpos d i] = ((d[hpos d i]).toNat : Int)
          omega
        refine ⟨.int (hpos d i : Nat), rfl, _, 1, rfl, rfl, .ref a, rfl, .int (hpos d i : Nat), rfl, a, _, _, .int d[hpos d i], rfl, rfl, ha1, atI_nat (by rw [List.getElem?_map, hx]; rfl), _, _, rfl, rfl, ?_⟩
        rw [hat]
        refine ⟨.ref ph, rfl, .inl ⟨rfl, _, .inl (.inl hz)⟩, .ref a, rfl, .int (hpos d i : Nat), rfl, _, 1, rfl, rfl, _, rfl, .int (((hpos d i : Nat) : Int) + 1 + (bAt d (hpos d i) : Nat)), rfl, _, rfl, a, _, rfl, ha1, fun pc hpc => ?_⟩
        have ecut : L2.cutV (d.map V.int) (some (((hpos d i : Nat) : Int) + 1)) (some (((hpos d i : Nat) : Int) + 1 + (bAt d (hpos d i) : Nat))) = (hnm d i).map V.int := by
          have := cutV_any (d.map V.int) (hpos d i + 1) (bAt d (hpos d i))
          rw [Int.natCast_add] at this
          unfold hnm
          rw [List.map_take, List.map_drop]
          exact this
        have sc := same_upd (o := .lst (L2.cutV (d.map V.int) (some (((hpos d i : Nat) : Int) + 1)) (some (((hpos d i : Nat) : Int) + 1 + (bAt d (hpos d i) : Nat))))) hpc
        refine ⟨.ref a, rfl, .int (((hpos d i : Nat) : Int) + 1 + (bAt d (hpos d i) : Nat)), rfl, a, d, hpos d i + 1 + bAt d (hpos d i), 4, rfl, sc.seq ha1, fun H2 s2 => ?_⟩
        refine ⟨by show 2 ≤ sizeLine; decide, fun qt hqt => ?_⟩
        rw [nAt_val hb]
        have st := same_upd (o := .tup [V.ref pc, V.int (hln d i : Nat)]) hqt
        have hz2 := s2 _ _ (sc _ _ hz)
        have hpc2 : H2 pc = some (LI (hnm d i)) := s2 _ _ (by rw [upd_same, ecut])
        have nq : ph ≠ qt := ne_of_none hz2 hqt
        have npc : ph ≠ pc := ne_of_none hz hpc
        have npq : pc ≠ qt := ne_of_none hpc2 hqt
        have sAll : Same H (upd H2 qt (.tup [V.ref pc, V.int (hln d i : Nat)])) := s1.trans (sc.trans (s2.trans st))
        refine ⟨ph, zs, _, rfl, rfl, by rw [upd_ne nq]; exact hz2, line_ok7 (by rw [hzl]; omega), ?_⟩
        have sNew := ext_same (o := .lst (zs ++ [.ref qt])) sAll hph
        refine ⟨.int (((hpos d i : Nat) : Int) + 1 + (bAt d (hpos d i) : Nat)), rfl, _, 4, rfl, rfl, sNew, fun j hj => ?_, zs ++ [.ref qt], some (.int (0 + (i : Nat))), some (.int (((hpos d i : Nat) : Int) + 1 + (bAt d (hpos d i) : Nat))), upd_same, ?_, rfl⟩
        · by_cases hji : j = i
          · rw [hji]
            exact hlt
          · exact hall j (by omega)
        · rw [List.range_succ, List.map_append]
          have kt : ∀ b o, b ≠ ph → H' b = some o → (upd (upd H2 qt (.tup [V.ref pc, V.int (hln d i : Nat)])) ph (.lst (zs ++ [.ref qt]))) b = some o := fun b o hbp e => by
            rw [upd_ne hbp, upd_ne (ne_of_none (s2 _ _ (sc _ _ e)) hqt)]
            exact s2 _ _ (sc _ _ e)
          refine Paired.snoc (Paired.mapP hzs fun z r ⟨q1, qa, e1, e2, e3, e4⟩ => ⟨q1, qa, e1, kt _ _ (fun y => by rw [y, hz] at e2; cases e2) e2, kt _ _ e4 e3, e4⟩) ⟨qt, pc, rfl, ?_, ?_, npc.symm⟩
          · rw [upd_ne nq.symm, upd_same]
            rfl
          · rw [upd_ne npc.symm, upd_ne npq]
            exact hpc2
    · rintro σ H' ⟨s1, hall, zs, v4, v5, hz, hzs0, rfl⟩
      have hzs : Heads K H' zs ((List.range (m : Int).toNat).map fun i => (hnm d i, hln d i)) := Paired.mapP hzs0 fun z r ⟨q1, qa, e1, e2, e3, _⟩ => ⟨q1, qa, e1, e2, e3⟩
      rw [Int.toNat_natCast] at hall hzs ⊢
      refine ⟨.ref ph, rfl, .int (hpos d m : Nat), rfl, by show 2 ≤ sizeLine; decide, fun p hp => ?_⟩
      have sp := same_upd (o := .tup [V.ref ph, V.int (hpos d m : Nat)]) hp
      exact q hall _ p ph zs (s1.trans sp) upd_same (sp _ _ hz) (hzs.same sp)
def endOk (d : List Int) (z : Nat) : Prop := d.length = z + 4 ∧ bnN ((d.drop z).take 4) = sumOf (d.take z)
def spCheckE (K : PySem.W.Frag) (CT CD : Addr) : Sp := fun vs H Q E => ∃ (a : Addr) (d : List Int) (z : Nat), vs = [.ref a, .int (z : Int)] ∧ SqL K H a (d.map V.int) ∧ Byt d ∧ d.length ≤ 90000 ∧
  (endOk d z → ∀ H', Same H H' → Q .non H') ∧ (d.length < z + 4 → BadP E CT H) ∧ (¬ d.length < z + 4 → ¬ endOk d z → BadP E CD H)
theorem ok_checkE {f CT CD : Addr} {fd : FuncData} {k : Nat} {tS : Tok} (F : Fun K "_check_end" "_check_end" sCheckE f fd) (mlen : mg "len" = none) (DT : Ex3 K mg "Truncated" CT) (DD : Ex3 K mg "Damaged" CD) (gS : mg "_SUM_SIZE" = some (.int 4 tS))
    (hN : Has P w K mg base (k + 1) "number_at" ["data", "at", "size"] (spNumAt K)) (hSU : Has P w K mg base (k + 1) "sum_of" ["data"] (spSum K)) : FnOk P w K mg base (L2.CX P w) (k + 2) f fd ["data", "sum_at"] (spCheckE K CT CD) := by
  obtain ⟨fN, dN, GN, gN, kN, bN⟩ := hN
  obtain ⟨fSU, dSU, GSU, gSU, kSU, bSU⟩ := hSU
  refine F.okX scCheckE (fun vs H Q E h => ?_) (fun cdv A outer s H vs Q E hr h => ?_)
  · obtain ⟨a, d, z, rfl, _⟩ := h
    rfl
  · obtain ⟨a, d, z, rfl, ha, hb, hl, q, qt, qd⟩ := h
    refine ⟨_, (pss_cons (ps_set (i := 2) scCheckE.nd rfl (.inl rfl) (pe_op op_add (pv 1) (pe_glob (v := .int 4) (by rfl) gS ⟨_, rfl⟩)))
      (pss_cons (ps_if (pt_cmpR op_lt (pe_callB call_len_seq (by rfl) mlen PySem.boot_len (pa_cons (pv 0) pa_nil)) (pv 2) (nomark _)) (pss_one (ps_raise rfl (takes_of rfl rfl rfl rfl) (pmk_own PySem.F.excBase_ValueError DT.q DT.gC DT.kC (raises_own DT.sb DT.ty) (by exact rfl)))) pss_nil)
      (pss_cons (ps_if (pt_cmpR op_gt (pe_callB call_len_seq (by rfl) mlen PySem.boot_len (pa_cons (pv 0) pa_nil)) (pv 2) (nomark _)) (pss_one (ps_raise rfl (takes_of rfl rfl rfl rfl) (pmk_own PySem.F.excBase_ValueError DD.q DD.gC DD.kC (raises_own DD.sb DD.ty) (by exact rfl)))) pss_nil)
      (pss_one (ps_if (pt_cmpR op_ne (pe_call GN (hr.mono (by omega)) (by rfl) gN kN bN .nil pass0 (pa_cons (pv 0) (pa_cons (pv 1) (pa_cons (pe_glob (v := .int 4) (by rfl) gS ⟨_, rfl⟩) pa_nil)))) (pe_call GSU (hr.mono (by omega)) (by rfl) gSU kSU bSU .nil pass0 (pa_cons (pe_slice sl_list (pv 0) po_none (po_some (pv 1))) pa_nil)) (nomark _)) (pss_one (ps_raise rfl (takes_of rfl rfl rfl rfl) (pmk_own PySem.F.excBase_ValueError DD.q DD.gC DD.kC (raises_own DD.sb DD.ty) (by exact rfl)))) pss_nil))))), ?_⟩
    have hlm : (d.map V.int).length = d.length := List.length_map _
    refine ⟨.int z, rfl, _, 4, rfl, rfl, ?_⟩
    refine ⟨.ref a, rfl, a, _, rfl, .inl ha, .int ((z : Int) + 4), rfl, _, _, rfl, rfl, _, rfl, ite2 (fun c => ?_) (fun c => ?_)⟩
    · have := of_decide_eq_true c
      rw [hlm] at this
      exact qt (by omega) _ (Same.refl _)
    · have h1 : ¬ d.length < z + 4 := fun y => c (decide_eq_true (by rw [hlm]; omega))
      refine ⟨.ref a, rfl, a, _, rfl, .inl ha, .int ((z : Int) + 4), rfl, _, _, rfl, rfl, _, rfl, ite2 (fun c2 => ?_) (fun c2 => ?_)⟩
      · have := of_decide_eq_true c2
        rw [hlm] at this
        exact qd h1 (fun y => by have := y.1; omega) _ (Same.refl _)
      · have h2 : d.length = z + 4 := by
          have : ¬ (z : Int) + 4 < (d.length : Int) := fun y => c2 (decide_eq_true (by rw [hlm]; exact y))
          omega
        refine ⟨.ref a, rfl, .int z, rfl, a, d, z, 4, rfl, ha, fun H1 s1 => ?_⟩
        refine ⟨.ref a, rfl, .int z, rfl, z, rfl, a, _, rfl, s1.seq ha, fun pc hpc => ?_⟩
        have sc := same_upd (o := .lst (L2.cutV (d.map V.int) none (some (z : Int)))) hpc
        have ec : L2.cutV (d.map V.int) none (some (z : Int)) = (d.take z).map V.int := by rw [cutV_to, List.map_take]
        refine ⟨pc, d.take z, rfl, .inl (.inl (by rw [upd_same, ec])), fun x hx => hb x (List.mem_of_mem_take hx), by rw [List.length_take]; omega, fun H2 s2 => ?_⟩
        have s02 := s1.trans (sc.trans s2)
        refine ⟨rfl, _, rfl, iteN (fun y => ?_) (fun y => ?_)⟩
        · exact qd h1 (fun e => y (congrArg V.int e.2)) _ s02
        · exact q ⟨h2, V.int.inj y⟩ _ s02
/-- read_index -/
def spRIx (K : PySem.W.Frag) (C CN CT CD : Addr) (T : List (Addr × Str)) : Sp := fun vs H Q E => ∃ (a : Addr) (d : List Int), vs = [.ref a] ∧ SqL K H a (d.map V.int) ∧ Byt d ∧ d.length ≤ 60000 ∧ LamX.Tabs T H ∧
  (vdt d = 1 → BadP E CN H) ∧ (vdt d = 2 → BadP E CT H) ∧ (vdt d = 3 → BadP E CD H) ∧
  (vdt d = 0 → ∃ (rs : List Rf) (b s : Nat), d = allB rs b s ∧ IxOk rs b s ∧ Short rs ∧ (∀ r ∈ rs, ∀ c ∈ r.1, c ∈ ncl) ∧ ∀ (H' : Hp) (x : Addr) (N : Addr → Prop), Grow T H H' → IxN C N H' x rs b s → (∀ q xs, N q → H q = some (.lst xs) → False) → Q (.ref x) H')
theorem ok_rix {f C CN CT CD : Addr} {fd : FuncData} {T : List (Addr × Str)} {t9 tT : Tok} (F : Fun K "read_index" "read_index" sReadIx f fd) (X : IxT K mg C) (mlen : mg "len" = none) (msum : mg "sum" = none) (mzip : mg "zip" = none) (mlist : mg "list" = none) (DT : Ex3 K mg "Truncated" CT) (DD : Ex3 K mg "Damaged" CD)
    (g9 : mg "_HEAD_SIZE" = some (.int 9 t9)) (gT : mg "_START_SIZE" = some (.int 4 tT)) (hN : Has P w K mg base 2 "number_at" ["data", "at", "size"] (spNumAt K)) (hCF : HasX P w K mg base 2 "_check_first_bytes" ["data"] (spCheckF K CN)) (hHE : HasX P w K mg base 3 "_told_heads" ["data", "many"] (spHeads K CT))
    (hCE : HasX P w K mg base 3 "_check_end" ["data", "sum_at"] (spCheckE K CT CD)) (hTC : Has P w K mg base 2 "_told_column" ["data", "size"] (spTCol K)) (hTN : Has P w K mg base 2 "_told_names" ["heads"] (spTNames K)) (hTT : Has P w K mg base 5 "_told_texts" ["last", "lengths"] (spTTexts K T)) (hI : HasI P w K mg base C 5) :
    FnOk P w K mg base (L2.CX P w) 7 f fd ["data"] (spRIx K C CN CT CD T) := by
  obtain ⟨fN, dN, GN, gN, kN, bN⟩ := hN
  obtain ⟨fCF, dCF, GCF, gCF, kCF, bCF⟩ := hCF
  obtain ⟨fHE, dHE, GHE, gHE, kHE, bHE⟩ := hHE
  obtain ⟨fCE, dCE, GCE, gCE, kCE, bCE⟩ := hCE
  obtain ⟨fTC, dTC, GTC, gTC, kTC, bTC⟩ := hTC
  obtain ⟨fTN, dTN, GTN, gTN, kTN, bTN⟩ := hTN
  obtain ⟨fTT, dTT, GTT, gTT, kTT, bTT⟩ := hTT
  obtain ⟨fI, dI', mv, ds, MI, GI, kbI, hvI, hbI⟩ := hI
  refine F.okX scReadIx (fun vs H Q E h => ?_) (fun cdv A outer s H vs Q E hr h => ?_)
  · obtain ⟨a, d, rfl, _⟩ := h
    rfl
  · obtain ⟨a, d, rfl, ha, hb, hl, hT, q1, q2, q3, q0⟩ := h
    have hr6 : Room 6 _ := hr
    have hr5 : Room 5 _ := hr.mono (by omega)
    have hr3 : Room 3 _ := hr.mono (by omega)
    have hr2 : Room 2 _ := hr.mono (by omega)
    refine ⟨_, (C8.pss_cut (ps_expr (pe_call GCF hr2 (by rfl) gCF kCF bCF .nil (passes_call (takes_of rfl rfl rfl rfl) fun _ _ _ _ h => h) (pa_cons (pv 0) pa_nil)))
      (C8.pss_cut (ps_if (pt_cmpR op_lt (pe_callB call_len_seq (by rfl) mlen PySem.boot_len (pa_cons (pv 0) pa_nil)) (pe_glob (v := .int 9) (by rfl) g9 ⟨_, rfl⟩) (nomark _)) (pss_one (ps_raise rfl (takes_of rfl rfl rfl rfl) (pmk_own PySem.F.excBase_ValueError DT.q DT.gC DT.kC (raises_own DT.sb DT.ty) (by exact rfl)))) pss_nil)
      (C8.pss_cut (ps_set (i := 1) scReadIx.nd rfl (.inl rfl) (pe_call GN hr2 (by rfl) gN kN bN .nil pass0 (pa_cons (pv 0) (pa_cons pe_int (pa_cons pe_int pa_nil)))))
      (C8.pss_cut (ps_set (i := 2) scReadIx.nd rfl (.inl rfl) (pe_call GN hr2 (by rfl) gN kN bN .nil pass0 (pa_cons (pv 0) (pa_cons pe_int (pa_cons pe_int pa_nil)))))
      (C8.pss_cut (ps_set (i := 3) scReadIx.nd rfl (.inl rfl) (pe_call GN hr2 (by rfl) gN kN bN .nil pass0 (pa_cons (pv 0) (pa_cons pe_int (pa_cons pe_int pa_nil)))))
      (C8.pss_cut (ps_if (PW.pt (pw_or (pt_cmpR op_eq (pv 1) pe_int (nomark _)) (pw_or (pt_cmpR op_eq (pv 2) pe_int (nomark _)) (pw_or1 (pt_cmpR op_eq (pv 3) pe_int (nomark _)))))) (pss_one (ps_raise rfl (takes_of rfl rfl rfl rfl) (pmk_own PySem.F.excBase_ValueError DD.q DD.gC DD.kC (raises_own DD.sb DD.ty) (by exact rfl)))) pss_nil)
      (C8.pss_cut (ps_asg (pe_call GHE hr3 (by rfl) gHE kHE bHE .nil (passes_call (takes_of rfl rfl rfl rfl) fun _ _ _ _ h => h) (pa_cons (pv 0) (pa_cons (pv 3) pa_nil))) (pg_tup rfl (pgs_cons (pg_name (i := 4) scReadIx.nd rfl (.inl rfl)) (pgs_cons (pg_name (i := 5) scReadIx.nd rfl (.inl rfl)) pgs_nil))))
      (C8.pss_cut (ps_setLc (i := 6) (own := [("_", 12), ("length", 13)]) (g := gTup K 2 (gCons (gName 12) (gCons (gName 13) gNil))) (tt := tYes) (te := tVar 13) (by rfl) scReadIx.nd rfl rfl (sw_true rfl rfl rfl (by decide +kernel)) (pi_list (pv 4)) (blkOk_by (own := [("_", 12), ("length", 13)]) (N := NRx) (sc := defScope sReadIx) (by decide +kernel)) (fun _ _ _ _ _ => pg_tup rfl (pgs_cons (pg_name (i := 12) scReadIx.nd rfl (Or.inl rfl)) (pgs_cons (pg_name (i := 13) scReadIx.nd rfl (Or.inl rfl)) pgs_nil))) (fun _ _ _ _ _ => pts_nil) (fun _ _ _ _ _ => pv 13))
      (C8.pss_cut (ps_set (i := 7) scReadIx.nd rfl (.inl rfl) (pe_op op_add (pe_callB (cr_sum rfl) (by rfl) msum (by decide +kernel) (pa_cons (pv 6) pa_nil)) (pv 3)))
      (C8.pss_cut (ps_set (i := 8) scReadIx.nd rfl (.inl rfl) (pe_op op_add (pv 5) (pe_op op_fdiv (pe_op op_add (pv 7) pe_int) pe_int)))
      (C8.pss_cut (ps_set (i := 9) scReadIx.nd rfl (.inl rfl) (pe_op op_fdiv (pe_op op_sub (pe_op op_add (pv 7) (pv 2)) pe_int) (pv 2)))
      (C8.pss_cut (ps_expr (pe_call GCE hr3 (by rfl) gCE kCE bCE .nil (passes_call (takes_of rfl rfl rfl rfl) fun _ _ _ _ h => h) (pa_cons (pv 0) (pa_cons (pe_op op_add (pv 8) (pe_op op_mul (pe_glob (v := .int 4) (by rfl) gT ⟨_, rfl⟩) (pv 9))) pa_nil))))
      (C8.pss_cut (ps_set (i := 10) scReadIx.nd rfl (.inl rfl) (pe_call GTC hr2 (by rfl) gTC kTC bTC .nil pass0 (pa_cons (pe_slice sl_list (pv 0) (po_some (pv 5)) (po_some (pv 8))) (pa_cons (pv 7) pa_nil))))
      (C8.pss_cut (ps_set (i := 11) scReadIx.nd rfl (.inl rfl) (pe_listZip rfl (by rfl) mzip (by rfl) mlist (pa_cons (pe_call GTN hr2 (by rfl) gTN kTN bTN .nil pass0 (pa_cons (pv 4) pa_nil)) (pa_cons (pe_call GTT hr5 (by rfl) gTT kTT bTT .nil pass0 (pa_cons (pv 10) (pa_cons (pv 6) pa_nil))) pa_nil))))
      (pss_one (ps_ret (pe_makeK MI GI hr6 (by rfl) X.mgC kbI pass0 (pa_cons (pv 11) pa_nil) (pk_cons (pv 1) (pk_cons (pv 2) pk_nil))))))))))))))))))), ?_⟩
    have hlm : (d.map V.int).length = d.length := List.length_map _
    -- the first bytes
    refine ⟨fun σ H1 => Same H H1 ∧ headOk d ∧ σ = [some (.ref a), none, none, none, none, none, none, none, none, none, none, none, none, none], ?_, ?_⟩
    · exact ⟨.ref a, rfl, a, d, rfl, ha, fun hk H1 s1 => ⟨s1, hk, rfl⟩, fun hn => q1 (by unfold vdt; rw [if_pos hn])⟩
    rintro σ H1 ⟨s1, hk, rfl⟩
    have ha1 := s1.seq ha
    refine ⟨fun σ H2 => H2 = H1 ∧ ¬ d.length < 9 ∧ σ = [some (.ref a), none, none, none, none, none, none, none, none, none, none, none, none, none], ?_, ?_⟩
    · refine ⟨.ref a, rfl, a, _, rfl, .inl ha1, _, 9, rfl, rfl, _, rfl, ite2 (fun c => ?_) (fun c => ?_)⟩
      · have := of_decide_eq_true c
        rw [hlm] at this
        exact q2 (by unfold vdt; rw [if_neg (fun z => z hk), if_pos (by omega)]) _ s1
      · exact ⟨rfl, fun y => c (decide_eq_true (by rw [hlm]; omega)), rfl⟩
    rintro σ H2 ⟨rfl, h9, rfl⟩
    refine ⟨fun σ H3 => Same H2 H3 ∧ σ = [some (.ref a), some (.int (nAt d 3 2 : Nat)), none, none, none, none, none, none, none, none, none, none, none, none], ?_, ?_⟩
    · exact ⟨.ref a, rfl, a, d, 3, 2, rfl, ha1, fun H3 s3 => ⟨s3, by rw [nAt_val hb]; rfl⟩⟩
    rintro σ H3 ⟨s3, rfl⟩
    refine ⟨fun σ H4 => Same H3 H4 ∧ σ = [some (.ref a), some (.int (nAt d 3 2 : Nat)), some (.int (nAt d 5 2 : Nat)), none, none, none, none, none, none, none, none, none, none, none], ?_, ?_⟩
    · exact ⟨.ref a, rfl, a, d, 5, 2, rfl, s3.seq ha1, fun H4 s4 => ⟨s4, by rw [nAt_val hb]; rfl⟩⟩
    rintro σ H4 ⟨s4, rfl⟩
    refine ⟨fun σ H5 => Same H4 H5 ∧ σ = [some (.ref a), some (.int (nAt d 3 2 : Nat)), some (.int (nAt d 5 2 : Nat)), some (.int (mAt d : Nat)), none, none, none, none, none, none, none, none, none, none], ?_, ?_⟩
    · exact ⟨.ref a, rfl, a, d, 7, 2, rfl, (s3.trans s4).seq ha1, fun H5 s5 => ⟨s5, by rw [nAt_val hb]; rfl⟩⟩
    rintro σ H5 ⟨s5, rfl⟩
    have s25 := s3.trans (s4.trans s5)
    have s05 := s1.trans s25
    have v3 : (nAt d 3 2 = 0 ∨ nAt d 5 2 = 0 ∨ mAt d = 0) → vdt d = 3 := fun z => by
      unfold vdt
      rw [if_neg (fun z => z hk), if_neg h9, if_pos z]
    refine ⟨fun σ H6 => H6 = H5 ∧ ¬ (nAt d 3 2 = 0 ∨ nAt d 5 2 = 0 ∨ mAt d = 0) ∧ σ = [some (.ref a), some (.int (nAt d 3 2 : Nat)), some (.int (nAt d 5 2 : Nat)), some (.int (mAt d : Nat)), none, none, none, none, none, none, none, none, none, none], ?_, ?_⟩
    · refine ⟨.int (nAt d 3 2 : Nat), rfl, rfl, _, rfl, ite2 (fun c => iteT (q3 (v3 (.inl ?_)) _ s05)) (fun c => ?_)⟩
      · have := V.int.inj (of_decide_eq_true c)
        omega
      refine ⟨.int (nAt d 5 2 : Nat), rfl, rfl, _, rfl, ite2 (fun c2 => iteT (q3 (v3 (.inr (.inl ?_))) _ s05)) (fun c2 => ?_)⟩
      · have := V.int.inj (of_decide_eq_true c2)
        omega
      refine ⟨.int (mAt d : Nat), rfl, rfl, _, rfl, ite2 (fun c3 => q3 (v3 (.inr (.inr ?_))) _ s05) (fun c3 => ⟨rfl, ?_, rfl⟩)⟩
      · have := V.int.inj (of_decide_eq_true c3)
        omega
      · rintro (z | z | z)
        · exact c (decide_eq_true (by rw [z]; rfl))
        · exact c2 (decide_eq_true (by rw [z]; rfl))
        · exact c3 (decide_eq_true (by rw [z]; rfl))
    rintro σ H6 ⟨rfl, hz, rfl⟩
    have hm : mAt d < 65536 := nAt_lt hb 7 2
    -- the heads
    refine ⟨fun σ H7 => Same H6 H7 ∧ (∀ i, i < mAt d → hpos d i < d.length) ∧ ∃ (ph : Addr) (zs : List V), H7 ph = some (.lst zs) ∧ Heads K H7 zs ((List.range (mAt d)).map fun i => (hnm d i, hln d i)) ∧ σ = [some (.ref a), some (.int (nAt d 3 2 : Nat)), some (.int (nAt d 5 2 : Nat)), some (.int (mAt d : Nat)), some (.ref ph), some (.int (hpos d (mAt d) : Nat)), none, none, none, none, none, none, none, none], ?_, ?_⟩
    · refine ⟨.ref a, rfl, .int (mAt d : Nat), rfl, a, d, mAt d, rfl, s25.seq ha1, hb, by omega, fun hh H7 p ph zs s7 hp hph hzs => ?_, fun he => ?_⟩
      · exact ⟨p, _, rfl, .inl (.inl hp), rfl, _, _, rfl, _, _, rfl, rfl, s7, hh, ph, zs, hph, hzs, rfl⟩
      · exact (q2 (by unfold vdt; rw [if_neg (fun z => z hk), if_neg h9, if_neg hz, if_pos he])).same s05
    rintro σ H7 ⟨s7, hh, ph, zs, hph, hzs, rfl⟩
    have hzl := paired_len hzs
    rw [List.length_map, List.length_range] at hzl
    obtain ⟨ls, hls⟩ : ∃ ls : List Int, ls = (List.range (mAt d)).map fun i => ((hln d i : Nat) : Int) := ⟨_, rfl⟩
    have hll : ls.length = mAt d := by rw [hls, List.length_map, List.length_range]
    have s07 := s05.trans s7
    refine ⟨fun σ H8 => Same H7 H8 ∧ ∃ pl, H8 pl = some (LI ls) ∧ σ = [some (.ref a), some (.int (nAt d 3 2 : Nat)), some (.int (nAt d 5 2 : Nat)), some (.int (mAt d : Nat)), some (.ref ph), some (.int (hpos d (mAt d) : Nat)), some (.ref pl), none, none, none, none, none, none, none], ?_, ?_⟩
    · refine ⟨.ref ph, rfl, ph, rfl, ⟨_, .inl (.inl hph)⟩, fun pl hpl => ?_⟩
      refine lc_list (K := K) (xs := zs) (fun j H' => Same H7 H' ∧ H' pl = some (LI (ls.take j))) ⟨same_upd hpl, upd_same⟩ (fun j H' _ z => .inl (.inl (z.1 _ _ hph))) ?_ ?_
      · rintro j y H' hjy ⟨s8, hd⟩
        obtain ⟨r, hr0, q8, qa, rfl, hq8, hqa⟩ := paired_get (hzs.same s8) hjy
        have hj : j < zs.length := (List.getElem?_eq_some_iff.mp hjy).1
        rw [List.getElem?_map, List.getElem?_range (by omega)] at hr0
        have hr1 := Option.some.inj hr0
        subst hr1
        have hlj : ls[j]? = some ((hln d j : Nat) : Int) := by
          rw [hls, List.getElem?_map, List.getElem?_range (by omega)]
          rfl
        refine ⟨q8, _, rfl, .inl (.inl hq8), rfl, _, _, rfl, _, _, rfl, rfl, rfl, ?_⟩
        dsimp only [tYes]
        rw [if_pos rfl]
        refine ⟨.int (hln d j : Nat), rfl, _, hd, line_ok7 (by rw [List.length_map, List.length_take]; omega), fun b o e => ?_, ?_⟩
        · rw [upd_ne (ne_of_none e hpl)]
          exact s8 b o e
        · rw [upd_same, List.take_add_one, hlj, Option.toList_some]
          exact congrArg some (LI_snoc _ _).symm
      · rintro H' ⟨s8, hd⟩
        rw [hzl, ← hll, List.take_length] at hd
        exact ⟨s8, pl, hd, rfl⟩
    rintro σ H8 ⟨s8, pl, hpl, rfl⟩
    have hsum : ls.sum + ((mAt d : Nat) : Int) = (szT d : Nat) := by
      have gen : ∀ l : List Nat, (l.map fun i => ((hln d i : Nat) : Int)).sum = (((l.map (hln d)).sum : Nat) : Int) := fun l => by
        induction l with
        | nil => rfl
        | cons x l ih =>
          rw [List.map_cons, List.map_cons, List.sum_cons, List.sum_cons, ih, Int.natCast_add]
      unfold szT
      rw [hls, gen, Int.natCast_add]
    refine ⟨fun σ H9 => H9 = H8 ∧ σ = [some (.ref a), some (.int (nAt d 3 2 : Nat)), some (.int (nAt d 5 2 : Nat)), some (.int (mAt d : Nat)), some (.ref ph), some (.int (hpos d (mAt d) : Nat)), some (.ref pl), some (.int (szT d : Nat)), none, none, none, none, none, none], ?_, ?_⟩
    · exact ⟨.ref pl, rfl, pl, ls, rfl, .inl (.inl hpl), .int (mAt d : Nat), rfl, _, _, rfl, rfl, rfl, (by rw [← hsum]; rfl)⟩
    rintro σ H9 ⟨rfl, rfl⟩
    have e8 : ((hpos d (mAt d) : Nat) : Int) + ((szT d : Nat) + 1) / 2 = (sAt d : Nat) := by
      unfold sAt
      omega
    refine ⟨fun σ H10 => H10 = H9 ∧ σ = [some (.ref a), some (.int (nAt d 3 2 : Nat)), some (.int (nAt d 5 2 : Nat)), some (.int (mAt d : Nat)), some (.ref ph), some (.int (hpos d (mAt d) : Nat)), some (.ref pl), some (.int (szT d : Nat)), some (.int (sAt d : Nat)), none, none, none, none, none], ?_, ?_⟩
    · exact ⟨.int (hpos d (mAt d) : Nat), rfl, .int (szT d : Nat), rfl, _, 1, rfl, rfl, _, 2, rfl, rfl, ⟨by decide, by decide⟩, _, _, rfl, rfl, rfl, (by rw [← e8]; rfl)⟩
    rintro σ H10 ⟨rfl, rfl⟩
    have hsp : 1 ≤ nAt d 5 2 := by omega
    have hsp2 : nAt d 5 2 < 65536 := nAt_lt hb 5 2
    have e9 : (((szT d : Nat) : Int) + (nAt d 5 2 : Nat) - 1) / (nAt d 5 2 : Nat) = ((szT d + nAt d 5 2 - 1) / nAt d 5 2 : Nat) := by
      rw [show ((szT d : Nat) : Int) + (nAt d 5 2 : Nat) - 1 = ((szT d + nAt d 5 2 - 1 : Nat) : Int) by omega]
      rfl
    refine ⟨fun σ H11 => H11 = H10 ∧ σ = [some (.ref a), some (.int (nAt d 3 2 : Nat)), some (.int (nAt d 5 2 : Nat)), some (.int (mAt d : Nat)), some (.ref ph), some (.int (hpos d (mAt d) : Nat)), some (.ref pl), some (.int (szT d : Nat)), some (.int (sAt d : Nat)), some (.int ((szT d + nAt d 5 2 - 1) / nAt d 5 2 : Nat)), none, none, none, none], ?_, ?_⟩
    · exact ⟨.int (szT d : Nat), rfl, .int (nAt d 5 2 : Nat), rfl, _, _, rfl, rfl, _, 1, rfl, rfl, .int (nAt d 5 2 : Nat), rfl, _, _, rfl, rfl, ⟨by omega, by omega⟩, rfl, (by rw [← e9]; rfl)⟩
    rintro σ H11 ⟨rfl, rfl⟩
    have s08 := s07.trans s8
    have ha8 := s08.seq ha
    have vE : vdt d = if d.length < eAt d + 4 then 2 else if eAt d + 4 < d.length ∨ bnN ((d.drop (eAt d)).take 4) ≠ sumOf (d.take (eAt d)) then 3 else 0 := by
      unfold vdt
      rw [if_neg (fun z => z hk), if_neg h9, if_neg hz, if_neg (fun ⟨i, hi, z⟩ => by have := hh i hi; omega)]
    refine ⟨fun σ H12 => Same H11 H12 ∧ endOk d (eAt d) ∧ σ = [some (.ref a), some (.int (nAt d 3 2 : Nat)), some (.int (nAt d 5 2 : Nat)), some (.int (mAt d : Nat)), some (.ref ph), some (.int (hpos d (mAt d) : Nat)), some (.ref pl), some (.int (szT d : Nat)), some (.int (sAt d : Nat)), some (.int ((szT d + nAt d 5 2 - 1) / nAt d 5 2 : Nat)), none, none, none, none], ?_, ?_⟩
    · refine ⟨.ref a, rfl, .int (sAt d : Nat), rfl, .int ((szT d + nAt d 5 2 - 1) / nAt d 5 2 : Nat), rfl, 4, _, rfl, rfl, .inl ⟨by decide, by decide⟩, _, _, rfl, rfl, a, d, eAt d, ?_, ha8, hb, by omega, fun he H12 s12 => ⟨s12, he, rfl⟩, fun hlt => (q2 (by rw [vE, if_pos hlt])).same s08, fun h1 h2 => (q3 (by
        rw [vE, if_neg h1, if_pos]
        by_cases c : eAt d + 4 < d.length
        · exact .inl c
        · exact .inr fun z => h2 ⟨by omega, z⟩)).same s08⟩
      show [V.ref a, V.int ((sAt d : Nat) + 4 * ((szT d + nAt d 5 2 - 1) / nAt d 5 2 : Nat))] = _
      unfold eAt
      rw [Int.natCast_add, Int.natCast_mul]
      rfl
    rintro σ H12 ⟨s12, he, rfl⟩
    obtain ⟨rs, b, sp, ed, hok, hsh, hnc, q⟩ := q0 (by
      rw [vE, if_neg (by have := he.1; omega), if_neg]
      rintro (z | z)
      · have := he.1
        omega
      · exact z he.2)
    obtain ⟨hl1, hdna, hjl, hb1, hb2, hs1, hs2⟩ := hok
    have hjm := jl_many rs
    have hrl : ∀ r ∈ rs, r.2.length ≤ 4000 := fun r hr => by
      obtain ⟨i, hi⟩ := List.mem_iff_getElem?.mp hr
      have hi' : i < rs.length := (List.getElem?_eq_some_iff.mp hi).1
      have h1 := txt_le hi'
      have h2 : txt rs i = r.2 := by
        have := txt_at hi'
        rw [List.getElem?_map, hi] at this
        exact (Option.some.inj this).symm
      rw [h2] at h1
      omega
    have eb : nAt d 3 2 = b := by rw [ed, all_b hb2]
    have es : nAt d 5 2 = sp := by rw [ed, all_s hs2]
    have em : mAt d = rs.length := by rw [ed, all_m hsh.1]
    have ez : szT d = jl rs := by rw [ed, all_sz hsh.1 hrl]
    have hcol : (d.drop (hpos d (mAt d))).take ((szT d + 1) / 2) = colB (lastc (jn rs)) := by
      have := all_col (rs := rs) (b := b) (s := sp) hs1 hs2 hsh.1 hrl
      rw [← ed] at this
      exact this
    have hhd : (List.range (mAt d)).map (fun i => (hnm d i, hln d i)) = rs.map fun r => (codesOf r, r.2.length) := by
      have := all_heads (rs := rs) (b := b) (s := sp) hsh.1 hrl
      rw [← ed] at this
      exact this
    have els : ls = rs.map fun r => ((r.2.length : Nat) : Int) := by
      have h1 := congrArg (List.map fun p : List Int × Nat => ((p.2 : Nat) : Int)) hhd
      rw [List.map_map, List.map_map] at h1
      rw [hls]
      exact h1
    have hlc : (lastc (jn rs)).length = jl rs := by rw [lastc_len, jn_len]
    have s012 := s08.trans s12
    have ha12 := s012.seq ha
    have hph12 := s12 _ _ (s8 _ _ hph)
    have hzs12 : Heads K H12 zs (rs.map fun r => (codesOf r, r.2.length)) := by
      have h1 := (hzs.same s8).same s12
      rw [hhd] at h1
      exact h1
    have hpl12 := s12 _ _ hpl
    -- the last column
    refine ⟨fun σ H13 => Same H12 H13 ∧ ∃ pc, H13 pc = some (LI (lastc (jn rs))) ∧ σ = [some (.ref a), some (.int (nAt d 3 2 : Nat)), some (.int (nAt d 5 2 : Nat)), some (.int (mAt d : Nat)), some (.ref ph), some (.int (hpos d (mAt d) : Nat)), some (.ref pl), some (.int (szT d : Nat)), some (.int (sAt d : Nat)), some (.int ((szT d + nAt d 5 2 - 1) / nAt d 5 2 : Nat)), some (.ref pc), none, none, none], ?_, ?_⟩
    · refine ⟨.ref a, rfl, .int (hpos d (mAt d) : Nat), rfl, _, rfl, .int (sAt d : Nat), rfl, _, rfl, a, _, rfl, ha12, fun pp hpp => ?_⟩
      have ec : L2.cutV (d.map V.int) (some ((hpos d (mAt d) : Nat) : Int)) (some ((sAt d : Nat) : Int)) = (colB (lastc (jn rs))).map V.int := by
        have h1 := cutV_any (d.map V.int) (hpos d (mAt d)) ((szT d + 1) / 2)
        rw [← Int.natCast_add] at h1
        show L2.cutV (d.map V.int) (some ((hpos d (mAt d) : Nat) : Int)) (some ((hpos d (mAt d) + (szT d + 1) / 2 : Nat) : Int)) = _
        rw [h1, ← List.map_drop, ← List.map_take, hcol]
      have sp' := same_upd (o := .lst (L2.cutV (d.map V.int) (some ((hpos d (mAt d) : Nat) : Int)) (some ((sAt d : Nat) : Int)))) hpp
      refine ⟨.int (szT d : Nat), rfl, pp, colB (lastc (jn rs)), szT d, rfl, .inl (.inl (by rw [upd_same, ec])), by rw [colB_len]; omega, fun H13 pc s13 hpc hpc13 => ⟨sp'.trans s13, pc, ?_, rfl⟩⟩
      rw [ez, ← hlc, col_back _ (lastc_num hdna)] at hpc13
      exact hpc13
    rintro σ H13 ⟨s13, pc, hpc, rfl⟩
    have s013 := s012.trans s13
    -- the references
    refine ⟨fun σ H14 => Grow T H13 H14 ∧ ∃ (pr : Addr) (ws : List V), H14 pr = some (.lst ws) ∧ Tups H14 ws rs ∧ σ = [some (.ref a), some (.int (nAt d 3 2 : Nat)), some (.int (nAt d 5 2 : Nat)), some (.int (mAt d : Nat)), some (.ref ph), some (.int (hpos d (mAt d) : Nat)), some (.ref pl), some (.int (szT d : Nat)), some (.int (sAt d : Nat)), some (.int ((szT d + nAt d 5 2 - 1) / nAt d 5 2 : Nat)), some (.ref pc), some (.ref pr), none, none], ?_, ?_⟩
    · refine ⟨.ref ph, rfl, ph, zs, rs, rfl, .inl (.inl (s13 _ _ hph12)), hzs12.same s13, by omega, fun r hr => ⟨(hsh.2 r hr).1, hnc r hr⟩, fun Ha pn sa hpn hna => ?_⟩
      have g13 : Grow T H13 Ha := (Grow.start (tabs_same hT s013)).same sa
      refine ⟨.ref pc, rfl, .ref pl, rfl, pc, pl, rs, rfl, .inl (.inl (sa _ _ hpc)), .inl (.inl ?_), tabs_same hT (s013.trans sa), hl1, hdna, hjl, fun Hb pt gb hpt => ?_⟩
      · rw [sa _ _ (s13 _ _ hpl12), els]
        show some (HO.lst _) = some (HO.lst _)
        rw [List.map_map]
        rfl
      have g13b := g13.trans gb
      refine ⟨pn, pt, _, _, rfl, .inl (.inl (gb.lst hna)), .inl (.inl hpt), by rw [List.length_map, List.length_map], fun Hc pr ws sc hpr hprc hws => ?_⟩
      refine ⟨g13b.same sc, pr, ws, hprc, ?_, rfl⟩
      have gen : ∀ (l : List Rf) (us : List V), Twos Hc us ((l.map fun r => V.str (Hr.T r.1)).zip (l.map fun r => V.str (Hr.T r.2))) → Tups Hc us l := by
        intro l
        induction l with
        | nil =>
          intro us hu
          cases hu
          exact .nil
        | cons r l ih =>
          intro us hu
          rw [List.map_cons, List.map_cons, List.zip_cons_cons] at hu
          cases hu with
          | cons h1 h2 => exact .cons h1 (ih _ h2)
      exact gen rs ws hws
    rintro σ H14 ⟨g14, pr, ws, hpr, hws, rfl⟩
    have g014 : Grow T H H14 := ((Grow.start hT).same s013).trans g14
    refine ⟨.ref pr, rfl, .int (nAt d 3 2 : Nat), rfl, .int (nAt d 5 2 : Nat), rfl, rfl, rfl, fun x dx nx ndx nex => ?_⟩
    refine ⟨x, pr, dx, ws, rs, b, sp, by show [V.ref x, V.ref pr, V.int (nAt d 3 2 : Nat), V.int (nAt d 5 2 : Nat)] = _; rw [eb, es], upd_same, .inl (.inl ?_), ?_, hl1, hdna, by omega, hb1, hb2, hs1, hs2, fun H' sb ixn => ⟨rfl, ?_⟩⟩
    · rw [upd_ne (ne_of_none hpr nx), upd_ne (ne_of_none hpr ndx)]
      exact hpr
    · exact hws.mono fun z ys e => by rw [upd_ne (ne_of_none e nx), upd_ne (ne_of_none e ndx)]; exact e
    · obtain ⟨sm, ixn⟩ := made nx ndx sb ixn
      exact q _ _ _ (g014.same sm) ixn fun q1 xs1 hn e => by
        have e2 := g014.lst e
        rw [hn] at e2
        cases e2
end
/-! ### what the law works out of the bytes -/
def vname : Nat → Str
  | 0 => Str.ofString "passes"
  | 1 => Str.ofString "head"
  | 2 => Str.ofString "short"
  | _ => Str.ofString "damaged"
theorem scVerdict : FnScope ["data", "k", "sample", "count", "at", "total", "end"] ["data"] (defScope sVerdict) := ⟨rfl, rfl, rfl, by decide +kernel, rfl, by decide +kernel, by decide +kernel⟩
theorem in3 (x y z : Int) : inV (.int 0) [.int x, .int y, .int z] = decide (x = 0 ∨ y = 0 ∨ z = 0) := by
  unfold inV
  simp [eqV]
  rfl
theorem vdt_short {d : List Int} (hk : headOk d) (h9 : ¬ d.length < 9) (hz : ¬ (nAt d 3 2 = 0 ∨ nAt d 5 2 = 0 ∨ mAt d = 0)) {k : Nat} (hm : k < mAt d) (h : d.length < hpos d (k + 1)) : vdt d = 2 := by
  unfold vdt
  rw [if_neg (fun z => z hk), if_neg h9, if_neg hz]
  by_cases c : ∃ i, i < mAt d ∧ d.length ≤ hpos d i
  · rw [if_pos c]
  · rw [if_neg c, if_pos]
    have e : k + 1 = mAt d := by
      by_cases e : k + 1 < mAt d
      · exact absurd ⟨k + 1, e, by omega⟩ c
      · omega
    unfold eAt sAt
    rw [← e]
    generalize 4 * ((szT d + nAt d 5 2 - 1) / nAt d 5 2) = z
    omega
theorem vdt_end {d : List Int} (hk : headOk d) (h9 : ¬ d.length < 9) (hz : ¬ (nAt d 3 2 = 0 ∨ nAt d 5 2 = 0 ∨ mAt d = 0)) (hm : ∀ k, k < mAt d → hpos d (k + 1) ≤ d.length) : vdt d = if d.length < eAt d + 4 then 2 else if eAt d + 4 < d.length ∨ bnN ((d.drop (eAt d)).take 4) ≠ sumOf (d.take (eAt d)) then 3 else 0 := by
  unfold vdt
  rw [if_neg (fun z => z hk), if_neg h9, if_neg hz, if_neg]
  rintro ⟨i, hi, h⟩
  have h1 := hm i hi
  have h2 : hpos d (i + 1) = hpos d i + 1 + bAt d (hpos d i) + 4 := rfl
  omega
section
variable {P : Program} {w : World} {K : PySem.W.Frag} {mg : Str → Option Value} {base : Heap}
def spVerdict (K : PySem.W.Frag) : Sp := fun vs H Q _ => ∃ (a : Addr) (d : List Int), vs = [.ref a] ∧ SqL K H a (d.map V.int) ∧ Byt d ∧ d.length ≤ 90000 ∧ ∀ H', Same H H' → Q (.str (vname (vdt d))) H'
theorem ok_verdict {f : Addr} {fd : FuncData} {k : Nat} (F : Fun K "_law_verdict" "_law_verdict" sVerdict f fd) (B : Bl mg) (mmin : mg "min" = none) (hN : Has P w K mg base (k + 1) "_law_number" ["data", "at", "count"] (spNumber K)) (hS : Has P w K mg base (k + 1) "_law_sum" ["data"] (spLSum K)) : FnOk P w K mg base CX0 (k + 2) f fd ["data"] (spVerdict K) := by
  obtain ⟨fN, dN, GN, gN, kN, bN⟩ := hN
  obtain ⟨fS, dS', GS, gS, kS, bS⟩ := hS
  refine F.ok scVerdict (fun vs H Q E h => ?_) (fun cdv A outer s H vs Q E hr h => ?_)
  · obtain ⟨a, d, rfl, _⟩ := h
    rfl
  · obtain ⟨a, d, rfl, ha, hb, hl, q⟩ := h
    refine ⟨_, (pss_cons (ps_for PassesOwn.never rfl (pi_range1 rfl B.range (pa_cons (pe_callB (call_min2 rfl) (by rfl) mmin (by decide +kernel) (pa_cons pe_int (pa_cons (pe_callB call_len_seq (by rfl) B.len PySem.boot_len (pa_cons (pv 0) pa_nil)) pa_nil))) pa_nil)) (pg_name (i := 1) scVerdict.nd rfl (.inl rfl))
        (pss_one (ps_if (pt_cmpR op_ne (pe_ix ix_list (pv 0) (pv 1) (fun _ _ => rfl)) (pe_ix ix_list (pe_lst (pa_cons pe_int (pa_cons pe_int (pa_cons pe_int pa_nil)))) (pv 1) (fun _ _ => rfl)) (nomark _)) (pss_one (ps_ret pe_str)) pss_nil)))
      (pss_cons (ps_if (pt_cmpR op_lt (pe_callB call_len_seq (by rfl) B.len PySem.boot_len (pa_cons (pv 0) pa_nil)) pe_int (nomark _)) (pss_one (ps_ret pe_str)) pss_nil)
      (pss_cons (ps_set (i := 2) scVerdict.nd rfl (.inl rfl) (pe_call GN hr (by rfl) gN kN bN .nil pass0 (pa_cons (pv 0) (pa_cons pe_int (pa_cons pe_int pa_nil)))))
      (pss_cons (ps_set (i := 3) scVerdict.nd rfl (.inl rfl) (pe_call GN hr (by rfl) gN kN bN .nil pass0 (pa_cons (pv 0) (pa_cons pe_int (pa_cons pe_int pa_nil)))))
      (pss_cons (ps_if (pt_cmpR op_in_seq pe_int (pe_lst (pa_cons (pe_call GN hr (by rfl) gN kN bN .nil pass0 (pa_cons (pv 0) (pa_cons pe_int (pa_cons pe_int pa_nil)))) (pa_cons (pv 2) (pa_cons (pv 3) pa_nil)))) rfl) (pss_one (ps_ret pe_str)) pss_nil)
      (pss_cons (ps_set (i := 4) scVerdict.nd rfl (.inl rfl) pe_int)
      (pss_cons (ps_set (i := 5) scVerdict.nd rfl (.inl rfl) pe_int)
      (pss_cons (ps_for PassesOwn.never rfl (pi_range1 rfl B.range (pa_cons (pv 3) pa_nil)) (pg_name (i := 1) scVerdict.nd rfl (.inl rfl))
        (C8.pss_cut (ps_if (PW.pt (pw_or (pt_cmpR op_ge (pv 4) (pe_callB call_len_seq (by rfl) B.len PySem.boot_len (pa_cons (pv 0) pa_nil)) (nomark _)) (pw_or1 (pt_cmpR op_gt (pe_op op_add (pe_op op_add (pv 4) (pe_ix ix_list (pv 0) (pv 4) (fun _ _ => rfl))) pe_int) (pe_callB call_len_seq (by rfl) B.len PySem.boot_len (pa_cons (pv 0) pa_nil)) (nomark _))))) (pss_one (ps_ret pe_str)) pss_nil)
      (pss_cons (ps_set (i := 4) scVerdict.nd rfl (.inl rfl) (pe_op op_add (pe_op op_add (pv 4) (pe_ix ix_list (pv 0) (pv 4) (fun _ _ => rfl))) pe_int))
      (pss_one (ps_set (i := 5) scVerdict.nd rfl (.inl rfl) (pe_op op_add (pe_op op_add (pv 5) (pe_call GN hr (by rfl) gN kN bN .nil pass0 (pa_cons (pv 0) (pa_cons (pe_op op_sub (pv 4) pe_int) (pa_cons pe_int pa_nil))))) pe_int))))))
      (pss_cons (ps_set (i := 6) scVerdict.nd rfl (.inl rfl) (pe_op op_add (pe_op op_add (pe_op op_add (pv 4) (pe_op op_fdiv (pe_op op_add (pv 5) pe_int) pe_int)) (pe_op op_mul pe_int (pe_op op_fdiv (pe_op op_sub (pe_op op_add (pv 5) (pv 2)) pe_int) (pv 2)))) pe_int))
      (pss_cons (ps_if (pt_cmpR op_lt (pe_callB call_len_seq (by rfl) B.len PySem.boot_len (pa_cons (pv 0) pa_nil)) (pv 6) (nomark _)) (pss_one (ps_ret pe_str)) pss_nil)
      (pss_cons (ps_if (PW.pt (pw_or (pt_cmpR op_gt (pe_callB call_len_seq (by rfl) B.len PySem.boot_len (pa_cons (pv 0) pa_nil)) (pv 6) (nomark _)) (pw_or1 (pt_cmpR op_ne (pe_call GN hr (by rfl) gN kN bN .nil pass0 (pa_cons (pv 0) (pa_cons (pe_op op_sub (pv 6) pe_int) (pa_cons pe_int pa_nil)))) (pe_call GS hr (by rfl) gS kS bS .nil pass0 (pa_cons (pe_slice sl_list (pv 0) po_none (po_some (pe_op op_sub (pv 6) pe_int))) pa_nil)) (nomark _))))) (pss_one (ps_ret pe_str)) pss_nil)
      (pss_one (ps_ret pe_str))))))))))))), ?_⟩
    have hlm : (d.map V.int).length = d.length := List.length_map _
    have emin : (if ((d.length : Nat) : Int) < 3 then ((d.length : Nat) : Int) else 3) = ((min d.length 3 : Nat) : Int) := by split <;> omega
    refine ⟨.ref a, rfl, a, _, rfl, .inl ha, 3, _, rfl, ((min d.length 3 : Nat) : Int), by rw [hlm, emin], by omega, by omega, ?_⟩
    refine for_range (lo := 0) (n := ((min d.length 3 : Nat) : Int).toNat) (fun i σ H' => Same H H' ∧ (∀ j, j < i → d.getD j 0 = ffs.getD j 0) ∧ ∃ v1 : Option V, σ = [some (.ref a), v1, none, none, none, none, none]) ?_ ?_ ?_
    · exact ⟨Same.refl _, fun j hj => absurd hj (Nat.not_lt_zero _), none, rfl⟩
    · rintro i σ H' hi ⟨s1, hall, v1, rfl⟩
      rw [Int.toNat_natCast] at hi
      have hi1 : i < d.length := by omega
      have hx : (d.map V.int)[i]? = some (.int (d.getD i 0)) := by
        rw [List.getElem?_map, List.getD_eq_getElem?_getD, List.getElem?_eq_getElem hi1]
        rfl
      have e0 : (0 : Int) + ((i : Nat) : Int) = ((i : Nat) : Int) := Int.zero_add _
      have hy : atI [V.int 72, V.int 82, V.int 1] (0 + ((i : Nat) : Int)) = some (.int (ffs.getD i 0)) := by
        have : i = 0 ∨ i = 1 ∨ i = 2 := by omega
        rcases this with e | e | e <;> subst e <;> rfl
      refine ⟨.ref a, rfl, .int (0 + (i : Nat)), rfl, a, _, _, .int (d.getD i 0), rfl, rfl, s1.seq ha, by rw [e0]; exact atI_nat hx, by show 3 ≤ sizeLine; decide, fun pl hpl => ?_⟩
      have sl := same_upd (o := .lst [V.int 72, V.int 82, V.int 1]) hpl
      refine ⟨.int (0 + (i : Nat)), rfl, pl, _, _, .int (ffs.getD i 0), rfl, rfl, .inl (.inl upd_same), hy, rfl, _, rfl, iteN (fun z => ?_) (fun z => ?_)⟩
      · have hk : ¬ headOk d := fun hk => z (congrArg V.int (hk i (by omega)))
        have hv : vdt d = 1 := by
          unfold vdt
          rw [if_pos hk]
        have q1 := q _ (s1.trans sl)
        rw [hv] at q1
        exact q1
      · refine ⟨s1.trans sl, fun j hj => ?_, _, rfl⟩
        by_cases hji : j = i
        · rw [hji]
          exact V.int.inj z
        · exact hall j (by omega)
    rintro σ H1 ⟨s1, hall, v1, rfl⟩
    rw [Int.toNat_natCast] at hall
    have hk : headOk d := fun i hi => hall i hi
    have ha1 := s1.seq ha
    refine ⟨.ref a, rfl, a, _, rfl, .inl ha1, _, 9, rfl, rfl, _, rfl, ite2 (fun c => ?_) (fun c => ?_)⟩
    · have c := of_decide_eq_true c
      rw [hlm] at c
      have hv : vdt d = 2 := by
        unfold vdt
        rw [if_neg (fun z => z hk), if_pos (by omega)]
      have q1 := q _ s1
      rw [hv] at q1
      exact q1
    have h9 : ¬ d.length < 9 := fun y => c (decide_eq_true (by rw [hlm]; omega))
    refine ⟨.ref a, rfl, a, d, 5, 2, rfl, ha1, hb, by omega, by decide, ?_⟩
    refine ⟨.ref a, rfl, a, d, 7, 2, rfl, ha1, hb, by omega, by decide, ?_⟩
    have e5 : bn ((d.drop 5).take 2) = (nAt d 5 2 : Int) := nAt_val hb 5 2
    have e7 : bn ((d.drop 7).take 2) = (mAt d : Int) := nAt_val hb 7 2
    have e3 : bn ((d.drop 3).take 2) = (nAt d 3 2 : Int) := nAt_val hb 3 2
    rw [e5, e7]
    refine ⟨.ref a, rfl, a, d, 3, 2, rfl, ha1, hb, by omega, by decide, ?_⟩
    rw [e3]
    refine ⟨.int (nAt d 5 2 : Nat), rfl, .int (mAt d : Nat), rfl, by show 3 ≤ sizeLine; decide, fun pl hpl => ?_⟩
    have sl := same_upd (o := .lst [V.int (nAt d 3 2 : Nat), V.int (nAt d 5 2 : Nat), V.int (mAt d : Nat)]) hpl
    refine ⟨pl, _, rfl, .inl (.inl (.inl upd_same)), rfl, rfl, _, rfl, ?_⟩
    have s2 := s1.trans sl
    generalize hH2 : upd H1 pl (.lst [V.int (nAt d 3 2 : Nat), V.int (nAt d 5 2 : Nat), V.int (mAt d : Nat)]) = H2 at *
    have ha2 := s2.seq ha
    rw [if_neg (by decide), in3]
    refine ite2 (fun c3 => ?_) (fun c3 => ?_)
    · have c3 := of_decide_eq_true c3
      have hv : vdt d = 3 := by
        unfold vdt
        rw [if_neg (fun z => z hk), if_neg h9, if_pos (by omega)]
      have q1 := q _ s2
      rw [hv] at q1
      exact q1
    have hz : ¬ (nAt d 3 2 = 0 ∨ nAt d 5 2 = 0 ∨ mAt d = 0) := fun z => c3 (decide_eq_true (by omega))
    have hm : mAt d < 65536 := nAt_lt hb 7 2
    refine ⟨.int (mAt d : Nat), rfl, _, rfl, by omega, by omega, ?_⟩
    refine for_range (lo := 0) (n := ((mAt d : Nat) : Int).toNat) (fun i σ H' => H' = H2 ∧ (∀ j, j < i → hpos d (j + 1) ≤ d.length) ∧ ∃ v1 : Option V, σ = [some (.ref a), v1, some (.int (nAt d 5 2 : Nat)), some (.int (mAt d : Nat)), some (.int (hpos d i : Nat)), some (.int ((((List.range i).map (hln d)).sum + i : Nat) : Int)), none]) ⟨rfl, fun j hj => absurd hj (Nat.not_lt_zero _), v1, rfl⟩ ?_ ?_
    · rintro i σ H' hi ⟨rfl, hall2, v1', rfl⟩
      rw [Int.toNat_natCast] at hi
      have hsucc : hpos d (i + 1) = hpos d i + 1 + bAt d (hpos d i) + 4 := rfl
      have hshort : d.length < hpos d (i + 1) → Q (.str (Str.ofString "short")) H' := fun z => by
        have q1 := q _ s2
        rw [vdt_short hk h9 hz hi z] at q1
        exact q1
      refine ⟨fun σ H3 => H3 = H' ∧ hpos d (i + 1) ≤ d.length ∧ σ = [some (.ref a), some (.int (0 + (i : Nat))), some (.int (nAt d 5 2 : Nat)), some (.int (mAt d : Nat)), some (.int (hpos d i : Nat)), some (.int ((((List.range i).map (hln d)).sum + i : Nat) : Int)), none], ?_, ?_⟩
      · refine ⟨.int (hpos d i : Nat), rfl, .ref a, rfl, a, _, rfl, .inl ha2, _, _, rfl, rfl, _, rfl, ite2 (fun z => ?_) (fun z => ?_)⟩
        · have z := of_decide_eq_true z
          rw [hlm] at z
          exact iteT (hshort (by omega))
        have hlt : hpos d i < d.length := by
          refine Nat.lt_of_not_le fun y => z (decide_eq_true ?_)
          rw [hlm]
          omega
        have hx : d[hpos d i]? = some d[hpos d i] := List.getElem?_eq_getElem hlt
        have hby := hb _ (List.getElem_mem hlt)
        have hat : d[hpos d i] = ((bAt d (hpos d i) : Nat) : Int) := by
          unfold bAt
          rw [List.getD_eq_getElem?_getD, hx]
          show d[hpos d i] = ((d[hpos d i]).toNat : Int)
          omega
        refine ⟨.int (hpos d i : Nat), rfl, .ref a, rfl, .int (hpos d i : Nat), rfl, a, _, _, .int d[hpos d i], rfl, rfl, ha2, atI_nat (by rw [List.getElem?_map, hx]; rfl), _, _, rfl, rfl, _, 5, rfl, rfl, .ref a, rfl, a, _, rfl, .inl ha2, _, _, rfl, rfl, _, rfl, ite2 (fun z2 => ?_) (fun z2 => ?_)⟩
        · have z2 := of_decide_eq_true z2
          rw [hlm, hat] at z2
          exact hshort (by omega)
        · refine ⟨rfl, Nat.le_of_not_lt fun y => z2 (decide_eq_true ?_), rfl⟩
          rw [hlm, hat]
          omega
      rintro σ H3 ⟨rfl, hle, rfl⟩
      have hlt : hpos d i < d.length := by omega
      have hx : d[hpos d i]? = some d[hpos d i] := List.getElem?_eq_getElem hlt
      have hby := hb _ (List.getElem_mem hlt)
      have hat : d[hpos d i] = ((bAt d (hpos d i) : Nat) : Int) := by
        unfold bAt
        rw [List.getD_eq_getElem?_getD, hx]
        show d[hpos d i] = ((d[hpos d i]).toNat : Int)
        omega
      refine ⟨.int (hpos d i : Nat), rfl, .ref a, rfl, .int (hpos d i : Nat), rfl, a, _, _, .int d[hpos d i], rfl, rfl, ha2, atI_nat (by rw [List.getElem?_map, hx]; rfl), _, _, rfl, rfl, _, 5, rfl, rfl, ?_⟩
      have eat : ((hpos d i : Nat) : Int) + d[hpos d i] + 5 = ((hpos d (i + 1) : Nat) : Int) := by
        rw [hat, hsucc]
        omega
      dsimp only
      rw [eat]
      have esub : ((hpos d (i + 1) : Nat) : Int) - 4 = ((hpos d i + 1 + bAt d (hpos d i) : Nat) : Int) := by
        rw [hsucc]
        omega
      refine ⟨.int ((((List.range i).map (hln d)).sum + i : Nat) : Int), rfl, .ref a, rfl, .int (hpos d (i + 1) : Nat), rfl, _, 4, rfl, rfl, a, d, hpos d i + 1 + bAt d (hpos d i), 4, by rw [← esub]; rfl, ha2, hb, by omega, by decide, ?_⟩
      have en : bn ((d.drop (hpos d i + 1 + bAt d (hpos d i))).take 4) = (hln d i : Int) := nAt_val hb _ _
      rw [en]
      refine ⟨_, _, rfl, rfl, _, 1, rfl, rfl, rfl, fun j hj => ?_, some (.int (0 + (i : Nat))), ?_⟩
      · by_cases hji : j = i
        · rw [hji]
          exact hle
        · exact hall2 j (by omega)
      · have es : ((((List.range i).map (hln d)).sum + i : Nat) : Int) + (hln d i : Nat) + 1 = ((((List.range (i + 1)).map (hln d)).sum + (i + 1) : Nat) : Int) := by
          rw [List.range_succ, List.map_append, List.sum_append]
          simp only [List.map_cons, List.map_nil, List.sum_cons, List.sum_nil]
          omega
        rw [← es]
        rfl
    rintro σ H' ⟨rfl, hall2, v1', rfl⟩
    rw [Int.toNat_natCast] at hall2 ⊢
    have eT : ((List.range (mAt d)).map (hln d)).sum + mAt d = szT d := rfl
    rw [eT]
    have hsp : 1 ≤ nAt d 5 2 := by omega
    have hsp2 : nAt d 5 2 < 65536 := nAt_lt hb 5 2
    have e9 : (((szT d : Nat) : Int) + (nAt d 5 2 : Nat) - 1) / (nAt d 5 2 : Nat) = ((szT d + nAt d 5 2 - 1) / nAt d 5 2 : Nat) := by
      rw [show ((szT d : Nat) : Int) + (nAt d 5 2 : Nat) - 1 = ((szT d + nAt d 5 2 - 1 : Nat) : Int) by omega]
      rfl
    refine ⟨.int (hpos d (mAt d) : Nat), rfl, .int (szT d : Nat), rfl, _, 1, rfl, rfl, _, 2, rfl, rfl, ⟨by decide, by decide⟩, _, _, rfl, rfl, .int (szT d : Nat), rfl, .int (nAt d 5 2 : Nat), rfl, _, _, rfl, rfl, _, 1, rfl, rfl, .int (nAt d 5 2 : Nat), rfl, _, _, rfl, rfl, ⟨by omega, by omega⟩, 4, _, rfl, rfl, .inl ⟨by decide, by decide⟩, _, _, rfl, rfl, _, 4, rfl, rfl, ?_⟩
    have eE : ((hpos d (mAt d) : Nat) : Int) + ((szT d : Nat) + 1) / 2 + 4 * ((((szT d : Nat) : Int) + (nAt d 5 2 : Nat) - 1) / (nAt d 5 2 : Nat)) + 4 = ((eAt d + 4 : Nat) : Int) := by
      rw [e9]
      unfold eAt sAt
      generalize (szT d + nAt d 5 2 - 1) / nAt d 5 2 = z
      omega
    dsimp only
    rw [eE]
    have hv := vdt_end hk h9 hz hall2
    refine ⟨.ref a, rfl, a, _, rfl, .inl ha2, .int ((eAt d + 4 : Nat) : Int), rfl, _, _, rfl, rfl, _, rfl, ite2 (fun c4 => ?_) (fun c4 => ?_)⟩
    · have c4 := of_decide_eq_true c4
      rw [hlm] at c4
      rw [if_pos (by omega)] at hv
      have q1 := q _ s2
      rw [hv] at q1
      exact q1
    have h4 : ¬ d.length < eAt d + 4 := fun y => c4 (decide_eq_true (by rw [hlm]; omega))
    rw [if_neg h4] at hv
    refine ⟨.ref a, rfl, a, _, rfl, .inl ha2, .int ((eAt d + 4 : Nat) : Int), rfl, _, _, rfl, rfl, _, rfl, ite2 (fun c5 => ?_) (fun c5 => ?_)⟩
    · have c5 := of_decide_eq_true c5
      rw [hlm] at c5
      rw [if_pos (.inl (by omega))] at hv
      refine iteT ?_
      have q1 := q _ s2
      rw [hv] at q1
      exact q1
    have h5 : ¬ eAt d + 4 < d.length := fun y => c5 (decide_eq_true (by rw [hlm]; omega))
    have e4 : ((eAt d + 4 : Nat) : Int) - 4 = ((eAt d : Nat) : Int) := by omega
    have eS : bn ((d.drop (eAt d)).take 4) = bnN ((d.drop (eAt d)).take 4) := rfl
    refine ⟨.ref a, rfl, .int ((eAt d + 4 : Nat) : Int), rfl, _, 4, rfl, rfl, a, d, eAt d, 4, by rw [← e4]; rfl, ha2, hb, by omega, by decide, ?_⟩
    refine ⟨.ref a, rfl, .int ((eAt d + 4 : Nat) : Int), rfl, _, 4, rfl, rfl, _, rfl, a, _, rfl, ha2, fun pc hpc => ?_⟩
    dsimp only
    rw [e4, cutV_to, ← List.map_take]
    have sc := same_upd (o := .lst ((d.take (eAt d)).map V.int)) hpc
    refine ⟨pc, d.take (eAt d), rfl, .inl (.inl upd_same), by rw [List.length_take]; omega, rfl, _, rfl, iteN (fun z => ?_) (fun z => ?_)⟩
    · rw [if_pos (.inr fun y => z (congrArg V.int y))] at hv
      have q1 := q _ (s2.trans sc)
      rw [hv] at q1
      exact q1
    · rw [if_neg (by
        rintro (y | y)
        · exact h5 y
        · exact y (V.int.inj z))] at hv
      have q1 := q _ (s2.trans sc)
      rw [hv] at q1
      exact q1
end
/-! ### what is told of a reading -/
def rIsE3 (K : PySem.W.Frag) (a : Addr) (cls : Value) (d : Option Addr) : List V → Hp → VK → Prop := fun xs H Q => ∃ C, ExcC K C ∧ cls = .ref C ∧ d = none ∧ rIsE K C a xs H Q
theorem call_isE3 {X : Cx} {a : Addr} {oe : Obj} {cls : Value} {d : Option Addr} {pn : List (Addr × Obj)} (hz : Zc cls d oe) (hf : ∃ vs, oe.data = .fields vs) : CallR (X.suite a ((a, oe) :: pn)) (.builtin "isinstance") (rIsE3 X.K a cls d) := by
  intro pins s σ H xs us Q I r h
  obtain ⟨C, T, rfl, rfl, h⟩ := h
  exact call_isE T hz hf pins s σ H xs us Q I r h
theorem kit_other {K : PySem.W.Frag} {C D : Addr} {b : Bool} (hne : (C == D) = false) (hd : PySem.W.hasDictIn K D = true) (ht : PySem.W.typeIn K (.ref D) = some (.type "type")) (hs : PySem.W.subIn K (.ref C) (.ref D) = some b) : PySem.W.kitOne K (.ref C) (.ref D) = some b := by
  obtain ⟨cd, hc, _⟩ := PySem.W.any_some hd
  have n1 : ¬ (Value.ref C == Value.ref D) = true := fun z => by
    have e : C = D := Value.ref.inj (beq_iff_eq.mp z)
    rw [e] at hne
    simp at hne
  unfold PySem.W.kitOne
  rw [if_neg n1]
  have e2 : ((PySem.W.clsIn K D).isSome && PySem.W.typeIn K (.ref D) == some (.type "type")) = true := by rw [hc, ht] <;> rfl
  show (if ((PySem.W.clsIn K D).isSome && PySem.W.typeIn K (.ref D) == some (.type "type")) = true then PySem.W.subIn K (.ref C) (.ref D) else none) = some b
  rw [if_pos e2]
  exact hs
theorem kit_self {K : PySem.W.Frag} {C : Addr} : PySem.W.kitOne K (.ref C) (.ref C) = some true := by
  unfold PySem.W.kitOne
  rw [if_pos (by simp)]
theorem kit_value {K : PySem.W.Frag} {C : Addr} (hs : PySem.W.subIn K (.ref C) (.type "ValueError") = some true) : PySem.W.kitOne K (.ref C) (.type "ValueError") = some true := by
  have n1 : ¬ (Value.ref C == Value.type "ValueError") = true := fun z => by cases beq_iff_eq.mp z
  unfold PySem.W.kitOne
  rw [if_neg n1]
  have e2 : PySem.W.kitMeta "ValueError" = true := by decide +kernel
  show (if PySem.W.kitMeta "ValueError" = true then PySem.W.subIn K (.ref C) (.type "ValueError") else none) = some true
  rw [if_pos e2]
  exact hs
/-- what isinstance says of an error of the class C -/
structure Kr (K : PySem.W.Frag) (C hE CN CT CD pL pP : Addr) (bN bT bD : Bool) : Prop where
  E : ExcC K C
  xm : PySem.W.exmOne K (.ref C) (.ref hE) = some true
  kN : PySem.W.kitOne K (.ref C) (.ref CN) = some bN
  kT : PySem.W.kitOne K (.ref C) (.ref CT) = some bT
  kD : PySem.W.kitOne K (.ref C) (.ref CD) = some bD
  kL : PySem.W.kitOne K (.ref C) (.ref pL) = some false
  kP : PySem.W.kitOne K (.ref C) (.ref pP) = some false
  kV : PySem.W.kitOne K (.ref C) (.type "ValueError") = some true
structure Kt (K : PySem.W.Frag) (mg : Str → Option Value) (hE CN CT CD pL pP : Addr) : Prop where
  gH : mg "HomeError" = some (.ref hE)
  gN : mg "NotAnIndex" = some (.ref CN)
  gT : mg "Truncated" = some (.ref CT)
  gD : mg "Damaged" = some (.ref CD)
  gL : mg "InvalidLine" = some (.ref pL)
  gP : mg "InvalidPack" = some (.ref pP)
  mV : mg "ValueError" = none
  N : Kr K CN hE CN CT CD pL pP true false false
  T : Kr K CT hE CN CT CD pL pP false true false
  D : Kr K CD hE CN CT CD pL pP false false true
section
variable {K : PySem.W.Frag}
def rInt1 : List V → Hp → VK → Prop := fun xs H Q => (∃ i, xs = [.int i] ∧ Q (.int i) H) ∨ ∃ k, xs = [.bl k] ∧ Q (.int (if k then 1 else 0)) H
def rJoin (K : PySem.W.Frag) : V → List V → Hp → VK → Prop := fun x xs H Q => ∃ a p, ∃ ys : List Str, x = .str a ∧ xs = [.ref p] ∧ (SqL K H p (ys.map V.str) ∨ SqT K H p (ys.map V.str)) ∧ (ys.map (·.length)).sum + ys.length * a.length ≤ 16777216 ∧ Q (.str (Txt.join a ys)) H
def tIs3 (K : PySem.W.Frag) (i : Nat) (a : Addr) (cls : Value) (d : Option Addr) (c : V) : TE := tCB (rIsE3 K a cls d) (tCons (tVar i) (tCons (tC c) tNil))
def tSay (K : PySem.W.Frag) (z : Str) : TS := tDrop (tBM K "list" rAppend (tVar 4) (tCons (tC (.str z)) tNil))
def tSuite3 (K : PySem.W.Frag) (CN CT CD pL pP : Addr) (a : Addr) (cls : Value) (d : Option Addr) : TS :=
  tSeq (tAsg (tLst tNil) (gName 4))
  (tSeq (tIfS (tB (tIs3 K 3 a cls d (.ref CN))) (tSay K (Str.ofString "head")) tNext)
  (tSeq (tIfS (tB (tIs3 K 3 a cls d (.ref CT))) (tSay K (Str.ofString "short")) tNext)
  (tSeq (tIfS (tB (tIs3 K 3 a cls d (.ref CD))) (tSay K (Str.ofString "damaged")) tNext)
  (tSeq (tIfS (tOr (tB (tIs3 K 3 a cls d (.ref pL))) (tOr (tB (tIs3 K 3 a cls d (.ref pP))) (tNot (tB (tIs3 K 3 a cls d (.ty "ValueError")))))) (tSay K (Str.ofString "other")) tNext)
  (tRet (tM1 (rJoin K) (tC (.str (Str.ofString "and"))) (tVar 4)))))))
def tBody3 (K : PySem.W.Frag) (C CN CT CD : Addr) (T : List (Addr × Str)) (W : WX) : TS :=
  tSeq (tAsg (tCallS (spRIx K C CN CT CD T) (WE W) (tCons (tVar 1) tNil)) (gName 2))
  (tRet (tOp (rIxL K) (tLst (tCons (tC (.str (Str.ofString "other"))) (tCons (tC (.str (Str.ofString "passes"))) tNil))) (tCB rInt1 (tCons (tAndV (tOp (rEqD K) (tVar 1) (tVar 0)) (tOp (rEqD K) (tCallS (spWix C) (WE W) (tCons (tVar 2) tNil)) (tVar 0))) tNil))))
theorem join1 (z : Str) (h : z = Str.ofString "head" ∨ z = Str.ofString "short" ∨ z = Str.ofString "damaged") : Txt.join (Str.ofString "and") [z] = z ∧ z.length ≤ 10 := by
  rcases h with e | e | e <;> subst e <;> exact ⟨by decide +kernel, by decide +kernel⟩
theorem suite_says {C hE CN CT CD pL pP ae : Addr} {bN bT bD : Bool} {n : Nat} {v0 v1 v2 : Option V} {H : Hp} {D : Ends} (R : Kr K C hE CN CT CD pL pP bN bT bD) (hn : (n = 1 ∧ bN = true ∧ bT = false ∧ bD = false) ∨ (n = 2 ∧ bN = false ∧ bT = true ∧ bD = false) ∨ (n = 3 ∧ bN = false ∧ bT = false ∧ bD = true))
    (q : ∀ H', Same H H' → D.rt (.str (vname n)) H') : tSuite3 K CN CT CD pL pP ae (.ref C) none D [v0, v1, v2, some (.ref ae), none] H := by
  have isF : ∀ {p : Addr} {σ : L2.St} {H' : Hp} {R' : Bool → Hp → Prop}, PySem.W.kitOne K (.ref C) (.ref p) = some false → σ[3]? = some (some (.ref ae)) → R' false H' → tB (tIs3 K 3 ae (.ref C) none (.ref p)) σ H' R' := fun k h r => ⟨.ref ae, h, C, R.E, rfl, rfl, .ref _, _, false, rfl, (fun u h => h), k, false, rfl, r⟩
  have isT : ∀ {p : Addr} {σ : L2.St} {H' : Hp} {R' : Bool → Hp → Prop}, PySem.W.kitOne K (.ref C) (.ref p) = some true → σ[3]? = some (some (.ref ae)) → R' true H' → tB (tIs3 K 3 ae (.ref C) none (.ref p)) σ H' R' := fun k h r => ⟨.ref ae, h, C, R.E, rfl, rfl, .ref _, _, true, rfl, (fun u h => h), k, true, rfl, r⟩
  have isV : ∀ {σ : L2.St} {H' : Hp} {R' : Bool → Hp → Prop}, σ[3]? = some (some (.ref ae)) → R' true H' → tB (tIs3 K 3 ae (.ref C) none (.ty "ValueError")) σ H' R' := fun h r => ⟨.ref ae, h, C, R.E, rfl, rfl, .ty "ValueError", _, true, rfl, (fun u h => h), R.kV, true, rfl, r⟩
  refine ⟨Nat.zero_le _, fun p hp => ?_⟩
  have app : ∀ (z : Str) {D' : Ends}, D'.nx [v0, v1, v2, some (.ref ae), some (.ref p)] (upd (upd H p (.lst [])) p (.lst ([] ++ [V.str z]))) → tSay K z D' [v0, v1, v2, some (.ref ae), some (.ref p)] (upd H p (.lst [])) := fun z D' r => ⟨.ref p, rfl, .inl ⟨rfl, _, .inl (.inl upd_same)⟩, p, _, _, rfl, rfl, upd_same, by show 0 < sizeLine; decide, r⟩
  have fin : ∀ (z : Str) {D' : Ends}, (z = Str.ofString "head" ∨ z = Str.ofString "short" ∨ z = Str.ofString "damaged") → (∀ H', Same H H' → D'.rt (.str z) H') → tRet (tM1 (rJoin K) (tC (.str (Str.ofString "and"))) (tVar 4)) D' [v0, v1, v2, some (.ref ae), some (.ref p)] (upd (upd H p (.lst [])) p (.lst ([] ++ [V.str z]))) := fun z D' hz r => by
    obtain ⟨ej, el⟩ := join1 z hz
    refine ⟨⟨_, rfl⟩, .ref p, rfl, _, p, [z], rfl, rfl, .inl (.inl (.inl upd_same)), ?_, ?_⟩
    · have e3 : (Str.ofString "and").length = 3 := by decide +kernel
      show (z.length + 0) + 1 * (Str.ofString "and").length ≤ _
      omega
    · rw [ej]
      exact r _ (ext_same (same_upd hp) hp)
  rcases hn with ⟨rfl, rfl, rfl, rfl⟩ | ⟨rfl, rfl, rfl, rfl⟩ | ⟨rfl, rfl, rfl, rfl⟩
  · exact isT R.kN rfl (iteT (app _ (isF R.kT rfl (iteF (isF R.kD rfl (iteF (isF R.kL rfl (iteF (isF R.kP rfl (iteF (isV rfl (iteF (fin _ (.inl rfl) q)))))))))))))
  · exact isF R.kN rfl (iteF (isT R.kT rfl (iteT (app _ (isF R.kD rfl (iteF (isF R.kL rfl (iteF (isF R.kP rfl (iteF (isV rfl (iteF (fin _ (.inr (.inl rfl)) q)))))))))))))
  · exact isF R.kN rfl (iteF (isF R.kT rfl (iteF (isT R.kD rfl (iteT (app _ (isF R.kL rfl (iteF (isF R.kP rfl (iteF (isV rfl (iteF (fin _ (.inr (.inr rfl)) q)))))))))))))
end
theorem scTold : FnScope ["data", "handed", "index", "error", "names"] ["data"] (defScope sTold) := ⟨rfl, rfl, rfl, by decide +kernel, rfl, by decide +kernel, by decide +kernel⟩
section
variable {P : Program} {w : World} {K : PySem.W.Frag} {mg : Str → Option Value} {base : Heap}
open LamX in
def spTold (T : List (Addr × Str)) : Sp := fun vs H Q _ => ∃ (a : Addr) (d : List Int), vs = [.ref a] ∧ H a = some (LI d) ∧ Byt d ∧ d.length ≤ 60000 ∧ Tabs T H ∧ (vdt d = 0 → ∃ (rs : List Rf) (b s : Nat), d = allB rs b s ∧ IxOk rs b s ∧ Short rs ∧ (∀ r ∈ rs, ∀ c ∈ r.1, c ∈ ncl)) ∧ ∀ H', Grow T H H' → Q (.str (vname (vdt d))) H'
open LamX in
theorem ok_told {f C hE CN CT CD pL pP : Addr} {fd : FuncData} {T : List (Addr × Str)} (F : Fun K "_law_told" "_law_told" sTold f fd) (B : Bl mg) (mlist : mg "list" = none) (D : Kt K mg hE CN CT CD pL pP) (hU : HasX P w K mg base 7 "read_index" ["data"] (spRIx K C CN CT CD T)) (hW : Has P w K mg base 3 "write_index" ["index"] (spWix C)) : FnOk P w K mg base CX0 8 f fd ["data"] (spTold T) := by
  obtain ⟨fU, dU, GU, gU, kU, bU⟩ := hU
  obtain ⟨fW, dW, GW, gW, kW, bW⟩ := hW
  refine F.ok scTold (fun vs H Q E h => ?_) (fun cdv A outer s H vs Q E hr h => ?_)
  · obtain ⟨a, d, rfl, _⟩ := h
    rfl
  · obtain ⟨a, d, rfl, ha, hb, hl, hT, hd, q⟩ := h
    have hr7 : Room 7 _ := hr.mono (by decide)
    have hr3 : Room 3 _ := hr.mono (by decide)
    refine ⟨_, (pss_cons (ps_set (i := 1) scTold.nd rfl (.inl rfl) (pe_callTy call_list_of (by rfl) mlist (by decide +kernel) (pa_cons (pv 0) pa_nil)))
      (pss_one (ps_try_as (i := 3) (tb := tBody3 K C CN CT CD T) (ts := tSuite3 K CN CT CD pL pP) (Wout := fun _ _ _ _ => False) rfl rfl scTold.nd rfl rfl ⟨rfl, by decide, Or.inl D.gH⟩ L2.takes0
 (fun W pn xe tk _ => (pss_cons (ps_set (i := 2) scTold.nd rfl (Or.inl rfl) (pe_callS GU hr7 (by rfl) gU kU bU (fun σ => passAt tk σ) (pa_cons (pv 1) pa_nil)))
      (pss_one (ps_ret (pe_ix ix_list (pe_lst (pa_cons pe_str (pa_cons pe_str pa_nil))) (pe_callTy call_int1 (by rfl) B.int (by decide +kernel) (pa_cons (pe_and (pe_cmpR (op_eqD hr.units) (pv 1) (pv 0) (nomark _)) (pe_one (pe_cmpR (op_eqD hr.units) (pe_callS GW hr3 (by rfl) gW kW bW (fun σ _ _ _ _ _ _ c => c.elim) (pa_cons (pv 2) pa_nil)) (pv 0) (nomark _)))) pa_nil)) (fun _ _ => rfl))))))
 (fun ae oe cls d pn hz hf => (pss_cons (ps_set (i := 4) scTold.nd rfl (Or.inl rfl) (pe_lst pa_nil))
      (pss_cons (ps_if (pt_val (pe_callB (call_isE3 hz hf) (by rfl) B.isin (by decide +kernel) (pa_cons (pv 3) (pa_cons (pe_glob (v := .ref CN) (by rfl) D.gN rfl) pa_nil)))) (pss_one (ps_expr (pe_bm PySem.F.plainAttrs_list PySem.F.slot_list_append PySem.F.type_list_append mt_append (pv 4) (pa_cons pe_str pa_nil)))) pss_nil)
      (pss_cons (ps_if (pt_val (pe_callB (call_isE3 hz hf) (by rfl) B.isin (by decide +kernel) (pa_cons (pv 3) (pa_cons (pe_glob (v := .ref CT) (by rfl) D.gT rfl) pa_nil)))) (pss_one (ps_expr (pe_bm PySem.F.plainAttrs_list PySem.F.slot_list_append PySem.F.type_list_append mt_append (pv 4) (pa_cons pe_str pa_nil)))) pss_nil)
      (pss_cons (ps_if (pt_val (pe_callB (call_isE3 hz hf) (by rfl) B.isin (by decide +kernel) (pa_cons (pv 3) (pa_cons (pe_glob (v := .ref CD) (by rfl) D.gD rfl) pa_nil)))) (pss_one (ps_expr (pe_bm PySem.F.plainAttrs_list PySem.F.slot_list_append PySem.F.type_list_append mt_append (pv 4) (pa_cons pe_str pa_nil)))) pss_nil)
      (pss_cons (ps_if (PW.pt (pw_or (pt_val (pe_callB (call_isE3 hz hf) (by rfl) B.isin (by decide +kernel) (pa_cons (pv 3) (pa_cons (pe_glob (v := .ref pL) (by rfl) D.gL rfl) pa_nil)))) (pw_or (pt_val (pe_callB (call_isE3 hz hf) (by rfl) B.isin (by decide +kernel) (pa_cons (pv 3) (pa_cons (pe_glob (v := .ref pP) (by rfl) D.gP rfl) pa_nil)))) (pw_or1 (pt_not (pt_val (pe_callB (call_isE3 hz hf) (by rfl) B.isin (by decide +kernel) (pa_cons (pv 3) (pa_cons (pe_bltn (v := .ty "ValueError") (by rfl) D.mV (by decide +kernel) rfl) pa_nil))))))))) (pss_one (ps_expr (pe_bm PySem.F.plainAttrs_list PySem.F.slot_list_append PySem.F.type_list_append mt_append (pv 4) (pa_cons pe_str pa_nil)))) pss_nil)
      (pss_one (ps_ret (pe_join pe_str (pv 4))))))))))))), ?_⟩
    refine ⟨_, rfl, a, _, rfl, .inl (.inl (.inl ha)), fun ph hph => ?_⟩
    have sh := same_upd (o := LI d) hph
    have bad : ∀ {C' : Addr} {bN bT bD : Bool} {n : Nat}, Kr K C' hE CN CT CD pL pP bN bT bD → ((n = 1 ∧ bN = true ∧ bT = false ∧ bD = false) ∨ (n = 2 ∧ bN = false ∧ bT = true ∧ bD = false) ∨ (n = 3 ∧ bN = false ∧ bT = false ∧ bD = true)) → vdt d = n → ∀ H', Same (upd H ph (LI d)) H' → ∀ {D' : Ends} {ae : Addr}, D'.rt = Q → tSuite3 K CN CT CD pL pP ae (.ref C') none D' [some (.ref a), some (.ref ph), none, some (.ref ae), none] H' := fun R hn hv H' s' D' ae hD => suite_says R hn fun H2 s2 => by
      rw [hD, ← hv]
      exact q _ ((Grow.start hT).same (sh.trans (s'.trans s2)))
    refine ⟨_, rfl, ph, d, rfl, .inl (.inl upd_same), hb, by omega, tabs_same hT sh, fun hv H2 s2 => ?_, fun hv H2 s2 => ?_, fun hv H2 s2 => ?_, fun hv => ?_⟩
    · exact ⟨true, D.N.xm, fun _ ae hae => bad D.N (.inl ⟨rfl, rfl, rfl, rfl⟩) hv H2 s2 rfl, fun z => nomatch z⟩
    · exact ⟨true, D.T.xm, fun _ ae hae => bad D.T (.inr (.inl ⟨rfl, rfl, rfl, rfl⟩)) hv H2 s2 rfl, fun z => nomatch z⟩
    · exact ⟨true, D.D.xm, fun _ ae hae => bad D.D (.inr (.inr ⟨rfl, rfl, rfl, rfl⟩)) hv H2 s2 rfl, fun z => nomatch z⟩
    · obtain ⟨rs, b, sp, ed, hok, hsh, hnc⟩ := hd hv
      refine ⟨rs, b, sp, ed, hok, hsh, hnc, fun H2 x N g2 hix hN => ?_⟩
      have ha2 : H2 a = some (LI d) := g2.lst (sh _ _ ha)
      have hp2 : H2 ph = some (LI d) := g2.lst upd_same
      refine ⟨by show 2 ≤ sizeLine; decide, fun pl hpl => ?_⟩
      have sl := same_upd (o := .lst [V.str (Str.ofString "other"), V.str (Str.ofString "passes")]) hpl
      refine ⟨.ref ph, rfl, .ref a, rfl, dI d, dI d, dp_dI (.inl (.inl (sl _ _ hp2))), dp_dI (.inl (.inl (sl _ _ ha2))), shaped_dI _, shaped_dI _, ?_⟩
      rw [eqv_ints]
      refine ⟨true, rfl, iteT ⟨.ref x, rfl, x, rs, b, sp, rfl, hix.ix.same sl, hok, hsh, fun H3 pb s3 hpb hb3 => ⟨.ref a, rfl, dI d, dI d, dp_dI (.inl (.inl ?_)), dp_dI (.inl (.inl (s3 _ _ (sl _ _ ha2)))), shaped_dI _, shaped_dI _, ?_⟩⟩⟩
      · rw [hb3, ed]
        try rfl
      rw [eqv_ints]
      refine .inr ⟨true, rfl, pl, _, _, .str (Str.ofString "passes"), rfl, rfl, .inl (.inl (s3 _ _ upd_same)), rfl, ?_⟩
      have q1 := q H3 (((Grow.start hT).same sh).trans g2 |>.same (sl.trans s3))
      rw [hv] at q1
      exact q1
end
/-! ### expressions that give byte lists -/
theorem ret_of {te : TE} {D : Ends} {σ : L2.St} {H : Hp} (h : te σ H D.rt) : tRet te D σ H := h
def YB (te : TE) (σ : L2.St) (H0 : Hp) (n : Nat) : Prop := ∀ (H : Hp) (Q : VK), Same H0 H → (∀ (H' : Hp) (p : Addr) (l : List Int), Same H H' → H' p = some (LI l) → Byt l → l.length ≤ n → Q (.ref p) H') → te σ H Q
def YN (te : TE) (σ : L2.St) (H0 : Hp) (v : Int) : Prop := ∀ (H : Hp) (Q : VK), Same H0 H → Q (.int v) H → te σ H Q
def YO (tl : TO) (σ : L2.St) (H0 : Hp) : Prop := ∃ lo, ∀ (H : Hp) (R : Option Int → Hp → Prop), Same H0 H → R lo H → tl σ H R
section
variable {σ : L2.St} {H0 : Hp}
theorem yn_var {i : Nat} {v : Int} (h : σ[i]? = some (some (.int v))) : YN (tVar i) σ H0 v := fun _ _ _ q => ⟨_, h, q⟩
theorem yn_c {v : Int} : YN (tC (.int v)) σ H0 v := fun _ _ _ q => q
theorem yn_op0 {g : Int → Int → Int} {ta tb : TE} {x y : Int} (ha : YN ta σ H0 x) (hb : YN tb σ H0 y) : YN (tOp (rI0 fun i j => .int (g i j)) ta tb) σ H0 (g x y) := fun H Q s q => ha H _ s (hb H _ s ⟨x, y, rfl, rfl, q⟩)
theorem yn_op {C : Int → Int → Prop} {g : Int → Int → Int} {ta tb : TE} {x y : Int} (ha : YN ta σ H0 x) (hb : YN tb σ H0 y) (hc : C x y) : YN (tOp (rI C fun i j => .int (g i j)) ta tb) σ H0 (g x y) := fun H Q s q => ha H _ s (hb H _ s ⟨x, y, rfl, rfl, hc, q⟩)
theorem yn_max {te : TE} {x y : Int} {tx : TE} (hx : YN tx σ H0 x) (h : YN te σ H0 y) : YN (tCB rMaxP (tCons tx (tCons te tNil))) σ H0 (if y > x then y else x) := fun H Q s q => hx H _ s (h H _ s ⟨x, y, rfl, q⟩)
theorem yo_none : YO tNoPart σ H0 := ⟨none, fun _ _ _ r => r⟩
theorem yo_some {te : TE} {v : Int} (h : YN te σ H0 v) : YO (tPart te) σ H0 := ⟨some v, fun H R s r => h H _ s ⟨v, rfl, r⟩⟩
theorem yb_cat {ta tb : TE} {n m : Nat} (ha : YB ta σ H0 n) (hb : YB tb σ H0 m) (h : n + m ≤ 1000000) : YB (tOp rCat ta tb) σ H0 (n + m) := fun H Q s q => ha H _ s fun H1 p l s1 hp b1 hl => hb H1 _ (s.trans s1) fun H2 p2 l2 s2 hp2 b2 hl2 =>
  ⟨p, p2, _, _, rfl, rfl, s2 _ _ hp, hp2, line_ok6 (by rw [List.length_map, List.length_map]; omega), fun p3 hp3 => q _ p3 (l ++ l2) ((s1.trans s2).trans (same_upd hp3)) (by rw [upd_same]; show some (HO.lst (l.map V.int ++ l2.map V.int)) = some (HO.lst ((l ++ l2).map V.int)); rw [List.map_append]) (b1.app b2) (by rw [List.length_append]; omega)⟩
theorem yb_cut {K : PySem.W.Frag} {i N : Nat} {a : Addr} {d : List Int} {tl th : TO} (hσ : σ[i]? = some (some (.ref a))) (hS : SqL K H0 a (d.map V.int)) (hb : Byt d) (hl : d.length ≤ N) (h1 : YO tl σ H0) (h2 : YO th σ H0) : YB (tSl (rSlL K) (tVar i) tl th) σ H0 N := fun H Q s q => by
  obtain ⟨lo, h1⟩ := h1
  obtain ⟨hi, h2⟩ := h2
  refine ⟨_, hσ, h1 H _ s (h2 H _ s ⟨a, _, rfl, s.seq hS, fun p hp => ?_⟩)⟩
  obtain ⟨m, em, hm, hml⟩ : ∃ m : List Int, L2.cutV (d.map V.int) lo hi = m.map V.int ∧ (∀ x ∈ m, x ∈ d) ∧ m.length ≤ d.length := by
    unfold L2.cutV
    refine ⟨_, by rw [← List.map_drop, ← List.map_take], fun x hx => List.mem_of_mem_drop (List.mem_of_mem_take hx), ?_⟩
    rw [List.length_take, List.length_drop]
    omega
  exact q _ p m (same_upd hp) (by rw [upd_same, em]) (fun x hx => hb x (hm x hx)) (by omega)
theorem yb_by {te : TE} {v : Int} {E : XK} (h : YN te σ H0 v) (hv : 0 ≤ v) : YB (tCall spBytes [] E (tCons te (tCons (tC (.int 4)) tNil))) σ H0 4 := fun H Q s q => h H _ s ⟨v.toNat, 4, by
  show [V.int v, V.int 4] = [V.int (v.toNat : Int), V.int ((4 : Nat) : Int)]
  rw [Int.toNat_of_nonneg hv]
  rfl, by decide, fun H' p s' _ hp' => q H' p _ s' hp' (be_byt 4 _) (by rw [be_len]; exact Nat.le_refl _)⟩
theorem yb_one {te : TE} {v : Int} (h : YN te σ H0 v) (h0 : 0 ≤ v) (h1 : v < 256) : YB (tLst (tCons te tNil)) σ H0 1 := fun H Q s q => h H _ s ⟨by show 1 ≤ sizeLine; decide, fun p hp => q _ p [v] (same_upd hp) upd_same (fun x hx => by
  obtain rfl : x = v := by simpa using hx
  exact ⟨h0, h1⟩) (Nat.le_refl _)⟩
theorem yb_var {i N : Nat} {a : Addr} {d : List Int} (hσ : σ[i]? = some (some (.ref a))) (hS : H0 a = some (LI d)) (hb : Byt d) (hl : d.length ≤ N) : YB (tVar i) σ H0 N := fun H Q s q => ⟨_, hσ, q H a d (Same.refl _) (s _ _ hS) hb hl⟩
end
theorem b256 (x : Int) : 0 ≤ x % 256 ∧ x % 256 < 256 := ⟨Int.emod_nonneg _ (by decide), Int.emod_lt_of_pos _ (by decide)⟩
theorem byt_set {l : List Int} (h : Byt l) (j : Nat) {b : Int} (h0 : 0 ≤ b) (h1 : b < 256) : Byt (l.set j b) := fun x hx => by
  rcases List.mem_or_eq_of_mem_set hx with z | z
  · exact h x z
  · rw [z]
    exact ⟨h0, h1⟩
def scNCh : List Str := ["data", "x", "kind", "at", "byte"]
theorem scChanged : FnScope scNCh ["data", "x"] (defScope sChanged) := ⟨rfl, rfl, rfl, by decide +kernel, rfl, by decide +kernel, by decide +kernel⟩
section
variable {σ : L2.St} {H0 : Hp}
theorem yb_row {K : PySem.W.Frag} {E : XK} {tc tn : TE} {c n : Int} {N : Nat} (hc : YN tc σ H0 c) (hn : YN tn σ H0 n) (h0 : 0 ≤ n) (h1 : n ≤ (N : Int)) (hN : N ≤ 1000) : YB (tCall (spRow K) [] E (tCons tc (tCons tn (tCons (tC (.int 256)) tNil)))) σ H0 N := fun H Q s q => hc H _ s (hn H _ s ⟨c, n, 256, rfl, h0, by omega, by decide, by decide, fun H' p xs s' _ hp' hl' hx => q H' p xs s' hp' hx (by omega)⟩)
theorem yb_three {a b c : Int} (h : Byt [a, b, c]) : YB (tLst (tCons (tC (.int a)) (tCons (tC (.int b)) (tCons (tC (.int c)) tNil)))) σ H0 3 := fun H Q s q => ⟨by show 3 ≤ sizeLine; decide, fun p hp => q _ p [a, b, c] (same_upd hp) upd_same h (Nat.le_refl _)⟩
end
theorem at12 {n : Nat} {b i : Int} (hn : 14 + n ≤ 100000) (i0 : 0 ≤ i) (i12 : i < 12) (hb : b = (n : Int)) : ∃ y : Nat, y ≤ 13 + n ∧ atI [V.int 0, V.int 1, V.int 2, V.int 3, V.int 4, V.int 5, V.int 6, V.int 7, V.int 8, V.int 9, V.int (10 + b), V.int (13 + b)] i = some (.int (y : Int)) := by
  have h : i = 0 ∨ i = 1 ∨ i = 2 ∨ i = 3 ∨ i = 4 ∨ i = 5 ∨ i = 6 ∨ i = 7 ∨ i = 8 ∨ i = 9 ∨ i = 10 ∨ i = 11 := by omega
  rcases h with h | h | h | h | h | h | h | h | h | h | h | h <;> subst h
  · exact ⟨0, by omega, rfl⟩
  · exact ⟨1, by omega, rfl⟩
  · exact ⟨2, by omega, rfl⟩
  · exact ⟨3, by omega, rfl⟩
  · exact ⟨4, by omega, rfl⟩
  · exact ⟨5, by omega, rfl⟩
  · exact ⟨6, by omega, rfl⟩
  · exact ⟨7, by omega, rfl⟩
  · exact ⟨8, by omega, rfl⟩
  · exact ⟨9, by omega, rfl⟩
  · exact ⟨10 + n, by omega, by rw [hb]; show some (V.int (10 + (n : Int))) = some (V.int ((10 + n : Nat) : Int)); rw [Int.natCast_add]; rfl⟩
  · exact ⟨13 + n, by omega, by rw [hb]; show some (V.int (13 + (n : Int))) = some (V.int ((13 + n : Nat) : Int)); rw [Int.natCast_add]; rfl⟩
theorem at4b {b0 b1 b2 b3 i : Int} (h0 : 0 ≤ b0 ∧ b0 < 256) (h1 : 0 ≤ b1 ∧ b1 < 256) (h2 : 0 ≤ b2 ∧ b2 < 256) (h3 : 0 ≤ b3 ∧ b3 < 256) (i0 : 0 ≤ i) (i4 : i < 4) : ∃ b : Int, 0 ≤ b ∧ b < 256 ∧ atI [V.int b0, V.int b1, V.int b2, V.int b3] i = some (.int b) := by
  have h : i = 0 ∨ i = 1 ∨ i = 2 ∨ i = 3 := by omega
  rcases h with h | h | h | h <;> subst h
  · exact ⟨b0, h0.1, h0.2, rfl⟩
  · exact ⟨b1, h1.1, h1.2, rfl⟩
  · exact ⟨b2, h2.1, h2.2, rfl⟩
  · exact ⟨b3, h3.1, h3.2, rfl⟩
section
variable {P : Program} {w : World} {K : PySem.W.Frag} {mg : Str → Option Value} {base : Heap}
def spChanged : Sp := fun vs H Q _ => ∃ (a : Addr) (d : List Int) (x : Int), vs = [.ref a, .int x] ∧ H a = some (LI d) ∧ Byt d ∧ 14 + bAt d 9 ≤ d.length ∧ d.length ≤ 25000 ∧ 0 ≤ x ∧ ∀ (H' : Hp) (p : Addr) (l : List Int), (∀ b o, b ≠ a → H b = some o → H' b = some o) → H' p = some (LI l) → Byt l → l.length ≤ 50100 → Q (.ref p) H'
theorem ok_changed {f : Addr} {fd : FuncData} {k : Nat} (F : Fun K "_law_changed" "_law_changed" sChanged f fd) (B : Bl mg) (hR : Has P w K mg base (k + 1) "_law_row" ["cell", "count", "bound"] (spRow K)) : FnOk P w K mg base CX0 (k + 2) f fd ["data", "x"] spChanged := by
  obtain ⟨fR, dR', GR, gR, kR, bR⟩ := hR
  refine F.ok scChanged (fun vs H Q E h => ?_) (fun cdv A outer s H vs Q E hr h => ?_)
  · obtain ⟨a, d, x, rfl, _⟩ := h
    rfl
  · obtain ⟨a, d, x, rfl, hp, hb, h14, hl, x0, q0⟩ := h
    have q : ∀ (H' : Hp) (p : Addr) (l : List Int), Same H H' → H' p = some (LI l) → Byt l → l.length ≤ 50100 → Q (.ref p) H' := fun H' p l s' => q0 H' p l fun b o _ e => s' b o e
    have hS : SqL K H a (d.map V.int) := .inl (.inl hp)
    have hdl : (d.map V.int).length = d.length := List.length_map _
    refine ⟨_, (pss_cons (ps_set (i := 2) scChanged.nd rfl (.inl rfl) (pe_op op_mod (pv 1) pe_int))
      (pss_cons (ps_set (i := 3) scChanged.nd rfl (.inl rfl) (pe_op op_mod (pe_op op_fdiv (pv 1) pe_int) (pe_callB call_len_seq (by rfl) B.len PySem.boot_len (pa_cons (pv 0) pa_nil))))
      (pss_cons (ps_set (i := 4) scChanged.nd rfl (.inl rfl) (pe_op op_mod (pe_op op_fdiv (pv 1) pe_int) pe_int))
      (pss_cons (ps_if (pt_cmpR op_eq (pv 2) pe_int (nomark _)) (pss_one (ps_ret (pe_slice sl_list (pv 0) po_none (po_some (pv 3))))) pss_nil)
      (pss_cons (ps_if (pt_cmpR op_eq (pv 2) pe_int (nomark _)) (pss_one (ps_ret (pe_op op_cat (pv 0) (pe_call GR hr (by rfl) gR kR bR .nil pass0 (pa_cons (pe_op op_fdiv (pv 1) pe_int) (pa_cons (pe_op op_add pe_int (pe_op op_mod (pe_op op_fdiv (pv 1) pe_int) pe_int)) (pa_cons pe_int pa_nil))))))) pss_nil)
      (pss_cons (ps_if (pt_cmpR op_eq (pv 2) pe_int (nomark _)) (pss_one (ps_ret (pe_op op_cat (pe_slice sl_list (pv 0) po_none (po_some (pv 3))) (pe_slice sl_list (pv 0) (po_some (pe_op op_add (pe_op op_add (pv 3) pe_int) (pe_op op_mod (pe_op op_fdiv (pv 1) pe_int) pe_int))) po_none)))) pss_nil)
      (pss_cons (ps_if (pt_cmpR op_eq (pv 2) pe_int (nomark _)) (pss_one (ps_ret (pe_op op_cat (pe_op op_cat (pe_slice sl_list (pv 0) po_none (po_some (pv 3))) (pe_lst (pa_cons (pv 4) pa_nil))) (pe_slice sl_list (pv 0) (po_some (pv 3)) po_none)))) pss_nil)
      (pss_cons (ps_if (pt_cmpR op_eq (pv 2) pe_int (nomark _)) (pss_one (ps_ret (pe_op op_cat (pe_lst (pa_cons pe_int (pa_cons pe_int (pa_cons pe_int pa_nil)))) (pe_call GR hr (by rfl) gR kR bR .nil pass0 (pa_cons (pe_op op_fdiv (pv 1) pe_int) (pa_cons (pe_op op_mod (pe_op op_fdiv (pv 1) pe_int) pe_int) (pa_cons pe_int pa_nil))))))) pss_nil)
      (C8.pss_cut (ps_if (pt_cmpR op_eq (pv 2) pe_int (nomark _)) (pss_cons (ps_set (i := 3) scChanged.nd rfl (.inl rfl) (pe_ix ix_list (pe_lst (pa_cons pe_int (pa_cons pe_int (pa_cons pe_int (pa_cons pe_int (pa_cons pe_int (pa_cons pe_int (pa_cons pe_int (pa_cons pe_int (pa_cons pe_int (pa_cons pe_int (pa_cons (pe_op op_add pe_int (pe_ix ix_list (pv 0) pe_int (fun _ _ => rfl))) (pa_cons (pe_op op_add pe_int (pe_ix ix_list (pv 0) pe_int (fun _ _ => rfl))) pa_nil))))))))))))) (pe_op op_mod (pe_op op_fdiv (pv 1) pe_int) pe_int) (fun _ _ => rfl)))
      (pss_one (ps_set (i := 4) scChanged.nd rfl (.inl rfl) (pe_ix ix_list (pe_lst (pa_cons pe_int (pa_cons (pv 4) (pa_cons (pe_ix ix_list (pv 0) (pv 3) (fun _ _ => rfl)) (pa_cons (pe_op op_mod (pe_op op_add (pe_ix ix_list (pv 0) (pv 3) (fun _ _ => rfl)) pe_int) pe_int) pa_nil))))) (pe_op op_mod (pe_op op_fdiv (pv 1) pe_int) pe_int) (fun _ _ => rfl))))) pss_nil)
      (pss_cons (ps_asg (pv 4) (pg_sub (pv 0) (pv 3) set_list))
      (C8.pss_cut (ps_if (PW.pt (pw_and (pt_cmpR op_eq (pv 2) pe_int (nomark _)) (pw_and (pt_cmpR op_eq (pe_op op_mod (pe_op op_fdiv (pv 1) pe_int) pe_int) pe_int (nomark _)) (pw_and1 (pt_cmpR op_in_seq (pv 3) (pe_lst (pa_cons pe_int (pa_cons pe_int (pa_cons pe_int pa_nil)))) rfl))))) (pss_one (ps_asg pe_int (pg_sub (pv 0) (pe_op op_add (pv 3) pe_int) set_list))) pss_nil)
      (C8.pss_cut (ps_if (pt_cmpR op_eq (pv 2) pe_int (nomark _)) (pss_one (ps_asg (pe_op op_mod (pe_op op_fdiv (pv 1) pe_int) pe_int) (pg_sub (pv 0) (pe_op op_mod (pe_op op_fdiv (pv 1) pe_int) (pe_callB call_len_seq (by rfl) B.len PySem.boot_len (pa_cons (pv 0) pa_nil))) set_list))) pss_nil)
      (pss_one (ps_ret (pv 0))))))))))))))), ?_⟩
    refine ⟨_, rfl, x, 8, rfl, rfl, (show (0 : Int) < 8 by decide), ?_⟩
    refine ⟨_, rfl, x, 16, rfl, rfl, ⟨by decide, by decide⟩, .ref a, rfl, a, _, rfl, .inl hS, _, _, rfl, rfl, (show (0 : Int) < ((d.map V.int).length : Int) by omega), ?_⟩
    dsimp only
    rw [hdl]
    have y0 := Int.emod_nonneg (x / 16) (show (d.length : Int) ≠ 0 by omega)
    have y1 := Int.emod_lt_of_pos (x / 16) (show (0 : Int) < (d.length : Int) by omega)
    obtain ⟨y, hy⟩ : ∃ y : Nat, x / 16 % (d.length : Int) = (y : Int) := ⟨(x / 16 % (d.length : Int)).toNat, by omega⟩
    rw [hy]
    have hyd : y < d.length := by omega
    have b0 := b256 (x / 16384)
    refine ⟨_, rfl, x, 16384, rfl, rfl, ⟨by decide, by decide⟩, _, 256, rfl, rfl, (show (0 : Int) < 256 by decide), ?_⟩
    dsimp only
    generalize x / 16384 % 256 = by0 at b0 ⊢
    have cutd : ∀ {σ : L2.St} {tl th : TO}, σ[0]? = some (some (.ref a)) → YO tl σ H → YO th σ H → YB (tSl (rSlL K) (tVar 0) tl th) σ H 25000 := fun h0 h1 h2 => yb_cut h0 hS hb hl h1 h2
    have q' : ∀ n, n ≤ 50100 → ∀ (H' : Hp) (p : Addr) (l : List Int), Same H H' → H' p = some (LI l) → Byt l → l.length ≤ n → Q (.ref p) H' := fun n hn H' p l s' h1 h2 h3 => q H' p l s' h1 h2 (by omega)
    have z5 := Int.emod_nonneg (x / 16) (show (5 : Int) ≠ 0 by decide)
    have z5' := Int.emod_lt_of_pos (x / 16) (show (0 : Int) < 5 by decide)
    have z41 := Int.emod_nonneg (x / 16) (show (41 : Int) ≠ 0 by decide)
    have z41' := Int.emod_lt_of_pos (x / 16) (show (0 : Int) < 41 by decide)
    have hc16 : YN (tOp (rI (fun i j => 0 < j ∧ j < 2 ^ 64) fun i j => .int (i / j)) (tVar 1) (tC (.int 16))) [some (.ref a), some (.int x), some (.int (x % 8)), some (.int (y : Int)), some (.int by0)] H (x / 16) := yn_op (yn_var rfl) yn_c ⟨by decide, by decide⟩
    -- 0
    refine ⟨_, rfl, rfl, _, rfl, ite2 (fun e => ?_) (fun e0 => ?_)⟩
    · exact ret_of (cutd rfl yo_none (yo_some (yn_var rfl)) H _ (Same.refl _) (q' _ (by decide)))
    -- 1
    refine ⟨_, rfl, rfl, _, rfl, ite2 (fun e => ?_) (fun e1 => ?_)⟩
    · exact ret_of (yb_cat (yb_var (N := 25000) rfl hp hb hl) (yb_row (N := 5) (yn_op (yn_var rfl) yn_c ⟨by decide, by decide⟩) (yn_op0 yn_c (yn_op (yn_op (yn_var rfl) yn_c ⟨by decide, by decide⟩) yn_c (by decide))) (by omega) (by omega) (by decide)) (by decide) H _ (Same.refl _) (q' _ (by decide)))
    -- 2
    refine ⟨_, rfl, rfl, _, rfl, ite2 (fun e => ?_) (fun e2 => ?_)⟩
    · exact ret_of (yb_cat (cutd rfl yo_none (yo_some (yn_var rfl))) (cutd rfl (yo_some (yn_op0 (yn_op0 (yn_var rfl) yn_c) (yn_op (yn_op (yn_var rfl) yn_c ⟨by decide, by decide⟩) yn_c (by decide)))) yo_none) (by decide) H _ (Same.refl _) (q' _ (by decide)))
    -- 3
    refine ⟨_, rfl, rfl, _, rfl, ite2 (fun e => ?_) (fun e3 => ?_)⟩
    · exact ret_of (yb_cat (yb_cat (cutd rfl yo_none (yo_some (yn_var rfl))) (yb_one (yn_var rfl) b0.1 b0.2) (by decide)) (cutd rfl (yo_some (yn_var rfl)) yo_none) (by decide) H _ (Same.refl _) (q' _ (by decide)))
    -- 4
    refine ⟨_, rfl, rfl, _, rfl, ite2 (fun e => ?_) (fun e4 => ?_)⟩
    · exact ret_of (yb_cat (yb_three (fun z hz => by simp only [List.mem_cons, List.not_mem_nil, or_false] at hz; omega)) (yb_row (N := 41) (yn_op (yn_var rfl) yn_c ⟨by decide, by decide⟩) (yn_op (yn_op (yn_var rfl) yn_c ⟨by decide, by decide⟩) yn_c (by decide)) z41 (by omega) (by decide)) (by decide) H _ (Same.refl _) (q' _ (by decide)))
    -- 5
    have h9d : d[9]? = some ((bAt d 9 : Nat) : Int) := by
      have h9 : 9 < d.length := by omega
      have hx := hb _ (List.getElem_mem h9)
      rw [List.getElem?_eq_getElem h9]
      unfold bAt
      rw [List.getD_eq_getElem?_getD, List.getElem?_eq_getElem h9]
      show some d[9] = some ((d[9].toNat : Nat) : Int)
      rw [Int.toNat_of_nonneg hx.1]
    have hat9 : atI (d.map V.int) 9 = some (.int ((bAt d 9 : Nat) : Int)) := atI_nat (j := 9) (by rw [List.getElem?_map, h9d]; rfl)
    refine ⟨fun σ H' => Same H H' ∧ ∃ (z : Nat) (b : Int), z < d.length ∧ (x % 8 = 5 → z + 1 ≤ d.length) ∧ 0 ≤ b ∧ b < 256 ∧ σ = [some (.ref a), some (.int x), some (.int (x % 8)), some (.int (z : Int)), some (.int b)], ?_, ?_⟩
    · refine ⟨_, rfl, rfl, _, rfl, ite2 (fun e => ?_) (fun e5 => ?_)⟩
      · refine ⟨.ref a, rfl, a, _, _, _, rfl, rfl, hS, hat9, 10, _, rfl, rfl, .ref a, rfl, a, _, _, _, rfl, rfl, hS, hat9, 13, _, rfl, rfl, by show 12 ≤ sizeLine; decide, fun pl hpl => ?_⟩
        obtain ⟨z, hz, hatz⟩ := at12 (n := bAt d 9) (b := ((bAt d 9 : Nat) : Int)) (i := x / 16 % 12) (by omega) (Int.emod_nonneg _ (by decide)) (Int.emod_lt_of_pos _ (by decide)) rfl
        have hzd : z < d.length := by omega
        have hxz := hb _ (List.getElem_mem hzd)
        have hdz : atI (d.map V.int) (z : Int) = some (.int d[z]) := atI_nat (map_int_at hzd)
        refine ⟨.int x, rfl, x, 16, rfl, rfl, ⟨by decide, by decide⟩, _, 12, rfl, rfl, (show (0 : Int) < 12 by decide), pl, _, _, .int (z : Int), rfl, rfl, .inl (.inl upd_same), hatz, ?_⟩
        obtain ⟨H1, hH1⟩ : ∃ H1, H1 = upd H pl (.lst [V.int 0, V.int 1, V.int 2, V.int 3, V.int 4, V.int 5, V.int 6, V.int 7, V.int 8, V.int 9, V.int (10 + ((bAt d 9 : Nat) : Int)), V.int (13 + ((bAt d 9 : Nat) : Int))]) := ⟨_, rfl⟩
        have s1 : Same H H1 := by
          rw [hH1]
          exact same_upd hpl
        rw [← hH1]
        have hS1 := s1.seq hS
        refine ⟨.int by0, rfl, .ref a, rfl, .int (z : Int), rfl, a, _, _, _, rfl, rfl, hS1, hdz, .ref a, rfl, .int (z : Int), rfl, a, _, _, _, rfl, rfl, hS1, hdz, _, 1, rfl, rfl, _, 256, rfl, rfl, (show (0 : Int) < 256 by decide), by show 4 ≤ sizeLine; decide, fun pm hpm => ?_⟩
        obtain ⟨b, hb0, hb1, hatb⟩ := at4b (b0 := 0) (b1 := by0) (b2 := d[z]) (b3 := (d[z] + 1) % 256) (i := x / 256 % 4) ⟨by decide, by decide⟩ b0 hxz (b256 _) (Int.emod_nonneg _ (by decide)) (Int.emod_lt_of_pos _ (by decide))
        exact ⟨.int x, rfl, x, 256, rfl, rfl, ⟨by decide, by decide⟩, _, 4, rfl, rfl, (show (0 : Int) < 4 by decide), pm, _, _, .int b, rfl, rfl, .inl (.inl upd_same), hatb, s1.trans (same_upd hpm), z, b, hzd, fun _ => hzd, hb0, hb1, rfl⟩
      · exact ⟨Same.refl _, y, by0, hyd, fun z => absurd (decide_eq_true (congrArg V.int z)) e5, b0.1, b0.2, rfl⟩
    rintro σ H1 ⟨s1, z, b, hz, hz5, hb0, hb1, rfl⟩
    refine ⟨.int b, rfl, .ref a, rfl, .int (z : Int), rfl, a, _, (z : Int), z, rfl, rfl, s1 _ _ hp, ix_set rfl (by rw [hdl]; exact hz), ?_⟩
    have e2 : (d.map V.int).set z (V.int b) = (d.set z b).map V.int := (List.map_set).symm
    rw [e2]
    generalize hH2 : upd H1 a (.lst ((d.set z b).map V.int)) = H2
    have h2a : H2 a = some (LI (d.set z b)) := by rw [← hH2, upd_same]
    have h2o : ∀ b o, b ≠ a → H b = some o → H2 b = some o := fun c o hc e => by
      rw [← hH2, upd_ne hc]
      exact s1 _ _ e
    have hbs := byt_set hb z hb0 hb1
    generalize hd2 : d.set z b = d2 at h2a hbs
    have hl2 : d2.length = d.length := by rw [← hd2, List.length_set]
    have ll2 : (d2.map V.int).length = d2.length := List.length_map _
    clear hH2
    -- a second byte
    refine ⟨fun σ H' => (∀ b o, b ≠ a → H b = some o → H' b = some o) ∧ (∃ d3, H' a = some (LI d3) ∧ Byt d3 ∧ d3.length = d.length) ∧ σ = [some (.ref a), some (.int x), some (.int (x % 8)), some (.int (z : Int)), some (.int b)], ?_, ?_⟩
    · have keep : (∀ b o, b ≠ a → H b = some o → H2 b = some o) ∧ (∃ d3, H2 a = some (LI d3) ∧ Byt d3 ∧ d3.length = d.length) := ⟨h2o, d2, h2a, hbs, hl2⟩
      refine ⟨.int (x % 8), rfl, rfl, _, rfl, ite2 (fun e => ?_) (fun e => ⟨keep.1, keep.2, rfl⟩)⟩
      refine ⟨.int x, rfl, x, 1024, rfl, rfl, ⟨by decide, by decide⟩, _, 2, rfl, rfl, (show (0 : Int) < 2 by decide), rfl, _, rfl, ite2 (fun e' => ?_) (fun e' => ⟨keep.1, keep.2, rfl⟩)⟩
      refine ⟨.int (z : Int), rfl, by show 3 ≤ sizeLine; decide, fun pl hpl => ?_⟩
      have npl : a ≠ pl := ne_of_none h2a hpl
      have sl := same_upd (o := .lst [V.int 3, V.int 5, V.int 7]) hpl
      have keep2 : (∀ b o, b ≠ a → H b = some o → (upd H2 pl (.lst [V.int 3, V.int 5, V.int 7])) b = some o) := fun c o hc e => sl _ _ (h2o _ _ hc e)
      refine ⟨pl, _, rfl, .inl (.inl (.inl upd_same)), rfl, rfl, _, rfl, ?_⟩
      rw [if_neg (by decide)]
      refine ite2 (fun c => ?_) (fun c => ⟨keep2, ⟨d2, sl _ _ h2a, hbs, hl2⟩, rfl⟩)
      have hz7 : z ≤ 7 := by
        unfold inV at c
        simp [eqV] at c
        omega
      refine ⟨.ref a, rfl, .int (z : Int), rfl, _, 1, rfl, rfl, a, _, _, z + 1, rfl, rfl, sl _ _ h2a, ix_set (by show (z : Int) + 1 = ((z + 1 : Nat) : Int); omega) (by omega), ?_⟩
      refine ⟨fun c o hc e => ?_, ⟨d2.set (z + 1) 0, ?_, byt_set hbs _ (by decide) (by decide), by rw [List.length_set, hl2]⟩, rfl⟩
      · rw [upd_ne hc]
        exact keep2 c o hc e
      · rw [upd_same]
        exact congrArg (fun z => some (HO.lst z)) List.map_set.symm
    rintro σ H3 ⟨h3o, ⟨d3, h3a, h3b, h3l⟩, rfl⟩
    have ll3 : (d3.map V.int).length = d3.length := List.length_map _
    -- a third
    refine ⟨fun σ H' => (∀ b o, b ≠ a → H b = some o → H' b = some o) ∧ (∃ d4, H' a = some (LI d4) ∧ Byt d4 ∧ d4.length = d.length) ∧ σ = [some (.ref a), some (.int x), some (.int (x % 8)), some (.int (z : Int)), some (.int b)], ?_, ?_⟩
    · refine ⟨.int (x % 8), rfl, rfl, _, rfl, ite2 (fun e => ?_) (fun e => ⟨h3o, ⟨d3, h3a, h3b, h3l⟩, rfl⟩)⟩
      have m0 := Int.emod_nonneg (x / 5) (show ((d3.map V.int).length : Int) ≠ 0 by omega)
      have m1 := Int.emod_lt_of_pos (x / 5) (show (0 : Int) < ((d3.map V.int).length : Int) by omega)
      obtain ⟨j, hj⟩ : ∃ j : Nat, x / 5 % ((d3.map V.int).length : Int) = (j : Int) := ⟨(x / 5 % ((d3.map V.int).length : Int)).toNat, by omega⟩
      refine ⟨.int x, rfl, x, 4194304, rfl, rfl, ⟨by decide, by decide⟩, _, 256, rfl, rfl, (show (0 : Int) < 256 by decide), .ref a, rfl, .int x, rfl, x, 5, rfl, rfl, ⟨by decide, by decide⟩, .ref a, rfl, a, _, rfl, .inl (.inl (.inl h3a)), _, _, rfl, rfl, (show (0 : Int) < ((d3.map V.int).length : Int) by omega), a, _, _, j, rfl, rfl, h3a, ix_set hj (by omega), ?_⟩
      refine ⟨fun c o hc e => ?_, ⟨d3.set j (x / 4194304 % 256), ?_, byt_set h3b _ (b256 _).1 (b256 _).2, by rw [List.length_set, h3l]⟩, rfl⟩
      · rw [upd_ne hc]
        exact h3o c o hc e
      · rw [upd_same]
        exact congrArg (fun z => some (HO.lst z)) List.map_set.symm
    rintro σ H4 ⟨h4o, ⟨d4, h4a, h4b, h4l⟩, rfl⟩
    exact ⟨_, rfl, q0 H4 a d4 h4o h4a h4b (by omega)⟩
end
def NLw : List Str := ["script", "references", "block", "sample", "whole", "k", "x", "data", "verdict"]
theorem scLaw : FnScope NLw ["script"] (defScope sLaw) := ⟨rfl, rfl, rfl, by decide +kernel, rfl, by decide +kernel, by decide +kernel⟩
theorem eqvAll_ints : ∀ a b : List Int, PyData.eqvAll (a.map PyData.int) (b.map PyData.int) = decide (a = b)
  | [], [] => by simp [PyData.eqvAll]
  | [], y :: b => by simp [PyData.eqvAll]
  | x :: a, [] => by simp [PyData.eqvAll]
  | x :: a, y :: b => by
    have ih := eqvAll_ints a b
    simp only [List.map_cons, PyData.eqvAll, PyData.eqv]
    rw [ih]
    by_cases h1 : x = y
    · subst h1
      by_cases h2 : a = b
      · subst h2
        simp
      · simp [h2]
    · simp [h1]
theorem eqv_dI (a b : List Int) : PyData.eqv (dI a) (dI b) = decide (a = b) := by
  unfold dI
  rw [PyData.eqv]
  exact eqvAll_ints a b
theorem paired_take {α β : Type} {R : α → β → Prop} {xs : List α} {ys : List β} (h : Paired R xs ys) : ∀ n, Paired R (xs.take n) (ys.take n) := by
  induction h with
  | nil => intro n; rw [List.take_nil, List.take_nil]; exact .nil
  | cons h1 h2 ih =>
    intro n
    cases n with
    | zero => exact .nil
    | succ n => exact .cons h1 (ih n)
theorem tups_take {H : Hp} {xs : List V} {rs : List Rf} (h : Tups H xs rs) (n : Nat) : Tups H (xs.take n) (rs.take n) := paired_take h n
theorem jl_take (rs : List Rf) (n : Nat) : jl (rs.take n) ≤ jl rs := by
  have h := jl_app (rs.take n) (rs.drop n)
  rw [List.take_append_drop] at h
  omega
theorem allB_small {rs : List Rf} (b s : Nat) (h : Short rs) (h9 : rs.length ≤ 9) (hj : jl rs ≤ 4000) : (allB rs b s).length ≤ 25000 := by
  have h1 := flat_len (f := refB) (k := 45) (l := rs) fun r hr => by
    rw [refB_len]
    have := (h.2 r hr).1
    omega
  have h1' : rs.length * 45 ≤ 9 * 45 := Nat.mul_le_mul_right 45 h9
  have hn : (jn rs).length ≤ 4000 := by rw [jn_len]; exact hj
  have h2 := kept_len (ns := jn rs) (s := s) (j := (jn rs).length) (m := (keptL (jn rs) s (jn rs).length).length) hn
  rw [List.take_length] at h2
  have h3 : (colB (lastc (jn rs))).length ≤ 4000 := by
    unfold colB
    rw [colN_len, lastc_len]
    omega
  unfold allB wrB
  rw [List.length_append, List.length_append, List.length_append, List.length_append, headB_len, be_len]
  omega
theorem allB_byt {rs : List Rf} (b s : Nat) (hd : ∀ r ∈ rs, Dna r.2) (h : Short rs) : Byt (allB rs b s) := (wrB_byt b s hd h).app (be_byt _ _)
theorem vname_ne : ∀ {n : Nat}, n ≠ 0 → vname n ≠ Str.ofString "passes"
  | 0, h => absurd rfl h
  | 1, _ => by show Str.ofString "head" ≠ _; decide +kernel
  | 2, _ => by show Str.ofString "short" ≠ _; decide +kernel
  | _ + 3, _ => by show Str.ofString "damaged" ≠ _; decide +kernel
section
variable {P : Program} {w : World} {K : PySem.W.Frag} {mg : Str → Option Value} {base : Heap}
open LamX in
theorem ok_law {f : Addr} {fd : FuncData} {T : List (Addr × Str)} (F : Fun K "law" "law" sLaw f fd) (B : Bl mg) (mlist : mg "list" = none) (hCe : Has P w K mg base 2 "_law_cell" ["script", "k"] (spCell K))
    (hR : Has P w K mg base 5 "_law_references" ["script", "first"] (spLRefs K)) (hZ : Has P w K mg base 3 "_law_sizes" ["cell", "length"] spSizes) (hW : Has P w K mg base 5 "_law_written" ["references", "block", "sample"] (spWritten K T))
    (hTO : Has P w K mg base 8 "_law_told" ["data"] (spTold T)) (hCH : Has P w K mg base 5 "_law_changed" ["data", "x"] spChanged) (hSM : Has P w K mg base 3 "_law_summed" ["data"] spSummed) (hV : Has P w K mg base 5 "_law_verdict" ["data"] (spVerdict K)) : FnOk P w K mg base CX0 9 f fd ["script"] (spLaw K T) := by
  obtain ⟨fC, dC, GC, gC, kC, bC⟩ := hCe
  obtain ⟨fR, dR', GR, gR, kR, bR⟩ := hR
  obtain ⟨fZ, dZ, GZ, gZ, kZ, bZ⟩ := hZ
  obtain ⟨fW, dW, GW, gW, kW, bW⟩ := hW
  obtain ⟨fTO, dTO, GTO, gTO, kTO, bTO⟩ := hTO
  obtain ⟨fCH, dCH, GCH, gCH, kCH, bCH⟩ := hCH
  obtain ⟨fSM, dSM, GSM, gSM, kSM, bSM⟩ := hSM
  obtain ⟨fV, dV, GV, gV, kV, bV⟩ := hV
  refine F.ok scLaw (fun vs H Q E h => ?_) (fun cdv A outer s H vs Q E hr h => ?_)
  · obtain ⟨c, ns, rfl, _⟩ := h
    rfl
  · obtain ⟨a, ns, rfl, hsq, hT, q⟩ := h
    have hr8 : Room 8 _ := hr
    have hr5 : Room 5 _ := hr.mono (by omega)
    have hr3 : Room 3 _ := hr.mono (by omega)
    have hr2 : Room 2 _ := hr.mono (by omega)
    refine ⟨_, (pss_cons (ps_set (i := 1) scLaw.nd rfl (.inl rfl) (pe_call GR hr5 (by rfl) gR kR bR .nil pass0 (pa_cons (pv 0) (pa_cons pe_int pa_nil))))
      (C8.pss_cut (ps_if (pt_cmpR op_gt (pe_callB call_len_seq (by rfl) B.len PySem.boot_len (pa_cons (pv 1) pa_nil)) pe_int (nomark _)) (pss_one (ps_set (i := 1) scLaw.nd rfl (.inl rfl) (pe_slice sl_list (pv 1) po_none (po_some pe_int)))) pss_nil)
      (pss_cons (ps_asg (pe_call GZ hr3 (by rfl) gZ kZ bZ .nil pass0 (pa_cons (pe_call GC hr2 (by rfl) gC kC bC .nil pass0 (pa_cons (pv 0) (pa_cons pe_int pa_nil))) (pa_cons pe_int pa_nil))) (pg_tup rfl (pgs_cons (pg_name (i := 2) scLaw.nd rfl (.inl rfl)) (pgs_cons (pg_name (i := 3) scLaw.nd rfl (.inl rfl)) pgs_nil))))
      (pss_cons (ps_set (i := 4) scLaw.nd rfl (.inl rfl) (pe_call GW hr5 (by rfl) gW kW bW .nil pass0 (pa_cons (pv 1) (pa_cons (pv 2) (pa_cons (pv 3) pa_nil)))))
      (pss_cons (ps_if (pt_cmpR op_ne (pe_call GTO hr8 (by rfl) gTO kTO bTO .nil pass0 (pa_cons (pv 4) pa_nil)) pe_str (nomark _)) (pss_one (ps_ret pe_bl)) pss_nil)
      (pss_cons (ps_for PassesOwn.never rfl (pi_range1 rfl B.range (pa_cons pe_int pa_nil)) (pg_name (i := 5) scLaw.nd rfl (.inl rfl))
        (pss_cons (ps_set (i := 6) scLaw.nd rfl (.inl rfl) (pe_callB call_abs (by rfl) B.abs (by decide +kernel) (pa_cons (pe_call GC hr2 (by rfl) gC kC bC .nil pass0 (pa_cons (pv 0) (pa_cons (pe_op op_add pe_int (pv 5)) pa_nil))) pa_nil)))
      (pss_cons (ps_set (i := 7) scLaw.nd rfl (.inl rfl) (pe_call GCH hr5 (by rfl) gCH kCH bCH .nil pass0 (pa_cons (pe_callTy call_list_of (by rfl) mlist (by decide +kernel) (pa_cons (pv 4) pa_nil)) (pa_cons (pv 6) pa_nil))))
      (C8.pss_cut (ps_if (PW.pt (pw_and (pt_cmpR op_eq (pe_op op_mod (pe_op op_fdiv (pv 6) pe_int) pe_int) pe_int (nomark _)) (pw_and1 (pt_cmpR op_gt (pe_callB call_len_seq (by rfl) B.len PySem.boot_len (pa_cons (pv 7) pa_nil)) pe_int (nomark _))))) (pss_one (ps_set (i := 7) scLaw.nd rfl (.inl rfl) (pe_call GSM hr3 (by rfl) gSM kSM bSM .nil pass0 (pa_cons (pe_slice sl_list (pv 7) po_none (po_some (pe_op op_sub (pe_callB call_len_seq (by rfl) B.len PySem.boot_len (pa_cons (pv 7) pa_nil)) pe_int))) pa_nil)))) pss_nil)
      (pss_cons (ps_set (i := 8) scLaw.nd rfl (.inl rfl) (pe_call GV hr5 (by rfl) gV kV bV .nil pass0 (pa_cons (pv 7) pa_nil)))
      (pss_one (ps_if (PW.pt (pw_and (PW.pt (pw_or (pt_cmpR op_ne (pv 8) pe_str (nomark _)) (pw_or1 (pt_cmpR (op_eqD hr.units) (pv 7) (pv 4) (nomark _))))) (pw_and1 (pt_cmpR op_ne (pe_call GTO hr8 (by rfl) gTO kTO bTO .nil pass0 (pa_cons (pv 7) pa_nil)) (pv 8) (nomark _))))) (pss_one (ps_ret pe_bl)) pss_nil)))))))
      (pss_one (ps_ret pe_bl)))))))), ?_⟩
    refine ⟨.ref a, rfl, a, ns, 1, rfl, hsq, fun H1 pr0 xs0 rs0 s1 hpr0 hr01 ht01 hl01 hl02 hg0 hj0 => ?_⟩
    have hxl0 : xs0.length = rs0.length := paired_len ht01
    -- at most nine references
    refine ⟨fun σ H2 => Same H1 H2 ∧ ∃ (pr : Addr) (xs : List V) (rs : List Rf), H2 pr = some (.lst xs) ∧ Tups H2 xs rs ∧ 1 ≤ rs.length ∧ rs.length ≤ 9 ∧ (∀ r ∈ rs, Gd r ∧ r.2.length ≤ 400) ∧ jl rs ≤ 1000 ∧ σ = [some (.ref a), some (.ref pr), none, none, none, none, none, none, none], ?_, ?_⟩
    · refine ⟨.ref pr0, rfl, pr0, _, rfl, .inl (.inl (.inl hr01)), _, 9, rfl, rfl, _, rfl, ite2 (fun c => ?_) (fun c => ?_)⟩
      · have c := of_decide_eq_true c
        refine ⟨.ref pr0, rfl, _, rfl, pr0, _, rfl, .inl (.inl hr01), fun p hp => ?_⟩
        have e9 : L2.cutV xs0 none (some (9 : Int)) = xs0.take 9 := cutV_to xs0 9
        have s2 := same_upd (o := .lst (L2.cutV xs0 none (some (9 : Int)))) hp
        refine ⟨s2, p, xs0.take 9, rs0.take 9, by rw [upd_same, e9], tups_take (ht01.same s2) 9, by rw [List.length_take]; omega, by rw [List.length_take]; omega, fun r hr => hg0 r (List.mem_of_mem_take hr), ?_, rfl⟩
        have := jl_take rs0 9
        omega
      · refine ⟨Same.refl _, pr0, xs0, rs0, hr01, ht01, hl01, ?_, hg0, hj0, rfl⟩
        refine Nat.le_of_not_lt fun y => c (decide_eq_true ?_)
        omega
    rintro σ H2 ⟨s2, pr, xs, rs, hpr, ht, hl1, hl9, hg, hj, rfl⟩
    have dna := gd_dna hg
    have hsh : Short rs := ⟨by omega, fun r hr => ⟨(hg r hr).1.1.2.1, (gd_asc hg r hr).1⟩⟩
    have s02 := s1.trans s2
    refine ⟨.ref a, rfl, a, ns, 0, rfl, s02.seq hsq, fun cz => ⟨cz, 100, rfl, fun H3 pz b sz s3 hpz hz b1' b2' z1 z2 => ?_⟩⟩
    refine ⟨pz, _, rfl, .inl (.inl hz), rfl, _, _, rfl, _, _, rfl, rfl, ?_⟩
    have s03 := s02.trans s3
    have hok : IxOk rs b sz := ⟨hl1, dna, by omega, b1', b2', z1, z2⟩
    refine ⟨.ref pr, rfl, .int b, rfl, .int sz, rfl, pr, xs, rs, b, sz, rfl, s3 _ _ hpr, ht.same s3, hl1, dna, hsh, by omega, z1, z2, tabs_same hT s03, fun H4 pe g4 hpe => ?_⟩
    have g04 : Grow T H H4 := ((Grow.start hT).same s03).trans g4
    have hlen := allB_small b sz hsh hl9 (by omega)
    have hbyt := allB_byt b sz dna hsh
    have hv := all_verdict (rs := rs) (b := b) (s := sz) b1' b2' z1 z2 hl1 hsh.1 fun r hr => by have := (hg r hr).2; omega
    have hT4 := g04.tab
    have wh : ∃ (rs' : List Rf) (b' s' : Nat), allB rs b sz = allB rs' b' s' ∧ IxOk rs' b' s' ∧ Short rs' ∧ (∀ r ∈ rs', ∀ c ∈ r.1, c ∈ ncl) := ⟨rs, b, sz, rfl, hok, hsh, fun r hr => (hg r hr).1.1.2.2⟩
    refine ⟨.ref pe, rfl, pe, _, rfl, hpe, hbyt, by omega, hT4, fun _ => wh, fun H5 g5 => ?_⟩
    rw [hv]
    refine ⟨rfl, _, rfl, iteN (fun z => absurd rfl z) (fun _ => ?_)⟩
    have h14 : 14 + bAt (allB rs b sz) 9 ≤ (allB rs b sz).length := by
      obtain ⟨r, hr0⟩ : ∃ r, rs[0]? = some r := ⟨_, List.getElem?_eq_getElem (show 0 < rs.length by omega)⟩
      have h1 := hpos_all (rs := rs) (b := b) (s := sz) 1 hl1
      have h2 : hpos (allB rs b sz) 1 = 9 + 1 + bAt (allB rs b sz) 9 + 4 := rfl
      have h3 := flat_split (rs := rs) (i := 0) hr0
      have h4 := flat_take (f := refB) (l := rs) (i := 0) hr0
      have h5 : (rs.take 1).flatMap refB = refB r := by
        rw [show (1 : Nat) = 0 + 1 from rfl, h4]
        rfl
      have h6 : (rs.flatMap refB).length = (refB r).length + ((rs.drop 1).flatMap refB).length := by
        rw [h3, List.length_append, List.length_append]
        simp
      have h7 : (allB rs b sz).length ≥ 9 + (rs.flatMap refB).length := by
        unfold allB wrB
        rw [List.length_append, List.length_append, List.length_append, List.length_append, headB_len]
        omega
      rw [h5] at h1
      omega
    have hpe5 : H5 pe = some (LI (allB rs b sz)) := g5.lst hpe
    have g05 := g04.trans g5
    refine ⟨12, rfl, by decide, by decide, ?_⟩
    refine for_range (lo := 0) (n := 12) (fun i σ H' => Grow T H5 H' ∧ ∃ v5 v6 v7 v8 : Option V, σ = [some (.ref a), some (.ref pr), some (.int (b : Int)), some (.int (sz : Int)), some (.ref pe), v5, v6, v7, v8]) ⟨Grow.start g05.tab, none, none, none, none, rfl⟩ ?_ (fun σ H' _ => q _)
    rintro i σ H6 hi ⟨g6, v5, v6, v7, v8, rfl⟩
    have g06 := g05.trans g6
    have hsq6 := g06.sq hsq
    have hpe6 : H6 pe = some (LI (allB rs b sz)) := g6.lst hpe5
    refine ⟨.ref a, rfl, .int (0 + (i : Nat)), rfl, 14, _, rfl, rfl, a, ns, 14 + i, (show [V.ref a, V.int (14 + (0 + ((i : Nat) : Int)))] = _ by rw [show (14 : Int) + (0 + ((i : Nat) : Int)) = ((14 + i : Nat) : Int) by omega]), hsq6, fun cx => ⟨cx, rfl, ?_⟩⟩
    obtain ⟨x, hx, x0⟩ : ∃ x : Int, (if cx < 0 then -cx else cx) = x ∧ 0 ≤ x := ⟨_, rfl, by split <;> omega⟩
    rw [hx]
    refine ⟨.ref pe, rfl, pe, _, rfl, .inl (.inl (.inl hpe6)), fun ph hph => ⟨.int x, rfl, ph, allB rs b sz, x, rfl, upd_same, hbyt, h14, hlen, x0, fun H7 pd l h7o hpd hlb hll => ?_⟩⟩
    have s7 : Same H6 H7 := fun c o e => h7o c o (fun z => by rw [z, hph] at e; cases e) (by rw [upd_ne (ne_of_none e hph)]; exact e)
    -- the sum
    refine ⟨fun σ H' => Same H7 H' ∧ ∃ (pd : Addr) (l : List Int), H' pd = some (LI l) ∧ Byt l ∧ l.length ≤ 50100 ∧ σ = [some (.ref a), some (.ref pr), some (.int (b : Int)), some (.int (sz : Int)), some (.ref pe), some (.int (0 + (i : Nat))), some (.int x), some (.ref pd), v8], ?_, ?_⟩
    · refine ⟨.int x, rfl, x, 8, rfl, rfl, ⟨by decide, by decide⟩, _, 2, rfl, rfl, (show (0 : Int) < 2 by decide), rfl, _, rfl, ite2 (fun c => ?_) (fun c => ⟨Same.refl _, pd, l, hpd, hlb, hll, rfl⟩)⟩
      refine ⟨.ref pd, rfl, pd, _, rfl, .inl (.inl (.inl hpd)), _, 4, rfl, rfl, _, rfl, ite2 (fun c4 => ?_) (fun c4 => ⟨Same.refl _, pd, l, hpd, hlb, hll, rfl⟩)⟩
      have llm : (l.map V.int).length = l.length := List.length_map _
      have c4 := of_decide_eq_true c4
      rw [llm] at c4
      refine ⟨.ref pd, rfl, .ref pd, rfl, pd, _, rfl, .inl (.inl (.inl hpd)), _, 4, rfl, rfl, _, rfl, pd, _, rfl, .inl (.inl hpd), fun pc hpc => ?_⟩
      have ec : L2.cutV (l.map V.int) none (some (((l.map V.int).length : Int) - 4)) = (l.take (l.length - 4)).map V.int := by
        rw [llm, show ((l.length : Nat) : Int) - 4 = ((l.length - 4 : Nat) : Int) by omega, cutV_to, List.map_take]
      have sc := same_upd (o := .lst (L2.cutV (l.map V.int) none (some (((l.map V.int).length : Int) - 4)))) hpc
      refine ⟨pc, l.take (l.length - 4), rfl, by rw [upd_same, ec], by rw [List.length_take]; omega, fun H8 pf s8 hpf hf8 => ⟨sc.trans s8, pf, _, hf8, Byt.app (fun z hz => hlb z (List.mem_of_mem_take hz)) (be_byt _ _), ?_, rfl⟩⟩
      rw [List.length_append, List.length_take, be_len]
      omega
    rintro σ H8 ⟨s8, pd2, l2, hpd8, hlb2, hll2, rfl⟩
    refine ⟨.ref pd2, rfl, pd2, l2, rfl, .inl (.inl hpd8), hlb2, by omega, fun H9 s9 => ?_⟩
    have s69 := s7.trans (s8.trans s9)
    have g9 : Grow T H6 H9 := (Grow.start g06.tab).same s69
    have hpd9 := s9 _ _ hpd8
    have hpe9 := s69 _ _ hpe6
    have fin : ∀ H', Grow T H9 H' → Grow T H5 H' ∧ ∃ v5 v6 v7 v8 : Option V, [some (V.ref a), some (V.ref pr), some (V.int (b : Int)), some (V.int (sz : Int)), some (V.ref pe), some (V.int (0 + (i : Nat))), some (V.int x), some (V.ref pd2), some (V.str (vname (vdt l2)))] = [some (.ref a), some (.ref pr), some (.int (b : Int)), some (.int (sz : Int)), some (.ref pe), v5, v6, v7, v8] := fun H' g => ⟨g6.trans (g9.trans g), _, _, _, _, rfl⟩
    by_cases hz : vdt l2 = 0
    · refine ⟨.str (vname (vdt l2)), rfl, rfl, _, rfl, iteN (fun z => absurd (by rw [hz]; rfl) z) (fun _ => ?_)⟩
      refine ⟨.ref pd2, rfl, .ref pe, rfl, dI l2, dI (allB rs b sz), dp_dI (.inl (.inl hpd9)), dp_dI (.inl (.inl hpe9)), shaped_dI _, shaped_dI _, _, rfl, ?_⟩
      rw [eqv_dI]
      refine ite2 (fun c => ?_) (fun c => ?_)
      · have c := of_decide_eq_true c
        refine ⟨.ref pd2, rfl, pd2, l2, rfl, hpd9, hlb2, by omega, g9.tab, fun _ => by rw [c]; exact wh, fun H' g => ⟨.str (vname (vdt l2)), rfl, rfl, _, rfl, iteN (fun z => absurd rfl z) (fun _ => fin H' g)⟩⟩
      · exact iteF (fin H9 (Grow.start g9.tab))
    · refine ⟨.str (vname (vdt l2)), rfl, rfl, _, rfl, iteN (fun _ => ?_) (fun z => absurd (V.str.inj z) (vname_ne hz))⟩
      refine ⟨.ref pd2, rfl, pd2, l2, rfl, hpd9, hlb2, by omega, g9.tab, fun z => absurd z hz, fun H' g => ⟨.str (vname (vdt l2)), rfl, rfl, _, rfl, iteN (fun z => absurd rfl z) (fun _ => fin H' g)⟩⟩
end
abbrev lamQ2 : Str := Str.ofString "_sequence_of.<locals>." ++ Str.ofString "<lambda>"
def keysInt (es : Array DictEntry) : Bool := es.toList.all fun e => match e.key with
  | .int k _ => e.hash == PySem.hashInt k
  | _ => false
theorem keys_int {es : Array DictEntry} (h : keysInt es = true) {e : DictEntry} (he : e ∈ es.toList) : ∃ k t, e.key = Value.int k t ∧ e.hash = PySem.hashInt k := by
  have h2 := List.all_eq_true.mp h e he
  split at h2
  · rename_i k t hk
    exact ⟨k, t, hk, by simpa using h2⟩
  · cases h2
/-- where a code object's own table stands -/
def tabAt (o : Obj) : Option Value := match o.data with
  | .fields vs => vs[11]?
  | _ => none
theorem code_in {K : PySem.W.Frag} {c P : Addr} {o : Obj} (h : K.lookup c = some o) (e : PySem.W.codeHdIn [(c, o)] c P = true) : PySem.W.codeHdIn K c P = true := by
  unfold PySem.W.codeHdIn at e ⊢
  rw [h]
  have q : List.lookup c [(c, o)] = some o := by simp [List.lookup]
  rw [q] at e
  exact e
theorem all_mk {l : PySem.W.OpenLaw} {w : World} {K : PySem.W.Frag} {h : Heap} {mg : Str → Option Value} {fa fSR fRK fJK fSy fSO fPJ fSm fCo fBg fC fO fLe fTx fNm fMy fRf fJn fZ fSt fNb fBy fLs fSd fWr fSo fCb fWx fNA fTO fSQ fTT fTN fTC fCF fHE fCE fRI fNu fVe fTo fCh fL fMI fM1 fM2 fMk cc Pt cc2 Pt2 C Dk qY qF qL hN hT hD eHE eLI ePA : Addr} (X : K.In h) (G : h.Ns mainGlobals mg) (hfa : mg "law" = some (.ref fa)) {ts : List Addr} (tt : ∀ P ∈ ts, h.get? P = some { cls := .none, data := .fields #[] })
    {odSR anSR : Option Addr} {slSR : Array (Option Value)} {ocSR kVSR dcSR pmSR cdSR ctSR : Value}
    {odRK anRK : Option Addr} {slRK : Array (Option Value)} {ocRK kVRK dcRK pmRK cdRK ctRK : Value}
    {odJK anJK : Option Addr} {slJK : Array (Option Value)} {ocJK kVJK dcJK pmJK cdJK ctJK : Value}
    {odSy anSy : Option Addr} {slSy : Array (Option Value)} {ocSy kVSy dcSy pmSy cdSy ctSy : Value}
    {odSO anSO : Option Addr} {slSO : Array (Option Value)} {ocSO kVSO dcSO pmSO cdSO ctSO : Value}
    {odPJ anPJ : Option Addr} {slPJ : Array (Option Value)} {ocPJ kVPJ dcPJ pmPJ cdPJ ctPJ : Value}
    {odSm anSm : Option Addr} {slSm : Array (Option Value)} {ocSm kVSm dcSm pmSm cdSm ctSm : Value}
    {odCo anCo : Option Addr} {slCo : Array (Option Value)} {ocCo kVCo dcCo pmCo cdCo ctCo : Value}
    {odBg anBg : Option Addr} {slBg : Array (Option Value)} {ocBg kVBg dcBg pmBg cdBg ctBg : Value}
    {odC anC : Option Addr} {slC : Array (Option Value)} {ocC kVC dcC pmC cdC ctC : Value}
    {odO anO : Option Addr} {slO : Array (Option Value)} {ocO kVO dcO pmO cdO ctO : Value}
    {odLe anLe : Option Addr} {slLe : Array (Option Value)} {ocLe kVLe dcLe pmLe cdLe ctLe : Value}
    {odTx anTx : Option Addr} {slTx : Array (Option Value)} {ocTx kVTx dcTx pmTx cdTx ctTx : Value}
    {odNm anNm : Option Addr} {slNm : Array (Option Value)} {ocNm kVNm dcNm pmNm cdNm ctNm : Value}
    {odMy anMy : Option Addr} {slMy : Array (Option Value)} {ocMy kVMy dcMy pmMy cdMy ctMy : Value}
    {odRf anRf : Option Addr} {slRf : Array (Option Value)} {ocRf kVRf dcRf pmRf cdRf ctRf : Value}
    {odJn anJn : Option Addr} {slJn : Array (Option Value)} {ocJn kVJn dcJn pmJn cdJn ctJn : Value}
    {odZ anZ : Option Addr} {slZ : Array (Option Value)} {ocZ kVZ dcZ pmZ cdZ ctZ : Value}
    {odSt anSt : Option Addr} {slSt : Array (Option Value)} {ocSt kVSt dcSt pmSt ctSt : Value}
    {odNb anNb : Option Addr} {slNb : Array (Option Value)} {ocNb kVNb dcNb pmNb cdNb ctNb : Value}
    {odBy anBy : Option Addr} {slBy : Array (Option Value)} {ocBy kVBy dcBy pmBy cdBy ctBy : Value}
    {odLs anLs : Option Addr} {slLs : Array (Option Value)} {ocLs kVLs dcLs pmLs cdLs ctLs : Value}
    {odSd anSd : Option Addr} {slSd : Array (Option Value)} {ocSd kVSd dcSd pmSd cdSd ctSd : Value}
    {odWr anWr : Option Addr} {slWr : Array (Option Value)} {ocWr kVWr dcWr pmWr cdWr ctWr : Value}
    {odSo anSo : Option Addr} {slSo : Array (Option Value)} {ocSo kVSo dcSo pmSo cdSo ctSo : Value}
    {odCb anCb : Option Addr} {slCb : Array (Option Value)} {ocCb kVCb dcCb pmCb cdCb ctCb : Value}
    {odWx anWx : Option Addr} {slWx : Array (Option Value)} {ocWx kVWx dcWx pmWx cdWx ctWx : Value}
    {odNA anNA : Option Addr} {slNA : Array (Option Value)} {ocNA kVNA dcNA pmNA cdNA ctNA : Value}
    {odTO anTO : Option Addr} {slTO : Array (Option Value)} {ocTO kVTO dcTO pmTO cdTO ctTO : Value}
    {odSQ anSQ : Option Addr} {slSQ : Array (Option Value)} {ocSQ kVSQ dcSQ pmSQ ctSQ : Value}
    {odTT anTT : Option Addr} {slTT : Array (Option Value)} {ocTT kVTT dcTT pmTT cdTT ctTT : Value}
    {odTN anTN : Option Addr} {slTN : Array (Option Value)} {ocTN kVTN dcTN pmTN cdTN ctTN : Value}
    {odTC anTC : Option Addr} {slTC : Array (Option Value)} {ocTC kVTC dcTC pmTC cdTC ctTC : Value}
    {odCF anCF : Option Addr} {slCF : Array (Option Value)} {ocCF kVCF dcCF pmCF cdCF ctCF : Value}
    {odHE anHE : Option Addr} {slHE : Array (Option Value)} {ocHE kVHE dcHE pmHE cdHE ctHE : Value}
    {odCE anCE : Option Addr} {slCE : Array (Option Value)} {ocCE kVCE dcCE pmCE cdCE ctCE : Value}
    {odRI anRI : Option Addr} {slRI : Array (Option Value)} {ocRI kVRI dcRI pmRI cdRI ctRI : Value}
    {odNu anNu : Option Addr} {slNu : Array (Option Value)} {ocNu kVNu dcNu pmNu cdNu ctNu : Value}
    {odVe anVe : Option Addr} {slVe : Array (Option Value)} {ocVe kVVe dcVe pmVe cdVe ctVe : Value}
    {odTo anTo : Option Addr} {slTo : Array (Option Value)} {ocTo kVTo dcTo pmTo cdTo ctTo : Value}
    {odCh anCh : Option Addr} {slCh : Array (Option Value)} {ocCh kVCh dcCh pmCh cdCh ctCh : Value}
    {odL anL : Option Addr} {slL : Array (Option Value)} {ocL kVL dcL pmL cdL ctL : Value}
    {odMI anMI : Option Addr} {slMI : Array (Option Value)} {ocMI dcMI pmMI cdMI ctMI : Value}
    {odM1 anM1 : Option Addr} {slM1 : Array (Option Value)} {ocM1 kVM1 dcM1 pmM1 cdM1 ctM1 : Value}
    {odM2 anM2 : Option Addr} {slM2 : Array (Option Value)} {ocM2 kVM2 dcM2 pmM2 cdM2 ctM2 : Value}
    {odMk anMk : Option Addr} {slMk : Array (Option Value)} {ocMk kVMk dcMk pmMk cdMk ctMk : Value}
    (aSR : PySem.W.nsIn K mainGlobals "suffix_rows" = some (some (.ref fSR))) (lSR : K.lookup fSR = some ⟨ocSR, odSR, .func (PySem.W.fnOf "suffix_rows" "suffix_rows" (defArgs sSuffix) (defBody sSuffix) (defScope sSuffix) .none kVSR dcSR pmSR anSR cdSR ctSR), slSR⟩) (cSR : PySem.W.codeIn K cdSR "suffix_rows" = true) (kSR : PySem.W.keepIn K (.ref fSR) = true)
    (aRK : PySem.W.nsIn K mainGlobals "_ranks" = some (some (.ref fRK))) (lRK : K.lookup fRK = some ⟨ocRK, odRK, .func (PySem.W.fnOf "_ranks" "_ranks" (defArgs sRanks) (defBody sRanks) (defScope sRanks) .none kVRK dcRK pmRK anRK cdRK ctRK), slRK⟩) (cRK : PySem.W.codeIn K cdRK "_ranks" = true) (kRK : PySem.W.keepIn K (.ref fRK) = true)
    (aJK : PySem.W.nsIn K mainGlobals "_joined_keys" = some (some (.ref fJK))) (lJK : K.lookup fJK = some ⟨ocJK, odJK, .func (PySem.W.fnOf "_joined_keys" "_joined_keys" (defArgs sKeys) (defBody sKeys) (defScope sKeys) .none kVJK dcJK pmJK anJK cdJK ctJK), slJK⟩) (cJK : PySem.W.codeIn K cdJK "_joined_keys" = true) (kJK : PySem.W.keepIn K (.ref fJK) = true)
    (aSy : PySem.W.nsIn K mainGlobals "symbol" = some (some (.ref fSy))) (lSy : K.lookup fSy = some ⟨ocSy, odSy, .func (PySem.W.fnOf "symbol" "symbol" (defArgs sSymbol) (defBody sSymbol) (defScope sSymbol) .none kVSy dcSy pmSy anSy cdSy ctSy), slSy⟩) (cSy : PySem.W.codeIn K cdSy "symbol" = true) (kSy : PySem.W.keepIn K (.ref fSy) = true)
    (aSO : PySem.W.nsIn K mainGlobals "symbols_of" = some (some (.ref fSO))) (lSO : K.lookup fSO = some ⟨ocSO, odSO, .func (PySem.W.fnOf "symbols_of" "symbols_of" (defArgs sSymsOf) (defBody sSymsOf) (defScope sSymsOf) .none kVSO dcSO pmSO anSO cdSO ctSO), slSO⟩) (cSO : PySem.W.codeIn K cdSO "symbols_of" = true) (kSO : PySem.W.keepIn K (.ref fSO) = true)
    (aPJ : PySem.W.nsIn K mainGlobals "joined" = some (some (.ref fPJ))) (lPJ : K.lookup fPJ = some ⟨ocPJ, odPJ, .func (PySem.W.fnOf "joined" "joined" (defArgs sPJoined) (defBody sPJoined) (defScope sPJoined) .none kVPJ dcPJ pmPJ anPJ cdPJ ctPJ), slPJ⟩) (cPJ : PySem.W.codeIn K cdPJ "joined" = true) (kPJ : PySem.W.keepIn K (.ref fPJ) = true)
    (aSm : PySem.W.nsIn K mainGlobals "_smaller_symbols" = some (some (.ref fSm))) (lSm : K.lookup fSm = some ⟨ocSm, odSm, .func (PySem.W.fnOf "_smaller_symbols" "_smaller_symbols" (defArgs sSmaller) (defBody sSmaller) (defScope sSmaller) .none kVSm dcSm pmSm anSm cdSm ctSm), slSm⟩) (cSm : PySem.W.codeIn K cdSm "_smaller_symbols" = true) (kSm : PySem.W.keepIn K (.ref fSm) = true)
    (aCo : PySem.W.nsIn K mainGlobals "_counts_at_blocks" = some (some (.ref fCo))) (lCo : K.lookup fCo = some ⟨ocCo, odCo, .func (PySem.W.fnOf "_counts_at_blocks" "_counts_at_blocks" (defArgs sCounts) (defBody sCounts) (defScope sCounts) .none kVCo dcCo pmCo anCo cdCo ctCo), slCo⟩) (cCo : PySem.W.codeIn K cdCo "_counts_at_blocks" = true) (kCo : PySem.W.keepIn K (.ref fCo) = true)
    (aBg : PySem.W.nsIn K mainGlobals "_begins_of" = some (some (.ref fBg))) (lBg : K.lookup fBg = some ⟨ocBg, odBg, .func (PySem.W.fnOf "_begins_of" "_begins_of" (defArgs sBegins) (defBody sBegins) (defScope sBegins) .none kVBg dcBg pmBg anBg cdBg ctBg), slBg⟩) (cBg : PySem.W.codeIn K cdBg "_begins_of" = true) (kBg : PySem.W.keepIn K (.ref fBg) = true)
    (aC : PySem.W.nsIn K mainGlobals "_law_cell" = some (some (.ref fC))) (lC : K.lookup fC = some ⟨ocC, odC, .func (PySem.W.fnOf "_law_cell" "_law_cell" (defArgs sCell) (defBody sCell) (defScope sCell) .none kVC dcC pmC anC cdC ctC), slC⟩) (cC : PySem.W.codeIn K cdC "_law_cell" = true) (kC : PySem.W.keepIn K (.ref fC) = true)
    (aO : PySem.W.nsIn K mainGlobals "_law_row" = some (some (.ref fO))) (lO : K.lookup fO = some ⟨ocO, odO, .func (PySem.W.fnOf "_law_row" "_law_row" (defArgs sRow) (defBody sRow) (defScope sRow) .none kVO dcO pmO anO cdO ctO), slO⟩) (cO : PySem.W.codeIn K cdO "_law_row" = true) (kO : PySem.W.keepIn K (.ref fO) = true)
    (aLe : PySem.W.nsIn K mainGlobals "_law_letters" = some (some (.ref fLe))) (lLe : K.lookup fLe = some ⟨ocLe, odLe, .func (PySem.W.fnOf "_law_letters" "_law_letters" (defArgs sLetters) (defBody sLetters) (defScope sLetters) .none kVLe dcLe pmLe anLe cdLe ctLe), slLe⟩) (cLe : PySem.W.codeIn K cdLe "_law_letters" = true) (kLe : PySem.W.keepIn K (.ref fLe) = true)
    (aTx : PySem.W.nsIn K mainGlobals "_law_text" = some (some (.ref fTx))) (lTx : K.lookup fTx = some ⟨ocTx, odTx, .func (PySem.W.fnOf "_law_text" "_law_text" (defArgs sText) (defBody sText) (defScope sText) .none kVTx dcTx pmTx anTx cdTx ctTx), slTx⟩) (cTx : PySem.W.codeIn K cdTx "_law_text" = true) (kTx : PySem.W.keepIn K (.ref fTx) = true)
    (aNm : PySem.W.nsIn K mainGlobals "_law_name" = some (some (.ref fNm))) (lNm : K.lookup fNm = some ⟨ocNm, odNm, .func (PySem.W.fnOf "_law_name" "_law_name" (defArgs sName) (defBody sName) (defScope sName) .none kVNm dcNm pmNm anNm cdNm ctNm), slNm⟩) (cNm : PySem.W.codeIn K cdNm "_law_name" = true) (kNm : PySem.W.keepIn K (.ref fNm) = true)
    (aMy : PySem.W.nsIn K mainGlobals "_law_many" = some (some (.ref fMy))) (lMy : K.lookup fMy = some ⟨ocMy, odMy, .func (PySem.W.fnOf "_law_many" "_law_many" (defArgs sMany) (defBody sMany) (defScope sMany) .none kVMy dcMy pmMy anMy cdMy ctMy), slMy⟩) (cMy : PySem.W.codeIn K cdMy "_law_many" = true) (kMy : PySem.W.keepIn K (.ref fMy) = true)
    (aRf : PySem.W.nsIn K mainGlobals "_law_references" = some (some (.ref fRf))) (lRf : K.lookup fRf = some ⟨ocRf, odRf, .func (PySem.W.fnOf "_law_references" "_law_references" (defArgs sLRefs) (defBody sLRefs) (defScope sLRefs) .none kVRf dcRf pmRf anRf cdRf ctRf), slRf⟩) (cRf : PySem.W.codeIn K cdRf "_law_references" = true) (kRf : PySem.W.keepIn K (.ref fRf) = true)
    (aJn : PySem.W.nsIn K mainGlobals "_law_joined" = some (some (.ref fJn))) (lJn : K.lookup fJn = some ⟨ocJn, odJn, .func (PySem.W.fnOf "_law_joined" "_law_joined" (defArgs sJoined) (defBody sJoined) (defScope sJoined) .none kVJn dcJn pmJn anJn cdJn ctJn), slJn⟩) (cJn : PySem.W.codeIn K cdJn "_law_joined" = true) (kJn : PySem.W.keepIn K (.ref fJn) = true)
    (aZ : PySem.W.nsIn K mainGlobals "_law_sizes" = some (some (.ref fZ))) (lZ : K.lookup fZ = some ⟨ocZ, odZ, .func (PySem.W.fnOf "_law_sizes" "_law_sizes" (defArgs sSizes) (defBody sSizes) (defScope sSizes) .none kVZ dcZ pmZ anZ cdZ ctZ), slZ⟩) (cZ : PySem.W.codeIn K cdZ "_law_sizes" = true) (kZ : PySem.W.keepIn K (.ref fZ) = true)
    (aSt : PySem.W.nsIn K mainGlobals "_law_starts" = some (some (.ref fSt))) (lSt : K.lookup fSt = some ⟨ocSt, odSt, .func (PySem.W.fnOf "_law_starts" "_law_starts" (defArgs sStarts) (defBody sStarts) (defScope sStarts) .none kVSt dcSt pmSt anSt (.ref cc) ctSt), slSt⟩) (cSt : PySem.W.codeIn K (.ref cc) "_law_starts" = true) (kSt : PySem.W.keepIn K (.ref fSt) = true)
    (aNb : PySem.W.nsIn K mainGlobals "number_bytes" = some (some (.ref fNb))) (lNb : K.lookup fNb = some ⟨ocNb, odNb, .func (PySem.W.fnOf "number_bytes" "number_bytes" (defArgs sNumB) (defBody sNumB) (defScope sNumB) .none kVNb dcNb pmNb anNb cdNb ctNb), slNb⟩) (cNb : PySem.W.codeIn K cdNb "number_bytes" = true) (kNb : PySem.W.keepIn K (.ref fNb) = true)
    (aBy : PySem.W.nsIn K mainGlobals "_law_bytes" = some (some (.ref fBy))) (lBy : K.lookup fBy = some ⟨ocBy, odBy, .func (PySem.W.fnOf "_law_bytes" "_law_bytes" (defArgs sBytes) (defBody sBytes) (defScope sBytes) .none kVBy dcBy pmBy anBy cdBy ctBy), slBy⟩) (cBy : PySem.W.codeIn K cdBy "_law_bytes" = true) (kBy : PySem.W.keepIn K (.ref fBy) = true)
    (aLs : PySem.W.nsIn K mainGlobals "_law_sum" = some (some (.ref fLs))) (lLs : K.lookup fLs = some ⟨ocLs, odLs, .func (PySem.W.fnOf "_law_sum" "_law_sum" (defArgs sLSum) (defBody sLSum) (defScope sLSum) .none kVLs dcLs pmLs anLs cdLs ctLs), slLs⟩) (cLs : PySem.W.codeIn K cdLs "_law_sum" = true) (kLs : PySem.W.keepIn K (.ref fLs) = true)
    (aSd : PySem.W.nsIn K mainGlobals "_law_summed" = some (some (.ref fSd))) (lSd : K.lookup fSd = some ⟨ocSd, odSd, .func (PySem.W.fnOf "_law_summed" "_law_summed" (defArgs sSummed) (defBody sSummed) (defScope sSummed) .none kVSd dcSd pmSd anSd cdSd ctSd), slSd⟩) (cSd : PySem.W.codeIn K cdSd "_law_summed" = true) (kSd : PySem.W.keepIn K (.ref fSd) = true)
    (aWr : PySem.W.nsIn K mainGlobals "_law_written" = some (some (.ref fWr))) (lWr : K.lookup fWr = some ⟨ocWr, odWr, .func (PySem.W.fnOf "_law_written" "_law_written" (defArgs sWritten) (defBody sWritten) (defScope sWritten) .none kVWr dcWr pmWr anWr cdWr ctWr), slWr⟩) (cWr : PySem.W.codeIn K cdWr "_law_written" = true) (kWr : PySem.W.keepIn K (.ref fWr) = true)
    (aSo : PySem.W.nsIn K mainGlobals "sum_of" = some (some (.ref fSo))) (lSo : K.lookup fSo = some ⟨ocSo, odSo, .func (PySem.W.fnOf "sum_of" "sum_of" (defArgs sSum) (defBody sSum) (defScope sSum) .none kVSo dcSo pmSo anSo cdSo ctSo), slSo⟩) (cSo : PySem.W.codeIn K cdSo "sum_of" = true) (kSo : PySem.W.keepIn K (.ref fSo) = true)
    (aCb : PySem.W.nsIn K mainGlobals "_column_bytes" = some (some (.ref fCb))) (lCb : K.lookup fCb = some ⟨ocCb, odCb, .func (PySem.W.fnOf "_column_bytes" "_column_bytes" (defArgs sColB) (defBody sColB) (defScope sColB) .none kVCb dcCb pmCb anCb cdCb ctCb), slCb⟩) (cCb : PySem.W.codeIn K cdCb "_column_bytes" = true) (kCb : PySem.W.keepIn K (.ref fCb) = true)
    (aWx : PySem.W.nsIn K mainGlobals "write_index" = some (some (.ref fWx))) (lWx : K.lookup fWx = some ⟨ocWx, odWx, .func (PySem.W.fnOf "write_index" "write_index" (defArgs sWriteIx) (defBody sWriteIx) (defScope sWriteIx) .none kVWx dcWx pmWx anWx cdWx ctWx), slWx⟩) (cWx : PySem.W.codeIn K cdWx "write_index" = true) (kWx : PySem.W.keepIn K (.ref fWx) = true)
    (aNA : PySem.W.nsIn K mainGlobals "number_at" = some (some (.ref fNA))) (lNA : K.lookup fNA = some ⟨ocNA, odNA, .func (PySem.W.fnOf "number_at" "number_at" (defArgs sNumAt) (defBody sNumAt) (defScope sNumAt) .none kVNA dcNA pmNA anNA cdNA ctNA), slNA⟩) (cNA : PySem.W.codeIn K cdNA "number_at" = true) (kNA : PySem.W.keepIn K (.ref fNA) = true)
    (aTO : PySem.W.nsIn K mainGlobals "text_of" = some (some (.ref fTO))) (lTO : K.lookup fTO = some ⟨ocTO, odTO, .func (PySem.W.fnOf "text_of" "text_of" (defArgs sTextOf) (defBody sTextOf) (defScope sTextOf) .none kVTO dcTO pmTO anTO cdTO ctTO), slTO⟩) (cTO : PySem.W.codeIn K cdTO "text_of" = true) (kTO : PySem.W.keepIn K (.ref fTO) = true)
    (aSQ : PySem.W.nsIn K mainGlobals "_sequence_of" = some (some (.ref fSQ))) (lSQ : K.lookup fSQ = some ⟨ocSQ, odSQ, .func (PySem.W.fnOf "_sequence_of" "_sequence_of" (defArgs sSeqOf) (defBody sSeqOf) (defScope sSeqOf) .none kVSQ dcSQ pmSQ anSQ (.ref cc2) ctSQ), slSQ⟩) (cSQ : PySem.W.codeIn K (.ref cc2) "_sequence_of" = true) (kSQ : PySem.W.keepIn K (.ref fSQ) = true)
    (aTT : PySem.W.nsIn K mainGlobals "_told_texts" = some (some (.ref fTT))) (lTT : K.lookup fTT = some ⟨ocTT, odTT, .func (PySem.W.fnOf "_told_texts" "_told_texts" (defArgs sTTexts) (defBody sTTexts) (defScope sTTexts) .none kVTT dcTT pmTT anTT cdTT ctTT), slTT⟩) (cTT : PySem.W.codeIn K cdTT "_told_texts" = true) (kTT : PySem.W.keepIn K (.ref fTT) = true)
    (aTN : PySem.W.nsIn K mainGlobals "_told_names" = some (some (.ref fTN))) (lTN : K.lookup fTN = some ⟨ocTN, odTN, .func (PySem.W.fnOf "_told_names" "_told_names" (defArgs sTNames) (defBody sTNames) (defScope sTNames) .none kVTN dcTN pmTN anTN cdTN ctTN), slTN⟩) (cTN : PySem.W.codeIn K cdTN "_told_names" = true) (kTN : PySem.W.keepIn K (.ref fTN) = true)
    (aTC : PySem.W.nsIn K mainGlobals "_told_column" = some (some (.ref fTC))) (lTC : K.lookup fTC = some ⟨ocTC, odTC, .func (PySem.W.fnOf "_told_column" "_told_column" (defArgs sColumn) (defBody sColumn) (defScope sColumn) .none kVTC dcTC pmTC anTC cdTC ctTC), slTC⟩) (cTC : PySem.W.codeIn K cdTC "_told_column" = true) (kTC : PySem.W.keepIn K (.ref fTC) = true)
    (aCF : PySem.W.nsIn K mainGlobals "_check_first_bytes" = some (some (.ref fCF))) (lCF : K.lookup fCF = some ⟨ocCF, odCF, .func (PySem.W.fnOf "_check_first_bytes" "_check_first_bytes" (defArgs sCheckF) (defBody sCheckF) (defScope sCheckF) .none kVCF dcCF pmCF anCF cdCF ctCF), slCF⟩) (cCF : PySem.W.codeIn K cdCF "_check_first_bytes" = true) (kCF : PySem.W.keepIn K (.ref fCF) = true)
    (aHE : PySem.W.nsIn K mainGlobals "_told_heads" = some (some (.ref fHE))) (lHE : K.lookup fHE = some ⟨ocHE, odHE, .func (PySem.W.fnOf "_told_heads" "_told_heads" (defArgs sHeads) (defBody sHeads) (defScope sHeads) .none kVHE dcHE pmHE anHE cdHE ctHE), slHE⟩) (cHE : PySem.W.codeIn K cdHE "_told_heads" = true) (kHE : PySem.W.keepIn K (.ref fHE) = true)
    (aCE : PySem.W.nsIn K mainGlobals "_check_end" = some (some (.ref fCE))) (lCE : K.lookup fCE = some ⟨ocCE, odCE, .func (PySem.W.fnOf "_check_end" "_check_end" (defArgs sCheckE) (defBody sCheckE) (defScope sCheckE) .none kVCE dcCE pmCE anCE cdCE ctCE), slCE⟩) (cCE : PySem.W.codeIn K cdCE "_check_end" = true) (kCE : PySem.W.keepIn K (.ref fCE) = true)
    (aRI : PySem.W.nsIn K mainGlobals "read_index" = some (some (.ref fRI))) (lRI : K.lookup fRI = some ⟨ocRI, odRI, .func (PySem.W.fnOf "read_index" "read_index" (defArgs sReadIx) (defBody sReadIx) (defScope sReadIx) .none kVRI dcRI pmRI anRI cdRI ctRI), slRI⟩) (cRI : PySem.W.codeIn K cdRI "read_index" = true) (kRI : PySem.W.keepIn K (.ref fRI) = true)
    (aNu : PySem.W.nsIn K mainGlobals "_law_number" = some (some (.ref fNu))) (lNu : K.lookup fNu = some ⟨ocNu, odNu, .func (PySem.W.fnOf "_law_number" "_law_number" (defArgs sNumber) (defBody sNumber) (defScope sNumber) .none kVNu dcNu pmNu anNu cdNu ctNu), slNu⟩) (cNu : PySem.W.codeIn K cdNu "_law_number" = true) (kNu : PySem.W.keepIn K (.ref fNu) = true)
    (aVe : PySem.W.nsIn K mainGlobals "_law_verdict" = some (some (.ref fVe))) (lVe : K.lookup fVe = some ⟨ocVe, odVe, .func (PySem.W.fnOf "_law_verdict" "_law_verdict" (defArgs sVerdict) (defBody sVerdict) (defScope sVerdict) .none kVVe dcVe pmVe anVe cdVe ctVe), slVe⟩) (cVe : PySem.W.codeIn K cdVe "_law_verdict" = true) (kVe : PySem.W.keepIn K (.ref fVe) = true)
    (aTo : PySem.W.nsIn K mainGlobals "_law_told" = some (some (.ref fTo))) (lTo : K.lookup fTo = some ⟨ocTo, odTo, .func (PySem.W.fnOf "_law_told" "_law_told" (defArgs sTold) (defBody sTold) (defScope sTold) .none kVTo dcTo pmTo anTo cdTo ctTo), slTo⟩) (cTo : PySem.W.codeIn K cdTo "_law_told" = true) (kTo : PySem.W.keepIn K (.ref fTo) = true)
    (aCh : PySem.W.nsIn K mainGlobals "_law_changed" = some (some (.ref fCh))) (lCh : K.lookup fCh = some ⟨ocCh, odCh, .func (PySem.W.fnOf "_law_changed" "_law_changed" (defArgs sChanged) (defBody sChanged) (defScope sChanged) .none kVCh dcCh pmCh anCh cdCh ctCh), slCh⟩) (cCh : PySem.W.codeIn K cdCh "_law_changed" = true) (kCh : PySem.W.keepIn K (.ref fCh) = true)
    (aL : PySem.W.nsIn K mainGlobals "law" = some (some (.ref fL))) (lL : K.lookup fL = some ⟨ocL, odL, .func (PySem.W.fnOf "law" "law" (defArgs sLaw) (defBody sLaw) (defScope sLaw) .none kVL dcL pmL anL cdL ctL), slL⟩) (cL : PySem.W.codeIn K cdL "law" = true) (kL : PySem.W.keepIn K (.ref fL) = true)
    (aMI : PySem.W.findIn K (.ref C) "__init__" = some (some (.ref fMI))) (iMI : PySem.W.isFn K (.ref fMI) = true) (lMI : K.lookup fMI = some ⟨ocMI, odMI, .func (PySem.W.fnOf "__init__" "Index.__init__" (defArgs mInit) (defBody mInit) (defScope mInit) .none (.ref Dk) dcMI pmMI anMI cdMI ctMI), slMI⟩) (cMI : PySem.W.codeIn K cdMI "Index.__init__" = true) (kMI : PySem.W.keepIn K (.ref fMI) = true)
    (aM1 : PySem.W.findIn K (.ref C) "length" = some (some (.ref fM1))) (iM1 : PySem.W.isFn K (.ref fM1) = true) (lM1 : K.lookup fM1 = some ⟨ocM1, odM1, .func (PySem.W.fnOf "length" "Index.length" (defArgs mLength) (defBody mLength) (defScope mLength) .none kVM1 dcM1 pmM1 anM1 cdM1 ctM1), slM1⟩) (cM1 : PySem.W.codeIn K cdM1 "Index.length" = true) (kM1 : PySem.W.keepIn K (.ref fM1) = true)
    (aM2 : PySem.W.findIn K (.ref C) "last" = some (some (.ref fM2))) (iM2 : PySem.W.isFn K (.ref fM2) = true) (lM2 : K.lookup fM2 = some ⟨ocM2, odM2, .func (PySem.W.fnOf "last" "Index.last" (defArgs mLast) (defBody mLast) (defScope mLast) .none kVM2 dcM2 pmM2 anM2 cdM2 ctM2), slM2⟩) (cM2 : PySem.W.codeIn K cdM2 "Index.last" = true) (kM2 : PySem.W.keepIn K (.ref fM2) = true)
    (aMk : PySem.W.findIn K (.ref C) "kept_starts" = some (some (.ref fMk))) (iMk : PySem.W.isFn K (.ref fMk) = true) (lMk : K.lookup fMk = some ⟨ocMk, odMk, .func (PySem.W.fnOf "kept_starts" "Index.kept_starts" (defArgs mKept) (defBody mKept) (defScope mKept) .none kVMk dcMk pmMk anMk cdMk ctMk), slMk⟩) (cMk : PySem.W.codeIn K cdMk "Index.kept_starts" = true) (kMk : PySem.W.keepIn K (.ref fMk) = true)
    (gC : PySem.W.nsIn K mainGlobals "Index" = some (some (.ref C))) (pg : PySem.W.plainGet K C Str.empty = true) (hd : PySem.W.hasDictIn K C = true) (po : PySem.W.plainOver K C = true) (sa : PySem.W.findIn K (.ref C) "__setattr__" = some (some (.builtin "object.__setattr__"))) (mk : PySem.W.makesIn K C = true) (kc : PySem.W.keepIn K (.ref C) = true)
    (u0 : PySem.W.findIn K (.ref C) "references" = some none) (u1 : PySem.W.findIn K (.ref C) "block" = some none) (u2 : PySem.W.findIn K (.ref C) "sample" = some none) (u3 : PySem.W.findIn K (.ref C) "_last" = some none) (u4 : PySem.W.findIn K (.ref C) "_smaller" = some none) (u5 : PySem.W.findIn K (.ref C) "_counts" = some none) (u6 : PySem.W.findIn K (.ref C) "_starts" = some none) (u7 : PySem.W.findIn K (.ref C) "_begins" = some none)
    {tB tS : Tok} (dB : PySem.W.nsIn K Dk "block" = some (some (.int 64 tB))) (dS : PySem.W.nsIn K Dk "sample" = some (some (.int 16 tS)))
    {esY : Array DictEntry} {nY : Nat} {tY0 tY1 tY2 tY3 tY4 : Tok}
    (dY : PySem.W.nsIn K mainGlobals "_SYMBOLS" = some (some (.ref qY))) (eY : K.lookup qY = some ⟨.type "dict", none, .dict esY nY, #[]⟩) (yY : PySem.W.KeysLit w.params esY.toList)
    (vY0 : PySem.W.nsIn K qY "A" = some (some (.int 2 tY0))) (vY1 : PySem.W.nsIn K qY "C" = some (some (.int 3 tY1))) (vY2 : PySem.W.nsIn K qY "G" = some (some (.int 4 tY2))) (vY3 : PySem.W.nsIn K qY "T" = some (some (.int 5 tY3))) (vY4 : PySem.W.nsIn K qY "N" = some (some (.int 6 tY4)))
    {oC : Obj} (lc : K.lookup cc = some oC) (eP : tabAt oC = some (.ref Pt)) (nP : K.lookup Pt = none) (hcP : PySem.W.codeHdIn [(cc, oC)] cc Pt = true) (mP : Pt ∈ ts) {oC2 : Obj} (lc2 : K.lookup cc2 = some oC2) (eP2 : tabAt oC2 = some (.ref Pt2)) (nP2 : K.lookup Pt2 = none) (hcP2 : PySem.W.codeHdIn [(cc2, oC2)] cc2 Pt2 = true) (mP2 : Pt2 ∈ ts) (qPP : (Pt2 == Pt) = false)
    {tEN : Tok} (nEN : PySem.W.nsIn K mainGlobals "_END" = some (some (.int 0 tEN)))
    {tBO : Tok} (nBO : PySem.W.nsIn K mainGlobals "_BORDER" = some (some (.int 1 tBO)))
    {tMS : Tok} (nMS : PySem.W.nsIn K mainGlobals "_MANY_SYMBOLS" = some (some (.int 7 tMS)))
    {tSM : Tok} (nSM : PySem.W.nsIn K mainGlobals "_SUM_MODULO" = some (some (.int 65521 tSM)))
    {tLS : Tok} (nLS : PySem.W.nsIn K mainGlobals "_LENGTH_SIZE" = some (some (.int 4 tLS)))
    {tTS : Tok} (nTS : PySem.W.nsIn K mainGlobals "_START_SIZE" = some (some (.int 4 tTS)))
    {tUS : Tok} (nUS : PySem.W.nsIn K mainGlobals "_SUM_SIZE" = some (some (.int 4 tUS)))
    {tHZ : Tok} (nHZ : PySem.W.nsIn K mainGlobals "_HEAD_SIZE" = some (some (.int 9 tHZ)))
    {tNC : Tok} (nNC : PySem.W.nsIn K mainGlobals "NAME_CHARACTERS" = some (some (.str (Str.ofString "0123456789ABCDEFGHIJKLMNOPQRSTUVWXYZabcdefghijklmnopqrstuvwxyz") tNC)))
    {odF : Option Addr} {tF0 tF1 tF2 : Tok} {nF : Nat} {slF : Array (Option Value)} {esL : Array DictEntry} {nL : Nat} {tL0 tL1 tL2 tL3 tL4 : Tok}
    (nFB : PySem.W.nsIn K mainGlobals "_FIRST_BYTES" = some (some (.ref qF)))
    (dL : PySem.W.nsIn K mainGlobals "_LETTER_OF" = some (some (.ref qL)))
    (gNe : PySem.W.nsIn K mainGlobals "NotAnIndex" = some (some (.ref hN)))
    (gTe : PySem.W.nsIn K mainGlobals "Truncated" = some (some (.ref hT)))
    (gDe : PySem.W.nsIn K mainGlobals "Damaged" = some (some (.ref hD)))
    (xLg : PySem.W.nsIn K mainGlobals "InvalidLine" = some (some (.ref eLI)))
    (xPg : PySem.W.nsIn K mainGlobals "InvalidPack" = some (some (.ref ePA)))
    (xH : PySem.W.nsIn K mainGlobals "HomeError" = some (some (.ref eHE)))
    (lFB : K.lookup qF = some ⟨.type "tuple", odF, .seq #[.int 72 tF0, .int 82 tF1, .int 1 tF2] nF, slF⟩)
    (eL : K.lookup qL = some ⟨.type "dict", none, .dict esL nL, #[]⟩)
    (qIk : keysInt esL = true)
    (qV2 : PySem.findBy PySem.Value.isInt esL 2 = some (.str (Str.ofString "A") tL0))
    (qV3 : PySem.findBy PySem.Value.isInt esL 3 = some (.str (Str.ofString "C") tL1))
    (qV4 : PySem.findBy PySem.Value.isInt esL 4 = some (.str (Str.ofString "G") tL2))
    (qV5 : PySem.findBy PySem.Value.isInt esL 5 = some (.str (Str.ofString "T") tL3))
    (qV6 : PySem.findBy PySem.Value.isInt esL 6 = some (.str (Str.ofString "N") tL4))
    (qNe : PySem.W.excIn K hN [.type "ValueError", .type "Exception", .type "BaseException", .type "object"] "ValueError.__new__" = true)
    (kNe : PySem.W.keepIn K (.ref hN) = true)
    (sNe : PySem.W.subIn K (.ref hN) (.type "BaseException") = some true)
    (tNe : PySem.W.typeIn K (.ref hN) = some (.type "type"))
    (xGN : PySem.W.findIn K (.ref hN) "__getattribute__" = some (some (.builtin "BaseException.__getattribute__")))
    (xBN : PySem.W.findIn K (.ref hN) "__getattr__" = some none)
    (xDN : PySem.W.hasDictIn K hN = true)
    (xCN : PySem.W.findIn K (.ref hN) "__class__" = some (some (.builtin "object.__class__")))
    (xMN : PySem.W.mroIn K hN (.type "object") = some true)
    (xEN : PySem.W.subIn K (.ref hN) (.ref eHE) = some true)
    (xVN : PySem.W.subIn K (.ref hN) (.type "ValueError") = some true)
    (xNTs : PySem.W.subIn K (.ref hN) (.ref hT) = some false)
    (qNT : (hN == hT) = false)
    (xNDs : PySem.W.subIn K (.ref hN) (.ref hD) = some false)
    (qND : (hN == hD) = false)
    (xNLs : PySem.W.subIn K (.ref hN) (.ref eLI) = some false)
    (qNL : (hN == eLI) = false)
    (xNPs : PySem.W.subIn K (.ref hN) (.ref ePA) = some false)
    (qNP : (hN == ePA) = false)
    (qTe : PySem.W.excIn K hT [.type "ValueError", .type "Exception", .type "BaseException", .type "object"] "ValueError.__new__" = true)
    (kTe : PySem.W.keepIn K (.ref hT) = true)
    (sTe : PySem.W.subIn K (.ref hT) (.type "BaseException") = some true)
    (tTe : PySem.W.typeIn K (.ref hT) = some (.type "type"))
    (xGT : PySem.W.findIn K (.ref hT) "__getattribute__" = some (some (.builtin "BaseException.__getattribute__")))
    (xBT : PySem.W.findIn K (.ref hT) "__getattr__" = some none)
    (xDT : PySem.W.hasDictIn K hT = true)
    (xCT : PySem.W.findIn K (.ref hT) "__class__" = some (some (.builtin "object.__class__")))
    (xMT : PySem.W.mroIn K hT (.type "object") = some true)
    (xET : PySem.W.subIn K (.ref hT) (.ref eHE) = some true)
    (xVT : PySem.W.subIn K (.ref hT) (.type "ValueError") = some true)
    (xTNs : PySem.W.subIn K (.ref hT) (.ref hN) = some false)
    (qTN : (hT == hN) = false)
    (xTDs : PySem.W.subIn K (.ref hT) (.ref hD) = some false)
    (qTD : (hT == hD) = false)
    (xTLs : PySem.W.subIn K (.ref hT) (.ref eLI) = some false)
    (qTL : (hT == eLI) = false)
    (xTPs : PySem.W.subIn K (.ref hT) (.ref ePA) = some false)
    (qTP : (hT == ePA) = false)
    (qDe : PySem.W.excIn K hD [.type "ValueError", .type "Exception", .type "BaseException", .type "object"] "ValueError.__new__" = true)
    (kDe : PySem.W.keepIn K (.ref hD) = true)
    (sDe : PySem.W.subIn K (.ref hD) (.type "BaseException") = some true)
    (tDe : PySem.W.typeIn K (.ref hD) = some (.type "type"))
    (xGD : PySem.W.findIn K (.ref hD) "__getattribute__" = some (some (.builtin "BaseException.__getattribute__")))
    (xBD : PySem.W.findIn K (.ref hD) "__getattr__" = some none)
    (xDD : PySem.W.hasDictIn K hD = true)
    (xCD : PySem.W.findIn K (.ref hD) "__class__" = some (some (.builtin "object.__class__")))
    (xMD : PySem.W.mroIn K hD (.type "object") = some true)
    (xED : PySem.W.subIn K (.ref hD) (.ref eHE) = some true)
    (xVD : PySem.W.subIn K (.ref hD) (.type "ValueError") = some true)
    (xDNs : PySem.W.subIn K (.ref hD) (.ref hN) = some false)
    (qDN : (hD == hN) = false)
    (xDTs : PySem.W.subIn K (.ref hD) (.ref hT) = some false)
    (qDT : (hD == hT) = false)
    (xDLs : PySem.W.subIn K (.ref hD) (.ref eLI) = some false)
    (qDL : (hD == eLI) = false)
    (xDPs : PySem.W.subIn K (.ref hD) (.ref ePA) = some false)
    (qDP : (hD == ePA) = false)
    (xDL : PySem.W.hasDictIn K eLI = true)
    (tLe : PySem.W.typeIn K (.ref eLI) = some (.type "type"))
    (xDP : PySem.W.hasDictIn K ePA = true)
    (tPe : PySem.W.typeIn K (.ref ePA) = some (.type "type"))
    (xS : PySem.W.specialIn K (.builtin "object.__class__") "__get__" = some (some (.builtin "getset_descriptor.__get__")))
    (xU : PySem.W.takesIn K (.builtin "object.__class__") = some true)
    (xH1 : PySem.W.subIn K (.ref eHE) (.type "BaseException") = some true)
    (xH2 : PySem.W.hasDictIn K eHE = true)
    (xH3 : PySem.W.typeIn K (.ref eHE) = some (.type "type"))
    (zlen : PySem.W.nsIn K mainGlobals "len" = some none) (zint : PySem.W.nsIn K mainGlobals "int" = some none) (zabs : PySem.W.nsIn K mainGlobals "abs" = some none) (zrange : PySem.W.nsIn K mainGlobals "range" = some none) (zisinstance : PySem.W.nsIn K mainGlobals "isinstance" = some none) (zbool : PySem.W.nsIn K mainGlobals "bool" = some none) (zstr : PySem.W.nsIn K mainGlobals "str" = some none) (zlist : PySem.W.nsIn K mainGlobals "list" = some none) (zsorted : PySem.W.nsIn K mainGlobals "sorted" = some none) (zenumerate : PySem.W.nsIn K mainGlobals "enumerate" = some none) (zset : PySem.W.nsIn K mainGlobals "set" = some none) (zzip : PySem.W.nsIn K mainGlobals "zip" = some none) (zreversed : PySem.W.nsIn K mainGlobals "reversed" = some none) (zord : PySem.W.nsIn K mainGlobals "ord" = some none) (zall : PySem.W.nsIn K mainGlobals "all" = some none) (ztuple : PySem.W.nsIn K mainGlobals "tuple" = some none) (zsum : PySem.W.nsIn K mainGlobals "sum" = some none) (zmin : PySem.W.nsIn K mainGlobals "min" = some none) (zValueError : PySem.W.nsIn K mainGlobals "ValueError" = some none) :
    LamX.LawAtS l w K L2.CX0 9 63 "script" mg fa h := by
  have e := hfa.symm.trans (PySem.W.mg_of X G aL)
  cases e
  have FSR := fun_mk (st := sSuffix) lSR cSR kSR
  have FRK := fun_mk (st := sRanks) lRK cRK kRK
  have FJK := fun_mk (st := sKeys) lJK cJK kJK
  have FSy := fun_mk (st := sSymbol) lSy cSy kSy
  have FSO := fun_mk (st := sSymsOf) lSO cSO kSO
  have FPJ := fun_mk (st := sPJoined) lPJ cPJ kPJ
  have FSm := fun_mk (st := sSmaller) lSm cSm kSm
  have FCo := fun_mk (st := sCounts) lCo cCo kCo
  have FBg := fun_mk (st := sBegins) lBg cBg kBg
  have FC := fun_mk (st := sCell) lC cC kC
  have FO := fun_mk (st := sRow) lO cO kO
  have FLe := fun_mk (st := sLetters) lLe cLe kLe
  have FTx := fun_mk (st := sText) lTx cTx kTx
  have FNm := fun_mk (st := sName) lNm cNm kNm
  have FMy := fun_mk (st := sMany) lMy cMy kMy
  have FRf := fun_mk (st := sLRefs) lRf cRf kRf
  have FJn := fun_mk (st := sJoined) lJn cJn kJn
  have FZ := fun_mk (st := sSizes) lZ cZ kZ
  have FSt : FunC K "_law_starts" "_law_starts" sStarts fSt cc _ := ⟨⟨_, _, _, _, _, _, _, _, rfl, lSt, cSt⟩⟩
  have FNb := fun_mk (st := sNumB) lNb cNb kNb
  have FBy := fun_mk (st := sBytes) lBy cBy kBy
  have FLs := fun_mk (st := sLSum) lLs cLs kLs
  have FSd := fun_mk (st := sSummed) lSd cSd kSd
  have FWr := fun_mk (st := sWritten) lWr cWr kWr
  have FSo := fun_mk (st := sSum) lSo cSo kSo
  have FCb := fun_mk (st := sColB) lCb cCb kCb
  have FWx := fun_mk (st := sWriteIx) lWx cWx kWx
  have FNA := fun_mk (st := sNumAt) lNA cNA kNA
  have FTO := fun_mk (st := sTextOf) lTO cTO kTO
  have FSQ : FunC K "_sequence_of" "_sequence_of" sSeqOf fSQ cc2 _ := ⟨⟨_, _, _, _, _, _, _, _, rfl, lSQ, cSQ⟩⟩
  have FTT := fun_mk (st := sTTexts) lTT cTT kTT
  have FTN := fun_mk (st := sTNames) lTN cTN kTN
  have FTC := fun_mk (st := sColumn) lTC cTC kTC
  have FCF := fun_mk (st := sCheckF) lCF cCF kCF
  have FHE := fun_mk (st := sHeads) lHE cHE kHE
  have FCE := fun_mk (st := sCheckE) lCE cCE kCE
  have FRI := fun_mk (st := sReadIx) lRI cRI kRI
  have FNu := fun_mk (st := sNumber) lNu cNu kNu
  have FVe := fun_mk (st := sVerdict) lVe cVe kVe
  have FTo := fun_mk (st := sTold) lTo cTo kTo
  have FCh := fun_mk (st := sChanged) lCh cCh kCh
  have FL := fun_mk (st := sLaw) lL cL kL
  have FM1 := fun_mk (st := mLength) lM1 cM1 kM1
  have FM2 := fun_mk (st := mLast) lM2 cM2 kM2
  have FMk := fun_mk (st := mKept) lMk cMk kMk
  have FMI : FunD K "__init__" "Index.__init__" (defArgs mInit) (defBody mInit) (defScope mInit) [] [("block", .int 64), ("sample", .int 16)] fMI _ := ⟨⟨_, _, _, _, _, _, _, _, _, _, rfl, lMI, cMI, .inl ⟨rfl, rfl⟩, .inr ⟨_, rfl, fun q hq => by
    rcases List.mem_cons.mp hq with e | hq
    · subst e
      exact ⟨_, dB, _, rfl⟩
    · rcases List.mem_cons.mp hq with e | hq
      · subst e
        exact ⟨_, dS, _, rfl⟩
      · cases hq⟩⟩, kMI⟩
  have IX : IxT K mg C := ⟨⟨pg, hd, po, sa⟩, u0, u1, u2, u3, u4, u5, u6, u7, PySem.W.mg_of X G gC⟩
  have DY : KD K w qY fun c => .int (sy c) := fun c hc => by
    rcases hc with e | e | e | e | e <;> subst e
    · exact ⟨_, _, _, eY, yY, vY0, ⟨_, rfl⟩⟩
    · exact ⟨_, _, _, eY, yY, vY1, ⟨_, rfl⟩⟩
    · exact ⟨_, _, _, eY, yY, vY2, ⟨_, rfl⟩⟩
    · exact ⟨_, _, _, eY, yY, vY3, ⟨_, rfl⟩⟩
    · exact ⟨_, _, _, eY, yY, vY4, ⟨_, rfl⟩⟩
  have B : Bl mg := ⟨PySem.W.mg_none_of X G zlen, PySem.W.mg_none_of X G zint, PySem.W.mg_none_of X G zabs, PySem.W.mg_none_of X G zrange, PySem.W.mg_none_of X G zisinstance, PySem.W.mg_none_of X G zbool, PySem.W.mg_none_of X G zstr⟩
  have bSR := FSR.binds (ps := ["numbers"]) fun _ _ _ _ _ _ us hl => match us, hl with | [_], _ => rfl
  have bRK := FRK.binds (ps := ["keys"]) fun _ _ _ _ _ _ us hl => match us, hl with | [_], _ => rfl
  have bJK := FJK.binds (ps := ["ranks", "width"]) fun _ _ _ _ _ _ us hl => match us, hl with | [_, _], _ => rfl
  have bSy := FSy.binds (ps := ["letter"]) fun _ _ _ _ _ _ us hl => match us, hl with | [_], _ => rfl
  have bSO := FSO.binds (ps := ["text"]) fun _ _ _ _ _ _ us hl => match us, hl with | [_], _ => rfl
  have bPJ := FPJ.binds (ps := ["texts"]) fun _ _ _ _ _ _ us hl => match us, hl with | [_], _ => rfl
  have bSm := FSm.binds (ps := ["sequence"]) fun _ _ _ _ _ _ us hl => match us, hl with | [_], _ => rfl
  have bCo := FCo.binds (ps := ["last", "block"]) fun _ _ _ _ _ _ us hl => match us, hl with | [_, _], _ => rfl
  have bBg := FBg.binds (ps := ["texts"]) fun _ _ _ _ _ _ us hl => match us, hl with | [_], _ => rfl
  have bC := FC.binds (ps := ["script", "k"]) fun _ _ _ _ _ _ us hl => match us, hl with | [_, _], _ => rfl
  have bO := FO.binds (ps := ["cell", "count", "bound"]) fun _ _ _ _ _ _ us hl => match us, hl with | [_, _, _], _ => rfl
  have bLe := FLe.binds (ps := ["cell", "size", "letters"]) fun _ _ _ _ _ _ us hl => match us, hl with | [_, _, _], _ => rfl
  have bTx := FTx.binds (ps := ["shape", "cell", "most"]) fun _ _ _ _ _ _ us hl => match us, hl with | [_, _, _], _ => rfl
  have bNm := FNm.binds (ps := ["cell"]) fun _ _ _ _ _ _ us hl => match us, hl with | [_], _ => rfl
  have bMy := FMy.binds (ps := ["cell", "count"]) fun _ _ _ _ _ _ us hl => match us, hl with | [_, _], _ => rfl
  have bRf := FRf.binds (ps := ["script", "first"]) fun _ _ _ _ _ _ us hl => match us, hl with | [_, _], _ => rfl
  have bJn := FJn.binds (ps := ["references"]) fun _ _ _ _ _ _ us hl => match us, hl with | [_], _ => rfl
  have bZ := FZ.binds (ps := ["cell", "length"]) fun _ _ _ _ _ _ us hl => match us, hl with | [_, _], _ => rfl
  have bSt := FSt.binds (ps := ["numbers"]) fun _ _ _ _ _ _ us hl => match us, hl with | [_], _ => rfl
  have bNb := FNb.binds (ps := ["number", "size"]) fun _ _ _ _ _ _ us hl => match us, hl with | [_, _], _ => rfl
  have bBy := FBy.binds (ps := ["number", "count"]) fun _ _ _ _ _ _ us hl => match us, hl with | [_, _], _ => rfl
  have bLs := FLs.binds (ps := ["data"]) fun _ _ _ _ _ _ us hl => match us, hl with | [_], _ => rfl
  have bSd := FSd.binds (ps := ["data"]) fun _ _ _ _ _ _ us hl => match us, hl with | [_], _ => rfl
  have bWr := FWr.binds (ps := ["references", "block", "sample"]) fun _ _ _ _ _ _ us hl => match us, hl with | [_, _, _], _ => rfl
  have bSo := FSo.binds (ps := ["data"]) fun _ _ _ _ _ _ us hl => match us, hl with | [_], _ => rfl
  have bCb := FCb.binds (ps := ["last"]) fun _ _ _ _ _ _ us hl => match us, hl with | [_], _ => rfl
  have bWx := FWx.binds (ps := ["index"]) fun _ _ _ _ _ _ us hl => match us, hl with | [_], _ => rfl
  have bNA := FNA.binds (ps := ["data", "at", "size"]) fun _ _ _ _ _ _ us hl => match us, hl with | [_, _, _], _ => rfl
  have bTO := FTO.binds (ps := ["symbols"]) fun _ _ _ _ _ _ us hl => match us, hl with | [_], _ => rfl
  have bSQ := FSQ.binds (ps := ["last"]) fun _ _ _ _ _ _ us hl => match us, hl with | [_], _ => rfl
  have bTT := FTT.binds (ps := ["last", "lengths"]) fun _ _ _ _ _ _ us hl => match us, hl with | [_, _], _ => rfl
  have bTN := FTN.binds (ps := ["heads"]) fun _ _ _ _ _ _ us hl => match us, hl with | [_], _ => rfl
  have bTC := FTC.binds (ps := ["data", "size"]) fun _ _ _ _ _ _ us hl => match us, hl with | [_, _], _ => rfl
  have bCF := FCF.binds (ps := ["data"]) fun _ _ _ _ _ _ us hl => match us, hl with | [_], _ => rfl
  have bHE := FHE.binds (ps := ["data", "many"]) fun _ _ _ _ _ _ us hl => match us, hl with | [_, _], _ => rfl
  have bCE := FCE.binds (ps := ["data", "sum_at"]) fun _ _ _ _ _ _ us hl => match us, hl with | [_, _], _ => rfl
  have bRI := FRI.binds (ps := ["data"]) fun _ _ _ _ _ _ us hl => match us, hl with | [_], _ => rfl
  have bNu := FNu.binds (ps := ["data", "at", "count"]) fun _ _ _ _ _ _ us hl => match us, hl with | [_, _, _], _ => rfl
  have bVe := FVe.binds (ps := ["data"]) fun _ _ _ _ _ _ us hl => match us, hl with | [_], _ => rfl
  have bTo := FTo.binds (ps := ["data"]) fun _ _ _ _ _ _ us hl => match us, hl with | [_], _ => rfl
  have bCh := FCh.binds (ps := ["data", "x"]) fun _ _ _ _ _ _ us hl => match us, hl with | [_, _], _ => rfl
  have bM1 := FM1.binds (ps := ["self"]) fun _ _ _ _ _ _ us hl => match us, hl with | [_], _ => rfl
  have bM2 := FM2.binds (ps := ["self"]) fun _ _ _ _ _ _ us hl => match us, hl with | [_], _ => rfl
  have bMk := FMk.binds (ps := ["self"]) fun _ _ _ _ _ _ us hl => match us, hl with | [_], _ => rfl
  have t1 := PySem.W.codeHd_of_K X (code_in lc hcP)
  have t2 := tt Pt mP
  have t3 := PySem.W.codeHd_of_K X (code_in lc2 hcP2)
  have t4 := tt Pt2 mP2
  have nPP : Pt2 ≠ Pt := fun z => by rw [z] at qPP; simp at qPP
  refine ⟨PySem.W.fnOf "law" "law" (defArgs sLaw) (defBody sLaw) (defScope sLaw) .none kVL dcL pmL anL cdL ctL, [(cc, Pt), (cc2, Pt2)], spLaw K [(Pt, lamQ), (Pt2, lamQ2)], (fun p hp => ?_), (fun p hp => ?_), (fun p hp => ?_), (fun s v => .of_eq rfl), (fun H a ns _ _ hT hS => ⟨a, ns, rfl, hS, (fun p hp => ?_), fun _ => rfl⟩), fun base KX GX TB => ?_⟩
  · rcases (show p = (cc, Pt) ∨ p = (cc2, Pt2) by simpa using hp) with rfl | rfl
    · exact t2
    · exact t4
  · rcases (show p = (cc, Pt) ∨ p = (cc2, Pt2) by simpa using hp) with rfl | rfl
    · exact nP
    · exact nP2
  · rcases (show p = (cc, Pt) ∨ p = (cc2, Pt2) by simpa using hp) with rfl | rfl
    · exact t1
    · exact t3
  · rcases (show p = (Pt, lamQ) ∨ p = (Pt2, lamQ2) by simpa using hp) with rfl | rfl
    · exact LamX.TabS.nil (hT (cc, Pt) (by simp))
    · exact LamX.TabS.nil (hT (cc2, Pt2) (by simp))
  · skip
    have hC : Has l.prog w K mg base 2 "_law_cell" ["script", "k"] (spCell K) := ⟨_, _, ok_cell (k := 1) FC B, PySem.W.mg_of X G aC, kC, bC⟩
    have hO : Has l.prog w K mg base 2 "_law_row" ["cell", "count", "bound"] (spRow K) := ⟨_, _, ok_row (k := 1) FO B, PySem.W.mg_of X G aO, kO, bO⟩
    have hLe : Has l.prog w K mg base 3 "_law_letters" ["cell", "size", "letters"] (spLetters K) := ⟨_, _, ok_letters FLe B hO, PySem.W.mg_of X G aLe, kLe, bLe⟩
    have hTx : Has l.prog w K mg base 4 "_law_text" ["shape", "cell", "most"] (spText K) := ⟨_, _, ok_text FTx B hLe, PySem.W.mg_of X G aTx, kTx, bTx⟩
    have hNm : Has l.prog w K mg base 3 "_law_name" ["cell"] (spName K) := ⟨_, _, ok_name FNm B hO, PySem.W.mg_of X G aNm, kNm, bNm⟩
    have hMy : Has l.prog w K mg base 4 "_law_many" ["cell", "count"] (spMany K) := ⟨_, _, ok_many FMy B hO hLe, PySem.W.mg_of X G aMy, kMy, bMy⟩
    have hRf : Has l.prog w K mg base 5 "_law_references" ["script", "first"] (spLRefs K) := ⟨_, _, ok_lrefs FRf B hC hTx hNm hMy, PySem.W.mg_of X G aRf, kRf, bRf⟩
    have hJn : Has l.prog w K mg base 3 "_law_joined" ["references"] (spJoined K) := ⟨_, _, ok_joined (k := 2) FJn B, PySem.W.mg_of X G aJn, kJn, bJn⟩
    have hZ : Has l.prog w K mg base 3 "_law_sizes" ["cell", "length"] spSizes := ⟨_, _, ok_sizes (k := 2) FZ B, PySem.W.mg_of X G aZ, kZ, bZ⟩
    have hSt : Has l.prog w K mg base 4 "_law_starts" ["numbers"] (spStarts K [(Pt, lamQ), (Pt2, lamQ2)]) := ⟨_, _, ok_starts FSt B (PySem.W.mg_none_of X G zsorted) (TB (cc, Pt) (by simp)) (by simp) (fun p hp e => by
      rcases (show p = (Pt, lamQ) ∨ p = (Pt2, lamQ2) by simpa using hp) with rfl | rfl
      · rfl
      · exact absurd e nPP), PySem.W.mg_of X G aSt, kSt, bSt⟩
    have hRK : Has l.prog w K mg base 3 "_ranks" ["keys"] (spRanks K) := ⟨_, _, ok_ranks (k := 2) FRK (PySem.W.mg_none_of X G zenumerate) (PySem.W.mg_none_of X G zsorted) (PySem.W.mg_none_of X G zset), PySem.W.mg_of X G aRK, kRK, bRK⟩
    have hJK : Has l.prog w K mg base 3 "_joined_keys" ["ranks", "width"] (spKeys K) := ⟨_, _, ok_keys (k := 2) FJK B (PySem.W.mg_none_of X G zzip), PySem.W.mg_of X G aJK, kJK, bJK⟩
    have hSR : Has l.prog w K mg base 4 "suffix_rows" ["numbers"] (spRows K) := ⟨_, _, ok_suffix FSR B (PySem.W.mg_none_of X G zenumerate) (PySem.W.mg_none_of X G zset) hRK hJK, PySem.W.mg_of X G aSR, kSR, bSR⟩
    have hSy : Has l.prog w K mg base 1 "symbol" ["letter"] spSym := ⟨_, _, ok_sym (k := 0) FSy (PySem.W.mg_of X G dY) DY, PySem.W.mg_of X G aSy, kSy, bSy⟩
    have hSO : Has l.prog w K mg base 2 "symbols_of" ["text"] spSymsOf := ⟨_, _, ok_symsOf FSO hSy, PySem.W.mg_of X G aSO, kSO, bSO⟩
    have hPJ3 : Has l.prog w K mg base 3 "joined" ["texts"] (spPJoined K) := ⟨_, _, ok_pjoined FPJ (PySem.W.mg_of X G nBO) (PySem.W.mg_of X G nEN) hSO, PySem.W.mg_of X G aPJ, kPJ, bPJ⟩
    have hSy2 : Has l.prog w K mg base 2 "symbol" ["letter"] spSym := ⟨_, _, ok_sym (k := 1) FSy (PySem.W.mg_of X G dY) DY, PySem.W.mg_of X G aSy, kSy, bSy⟩
    have hSO3 : Has l.prog w K mg base 3 "symbols_of" ["text"] spSymsOf := ⟨_, _, ok_symsOf FSO hSy2, PySem.W.mg_of X G aSO, kSO, bSO⟩
    have hPJ : Has l.prog w K mg base 4 "joined" ["texts"] (spPJoined K) := ⟨_, _, ok_pjoined FPJ (PySem.W.mg_of X G nBO) (PySem.W.mg_of X G nEN) hSO3, PySem.W.mg_of X G aPJ, kPJ, bPJ⟩
    have hSm : Has l.prog w K mg base 4 "_smaller_symbols" ["sequence"] (spSmaller K) := ⟨_, _, ok_smaller (k := 3) FSm B.range (PySem.W.mg_of X G nMS), PySem.W.mg_of X G aSm, kSm, bSm⟩
    have hCo : Has l.prog w K mg base 4 "_counts_at_blocks" ["last", "block"] (spCounts K) := ⟨_, _, ok_counts (k := 3) FCo B.range B.len (PySem.W.mg_of X G nMS), PySem.W.mg_of X G aCo, kCo, bCo⟩
    have hBg : Has l.prog w K mg base 4 "_begins_of" ["texts"] (spBegins K) := ⟨_, _, ok_begins (k := 3) FBg B.len, PySem.W.mg_of X G aBg, kBg, bBg⟩
    have hIx : HasI l.prog w K mg base C 5 := hasI_of ⟨mk, aMI, iMI, kc⟩ FMI (ok_init FMI IX (PySem.W.mg_none_of X G zlist) (PySem.W.mg_none_of X G zenumerate) hPJ hSR hSm hCo hBg)
    have hM1 : HasM l.prog w K mg base C 2 "length" ["self"] (spLen C) := ⟨_, _, ok_len (k := 1) FM1 IX B.len, ⟨aM1, iM1, kM1⟩, bM1⟩
    have hM2 : HasM l.prog w K mg base C 2 "last" ["self"] (spLast C) := ⟨_, _, ok_last (k := 1) FM2 IX (PySem.W.mg_none_of X G zlist), ⟨aM2, iM2, kM2⟩, bM2⟩
    have hF : ∀ H, SqT K H qF [.int 72, .int 82, .int 1] := fun H => .inr ⟨_, _, _, lFB, rfl, rfl, by show 3 ≤ sizeLine; decide, .cons ⟨_, rfl⟩ (.cons ⟨_, rfl⟩ (.cons ⟨_, rfl⟩ .nil))⟩
    have hNb : Has l.prog w K mg base 2 "number_bytes" ["number", "size"] spNumB := ⟨_, _, ok_numb (k := 1) FNb B.range (PySem.W.mg_none_of X G zreversed), PySem.W.mg_of X G aNb, kNb, bNb⟩
    have hBy : Has l.prog w K mg base 2 "_law_bytes" ["number", "count"] spBytes := ⟨_, _, ok_bytes (k := 1) FBy B, PySem.W.mg_of X G aBy, kBy, bBy⟩
    have hLs : Has l.prog w K mg base 2 "_law_sum" ["data"] (spLSum K) := ⟨_, _, ok_lsum (k := 1) FLs B, PySem.W.mg_of X G aLs, kLs, bLs⟩
    have hSd : Has l.prog w K mg base 3 "_law_summed" ["data"] spSummed := ⟨_, _, ok_summed FSd hBy hLs, PySem.W.mg_of X G aSd, kSd, bSd⟩
    have hJn4 : Has l.prog w K mg base 4 "_law_joined" ["references"] (spJoined K) := ⟨_, _, ok_joined (k := 3) FJn B, PySem.W.mg_of X G aJn, kJn, bJn⟩
    have hWr : Has l.prog w K mg base 5 "_law_written" ["references", "block", "sample"] (spWritten K [(Pt, lamQ), (Pt2, lamQ2)]) := ⟨_, _, ok_written FWr B (PySem.W.mg_none_of X G zord) hJn4 hSt hBy hSd, PySem.W.mg_of X G aWr, kWr, bWr⟩
    have hSo : Has l.prog w K mg base 2 "sum_of" ["data"] (spSum K) := ⟨_, _, ok_sumOf (k := 1) FSo (PySem.W.mg_of X G nSM), PySem.W.mg_of X G aSo, kSo, bSo⟩
    have hCb : Has l.prog w K mg base 2 "_column_bytes" ["last"] spColB := ⟨_, _, ok_colb (k := 1) FCb B.len B.range, PySem.W.mg_of X G aCb, kCb, bCb⟩
    have hMk : HasM l.prog w K mg base C 2 "kept_starts" ["self"] (spKept C) := ⟨_, _, ok_kept (k := 1) FMk IX (PySem.W.mg_none_of X G zlist), ⟨aMk, iMk, kMk⟩, bMk⟩
    have hWx : Has l.prog w K mg base 3 "write_index" ["index"] (spWix C) := ⟨_, _, ok_wix FWx IX (PySem.W.mg_none_of X G zlist) B.len (PySem.W.mg_none_of X G zord) (PySem.W.mg_of X G nFB) hF (PySem.W.mg_of X G nLS) (PySem.W.mg_of X G nTS) (PySem.W.mg_of X G nUS) hNb hCb hSo hM2 hMk, PySem.W.mg_of X G aWx, kWx, bWx⟩

    have hN2 : Has l.prog w K mg base 2 "number_at" ["data", "at", "size"] (spNumAt K) := ⟨_, _, ok_numat (k := 1) FNA, PySem.W.mg_of X G aNA, kNA, bNA⟩
    have DI : KDI K qL := fun c hc => by
      have hk : ∀ e ∈ esL, ∃ k t, e.key = Value.int k t ∧ e.hash = PySem.hashInt k := fun e he => keys_int qIk (Array.mem_toList_iff.mpr he)
      rcases hc with e | e | e | e | e <;> subst e
      · exact ⟨_, _, _, eL, hk, (show PySem.findBy PySem.Value.isInt esL (sy 65) = _ by rw [show sy 65 = 2 by decide +kernel]; exact qV2), ⟨_, rfl⟩⟩
      · exact ⟨_, _, _, eL, hk, (show PySem.findBy PySem.Value.isInt esL (sy 67) = _ by rw [show sy 67 = 3 by decide +kernel]; exact qV3), ⟨_, rfl⟩⟩
      · exact ⟨_, _, _, eL, hk, (show PySem.findBy PySem.Value.isInt esL (sy 71) = _ by rw [show sy 71 = 4 by decide +kernel]; exact qV4), ⟨_, rfl⟩⟩
      · exact ⟨_, _, _, eL, hk, (show PySem.findBy PySem.Value.isInt esL (sy 84) = _ by rw [show sy 84 = 5 by decide +kernel]; exact qV5), ⟨_, rfl⟩⟩
      · exact ⟨_, _, _, eL, hk, (show PySem.findBy PySem.Value.isInt esL (sy 78) = _ by rw [show sy 78 = 6 by decide +kernel]; exact qV6), ⟨_, rfl⟩⟩
    have hTO : Has l.prog w K mg base 2 "text_of" ["symbols"] (spTextOf K) := ⟨_, _, ok_textof (k := 1) FTO (PySem.W.mg_of X G dL) DI, PySem.W.mg_of X G aTO, kTO, bTO⟩
    have hSQ : Has l.prog w K mg base 4 "_sequence_of" ["last"] (spSeqOf K [(Pt, lamQ), (Pt2, lamQ2)]) := ⟨_, _, ok_seqof (k := 0) FSQ B.len B.range (PySem.W.mg_none_of X G zsorted) (TB (cc2, Pt2) (by simp)) (by simp) (fun p hp e => by
      rcases (show p = (Pt, lamQ) ∨ p = (Pt2, lamQ2) by simpa using hp) with rfl | rfl
      · exact absurd e.symm nPP
      · rfl), PySem.W.mg_of X G aSQ, kSQ, bSQ⟩
    have hTT : Has l.prog w K mg base 5 "_told_texts" ["last", "lengths"] (spTTexts K [(Pt, lamQ), (Pt2, lamQ2)]) := ⟨_, _, ok_ttexts FTT hSQ hTO, PySem.W.mg_of X G aTT, kTT, bTT⟩
    have hTN : Has l.prog w K mg base 2 "_told_names" ["heads"] (spTNames K) := ⟨_, _, ok_tnames (k := 1) FTN (PySem.W.mg_none_of X G zord) (PySem.W.mg_of X G nNC), PySem.W.mg_of X G aTN, kTN, bTN⟩
    have hTC : Has l.prog w K mg base 2 "_told_column" ["data", "size"] (spTCol K) := ⟨_, _, ok_tcol (k := 1) FTC, PySem.W.mg_of X G aTC, kTC, bTC⟩
    have DN : Ex3 K mg "NotAnIndex" hN := ⟨PySem.W.mg_of X G gNe, qNe, kNe, sNe, tNe⟩
    have DT : Ex3 K mg "Truncated" hT := ⟨PySem.W.mg_of X G gTe, qTe, kTe, sTe, tTe⟩
    have DD : Ex3 K mg "Damaged" hD := ⟨PySem.W.mg_of X G gDe, qDe, kDe, sDe, tDe⟩
    have zz := PySem.W.mg_none_of X G zzip
    have hCF : HasX l.prog w K mg base 2 "_check_first_bytes" ["data"] (spCheckF K hN) := ⟨_, _, ok_checkF (k := 1) FCF zz DN (PySem.W.mg_of X G nFB) hF, PySem.W.mg_of X G aCF, kCF, bCF⟩
    have hHE : HasX l.prog w K mg base 3 "_told_heads" ["data", "many"] (spHeads K hT) := ⟨_, _, ok_heads (k := 1) FHE B.range B.len DT (PySem.W.mg_of X G nHZ) (PySem.W.mg_of X G nLS) hN2, PySem.W.mg_of X G aHE, kHE, bHE⟩
    have hCE : HasX l.prog w K mg base 3 "_check_end" ["data", "sum_at"] (spCheckE K hT hD) := ⟨_, _, ok_checkE (k := 1) FCE B.len DT DD (PySem.W.mg_of X G nUS) hN2 hSo, PySem.W.mg_of X G aCE, kCE, bCE⟩
    have hRI : HasX l.prog w K mg base 7 "read_index" ["data"] (spRIx K C hN hT hD [(Pt, lamQ), (Pt2, lamQ2)]) := ⟨_, _, ok_rix FRI IX B.len (PySem.W.mg_none_of X G zsum) zz (PySem.W.mg_none_of X G zlist) DT DD (PySem.W.mg_of X G nHZ) (PySem.W.mg_of X G nTS) hN2 hCF hHE hCE hTC hTN hTT hIx, PySem.W.mg_of X G aRI, kRI, bRI⟩
    have KT : Kt K mg eHE hN hT hD eLI ePA := ⟨PySem.W.mg_of X G xH, PySem.W.mg_of X G gNe, PySem.W.mg_of X G gTe, PySem.W.mg_of X G gDe, PySem.W.mg_of X G xLg, PySem.W.mg_of X G xPg, PySem.W.mg_none_of X G zValueError, ⟨⟨xGN, xBN, sNe, xDN, xCN, xS, xU, xMN⟩, PySem.W.exm_ref xH1 xH2 xH3 xEN, kit_self, kit_other qNT xDT tTe xNTs, kit_other qND xDD tDe xNDs, kit_other qNL xDL tLe xNLs, kit_other qNP xDP tPe xNPs, kit_value xVN⟩, ⟨⟨xGT, xBT, sTe, xDT, xCT, xS, xU, xMT⟩, PySem.W.exm_ref xH1 xH2 xH3 xET, kit_other qTN xDN tNe xTNs, kit_self, kit_other qTD xDD tDe xTDs, kit_other qTL xDL tLe xTLs, kit_other qTP xDP tPe xTPs, kit_value xVT⟩, ⟨⟨xGD, xBD, sDe, xDD, xCD, xS, xU, xMD⟩, PySem.W.exm_ref xH1 xH2 xH3 xED, kit_other qDN xDN tNe xDNs, kit_other qDT xDT tTe xDTs, kit_self, kit_other qDL xDL tLe xDLs, kit_other qDP xDP tPe xDPs, kit_value xVD⟩⟩
    have hTold : Has l.prog w K mg base 8 "_law_told" ["data"] (spTold [(Pt, lamQ), (Pt2, lamQ2)]) := ⟨_, _, ok_told FTo B (PySem.W.mg_none_of X G zlist) KT hRI hWx, PySem.W.mg_of X G aTo, kTo, bTo⟩
    have hNu4 : Has l.prog w K mg base 4 "_law_number" ["data", "at", "count"] (spNumber K) := ⟨_, _, ok_number (k := 3) FNu B, PySem.W.mg_of X G aNu, kNu, bNu⟩
    have hLs4 : Has l.prog w K mg base 4 "_law_sum" ["data"] (spLSum K) := ⟨_, _, ok_lsum (k := 3) FLs B, PySem.W.mg_of X G aLs, kLs, bLs⟩
    have hVe : Has l.prog w K mg base 5 "_law_verdict" ["data"] (spVerdict K) := ⟨_, _, ok_verdict (k := 3) FVe B (PySem.W.mg_none_of X G zmin) hNu4 hLs4, PySem.W.mg_of X G aVe, kVe, bVe⟩
    have hO4 : Has l.prog w K mg base 4 "_law_row" ["cell", "count", "bound"] (spRow K) := ⟨_, _, ok_row (k := 3) FO B, PySem.W.mg_of X G aO, kO, bO⟩
    have hCh : Has l.prog w K mg base 5 "_law_changed" ["data", "x"] spChanged := ⟨_, _, ok_changed (k := 3) FCh B hO4, PySem.W.mg_of X G aCh, kCh, bCh⟩
    exact ok_law FL B (PySem.W.mg_none_of X G zlist) hC hRf hZ hWr hTold hCh hSd hVe
end Hr
open PySem PySem.W PyProof.Rows
set_option maxHeartbeats 0 in
theorem PySem.Challenge.cw_homereads_k21_faults_of_written_indexes_holds : PySem.Challenge.rw_homereads_k21_faults_of_written_indexes.Holds := by
  w_on; o_law; k_head; (case hw => w_witness2)
  k_fill
  refine LamX.walk_ofTs (l := PySem.Challenge.rw_homereads_k21_faults_of_written_indexes) (n := 63) (k := 9) (x := "script") (CX := fun _ => L2.CX0) rfl (by decide) rfl ⟨rfl, by decide, by decide⟩ (fun w h Y => PySem.W.km_in_of Y) ?F (fun _ _ _ _ _ h => h)
  case F =>
    intro w mg fa h Y KX G hmg
    refine' Hr.all_mk KX G hmg (PySem.W.km_tabs_of Y) ?aSR ?lSR ?cSR ?kSR ?aRK ?lRK ?cRK ?kRK ?aJK ?lJK ?cJK ?kJK ?aSy ?lSy ?cSy ?kSy ?aSO ?lSO ?cSO ?kSO ?aPJ ?lPJ ?cPJ ?kPJ ?aSm ?lSm ?cSm ?kSm ?aCo ?lCo ?cCo ?kCo ?aBg ?lBg ?cBg ?kBg ?aC ?lC ?cC ?kC ?aO ?lO ?cO ?kO ?aLe ?lLe ?cLe ?kLe ?aTx ?lTx ?cTx ?kTx ?aNm ?lNm ?cNm ?kNm ?aMy ?lMy ?cMy ?kMy ?aRf ?lRf ?cRf ?kRf ?aJn ?lJn ?cJn ?kJn ?aZ ?lZ ?cZ ?kZ ?aSt ?lSt ?cSt ?kSt ?aNb ?lNb ?cNb ?kNb ?aBy ?lBy ?cBy ?kBy ?aLs ?lLs ?cLs ?kLs ?aSd ?lSd ?cSd ?kSd ?aWr ?lWr ?cWr ?kWr ?aSo ?lSo ?cSo ?kSo ?aCb ?lCb ?cCb ?kCb ?aWx ?lWx ?cWx ?kWx ?aNA ?lNA ?cNA ?kNA ?aTO ?lTO ?cTO ?kTO ?aSQ ?lSQ ?cSQ ?kSQ ?aTT ?lTT ?cTT ?kTT ?aTN ?lTN ?cTN ?kTN ?aTC ?lTC ?cTC ?kTC ?aCF ?lCF ?cCF ?kCF ?aHE ?lHE ?cHE ?kHE ?aCE ?lCE ?cCE ?kCE ?aRI ?lRI ?cRI ?kRI ?aNu ?lNu ?cNu ?kNu ?aVe ?lVe ?cVe ?kVe ?aTo ?lTo ?cTo ?kTo ?aCh ?lCh ?cCh ?kCh ?aL ?lL ?cL ?kL ?aMI ?iMI ?lMI ?cMI ?kMI ?aM1 ?iM1 ?lM1 ?cM1 ?kM1 ?aM2 ?iM2 ?lM2 ?cM2 ?kM2 ?aMk ?iMk ?lMk ?cMk ?kMk ?gC ?pg ?hd ?po ?sa ?mk ?kc ?u0 ?u1 ?u2 ?u3 ?u4 ?u5 ?u6 ?u7 ?dB ?dS ?dY ?eY ?yY ?vY0 ?vY1 ?vY2 ?vY3 ?vY4 ?lc ?eP ?nP ?hcP ?mP ?lc2 ?eP2 ?nP2 ?hcP2 ?mP2 ?qPP ?nEN ?nBO ?nMS ?nSM ?nLS ?nTS ?nUS ?nHZ ?nNC ?nFB ?dL ?gNe ?gTe ?gDe ?xLg ?xPg ?xH ?lFB ?eL ?qIk ?qV2 ?qV3 ?qV4 ?qV5 ?qV6 ?qNe ?kNe ?sNe ?tNe ?xGN ?xBN ?xDN ?xCN ?xMN ?xEN ?xVN ?xNTs ?qNT ?xNDs ?qND ?xNLs ?qNL ?xNPs ?qNP ?qTe ?kTe ?sTe ?tTe ?xGT ?xBT ?xDT ?xCT ?xMT ?xET ?xVT ?xTNs ?qTN ?xTDs ?qTD ?xTLs ?qTL ?xTPs ?qTP ?qDe ?kDe ?sDe ?tDe ?xGD ?xBD ?xDD ?xCD ?xMD ?xED ?xVD ?xDNs ?qDN ?xDTs ?qDT ?xDLs ?qDL ?xDPs ?qDP ?xDL ?tLe ?xDP ?tPe ?xS ?xU ?xH1 ?xH2 ?xH3 ?zlen ?zint ?zabs ?zrange ?zisinstance ?zbool ?zstr ?zlist ?zsorted ?zenumerate ?zset ?zzip ?zreversed ?zord ?zall ?ztuple ?zsum ?zmin ?zValueError
    (case gC => k_is)
    (case aSR => k_is)
    (case lSR => k_is)
    (case cSR => k_is)
    (case kSR => k_is)
    (case aRK => k_is)
    (case lRK => k_is)
    (case cRK => k_is)
    (case kRK => k_is)
    (case aJK => k_is)
    (case lJK => k_is)
    (case cJK => k_is)
    (case kJK => k_is)
    (case aSy => k_is)
    (case lSy => k_is)
    (case cSy => k_is)
    (case kSy => k_is)
    (case aSO => k_is)
    (case lSO => k_is)
    (case cSO => k_is)
    (case kSO => k_is)
    (case aPJ => k_is)
    (case lPJ => k_is)
    (case cPJ => k_is)
    (case kPJ => k_is)
    (case aSm => k_is)
    (case lSm => k_is)
    (case cSm => k_is)
    (case kSm => k_is)
    (case aCo => k_is)
    (case lCo => k_is)
    (case cCo => k_is)
    (case kCo => k_is)
    (case aBg => k_is)
    (case lBg => k_is)
    (case cBg => k_is)
    (case kBg => k_is)
    (case aC => k_is)
    (case lC => k_is)
    (case cC => k_is)
    (case kC => k_is)
    (case aO => k_is)
    (case lO => k_is)
    (case cO => k_is)
    (case kO => k_is)
    (case aLe => k_is)
    (case lLe => k_is)
    (case cLe => k_is)
    (case kLe => k_is)
    (case aTx => k_is)
    (case lTx => k_is)
    (case cTx => k_is)
    (case kTx => k_is)
    (case aNm => k_is)
    (case lNm => k_is)
    (case cNm => k_is)
    (case kNm => k_is)
    (case aMy => k_is)
    (case lMy => k_is)
    (case cMy => k_is)
    (case kMy => k_is)
    (case aRf => k_is)
    (case lRf => k_is)
    (case cRf => k_is)
    (case kRf => k_is)
    (case aJn => k_is)
    (case lJn => k_is)
    (case cJn => k_is)
    (case kJn => k_is)
    (case aZ => k_is)
    (case lZ => k_is)
    (case cZ => k_is)
    (case kZ => k_is)
    (case aSt => k_is)
    (case lSt => k_is)
    (case cSt => k_is)
    (case kSt => k_is)
    (case aNb => k_is)
    (case lNb => k_is)
    (case cNb => k_is)
    (case kNb => k_is)
    (case aBy => k_is)
    (case lBy => k_is)
    (case cBy => k_is)
    (case kBy => k_is)
    (case aLs => k_is)
    (case lLs => k_is)
    (case cLs => k_is)
    (case kLs => k_is)
    (case aSd => k_is)
    (case lSd => k_is)
    (case cSd => k_is)
    (case kSd => k_is)
    (case aWr => k_is)
    (case lWr => k_is)
    (case cWr => k_is)
    (case kWr => k_is)
    (case aSo => k_is)
    (case lSo => k_is)
    (case cSo => k_is)
    (case kSo => k_is)
    (case aCb => k_is)
    (case lCb => k_is)
    (case cCb => k_is)
    (case kCb => k_is)
    (case aWx => k_is)
    (case lWx => k_is)
    (case cWx => k_is)
    (case kWx => k_is)
    (case aNA => k_is)
    (case lNA => k_is)
    (case cNA => k_is)
    (case kNA => k_is)
    (case aTO => k_is)
    (case lTO => k_is)
    (case cTO => k_is)
    (case kTO => k_is)
    (case aSQ => k_is)
    (case lSQ => k_is)
    (case cSQ => k_is)
    (case kSQ => k_is)
    (case aTT => k_is)
    (case lTT => k_is)
    (case cTT => k_is)
    (case kTT => k_is)
    (case aTN => k_is)
    (case lTN => k_is)
    (case cTN => k_is)
    (case kTN => k_is)
    (case aTC => k_is)
    (case lTC => k_is)
    (case cTC => k_is)
    (case kTC => k_is)
    (case aCF => k_is)
    (case lCF => k_is)
    (case cCF => k_is)
    (case kCF => k_is)
    (case aHE => k_is)
    (case lHE => k_is)
    (case cHE => k_is)
    (case kHE => k_is)
    (case aCE => k_is)
    (case lCE => k_is)
    (case cCE => k_is)
    (case kCE => k_is)
    (case aRI => k_is)
    (case lRI => k_is)
    (case cRI => k_is)
    (case kRI => k_is)
    (case aNu => k_is)
    (case lNu => k_is)
    (case cNu => k_is)
    (case kNu => k_is)
    (case aVe => k_is)
    (case lVe => k_is)
    (case cVe => k_is)
    (case kVe => k_is)
    (case aTo => k_is)
    (case lTo => k_is)
    (case cTo => k_is)
    (case kTo => k_is)
    (case aCh => k_is)
    (case lCh => k_is)
    (case cCh => k_is)
    (case kCh => k_is)
    (case aL => k_is)
    (case lL => k_is)
    (case cL => k_is)
    (case kL => k_is)
    (case aMI => k_is)
    (case iMI => k_is)
    (case lMI => k_is)
    (case cMI => k_is)
    (case kMI => k_is)
    (case aM1 => k_is)
    (case iM1 => k_is)
    (case lM1 => k_is)
    (case cM1 => k_is)
    (case kM1 => k_is)
    (case aM2 => k_is)
    (case iM2 => k_is)
    (case lM2 => k_is)
    (case cM2 => k_is)
    (case kM2 => k_is)
    (case aMk => k_is)
    (case iMk => k_is)
    (case lMk => k_is)
    (case cMk => k_is)
    (case kMk => k_is)
    (case pg => k_is)
    (case hd => k_is)
    (case po => k_is)
    (case sa => k_is)
    (case mk => k_is)
    (case kc => k_is)
    (case u0 => k_is)
    (case u1 => k_is)
    (case u2 => k_is)
    (case u3 => k_is)
    (case u4 => k_is)
    (case u5 => k_is)
    (case u6 => k_is)
    (case u7 => k_is)
    (case dB => k_is)
    (case dS => k_is)
    (case dY => k_is)
    (case eY => k_is)
    (case yY => k_keys)
    (case vY0 => k_is)
    (case vY1 => k_is)
    (case vY2 => k_is)
    (case vY3 => k_is)
    (case vY4 => k_is)
    (case lc => k_is)
    (case eP => rfl)
    (case nP => first | rfl | decide +kernel)
    (case hcP => first | rfl | decide +kernel)
    (case mP => decide)
    (case lc2 => k_is)
    (case eP2 => rfl)
    (case nP2 => first | rfl | decide +kernel)
    (case hcP2 => first | rfl | decide +kernel)
    (case mP2 => decide)
    (case qPP => first | rfl | decide)
    (case nEN => k_is)
    (case nBO => k_is)
    (case nMS => k_is)
    (case nSM => k_is)
    (case nLS => k_is)
    (case nTS => k_is)
    (case nUS => k_is)
    (case nHZ => k_is)
    (case nNC => k_is)
    (case nFB => k_is)
    (case dL => k_is)
    (case gNe => k_is)
    (case gTe => k_is)
    (case gDe => k_is)
    (case xLg => k_is)
    (case xPg => k_is)
    (case xH => k_is)
    (case lFB => k_is)
    (case eL => k_is)
    (case qIk => first | rfl | decide)
    (case qV2 => first | rfl | decide)
    (case qV3 => first | rfl | decide)
    (case qV4 => first | rfl | decide)
    (case qV5 => first | rfl | decide)
    (case qV6 => first | rfl | decide)
    (case qNe => k_exc)
    (case kNe => k_is)
    (case sNe => k_is)
    (case tNe => k_is)
    (case xGN => k_is)
    (case xBN => k_is)
    (case xDN => k_is)
    (case xCN => k_is)
    (case xMN => k_is)
    (case xEN => k_is)
    (case xVN => k_is)
    (case xNTs => k_is)
    (case qNT => first | rfl | decide)
    (case xNDs => k_is)
    (case qND => first | rfl | decide)
    (case xNLs => k_is)
    (case qNL => first | rfl | decide)
    (case xNPs => k_is)
    (case qNP => first | rfl | decide)
    (case qTe => k_exc)
    (case kTe => k_is)
    (case sTe => k_is)
    (case tTe => k_is)
    (case xGT => k_is)
    (case xBT => k_is)
    (case xDT => k_is)
    (case xCT => k_is)
    (case xMT => k_is)
    (case xET => k_is)
    (case xVT => k_is)
    (case xTNs => k_is)
    (case qTN => first | rfl | decide)
    (case xTDs => k_is)
    (case qTD => first | rfl | decide)
    (case xTLs => k_is)
    (case qTL => first | rfl | decide)
    (case xTPs => k_is)
    (case qTP => first | rfl | decide)
    (case qDe => k_exc)
    (case kDe => k_is)
    (case sDe => k_is)
    (case tDe => k_is)
    (case xGD => k_is)
    (case xBD => k_is)
    (case xDD => k_is)
    (case xCD => k_is)
    (case xMD => k_is)
    (case xED => k_is)
    (case xVD => k_is)
    (case xDNs => k_is)
    (case qDN => first | rfl | decide)
    (case xDTs => k_is)
    (case qDT => first | rfl | decide)
    (case xDLs => k_is)
    (case qDL => first | rfl | decide)
    (case xDPs => k_is)
    (case qDP => first | rfl | decide)
    (case xDL => k_is)
    (case tLe => k_is)
    (case xDP => k_is)
    (case tPe => k_is)
    (case xS => k_is)
    (case xU => k_is)
    (case xH1 => k_is)
    (case xH2 => k_is)
    (case xH3 => k_is)
    (case zlen => k_is)
    (case zint => k_is)
    (case zabs => k_is)
    (case zrange => k_is)
    (case zisinstance => k_is)
    (case zbool => k_is)
    (case zstr => k_is)
    (case zlist => k_is)
    (case zsorted => k_is)
    (case zenumerate => k_is)
    (case zset => k_is)
    (case zzip => k_is)
    (case zreversed => k_is)
    (case zord => k_is)
    (case zall => k_is)
    (case ztuple => k_is)
    (case zsum => k_is)
    (case zmin => k_is)
    (case zValueError => k_is)
