import PyProof.Rows.All
import Wide.All
import OpenK.AllK
import Wide.FinOn
import PySem.Challenge.RW_twopartings_k46_leaving_of_twenty
import HandS.ForMost
import HandS.Wide
import HandS.WideBits
import PyProof.ReprRoads
import PyProof.ZipIter
import PyProof.CallType
import PyProof.Walk
import PyProof.WalkLemmas
import PyProof.RangeIter
import PyProof.RulesTry
import PyProof.TupleOfSeq
import KE.SortData
import KE.DataCmp
import HandS.DictComp
import HandS.Conv
import KE.KMinBuiltin
import KE.GoesEnumKw
import KE.KRevSl
import KE.KDictZip
import KE.GoesEnum
import PyProof.Rows.BitMore
import HandS.IsInst
import HandS.Gcd
import HandS.List
import HandS.Deep
import HandS.Dict
set_option Elab.async false
set_option linter.all false
set_option maxRecDepth 100000
set_option maxHeartbeats 40000000
namespace RepA
open PySem PySem.Spec PyProof.Rows L2

/-! ### data without a dict -/
mutual
theorem dp_nodict {K : PySem.W.Frag} {H : Hp} : ∀ (d : PyData) (v : V), Dp K H v d → d.hasDict = false
  | .none, _, _ => by simp only [PyData.hasDict]
  | .bool _, _, _ => by simp only [PyData.hasDict]
  | .int _, _, _ => by simp only [PyData.hasDict]
  | .str _, _, _ => by simp only [PyData.hasDict]
  | .list ds, _, h => by
    cases h with
    | lst hs ha =>
      simp only [PyData.hasDict]
      exact dpAll_nodict ds _ ha
  | .tuple ds, _, h => by
    cases h with
    | tup hs ha =>
      simp only [PyData.hasDict]
      exact dpAll_nodict ds _ ha
  | .dict _, _, h => by cases h
theorem dpAll_nodict {K : PySem.W.Frag} {H : Hp} : ∀ (ds : List PyData) (vs : List V), DpAll K H vs ds → PyData.hasDictAll ds = false
  | [], _, _ => by simp only [PyData.hasDictAll]
  | d :: ds, _, h => by
    cases h with
    | cons h1 h2 => simp only [PyData.hasDictAll, dp_nodict d _ h1, dpAll_nodict ds _ h2, Bool.or_self]
end

/-! ### an item: data, or an empty dict -/
def Dd (K : PySem.W.Frag) (H : Hp) (v : V) (d : PyData) : Prop := Dp K H v d ∨ ∃ a, v = .ref a ∧ H a = some (.dK []) ∧ d = .dict []
inductive DdAll (K : PySem.W.Frag) (H : Hp) : List V → List PyData → Prop
  | nil : DdAll K H [] []
  | cons {v : V} {vs : List V} {d : PyData} {ds : List PyData} : Dd K H v d → DdAll K H vs ds → DdAll K H (v :: vs) (d :: ds)
theorem DdAll.of_dp {K : PySem.W.Frag} {H : Hp} : ∀ {vs : List V} {ds : List PyData}, DpAll K H vs ds → DdAll K H vs ds
  | _, _, .nil => .nil
  | _, _, .cons h r => .cons (.inl h) (.of_dp r)

section
variable {X : Cx} {pins : List (Addr × Obj)} {σ : L2.St} {H : Hp} {s : Shared}
theorem dd_reads (I : Inv X pins σ H s) {v : V} {u : Value} {d : PyData} (h : Dd X.K H v d) (r : RelV v u) : ∃ as, Reads s.heap u d as ∧ (d.hasDict = true → sysModules ∉ as) := by
  rcases h with h | ⟨a, rfl, ha, rfl⟩
  · obtain ⟨as, q⟩ := Dp.reads I d v u h r
    exact ⟨as, q, fun e => by rw [dp_nodict d v h] at e; cases e⟩
  · obtain rfl : u = Value.ref a := r
    obtain ⟨_, hn, vs, rel, dd⟩ := dk_of I.hok ha
    obtain ⟨o, es, ep, e1, e2, e3, e4⟩ := dd
    cases rel
    have hes : es.toList = [] := by
      have q := e4.2.1
      generalize es.toList = l at q
      cases q
      rfl
    refine ⟨[a], ?_, fun _ hm => ?_⟩
    · refine Reads.dict (as := []) (bs := []) e1 e2.1 e3 ?_ ?_
      · rw [hes]
        exact ReadsAll.nil
      · rw [hes]
        exact ReadsAll.nil
    · rcases List.mem_cons.mp hm with q | q
      · rw [q] at hn
        rw [beq_self_eq_true] at hn
        cases hn
      · cases q

/-- all items, each by itself -/
theorem dd_all (I : Inv X pins σ H s) : ∀ {vs : List V} {ds : List PyData} {us : List Value}, DdAll X.K H vs ds → Vals vs us → PyData.showableAll ds = true → (∀ t ∈ PyData.shownAll ds, t.length ≤ sizeLine) →
    (∃ as, ReadsAll s.heap us ds as) ∧ ∃ bs, ReadAtMost s.heap (PyData.depthAll ds) bs ∧ ReprAllK X.prog X.w bs s.heap (PyData.depthAll ds) us (PyData.shownAll ds)
  | _, _, _, .nil, .nil, _, _ => ⟨⟨_, .nil⟩, [], (fun _ h => nomatch h), by simp only [PyData.shownAll]; exact .nil⟩
  | _, _, _, .cons (d := d) (ds := ds) h hr, .cons r rr, hs, hz => by
    obtain ⟨s1, s2⟩ : d.showable = true ∧ PyData.showableAll ds = true := by simpa [PyData.showableAll] using hs
    obtain ⟨a1, q1, n1⟩ := dd_reads I h r
    obtain ⟨b1, m1, k1⟩ := ReprK.of_reads (prog := X.prog) (w := X.w) q1 s1 n1 (hz _ (by simp only [PyData.shownAll]; exact List.mem_cons_self ..))
    obtain ⟨⟨a2, q2⟩, b2, m2, k2⟩ := dd_all I hr rr s2 fun t ht => hz t (by simp only [PyData.shownAll]; exact List.mem_cons_of_mem _ ht)
    have l1 : d.depth ≤ PyData.depthAll (d :: ds) := by simp only [PyData.depthAll]; omega
    have l2 : PyData.depthAll ds ≤ PyData.depthAll (d :: ds) := by simp only [PyData.depthAll]; omega
    refine ⟨⟨_, .cons q1 q2⟩, b1 ++ b2, fun b hb => ?_, ?_⟩
    · rcases List.mem_append.mp hb with hb | hb
      · obtain ⟨d', as', r', z⟩ := m1 b hb
        exact ⟨d', as', r', Nat.le_trans z l1⟩
      · obtain ⟨d', as', r', z⟩ := m2 b hb
        exact ⟨d', as', r', Nat.le_trans z l2⟩
    · simp only [PyData.shownAll]
      exact .cons ((k1.more fun b hb => List.mem_append.mpr (.inl hb)).level_le l1) (k2.more_le (fun b hb => List.mem_append.mpr (.inr hb)) l2)

/-- repr of a list of data and empty dicts, where no guard stands -/
theorem call_reprL (hg : X.A.guards = some []) (hu : X.A.units + 64 < cLine) : CallR X (.builtin "repr") (fun xs H Q => ∃ a ys ds, xs = [V.ref a] ∧ SqL X.K H a ys ∧ DdAll X.K H ys ds ∧ PyData.showableAll ds = true ∧ PyData.depthAll ds ≤ 40 ∧
    (listText (PyData.shownAll ds)).length ≤ sizeLine ∧ Q (.str (PyData.list ds).shown) H) := by
  intro pins s σ H xs us Q I r h
  obtain ⟨a, ys, ds, rfl, hs, hd, hw, hdp, hz, q⟩ := h
  obtain ⟨u, rfl, ru⟩ := vals1 r
  obtain rfl : u = Value.ref a := ru
  obtain ⟨its, rv, ⟨o, n, ho, hc, hne, hda⟩, hsz⟩ := I.list hs
  obtain ⟨⟨as, hR⟩, bs, hb, hk⟩ := dd_all I hd rv hw fun t ht => Nat.le_trans (listText_mem_le ht) hz
  have rd : Reads s.heap (.ref a) (.list ds) (a :: as) := .list ho hc hda hR
  have hna : a ∉ bs := not_mem_of_deeper rd (by simp only [PyData.depth]; omega) hb
  have fin : ∀ (t tk : Nat) (h' : Heap), (∀ b o, s.heap.get? b = some o → h'.get? b = some o) → EP X pins σ Q (.str (listText (PyData.shownAll ds)) t) { s with heap := h', toks := tk } := fun t tk h' k =>
    ⟨.str _, H, I.kept k, ⟨t, rfl⟩, by simpa only [PyData.shown] using q⟩
  refine call_repr_slot (by omega) ⟨o, ho, hc⟩ F.slot_list_repr.toG ?_
  obtain ⟨l⟩ : ∃ l, l = its := ⟨_, rfl⟩
  cases its with
  | nil =>
    cases hR
    exact call_list_repr_empty ⟨o, ho, hc⟩ ho hda ⟨_, _, rfl, by simpa only [PyData.shownAll, listText_nil] using fin s.toks (s.toks + 1) s.heap fun _ _ e => e⟩
  | cons x l =>
    refine call_list_reprK (h₀ := s.heap) ho hc hda hna (by simpa using hk.length_eq) (fun i y e => hk.item i y (by simpa using e)) hg (fun b _ => Clear.nil b) (by show X.A.units + 1 + (PyData.depthAll ds + 1) < cLine; omega) (fun _ _ e => e) (fun h' t tk k => ⟨_, _, rfl, fin t tk h' k⟩) hz
end
end RepA

/-! itertools.combinations(list, 2), made and drawn. -/
namespace Comb
open PySem PySem.Spec
open Sem (wp)
abbrev cName : String := "itertools.combinations"
theorem cMro : mroOf (.type "itertools.combinations") = pure [.type "itertools.combinations", .type "object"] := by rw [mroOf_type]; kernel_rfl
theorem cNew : typeLookup (.type "itertools.combinations") "__new__" = pure (some (.builtin "itertools.combinations.__new__")) := by rw [typeLookup_type, builtinLookup_eq_fast]; kernel_rfl
theorem cInit : Slot "itertools.combinations" "__init__" "object.__init__" :=
  .of (owner := "object") (n := "__init__") (by rw [typeLookup_type, builtinLookup_eq_fast]; kernel_rfl) (by decide +kernel) (by decide +kernel) (by decide +kernel) (by first | exact .inl (by decide +kernel) | exact .inr (by decide +kernel)) (by rw [isSubtype_type]; kernel_rfl)
theorem cSub : isSubtype (.type "itertools.combinations") (.type "itertools.combinations") = pure true := by rw [isSubtype_type]; kernel_rfl
theorem cCalled : TypeCalled "itertools.combinations" "itertools.combinations.__new__" "object.__init__" :=
  ⟨by decide +kernel, by decide +kernel, ⟨_, _, cMro⟩, madeBy_type cMro cNew (by decide +kernel), by decide +kernel, cSub, cInit⟩
theorem cType2 (a b : Value) : checkTypeCall "itertools.combinations" ⟨[a, b], []⟩ = pure () := by kernel_rfl
theorem cNew2 (a b : Value) : checkBuiltinCall "itertools.combinations.__new__" ⟨[.type "itertools.combinations", a, b], []⟩ = pure () := by kernel_rfl
theorem cEntryNew : entryFor table "itertools.combinations.__new__" = some Builtin.«itertools.combinations.__new__» := entryFor_of_tree (by kernel_rfl)
theorem cEntryNext : entryFor table "itertools.combinations.__next__" = some Builtin.«itertools.combinations.__next__» := entryFor_of_tree (by kernel_rfl)
theorem cEntryIter : entryFor table "itertools.combinations.__iter__" = some Builtin.«dict_keyiterator.__iter__» :=
  entryFor_alias (id' := "dict_keyiterator.__iter__") (by kernel_rfl) (by first | rfl | decide +kernel | (unfold String.splitOn; simp +decide [String.splitOnAux])) (by decide +kernel) (by kernel_rfl)
theorem cIter : Slot "itertools.combinations" "__iter__" "itertools.combinations.__iter__" :=
  .of (owner := "itertools.combinations") (n := "__iter__") (by rw [typeLookup_type, builtinLookup_eq_fast]; kernel_rfl) (by decide +kernel) (by decide +kernel) (by decide +kernel) (by first | exact .inl (by decide +kernel) | exact .inr (by decide +kernel)) cSub
theorem cNext : Slot "itertools.combinations" "__next__" "itertools.combinations.__next__" :=
  .of (owner := "itertools.combinations") (n := "__next__") (by rw [typeLookup_type, builtinLookup_eq_fast]; kernel_rfl) (by decide +kernel) (by decide +kernel) (by decide +kernel) (by first | exact .inl (by decide +kernel) | exact .inr (by decide +kernel)) cSub
theorem cOwner : Manifest.owners.lookup (String.ofList "snoitanibmoc.slootreti".toList.reverse) = some Manifest.sig_itertools_combinations := by kernel_rfl
theorem cArgsIter (a : Value) : argsOk "itertools.combinations.__iter__" ⟨[a], []⟩ := by
  unfold argsOk
  rw [signature?_of (id := "itertools.combinations.__iter__") (n := ['_', '_', 'r', 'e', 't', 'i', '_', '_']) (o := "snoitanibmoc.slootreti".toList) (by kernel_rfl) cOwner]
  kernel_rfl
theorem cArgsNext (a : Value) : argsOk "itertools.combinations.__next__" ⟨[a], []⟩ := by
  unfold argsOk
  rw [signature?_of (id := "itertools.combinations.__next__") (n := ['_', '_', 't', 'x', 'e', 'n', '_', '_']) (o := "snoitanibmoc.slootreti".toList) (by kernel_rfl) cOwner]
  kernel_rfl
theorem cNoDict : typeHasDict (.type "itertools.combinations") = false := by decide +kernel

/-- such an object: its pool, its state, what it handed out last, its places -/
def recC (pool : Addr) (st : Int) (last : Value) (i j : Int) : Obj := { cls := .type "itertools.combinations", dict := none, data := .fields #[.ref pool, rawInt st, last, rawInt i, rawInt j], slots := #[] }
abbrev IsC (h : Heap) (it pool : Addr) (st : Int) (last : Value) (i j : Int) : Prop := h.get? it = some (recC pool st last i j)
def tupO (xs : Array Value) : Obj := { cls := .type "tuple", data := .seq xs }

end Comb

namespace Comb
open PySem PySem.Spec
open Sem (wp)
theorem joinName : "itertools." ++ "combinations" = "itertools.combinations" := by decide
theorem new_meets (l : Addr) (o : Obj) (items : Array Value) (n : Nat) (t : Tok) (hc : o.cls = .type "list") (hd : o.data = .seq items n) (hsz : items.size ≤ sizeLine) :
    Meets (Builtin.«itertools.combinations.__new__» ⟨[.type "itertools.combinations", .ref l, .int 2 t], []⟩)
      (fun _ R s => s.heap.get? l = some o ∧ ∀ h' : Heap, (∀ b u, s.heap.get? b = some u → h'.get? b = some u) → R (.ok (.ret (.ref (h'.objs.size + 1)))) { s with heap := (h'.push (tupO items)).push (recC h'.objs.size (if 2 > items.size then 2 else 0) .none 0 1) }) :=
  .of_wp fun prog w A R s h => by
    obtain ⟨hp, g, dd, tk, os⟩ := s
    obtain ⟨at_l, h⟩ := h
    have hsub := cSub
    have hdic := cNoDict
    have hT : Shared.TypeIs ⟨hp, g, dd, tk, os⟩ (.ref l) "list" := ⟨o, at_l, hc⟩
    unfold Builtin.«itertools.combinations.__new__»
    repeat (first
      | (with_reducible refine wpAny_collect_seq (hsz := hsz) l (.inl rfl) at_l hc hd fun h' keep => ?_)
      | wp_step
      | (rw [joinName]))
    refine ⟨_, rfl, ?_⟩
    have e1 : items.toList.toArray = items := by simp
    have e2 : (h'.push (tupO items)).objs.size = h'.objs.size + 1 := Heap.size_push ..
    have e3 : items.toList.length = items.size := by simp
    rw [e1, e3]
    have q := h h' keep
    rw [← e2] at q
    exact q

end Comb

namespace Comb
open PySem PySem.Spec
open Sem (wp)
section
variable {prog : Program} {w : World} {A : Around} {E : Value → Shared → Prop} {s : Shared}
/-- combinations(l, 2): the heap grows by what is kept, then by the pool and the record -/
theorem call_comb {l : Addr} {o : Obj} {items : Array Value} {n : Nat} {t : Tok} {Q : Value → Shared → Prop} (at_l : s.heap.get? l = some o) (hc : o.cls = .type "list") (hd : o.data = .seq items n) (hsz : items.size ≤ sizeLine)
    (h : ∀ h1 : Heap, (∀ b u, s.heap.get? b = some u → h1.get? b = some u) → Q (.ref (h1.objs.size + 1)) { s with heap := (h1.push (tupO items)).push (recC h1.objs.size (if 2 > items.size then 2 else 0) .none 0 1) }) :
    wpAny (model prog w) A (call (.type "itertools.combinations") [.ref l, .int 2 t]) Q E s := by
  refine callType_new cCalled (by decide +kernel) (cType2 _ _) (cNew2 _ _) (fun obj => F.args_object_init_3 obj _ _) cEntryNew (new_meets l o items n t hc hd hsz) ?_
  refine ⟨at_l, fun h1 keep => ⟨⟨recC h1.objs.size (if 2 > items.size then 2 else 0) .none 0 1, ?_, rfl⟩, h h1 keep⟩⟩
  have sz : (h1.push (tupO items)).objs.size = h1.objs.size + 1 := Heap.size_push ..
  show Heap.get? _ (h1.objs.size + 1) = some (recC h1.objs.size (if 2 > items.size then 2 else 0) .none 0 1)
  rw [← sz]
  exact Heap.get?_push_size _ rfl
theorem iter_comb {it pool : Addr} {st i j : Int} {last : Value} {Q : Value → Shared → Prop} (hit : IsC s.heap it pool st last i j) (h : Q (.ref it) s) : wpAny (model prog w) A (pyIter (.ref it)) Q E s := by
  have hT : s.TypeIs (.ref it) "itertools.combinations" := ⟨_, hit, rfl⟩
  refine wpAny_pyIter_slot hT cIter (wpAny_call_entry cIter hT cEntryIter ?_ (cArgsIter _))
  show wpAny _ _ (ret (.ref it)) _ _ s
  exact wpAny_pure ⟨_, rfl, "itertools.combinations", _, hT, cNext.lookup, h⟩

theorem apart {h : Heap} {it pool : Addr} {st i j : Int} {last : Value} {items : Array Value} (hit : IsC h it pool st last i j) (hp : h.get? pool = some (tupO items)) : it ≠ pool := fun e => by
  rw [e] at hit
  have z : Value.type "tuple" = Value.type "itertools.combinations" := congrArg Obj.cls (Option.some.inj (hp.symm.trans hit))
  exact absurd (Value.type.inj z) (by decide)
/-- what is handed out is laid, then held by the record -/
theorem handed {h U : Heap} {it pool : Addr} {last : Value} {i j : Int} {xs : Array Value} (hU : IsC U it pool 1 last i j) (keep : ∀ b, b ≠ it → U.get? b = h.get? b) (sz : U.objs.size = h.objs.size) :
    (∀ b, b ≠ it → ∀ u, h.get? b = some u → ((U.push (tupO xs)).update it (Obj.mapFields fun x => x.setIfInBounds 2 (.ref U.objs.size))).get? b = some u) ∧
    ((U.push (tupO xs)).update it (Obj.mapFields fun x => x.setIfInBounds 2 (.ref U.objs.size))).get? h.objs.size = some (tupO xs) ∧
    IsC ((U.push (tupO xs)).update it (Obj.mapFields fun x => x.setIfInBounds 2 (.ref U.objs.size))) it pool 1 (.ref h.objs.size) i j := by
  have lt : it < U.objs.size := Heap.lt_size hU
  refine ⟨fun b ne u q => ?_, ?_, ?_⟩
  · exact (Heap.get?_update_other _ _ ne.symm).trans (Heap.get?_push_of_some _ ((keep b ne).trans q))
  · rw [← sz]
    exact (Heap.get?_update_other _ _ (Nat.ne_of_lt lt)).trans (Heap.get?_push_size _ rfl)
  · rw [← sz]
    exact Heap.get?_update_self _ (Heap.get?_push_of_some _ hU) rfl
theorem next_first {it pool : Addr} {last : Value} {items : Array Value} {n : Nat} {Q : Option Value → Shared → Prop} (hit : IsC s.heap it pool 0 last 0 1) (hp : s.heap.get? pool = some (tupO items)) (h2 : 2 ≤ items.size)
    (hQ : ∀ h', (∀ b, b ≠ it → ∀ u, s.heap.get? b = some u → h'.get? b = some u) → h'.get? s.heap.objs.size = some (tupO #[items.getD 0 .none, items.getD 1 .none]) → IsC h' it pool 1 (.ref s.heap.objs.size) 0 1 → Q (some (.ref s.heap.objs.size)) { s with heap := h' }) :
    wpAny (model prog w) A (pyNext (.ref it)) Q E s := by
  have hT : s.TypeIs (.ref it) "itertools.combinations" := ⟨_, hit, rfl⟩
  unfold pyNext
  refine wpAny_bind (wpAny_attempt (wpAny_callSpecial?_slot (name := Str.ofString "__next__") hT cNext (wpAny_call_entry cNext hT cEntryNext ?_ (cArgsNext _))))
  unfold Builtin.«itertools.combinations.__next__»
  have nip := apart hit hp
  have hp1 : (s.heap.update it (Obj.mapFields fun x => x.setIfInBounds 1 (rawInt 1))).get? pool = some (tupO items) := (Heap.get?_update_other _ _ nip).trans hp
  have hit1 : IsC (s.heap.update it (Obj.mapFields fun x => x.setIfInBounds 1 (rawInt 1))) it pool 1 last 0 1 := Heap.get?_update_self _ hit rfl
  repeat wp_step
  obtain ⟨q1, q2, q3⟩ := handed (xs := #[items.getD 0 .none, items.getD 1 .none]) hit1 (h := s.heap) (fun b ne => Heap.get?_update_other _ _ ne.symm) (Heap.size_update ..)
  refine ⟨_, rfl, wpAny_pure ?_⟩
  have z := hQ _ q1 q2 q3
  rw [show (s.heap.update it (Obj.mapFields fun x => x.setIfInBounds 1 (rawInt 1))).objs.size = s.heap.objs.size from Heap.size_update ..] at z ⊢
  exact z
end
end Comb

namespace Comb
open PySem PySem.Spec
open Sem (wp)
section
variable {prog : Program} {w : World} {A : Around} {E : Value → Shared → Prop} {s : Shared}
theorem next_more {it pool : Addr} {last : Value} {items : Array Value} {i j i' j' : Nat} {Q : Option Value → Shared → Prop} (hit : IsC s.heap it pool 1 last i j) (hp : s.heap.get? pool = some (tupO items))
    (hn : (match (List.range 2).reverse.find? fun k => [i, j].getD k 0 != k + items.size - 2 with | none => none | some k => some ([i, j].take k ++ (List.range (2 - k)).map ([i, j].getD k 0 + 1 + ·))) = some [i', j'])
    (hQ : ∀ h', (∀ b, b ≠ it → ∀ u, s.heap.get? b = some u → h'.get? b = some u) → h'.get? s.heap.objs.size = some (tupO #[items.getD i' .none, items.getD j' .none]) → IsC h' it pool 1 (.ref s.heap.objs.size) i' j' → Q (some (.ref s.heap.objs.size)) { s with heap := h' }) :
    wpAny (model prog w) A (pyNext (.ref it)) Q E s := by
  have hT : s.TypeIs (.ref it) "itertools.combinations" := ⟨_, hit, rfl⟩
  unfold pyNext
  refine wpAny_bind (wpAny_attempt (wpAny_callSpecial?_slot (name := Str.ofString "__next__") hT cNext (wpAny_call_entry cNext hT cEntryNext ?_ (cArgsNext _))))
  unfold Builtin.«itertools.combinations.__next__»
  repeat wp_step
  split
  · rename_i next hnx
    obtain rfl : next = [i', j'] := Option.some.inj (hnx.symm.trans hn)
    have nip := apart hit hp
    have hp1 : (s.heap.update it (Obj.mapFields fun x => x.extract 0 3 ++ (List.map (fun (n : Nat) => rawInt n) [i', j']).toArray)).get? pool = some (tupO items) := (Heap.get?_update_other _ _ nip).trans hp
    have hit1 : IsC (s.heap.update it (Obj.mapFields fun x => x.extract 0 3 ++ (List.map (fun (n : Nat) => rawInt n) [i', j']).toArray)) it pool 1 last i' j' := Heap.get?_update_self _ hit rfl
    repeat wp_step
    obtain ⟨q1, q2, q3⟩ := handed (xs := #[items.getD i' .none, items.getD j' .none]) hit1 (h := s.heap) (fun b ne => Heap.get?_update_other _ _ ne.symm) (Heap.size_update ..)
    refine ⟨_, rfl, wpAny_pure ?_⟩
    have z := hQ _ q1 q2 q3
    rw [show (s.heap.update it (Obj.mapFields fun x => x.extract 0 3 ++ (List.map (fun (n : Nat) => rawInt n) [i', j']).toArray)).objs.size = s.heap.objs.size from Heap.size_update ..] at z ⊢
    exact z
  · rename_i hnx
    cases hnx.symm.trans hn
theorem next_end {it pool : Addr} {last : Value} {items : Array Value} {i j : Nat} {Q : Option Value → Shared → Prop} (hh : A.handled = none) (hit : IsC s.heap it pool 1 last i j) (hp : s.heap.get? pool = some (tupO items))
    (hn : (match (List.range 2).reverse.find? fun k => [i, j].getD k 0 != k + items.size - 2 with | none => none | some k => some ([i, j].take k ++ (List.range (2 - k)).map ([i, j].getD k 0 + 1 + ·))) = none)
    (hQ : ∀ h', Heap.ExtBut it s.heap h' → Q none { s with heap := h' }) : wpAny (model prog w) A (pyNext (.ref it)) Q E s := by
  have hT : s.TypeIs (.ref it) "itertools.combinations" := ⟨_, hit, rfl⟩
  unfold pyNext
  refine wpAny_bind (wpAny_attempt (wpAny_callSpecial?_slot (name := Str.ofString "__next__") hT cNext (wpAny_call_entry cNext hT cEntryNext ?_ (cArgsNext _))))
  unfold Builtin.«itertools.combinations.__next__»
  repeat wp_step
  split
  · rename_i next hnx
    cases hn.symm.trans hnx
  · repeat wp_step
    simp only [raiseNew]; refine wpAny_bind (wpAny_handled ?_); rw [show A.in1.handled = none from hh]
    refine wpAny_bind (wpAny_pure (wpAny_throw ?_)); refine wpAny_bind (wpAny_isInstance (T := "StopIteration") (b := true) ⟨_, Heap.get?_push_size _ rfl, rfl⟩ isSubtype_stop ?_)
    exact wpAny_pure (hQ _ (fun b u ne q => Heap.get?_push_of_some _ (Heap.get?_push_of_some _ ((Heap.get?_update_other _ _ (Ne.symm ne)).trans q))))
theorem next_none {it pool : Addr} {last : Value} {items : Array Value} {i j : Nat} {Q : Option Value → Shared → Prop} (hh : A.handled = none) (hit : IsC s.heap it pool 2 last i j) (hp : s.heap.get? pool = some (tupO items))
    (hQ : ∀ h', Heap.ExtBut it s.heap h' → Q none { s with heap := h' }) : wpAny (model prog w) A (pyNext (.ref it)) Q E s := by
  have hT : s.TypeIs (.ref it) "itertools.combinations" := ⟨_, hit, rfl⟩
  unfold pyNext
  refine wpAny_bind (wpAny_attempt (wpAny_callSpecial?_slot (name := Str.ofString "__next__") hT cNext (wpAny_call_entry cNext hT cEntryNext ?_ (cArgsNext _))))
  unfold Builtin.«itertools.combinations.__next__»
  repeat wp_step
  simp only [raiseNew]; refine wpAny_bind (wpAny_handled ?_); rw [show A.in1.handled = none from hh]
  refine wpAny_bind (wpAny_pure (wpAny_throw ?_)); refine wpAny_bind (wpAny_isInstance (T := "StopIteration") (b := true) ⟨_, Heap.get?_push_size _ rfl, rfl⟩ isSubtype_stop ?_)
  exact wpAny_pure (hQ _ (((Heap.ExtBut.refl it s.heap).push _).push _))
end
end Comb

namespace Comb
open PySem PySem.Spec PyProof.Rows L2
/-! ### the pairs of places, in their sequence -/
def rows : Nat → Nat → List (Nat × Nat)
  | 0, _ => []
  | k + 1, i => (List.range (k + 1)).map (fun d => (i, i + 1 + d)) ++ rows k (i + 1)
def prs (n : Nat) : List (Nat × Nat) := rows (n - 1) 0
def nx (n i j : Nat) : Option (Nat × Nat) := if j + 1 < n then some (i, j + 1) else if i + 2 < n then some (i + 1, i + 2) else none
theorem rows_zero (k i : Nat) : (rows (k + 1) i)[0]? = some (i, i + 1) := by
  unfold rows
  rw [List.getElem?_append_left (by rw [List.length_map, List.length_range]; omega), List.getElem?_map, List.getElem?_range (Nat.succ_pos k)]
  rfl
theorem rows_step : ∀ (k i t a b : Nat), (rows k i)[t]? = some (a, b) → a < b ∧ b < i + 1 + k ∧ (rows k i)[t + 1]? = nx (i + 1 + k) a b
  | 0, _, _, _, _, h => by
    unfold rows at h
    rw [List.getElem?_nil] at h
    cases h
  | k + 1, i, t, a, b, h => by
    unfold rows at h ⊢
    have len : ((List.range (k + 1)).map (fun d => (i, i + 1 + d))).length = k + 1 := by rw [List.length_map, List.length_range]
    rcases Nat.lt_or_ge t (k + 1) with lt | ge
    · rw [List.getElem?_append_left (by omega), List.getElem?_map, List.getElem?_range lt] at h
      have h' : (i, i + 1 + t) = (a, b) := Option.some.inj h
      obtain ⟨rfl, rfl⟩ := Prod.mk.inj h'
      refine ⟨by omega, by omega, ?_⟩
      rcases Nat.lt_or_ge (t + 1) (k + 1) with l2 | g2
      · rw [List.getElem?_append_left (by omega), List.getElem?_map, List.getElem?_range l2]
        unfold nx
        rw [if_pos (by omega)]
        rfl
      · have et : t = k := by omega
        subst et
        rw [List.getElem?_append_right (by omega), len, Nat.sub_self]
        unfold nx
        rw [if_neg (by omega)]
        cases t with
        | zero =>
          rw [if_neg (by omega)]
          rfl
        | succ m =>
          rw [if_pos (by omega)]
          exact rows_zero m (i + 1)
    · rw [List.getElem?_append_right (by omega), len] at h
      obtain ⟨h1, h2, h3⟩ := rows_step k (i + 1) (t - (k + 1)) a b h
      refine ⟨h1, by omega, ?_⟩
      rw [List.getElem?_append_right (by omega), len, show t + 1 - (k + 1) = t - (k + 1) + 1 by omega, h3]
      congr 1
      omega
theorem prs_step {n t a b : Nat} (h : (prs n)[t]? = some (a, b)) : a < b ∧ b < n ∧ (prs n)[t + 1]? = nx n a b := by
  obtain ⟨h1, h2, h3⟩ := rows_step (n - 1) 0 t a b h
  have hn : 0 + 1 + (n - 1) = n := by omega
  rw [hn] at h2 h3
  exact ⟨h1, h2, h3⟩
theorem rows_mem : ∀ (k i a b : Nat), (a, b) ∈ rows k i ↔ i ≤ a ∧ a < b ∧ b < i + 1 + k
  | 0, i, a, b => by
    unfold rows
    constructor
    · intro h
      cases h
    · rintro ⟨h1, h2, h3⟩
      omega
  | k + 1, i, a, b => by
    unfold rows
    rw [List.mem_append, rows_mem k (i + 1) a b, List.mem_map]
    constructor
    · rintro (⟨d, hd, e⟩ | h)
      · have := List.mem_range.mp hd
        obtain ⟨rfl, rfl⟩ := Prod.mk.inj e
        omega
      · omega
    · rintro ⟨h1, h2, h3⟩
      rcases Nat.eq_or_lt_of_le h1 with e | l
      · exact .inl ⟨b - (i + 1), List.mem_range.mpr (by omega), by rw [← e]; congr 1; omega⟩
      · exact .inr ⟨l, h2, by omega⟩
theorem prs_mem {n a b : Nat} : (a, b) ∈ prs n ↔ a < b ∧ b < n := by
  unfold prs
  rw [rows_mem]
  omega
theorem rows_len : ∀ k i, (rows k i).length ≤ k * k
  | 0, i => Nat.zero_le _
  | k + 1, i => by
    unfold rows
    rw [List.length_append, List.length_map, List.length_range]
    have := rows_len k (i + 1)
    have e : (k + 1) * (k + 1) = k * k + k + (k + 1) := by rw [Nat.succ_mul, Nat.mul_succ]
    omega
theorem prs_none {n : Nat} (h : n < 2) : prs n = [] := by
  unfold prs
  rw [show n - 1 = 0 by omega]
  rfl
theorem prs_zero {n : Nat} (h : 2 ≤ n) : (prs n)[0]? = some (0, 1) := by
  unfold prs
  obtain ⟨m, rfl⟩ : ∃ m, n = m + 2 := ⟨n - 2, by omega⟩
  exact rows_zero m 0
/-- the model's own step is this one -/
theorem nx_some {n i j a b : Nat} (hi : i < j) (hj : j < n) (h : nx n i j = some (a, b)) :
    (match (List.range 2).reverse.find? fun k => [i, j].getD k 0 != k + n - 2 with | none => none | some k => some ([i, j].take k ++ (List.range (2 - k)).map ([i, j].getD k 0 + 1 + ·))) = some [a, b] := by
  have e : (List.range 2).reverse = [1, 0] := rfl
  rw [e]
  unfold nx at h
  by_cases h1 : j + 1 < n
  · rw [if_pos h1] at h
    cases h
    have z : ([i, j].getD 1 0 != 1 + n - 2) = true := by
      show (j != 1 + n - 2) = true
      rw [bne_iff_ne]
      omega
    rw [List.find?_cons_of_pos (p := fun k => [i, j].getD k 0 != k + n - 2) (a := 1) z]
    rfl
  · rw [if_neg h1] at h
    have z : ¬ ([i, j].getD 1 0 != 1 + n - 2) = true := by
      show ¬ (j != 1 + n - 2) = true
      rw [bne_iff_ne]
      omega
    by_cases h2 : i + 2 < n
    · rw [if_pos h2] at h
      cases h
      have z2 : ([i, j].getD 0 0 != 0 + n - 2) = true := by
        show (i != 0 + n - 2) = true
        rw [bne_iff_ne]
        omega
      rw [List.find?_cons_of_neg (p := fun k => [i, j].getD k 0 != k + n - 2) (a := 1) z, List.find?_cons_of_pos (p := fun k => [i, j].getD k 0 != k + n - 2) (a := 0) z2]
      rfl
    · rw [if_neg h2] at h
      cases h
theorem nx_none {n i j : Nat} (hi : i < j) (hj : j < n) (h : nx n i j = none) :
    (match (List.range 2).reverse.find? fun k => [i, j].getD k 0 != k + n - 2 with | none => none | some k => some ([i, j].take k ++ (List.range (2 - k)).map ([i, j].getD k 0 + 1 + ·))) = none := by
  have e : (List.range 2).reverse = [1, 0] := rfl
  rw [e]
  unfold nx at h
  by_cases h1 : j + 1 < n
  · rw [if_pos h1] at h
    cases h
  · rw [if_neg h1] at h
    by_cases h2 : i + 2 < n
    · rw [if_pos h2] at h
      cases h
    · have z : ¬ ([i, j].getD 1 0 != 1 + n - 2) = true := by
        show ¬ (j != 1 + n - 2) = true
        rw [bne_iff_ne]
        omega
      have z2 : ¬ ([i, j].getD 0 0 != 0 + n - 2) = true := by
        show ¬ (i != 0 + n - 2) = true
        rw [bne_iff_ne]
        omega
      rw [List.find?_cons_of_neg (p := fun k => [i, j].getD k 0 != k + n - 2) (a := 1) z, List.find?_cons_of_neg (p := fun k => [i, j].getD k 0 != k + n - 2) (a := 0) z2]
      rfl
end Comb

namespace Comb
open PySem PySem.Spec PyProof.Rows L2
/-- the pairs of these values, as new tuples -/
def Itcb (xs : List V) : It :=
  ⟨fun t _ => t < (prs xs.length).length,
    fun t H v H' => ∃ T i j x y, v = .ref T ∧ H T = none ∧ H' = upd H T (.tup [x, y]) ∧ (prs xs.length)[t]? = some (i, j) ∧ xs[i]? = some x ∧ xs[j]? = some y,
    fun t _ => (prs xs.length).length ≤ t⟩
def Stt (it pool : Addr) (items : Array Value) (t : Nat) (h : Heap) : Prop :=
  h.get? pool = some (tupO items) ∧ ((t = 0 ∧ IsC h it pool (if 2 > items.size then 2 else 0) .none 0 1) ∨ ∃ (u i j : Nat) (last : Value), t = u + 1 ∧ (prs items.size)[u]? = some (i, j) ∧ IsC h it pool 1 last i j)
theorem turn_comb {P : Program} {w : World} {K : PySem.W.Frag} {tg : Expr} {xs : List V} {its : List Value} (rv : Vals xs its) (it pool : Addr) (lt : pool < it) : Turn P w K tg (Itcb xs) [it, pool] it (Stt it pool its.toArray) where
  mem := by simp
  obj := fun t h st b hb => by
    obtain ⟨hp, st⟩ := st
    have e : b = it ∨ b = pool := by simpa using hb
    rcases e with e | e
    · rw [e]
      rcases st with ⟨_, c⟩ | ⟨_, _, _, _, _, _, c⟩ <;> exact ⟨_, c, fun v q => nomatch q⟩
    · rw [e]
      exact ⟨_, hp, fun v q => nomatch q⟩
  keep := fun t h h' st k => by
    obtain ⟨hp, st⟩ := st
    refine ⟨k pool (by simp) _ hp, ?_⟩
    rcases st with ⟨e, c⟩ | ⟨u, i, j, last, e, hu, c⟩
    · exact .inl ⟨e, k it (by simp) _ c⟩
    · exact .inr ⟨u, i, j, last, e, hu, k it (by simp) _ c⟩
  item := by
    intro X hP hw hK hc t pins s σ H E I hf st hg
    subst hP hw hK
    obtain ⟨hp, st⟩ := st
    have len := rv.length
    have sz : its.toArray.size = xs.length := by rw [List.size_toArray, len]
    -- what comes of the pair (i, j)
    have out : ∀ (i j : Nat) (h' : Heap), (prs xs.length)[t]? = some (i, j) → (∀ b, b ≠ it → ∀ u, s.heap.get? b = some u → h'.get? b = some u) → h'.get? s.heap.objs.size = some (tupO #[its.toArray.getD i .none, its.toArray.getD j .none]) →
        IsC h' it pool 1 (.ref s.heap.objs.size) i j → ∃ u, some (Value.ref s.heap.objs.size) = some u ∧
        wpAny (model X.prog X.w) X.A (letOwnedTupleGo tg (.ref it) u) (fun _ s2 => ∃ x H', Inv X pins σ H' s2 ∧ RelV x u ∧ (Itcb xs).yld t H x H' ∧ Stt it pool its.toArray (t + 1) s2.heap ∧ ∀ b ∈ [it, pool], H' b = none) E { s with heap := h' } := by
      intro i j h' ht keep new rec
      obtain ⟨l1, l2, _⟩ := prs_step ht
      have hx : xs[i]? = some xs[i] := List.getElem?_eq_getElem (by omega)
      have hy : xs[j]? = some xs[j] := List.getElem?_eq_getElem (by omega)
      obtain ⟨u1, hu1, r1⟩ := rv.get hx
      obtain ⟨u2, hu2, r2⟩ := rv.get hy
      have g1 : its.toArray.getD i .none = u1 := by
        rw [Array.getD_eq_getD_getElem?, List.getElem?_toArray, hu1]
        rfl
      have g2 : its.toArray.getD j .none = u2 := by
        rw [Array.getD_eq_getD_getElem?, List.getElem?_toArray, hu2]
        rfl
      rw [g1, g2] at new
      have obj : ObjOk X.prog X.w (upd H s.heap.objs.size (.tup [xs[i], xs[j]])) h' s.heap.objs.size (.tup [xs[i], xs[j]]) :=
        ⟨by show 2 ≤ sizeLine; decide, [u1, u2], .cons r1 (.cons r2 .nil), ⟨_, new, rfl, _, rfl⟩⟩
      have I1 : Inv X pins σ (upd H s.heap.objs.size (.tup [xs[i], xs[j]])) { s with heap := h' } :=
        I.turnedNew (t' := s.toks) (ch := [it, pool]) (fun c o hb q => keep c (fun z => hb (by simp [z])) o q) hf (Nat.le_refl _) obj
      refine ⟨_, rfl, go_of (s := { s with heap := h' }) rec rfl rfl (by decide) ⟨.ref s.heap.objs.size, _, I1, rfl, ⟨_, i, j, _, _, rfl, I.hok.fresh (Nat.le_refl _), rfl, ht, hx, hy⟩, ⟨keep pool (Nat.ne_of_lt lt) _ hp, .inr ⟨t, i, j, _, rfl, by rw [sz]; exact ht, rec⟩⟩, fun c hcm => ?_⟩⟩
      have small : c < s.heap.objs.size := by
        have e : c = it ∨ c = pool := by simpa using hcm
        have hit : it < s.heap.objs.size := by
          rcases st with ⟨_, c⟩ | ⟨_, _, _, _, _, _, c⟩ <;> exact Heap.lt_size c
        rcases e with e | e
        · rw [e]; exact hit
        · rw [e]; exact Nat.lt_trans lt hit
      rw [upd_ne (Nat.ne_of_lt small)]
      exact (hf c hcm).1
    have hg' : t < (prs xs.length).length := hg
    obtain ⟨⟨i, j⟩, hij⟩ : ∃ q, (prs xs.length)[t]? = some q := ⟨_, List.getElem?_eq_getElem hg'⟩
    rcases st with ⟨e, c⟩ | ⟨u, i0, j0, last, e, hu, c⟩
    · subst e
      have h2 : 2 ≤ xs.length := by
        rcases Nat.lt_or_ge xs.length 2 with z | z
        · rw [prs_none z] at hg'
          cases hg'
        · exact z
      rw [prs_zero h2] at hij
      cases hij
      rw [sz, if_neg (by omega)] at c
      exact next_first (n := 0) c hp (by rw [sz]; exact h2) fun h' k new rec => out 0 1 h' (prs_zero h2) k new rec
    · subst e
      rw [sz] at hu
      obtain ⟨l1, l2, l3⟩ := prs_step hu
      refine next_more c hp (nx_some l1 (by rw [sz]; exact l2) (by rw [sz, ← l3]; exact hij)) fun h' k new rec => out i j h' hij k new rec
  done := by
    intro X hP hw hK hc t pins s σ H E I hf st hg
    subst hP hw hK
    obtain ⟨hp, st⟩ := st
    have len := rv.length
    have sz : its.toArray.size = xs.length := by rw [List.size_toArray, len]
    have hg' : (prs xs.length).length ≤ t := hg
    obtain ⟨f0, f1, f2, f3, f4, f5⟩ := hf it (by simp)
    have fin : ∀ h', Heap.ExtBut it s.heap h' → (none : Option Value) = none ∧ Inv X pins σ H { s with heap := h' } := fun h' eb => ⟨rfl, I.turned (t' := s.toks) (fun b o hb e => eb b o hb e) f0 f1 f3 f4 f5⟩
    rcases st with ⟨e, c⟩ | ⟨u, i0, j0, last, e, hu, c⟩
    · subst e
      have h2 : xs.length < 2 := by
        rcases Nat.lt_or_ge xs.length 2 with z | z
        · exact z
        · have := prs_zero z
          rw [List.getElem?_eq_none hg'] at this
          cases this
      rw [sz, if_pos (by omega)] at c
      exact next_none (i := 0) (j := 1) (I.ok.hd hc) c hp fin
    · subst e
      rw [sz] at hu
      obtain ⟨l1, l2, l3⟩ := prs_step hu
      rw [List.getElem?_eq_none hg'] at l3
      exact next_end (I.ok.hd hc) c hp (nx_none l1 (by rw [sz]; exact l2) (by rw [sz]; exact l3.symm)) fin
  self := fun A t s Q E st h => by
    obtain ⟨hp, st⟩ := st
    rcases st with ⟨_, c⟩ | ⟨_, _, _, _, _, _, c⟩ <;> exact iter_comb c h

section
variable {X : Cx} {tg : Expr}
def iComb (K : PySem.W.Frag) (ta : TA) : TI := fun σ H R => ta σ H fun vs H1 => ∃ a xs, vs = [.ref a, .int 2] ∧ SqL K H1 a xs ∧ R (Itcb xs) H1
theorem pi_comb {x : Str} {e e2 : Expr} {ta : TA} {p pos : Pos} (hg : Gl X x) (hm : X.mg x = some (.type "itertools.combinations")) (ha : PA X [e, e2] ta) (hdb : (x == ("__debug__" : Str)) = false := by decide)
    (hs : starEach [e, e2] X.env = (false, eval e X.env) :: starEach [e2] X.env := by rfl) (hpl : (backTo pos (starEach [e2] X.env)).any (·.1) = false := by rfl) :
    PI X tg (.Call (.Name x p) [e, e2] [] pos) (iComb X.K ta) := by
  refine ⟨fun pins s σ H R I h => ?_⟩
  refine wpAny_Call_Name_kw (ld_glob I hg hm ?_ hdb)
  refine PyProof.Rows.callWith_type1 (thn (ha.run pos pins s σ H _ I h) fun us s1 ⟨vs, H1, I1, r1, q1⟩ => ?_) hs hpl
  obtain ⟨a, xs, rfl, hq, q⟩ := q1
  obtain ⟨u1, u2, rfl, e1, ⟨t, rfl⟩⟩ := vals2 r1
  obtain rfl : u1 = Value.ref a := e1
  obtain ⟨its, rv, ⟨o, n, ho, hcl, hne, hda⟩, hz⟩ := I1.list hq
  have len := rv.length
  refine call_comb ho hcl hda (by rw [List.size_toArray, ← len]; exact hz) fun h1 keep => ?_
  have J0 : Inv X pins σ H1 { s1 with heap := h1 } := I1.kept (t' := s1.toks) keep
  have sz1 : (h1.push (tupO its.toArray)).objs.size = h1.objs.size + 1 := Heap.size_push ..
  have g1 : ((h1.push (tupO its.toArray)).push (recC h1.objs.size (if 2 > its.toArray.size then 2 else 0) .none 0 1)).get? h1.objs.size = some (tupO its.toArray) := Heap.get?_push_of_some _ (Heap.get?_push_size _ rfl)
  have g2 : ((h1.push (tupO its.toArray)).push (recC h1.objs.size (if 2 > its.toArray.size then 2 else 0) .none 0 1)).get? (h1.objs.size + 1) = some (recC h1.objs.size (if 2 > its.toArray.size then 2 else 0) .none 0 1) := by
    rw [← sz1]
    exact Heap.get?_push_size _ rfl
  refine iter_comb (s := { s1 with heap := _ }) g2 ?_
  have J1 : Inv X pins σ H1 { s1 with heap := (h1.push (tupO its.toArray)).push (recC h1.objs.size (if 2 > its.toArray.size then 2 else 0) .none 0 1) } :=
    I1.kept (t' := s1.toks) fun b o z => Heap.get?_push_of_some _ (Heap.get?_push_of_some _ (keep b o z))
  refine ⟨h1.objs.size + 1, [h1.objs.size + 1, h1.objs.size], _, _, H1, rfl, J1, turn_comb rv (h1.objs.size + 1) h1.objs.size (Nat.lt_succ_self _), ⟨g1, .inl ⟨rfl, g2⟩⟩, fun b hb => ?_, q⟩
  have low : h1.objs.size ≤ b := by
    have e : b = h1.objs.size + 1 ∨ b = h1.objs.size := by simpa using hb
    rcases e with e | e
    · rw [e]; exact Nat.le_succ _
    · rw [e]; exact Nat.le_refl _
  exact J0.fpOk low (J0.hok.fresh low)

/-- a comprehension over the pairs -/
theorem lc_comb {xs : List V} {g : TG} {tt : TT} {te : TE} {vs : List Nat} {σ : L2.St} {H1 : Hp} {D : Addr} {Qd : Hp → Prop} (Pv : Nat → Hp → Prop) (h0 : Pv 0 (upd H1 D (.lst [])))
    (hs : ∀ (t i j : Nat) (x y : V) (T : Addr) (H : Hp), (prs xs.length)[t]? = some (i, j) → xs[i]? = some x → xs[j]? = some y → Pv t H → H T = none → g (.ref T) (wipe σ vs) (upd H T (.tup [x, y])) fun σ2 H2 => wipe σ2 vs = wipe σ vs ∧ tt σ2 H2 fun b H3 =>
      if b = true then te σ2 H3 fun y H4 => ∃ acc, H4 D = some (.lst acc) ∧ acc.length < sizeLine ∧ Pv (t + 1) (upd H4 D (.lst (acc ++ [y]))) else Pv (t + 1) H3) (hd : ∀ H, Pv (prs xs.length).length H → Qd H) :
    ∃ W : Nat → Nat → Hp → Prop, (∃ m, W 0 m (upd H1 D (.lst []))) ∧ ∀ t m H, W t m H →
      ((Itcb xs).stop t H ∧ Qd H) ∨ ((Itcb xs).go t H ∧ ∃ Nx : Hp → Prop, (∀ H', Nx H' → ∃ m', m' < m ∧ W (t + 1) m' H') ∧ ∀ x H', (Itcb xs).yld t H x H' → g x (wipe σ vs) H' fun σ2 H2 => wipe σ2 vs = wipe σ vs ∧ tt σ2 H2 fun b H3 =>
        if b = true then te σ2 H3 fun y H4 => ∃ acc, H4 D = some (.lst acc) ∧ acc.length < sizeLine ∧ Nx (upd H4 D (.lst (acc ++ [y]))) else Nx H3) := by
  refine ⟨fun t m H => m = (prs xs.length).length - t ∧ t ≤ (prs xs.length).length ∧ Pv t H, ⟨_, rfl, Nat.zero_le _, h0⟩, ?_⟩
  rintro t m H ⟨rfl, ht, pv⟩
  rcases Nat.lt_or_ge t (prs xs.length).length with lt | ge
  · refine .inr ⟨lt, Pv (t + 1), fun H' p' => ⟨(prs xs.length).length - (t + 1), by omega, rfl, lt, p'⟩, fun v H' y => ?_⟩
    obtain ⟨T, i, j, a, b, rfl, hT, rfl, h1, h2, h3⟩ := y
    exact hs t i j a b T H h1 h2 h3 pv hT
  · have e : t = (prs xs.length).length := by omega
    subst e
    exact .inl ⟨Nat.le_refl _, hd H pv⟩
end
end Comb

namespace SortR
open PySem PySem.Spec PyProof.Rows L2 PySem.W
/-- lists of ints by their sequence -/
def rowLe (p q : Addr × List Int) : Bool := decide (p.2 ≤ q.2)
theorem enc_alike (p q : Addr × List Int) : alike (PyData.list (p.2.map .int)) (PyData.list (q.2.map .int)) = true := by
  simp only [alike]
  exact alike_ints p.2 q.2
theorem rows_dp {K : PySem.W.Frag} {H : Hp} : ∀ ns : List Int, DpAll K H (ns.map V.int) (ns.map PyData.int)
  | [] => .nil
  | n :: ns => .cons (.int n) (rows_dp ns)
theorem vals_each {h : Heap} {K : PySem.W.Frag} {H : Hp} {P : Addr × List Int → Prop} : ∀ {bs : List (Addr × List Int)} {us : List Value}, Vals (bs.map fun b => V.ref b.1) us → (∀ b ∈ bs, P b) → EachIs (fun v b => v = Value.ref b.1 ∧ P b) us bs
  | [], us, r, _ => by
    cases r
    exact .nil
  | b :: bs, us, r, hp => by
    cases r with
    | cons r1 r2 =>
      have e : _ = Value.ref b.1 := r1
      exact .cons ⟨e, hp b List.mem_cons_self⟩ (vals_each (h := h) (K := K) (H := H) r2 fun c hc => hp c (List.mem_cons_of_mem _ hc))
theorem each_back {P : Addr × List Int → Prop} : ∀ {us : List Value} {bs : List (Addr × List Int)}, EachIs (fun v b => v = Value.ref b.1 ∧ P b) us bs → Vals (bs.map fun b => V.ref b.1) us
  | _, _, .nil => .nil
  | _, _, .cons h t => .cons h.1 (each_back t)
theorem each_mono {α β : Type} {R S : α → β → Prop} : ∀ {as : List α} {bs : List β}, EachIs R as bs → (∀ a b, R a b → S a b) → EachIs S as bs
  | _, _, .nil, _ => .nil
  | _, _, .cons h t, f => .cons (f _ _ h) (each_mono t f)
section
variable {X : Cx}
/-- sorted(xs), xs a list of lists of ints, of any length -/
theorem call_sortedR (hu : X.A.units + 64 < cLine) : CallR X (.builtin "sorted") (fun xs H Q => ∃ (a : Addr) (bs : List (Addr × List Int)), xs = [V.ref a] ∧ SqL X.K H a (bs.map fun b => V.ref b.1) ∧ (∀ b ∈ bs, SqL X.K H b.1 (b.2.map V.int)) ∧
    ∀ p, H p = none → Q (.ref p) (upd H p (.lst ((bs.mergeSort rowLe).map fun b => V.ref b.1)))) := by
  intro pins s σ H xs us Q I r h
  obtain ⟨a, bs, rfl, hs, hb, q⟩ := h
  obtain ⟨u, rfl, ru⟩ := vals1 r
  obtain rfl : u = Value.ref a := ru
  obtain ⟨its, rv, hl, hz⟩ := I.list hs
  have each : EachIs (fun v b => v = Value.ref b.1 ∧ SqL X.K H b.1 (b.2.map V.int)) its bs := vals_each (h := s.heap) (K := X.K) (H := H) rv hb
  have len : its.length = bs.length := by rw [← rv.length, List.length_map]
  have each2 : EachIs (fun v (b : Addr × List Int) => ∃ as, Reads s.heap v (PyData.list (b.2.map .int)) as) its bs := each_mono each fun v b ⟨e, hq⟩ => by
    rw [e]
    exact Dp.reads I (PyData.list (b.2.map .int)) (.ref b.1) (.ref b.1) (.lst hq (rows_dp b.2)) rfl
  have le : dataLe false (fun b : Addr × List Int => PyData.list (b.2.map .int)) = rowLe := dataLe_rows (fun b : Addr × List Int => b.2)
  refine sorted_data (enc := fun b : Addr × List Int => PyData.list (b.2.map .int)) hl.isList each each2 (AllAlike.of enc_alike) (Sortable.others fun b => ⟨(fun z => nomatch z), fun xs z => nomatch z⟩) (by rw [← len]; rw [List.length_map] at hz; rw [len]; exact hz) (fun b _ => by
    have d : (PyData.list (b.2.map .int)).depth = 1 := by
      simp only [PyData.depth, depth_ints]
    rw [d]
    omega) fun out ho each3 => ?_
  rw [le] at each3
  have back := each_back each3
  obtain ⟨n, hn⟩ := sortedAll_at s.heap its out.toArray
  refine ⟨.ref (s.heap.objs.size + 1), upd H (s.heap.objs.size + 1) (.lst ((bs.mergeSort rowLe).map fun b => V.ref b.1)), I.laid (t' := s.toks) (fun b o e => sortedAll_old e) (Nat.le_succ _) ⟨?_, out, n, back, hn⟩, rfl, q _ (I.hok.fresh (Nat.le_succ _))⟩
  rw [List.length_map, List.length_mergeSort]
  rw [List.length_map] at hz
  exact hz
end
end SortR

namespace SortR
open PySem PySem.Spec PyProof.Rows L2 PySem.W
section
variable {X : Cx}
def rLtR (K : PySem.W.Frag) : R2 := fun x y H Q => ∃ (a b : Addr) (ns ms : List Int), x = .ref a ∧ y = .ref b ∧ SqL K H a (ns.map V.int) ∧ SqL K H b (ms.map V.int) ∧ Q (.bl (decide (ns < ms))) H
/-- xs < ys, two lists of ints -/
theorem op_ltR (hu : X.A.units + 64 < cLine) : OpR X (compareOp .Lt) (rLtR X.K) := by
  intro pins s σ H x y v u Q I rx ry h
  obtain ⟨a, b, ns, ms, rfl, rfl, hs, hm, q⟩ := h
  obtain ⟨as, r1⟩ := Dp.reads I (PyData.list (ns.map .int)) (.ref a) v (.lst hs (rows_dp ns)) rx
  obtain ⟨bs, r2⟩ := Dp.reads I (PyData.list (ms.map .int)) (.ref b) u (.lst hm (rows_dp ms)) ry
  have dep : (PyData.list (ns.map .int)).depth = 1 := by simp only [PyData.depth, depth_ints]
  have lt := rcLt_alike (PyData.list (ns.map .int)) (PyData.list (ms.map .int)) X.A s v u as bs r1 r2 (enc_alike (a, ns) (b, ms)) (fun z => nomatch z) (by rw [dep]; omega)
  have e : dataLt (PyData.list (ns.map .int)) (PyData.list (ms.map .int)) = decide (ns < ms) := by
    rw [dataLt_list]
    exact dataLt_ints ns ms
  rw [e] at lt
  exact lt _ _ _ _ ⟨.bl _, H, I, rfl, q⟩
/-- a comprehension over zip of two lists that stand still -/
theorem lc_zipL {K : PySem.W.Frag} {a b : Addr} {xs ys : List V} {g : TG} {tt : TT} {te : TE} {vs : List Nat} {σ : L2.St} {H1 : Hp} {D : Addr} {Qd : Hp → Prop} (Pv : Nat → Hp → Prop) (h0 : Pv 0 (upd H1 D (.lst []))) (hl : ∀ i H, Pv i H → SqL K H a xs ∧ SqL K H b ys)
    (hs : ∀ (i : Nat) (x y : V) (T : Addr) (H : Hp), xs[i]? = some x → ys[i]? = some y → Pv i H → H T = none → g (.ref T) (wipe σ vs) (upd H T (.tup [x, y])) fun σ2 H2 => wipe σ2 vs = wipe σ vs ∧ tt σ2 H2 fun b H3 =>
      if b = true then te σ2 H3 fun y H4 => ∃ acc, H4 D = some (.lst acc) ∧ acc.length < sizeLine ∧ Pv (i + 1) (upd H4 D (.lst (acc ++ [y]))) else Pv (i + 1) H3) (hd : ∀ H, Pv (min xs.length ys.length) H → Qd H) :
    ∃ W : Nat → Nat → Hp → Prop, (∃ m, W 0 m (upd H1 D (.lst []))) ∧ ∀ i m H, W i m H →
      ((Itz K a b).stop i H ∧ Qd H) ∨ ((Itz K a b).go i H ∧ ∃ Nx : Hp → Prop, (∀ H', Nx H' → ∃ m', m' < m ∧ W (i + 1) m' H') ∧ ∀ x H', (Itz K a b).yld i H x H' → g x (wipe σ vs) H' fun σ2 H2 => wipe σ2 vs = wipe σ vs ∧ tt σ2 H2 fun b H3 =>
        if b = true then te σ2 H3 fun y H4 => ∃ acc, H4 D = some (.lst acc) ∧ acc.length < sizeLine ∧ Nx (upd H4 D (.lst (acc ++ [y]))) else Nx H3) := by
  refine ⟨fun i m H => m = min xs.length ys.length - i ∧ i ≤ min xs.length ys.length ∧ Pv i H, ⟨_, rfl, Nat.zero_le _, h0⟩, ?_⟩
  rintro i m H ⟨rfl, hi, pv⟩
  obtain ⟨qx, qy⟩ := hl i H pv
  rcases Nat.lt_or_ge i (min xs.length ys.length) with lt | ge
  · have ex : xs[i]? = some xs[i] := List.getElem?_eq_getElem (by omega)
    have ey : ys[i]? = some ys[i] := List.getElem?_eq_getElem (by omega)
    refine .inr ⟨⟨xs, ys, _, _, qx, qy, ex, ey⟩, Pv (i + 1), fun H' p' => ⟨min xs.length ys.length - (i + 1), by omega, rfl, lt, p'⟩, fun v H' y => ?_⟩
    obtain ⟨T, x', y', rfl, hT, rfl, f1, f2⟩ := y
    exact hs i x' y' T H (f1 xs qx) (f2 ys qy) pv hT
  · have e : i = min xs.length ys.length := by omega
    subst e
    exact .inl ⟨⟨xs, ys, qx, qy, by omega⟩, hd H pv⟩
/-- a comprehension over enumerate of a list that stands still -/
theorem lc_enumL {K : PySem.W.Frag} {a : Addr} {xs : List V} {g : TG} {tt : TT} {te : TE} {vs : List Nat} {σ : L2.St} {H1 : Hp} {D : Addr} {Qd : Hp → Prop} (Pv : Nat → Hp → Prop) (h0 : Pv 0 (upd H1 D (.lst []))) (hl : ∀ i H, Pv i H → SqL K H a xs)
    (hs : ∀ (i : Nat) (x : V) (T : Addr) (H : Hp), xs[i]? = some x → Pv i H → H T = none → g (.ref T) (wipe σ vs) (upd H T (.tup [.int (i : Nat), x])) fun σ2 H2 => wipe σ2 vs = wipe σ vs ∧ tt σ2 H2 fun b H3 =>
      if b = true then te σ2 H3 fun y H4 => ∃ acc, H4 D = some (.lst acc) ∧ acc.length < sizeLine ∧ Pv (i + 1) (upd H4 D (.lst (acc ++ [y]))) else Pv (i + 1) H3) (hd : ∀ H, Pv xs.length H → Qd H) :
    ∃ W : Nat → Nat → Hp → Prop, (∃ m, W 0 m (upd H1 D (.lst []))) ∧ ∀ i m H, W i m H →
      ((Ite K a).stop i H ∧ Qd H) ∨ ((Ite K a).go i H ∧ ∃ Nx : Hp → Prop, (∀ H', Nx H' → ∃ m', m' < m ∧ W (i + 1) m' H') ∧ ∀ x H', (Ite K a).yld i H x H' → g x (wipe σ vs) H' fun σ2 H2 => wipe σ2 vs = wipe σ vs ∧ tt σ2 H2 fun b H3 =>
        if b = true then te σ2 H3 fun y H4 => ∃ acc, H4 D = some (.lst acc) ∧ acc.length < sizeLine ∧ Nx (upd H4 D (.lst (acc ++ [y]))) else Nx H3) := by
  refine ⟨fun i m H => m = xs.length - i ∧ i ≤ xs.length ∧ Pv i H, ⟨_, rfl, Nat.zero_le _, h0⟩, ?_⟩
  rintro i m H ⟨rfl, hi, pv⟩
  have qx := hl i H pv
  rcases Nat.lt_or_ge i xs.length with lt | ge
  · have ex : xs[i]? = some xs[i] := List.getElem?_eq_getElem lt
    refine .inr ⟨⟨xs, _, qx, ex⟩, Pv (i + 1), fun H' p' => ⟨xs.length - (i + 1), by omega, rfl, lt, p'⟩, fun v H' y => ?_⟩
    obtain ⟨T, x', rfl, hT, rfl, f1⟩ := y
    exact hs i x' T H (f1 xs qx) pv hT
  · have e : i = xs.length := by omega
    subst e
    exact .inl ⟨⟨xs, qx, Nat.le_refl _⟩, hd H pv⟩
end
end SortR

/-! Comprehensions without a test, by the value of each turn: what stood stands. -/
namespace LcM
open PySem PySem.Spec PyProof.Rows L2
/-- all that stood stands -/
def Grows (H H' : Hp) : Prop := ∀ b o, H b = some o → H' b = some o
theorem Grows.refl {H : Hp} : Grows H H := fun _ _ e => e
theorem Grows.trans {H H1 H2 : Hp} (x : Grows H H1) (y : Grows H1 H2) : Grows H H2 := fun b o e => y b o (x b o e)
theorem Grows.new {a : Addr} {H : Hp} {o : HO} (h : H a = none) : Grows H (upd H a o) := fun b u e => by
  rw [upd_ne (ne_of_none e h)]
  exact e
theorem Grows.seq {K : PySem.W.Frag} {H H' : Hp} {a : Addr} {xs : List V} (s : Grows H H') (h : SqL K H a xs) : SqL K H' a xs := by
  rcases h with (h | ⟨o, h⟩) | h
  · exact .inl (.inl (s _ _ h))
  · exact .inl (.inr ⟨o, s _ _ h⟩)
  · exact .inr h
theorem Grows.tup {K : PySem.W.Frag} {H H' : Hp} {a : Addr} {xs : List V} (s : Grows H H') (h : SqT K H a xs) : SqT K H' a xs := by
  rcases h with (h | ⟨o, h⟩) | h
  · exact .inl (.inl (s _ _ h))
  · exact .inl (.inr ⟨o, s _ _ h⟩)
  · exact .inr h
/-- the list that is made -/
def Ma (H0 : Hp) (D : Addr) (F : Nat → V) (i : Nat) (H : Hp) : Prop := Grows H0 H ∧ H D = some (.lst ((List.range i).map F))
theorem Ma.start {H0 : Hp} {D : Addr} {F : Nat → V} (hD : H0 D = none) : Ma H0 D F 0 (upd H0 D (.lst [])) := ⟨Grows.new hD, upd_same⟩
theorem yes_eq {te : TE} {A : L2.St → Prop} {R : V → Hp → Prop} {Y : Hp → Prop} :
    (fun (σ2 : L2.St) (H2 : Hp) => A σ2 ∧ tYes σ2 H2 fun b H3 => if b = true then te σ2 H3 R else Y H3) = fun σ2 H2 => A σ2 ∧ te σ2 H2 R := by
  funext σ2 H2
  unfold tYes
  dsimp only
  rw [if_pos rfl]
/-- one more -/
theorem Ma.more {H0 H H4 : Hp} {D : Addr} {F : Nat → V} {i : Nat} (hD : H0 D = none) (m : Ma H0 D F i H) (s : Grows H H4) (small : i < 1000000) :
    ∃ acc, H4 D = some (.lst acc) ∧ acc.length < sizeLine ∧ Ma H0 D F (i + 1) (upd H4 D (.lst (acc ++ [F i]))) := by
  refine ⟨_, s _ _ m.2, ?_, fun b o e => ?_, ?_⟩
  · rw [List.length_map, List.length_range]
    exact Nat.lt_trans small (by decide)
  · rw [upd_ne (ne_of_none e hD)]
    exact s _ _ (m.1 _ _ e)
  · rw [upd_same, List.range_succ, List.map_append]
    rfl
section
variable {K : PySem.W.Frag} {a b : Addr} {xs ys : List V} {g : TG} {te : TE} {vs : List Nat} {σ : L2.St} {H0 : Hp} {D : Addr} {Qd : Hp → Prop}
theorem lc_listM (F : Nat → V) (hD : H0 D = none) (hx : SqL K H0 a xs) (small : xs.length ≤ 1000000)
    (turn : ∀ (i : Nat) (x : V) (H : Hp) (R : V → Hp → Prop), xs[i]? = some x → Grows H0 H → (∀ H4, Grows H H4 → R (F i) H4) → g x (wipe σ vs) H fun σ2 H2 => wipe σ2 vs = wipe σ vs ∧ te σ2 H2 R)
    (done : ∀ H, Grows H0 H → H D = some (.lst ((List.range xs.length).map F)) → Qd H) :
    ∃ W : Nat → Nat → Hp → Prop, (∃ m, W 0 m (upd H0 D (.lst []))) ∧ ∀ i m H, W i m H →
      ((Itl K a).stop i H ∧ Qd H) ∨ ((Itl K a).go i H ∧ ∃ Nx : Hp → Prop, (∀ H', Nx H' → ∃ m', m' < m ∧ W (i + 1) m' H') ∧ ∀ x H', (Itl K a).yld i H x H' → g x (wipe σ vs) H' fun σ2 H2 => wipe σ2 vs = wipe σ vs ∧ tYes σ2 H2 fun b H3 =>
        if b = true then te σ2 H3 fun y H4 => ∃ acc, H4 D = some (.lst acc) ∧ acc.length < sizeLine ∧ Nx (upd H4 D (.lst (acc ++ [y]))) else Nx H3) := by
  refine lc_list (Ma H0 D F) (Ma.start hD) (fun i H _ m => m.1.seq hx) (fun i x H ex m => ?_) fun H m => done H m.1 m.2
  rw [yes_eq (A := fun σ2 => wipe σ2 vs = wipe σ vs)]
  exact turn i x H _ ex m.1 fun H4 s => m.more hD s (Nat.lt_of_lt_of_le (List.getElem?_eq_some_iff.mp ex).1 small)
theorem lc_zipM (F : Nat → V) (hD : H0 D = none) (hx : SqL K H0 a xs) (hy : SqL K H0 b ys) (small : xs.length ≤ 1000000)
    (turn : ∀ (i : Nat) (x y : V) (T : Addr) (H : Hp) (R : V → Hp → Prop), xs[i]? = some x → ys[i]? = some y → Grows H0 H → H T = none → (∀ H4, Grows (upd H T (.tup [x, y])) H4 → R (F i) H4) → g (.ref T) (wipe σ vs) (upd H T (.tup [x, y])) fun σ2 H2 => wipe σ2 vs = wipe σ vs ∧ te σ2 H2 R)
    (done : ∀ H, Grows H0 H → H D = some (.lst ((List.range (min xs.length ys.length)).map F)) → Qd H) :
    ∃ W : Nat → Nat → Hp → Prop, (∃ m, W 0 m (upd H0 D (.lst []))) ∧ ∀ i m H, W i m H →
      ((Itz K a b).stop i H ∧ Qd H) ∨ ((Itz K a b).go i H ∧ ∃ Nx : Hp → Prop, (∀ H', Nx H' → ∃ m', m' < m ∧ W (i + 1) m' H') ∧ ∀ x H', (Itz K a b).yld i H x H' → g x (wipe σ vs) H' fun σ2 H2 => wipe σ2 vs = wipe σ vs ∧ tYes σ2 H2 fun b H3 =>
        if b = true then te σ2 H3 fun y H4 => ∃ acc, H4 D = some (.lst acc) ∧ acc.length < sizeLine ∧ Nx (upd H4 D (.lst (acc ++ [y]))) else Nx H3) := by
  refine SortR.lc_zipL (Ma H0 D F) (Ma.start hD) (fun i H m => ⟨m.1.seq hx, m.1.seq hy⟩) (fun i x y T H ex ey m hT => ?_) fun H m => done H m.1 m.2
  rw [yes_eq (A := fun σ2 => wipe σ2 vs = wipe σ vs)]
  exact turn i x y T H _ ex ey m.1 hT fun H4 s => m.more hD ((Grows.new hT).trans s) (Nat.lt_of_lt_of_le (List.getElem?_eq_some_iff.mp ex).1 small)
theorem lc_enumM (F : Nat → V) (hD : H0 D = none) (hx : SqL K H0 a xs) (small : xs.length ≤ 1000000)
    (turn : ∀ (i : Nat) (x : V) (T : Addr) (H : Hp) (R : V → Hp → Prop), xs[i]? = some x → Grows H0 H → H T = none → (∀ H4, Grows (upd H T (.tup [.int (i : Nat), x])) H4 → R (F i) H4) → g (.ref T) (wipe σ vs) (upd H T (.tup [.int (i : Nat), x])) fun σ2 H2 => wipe σ2 vs = wipe σ vs ∧ te σ2 H2 R)
    (done : ∀ H, Grows H0 H → H D = some (.lst ((List.range xs.length).map F)) → Qd H) :
    ∃ W : Nat → Nat → Hp → Prop, (∃ m, W 0 m (upd H0 D (.lst []))) ∧ ∀ i m H, W i m H →
      ((Ite K a).stop i H ∧ Qd H) ∨ ((Ite K a).go i H ∧ ∃ Nx : Hp → Prop, (∀ H', Nx H' → ∃ m', m' < m ∧ W (i + 1) m' H') ∧ ∀ x H', (Ite K a).yld i H x H' → g x (wipe σ vs) H' fun σ2 H2 => wipe σ2 vs = wipe σ vs ∧ tYes σ2 H2 fun b H3 =>
        if b = true then te σ2 H3 fun y H4 => ∃ acc, H4 D = some (.lst acc) ∧ acc.length < sizeLine ∧ Nx (upd H4 D (.lst (acc ++ [y]))) else Nx H3) := by
  refine SortR.lc_enumL (Ma H0 D F) (Ma.start hD) (fun i H m => m.1.seq hx) (fun i x T H ex m hT => ?_) fun H m => done H m.1 m.2
  rw [yes_eq (A := fun σ2 => wipe σ2 vs = wipe σ vs)]
  exact turn i x T H _ ex m.1 hT fun H4 s => m.more hD ((Grows.new hT).trans s) (Nat.lt_of_lt_of_le (List.getElem?_eq_some_iff.mp ex).1 small)
theorem lc_combM (F : Nat → V) (hD : H0 D = none) (small : xs.length ≤ 1000)
    (turn : ∀ (t i j : Nat) (x y : V) (T : Addr) (H : Hp) (R : V → Hp → Prop), (Comb.prs xs.length)[t]? = some (i, j) → xs[i]? = some x → xs[j]? = some y → Grows H0 H → H T = none → (∀ H4, Grows (upd H T (.tup [x, y])) H4 → R (F t) H4) → g (.ref T) (wipe σ vs) (upd H T (.tup [x, y])) fun σ2 H2 => wipe σ2 vs = wipe σ vs ∧ te σ2 H2 R)
    (done : ∀ H, Grows H0 H → H D = some (.lst ((List.range (Comb.prs xs.length).length).map F)) → Qd H) :
    ∃ W : Nat → Nat → Hp → Prop, (∃ m, W 0 m (upd H0 D (.lst []))) ∧ ∀ t m H, W t m H →
      ((Comb.Itcb xs).stop t H ∧ Qd H) ∨ ((Comb.Itcb xs).go t H ∧ ∃ Nx : Hp → Prop, (∀ H', Nx H' → ∃ m', m' < m ∧ W (t + 1) m' H') ∧ ∀ x H', (Comb.Itcb xs).yld t H x H' → g x (wipe σ vs) H' fun σ2 H2 => wipe σ2 vs = wipe σ vs ∧ tYes σ2 H2 fun b H3 =>
        if b = true then te σ2 H3 fun y H4 => ∃ acc, H4 D = some (.lst acc) ∧ acc.length < sizeLine ∧ Nx (upd H4 D (.lst (acc ++ [y]))) else Nx H3) := by
  refine Comb.lc_comb (Ma H0 D F) (Ma.start hD) (fun t i j x y T H et ex ey m hT => ?_) fun H m => done H m.1 m.2
  rw [yes_eq (A := fun σ2 => wipe σ2 vs = wipe σ vs)]
  refine turn t i j x y T H _ et ex ey m.1 hT fun H4 s => m.more hD ((Grows.new hT).trans s) ?_
  have l1 := (List.getElem?_eq_some_iff.mp et).1
  have l2 := Comb.rows_len (xs.length - 1) 0
  have l3 : (xs.length - 1) * (xs.length - 1) ≤ 999 * 999 := Nat.mul_le_mul (by omega) (by omega)
  unfold Comb.prs at l1
  omega
end
/-- xs[1:] -/
theorem cut_tail (xs : List V) : cutV xs (some 1) none = xs.tail := by
  unfold cutV
  rw [HT.sIx_none, show (some (1 : Int)) = some ((1 : Nat) : Int) from rfl, HT.sIx_nat]
  cases xs with
  | nil => rfl
  | cons x l =>
    have e : min 1 (x :: l).length = 1 := by rw [List.length_cons]; omega
    rw [e, List.drop_one, List.tail_cons, List.length_cons, Nat.add_sub_cancel, List.take_length]
end LcM

/-! {key: value for target in iterable if test}, the keys tuples. -/
namespace DcT
open PySem PySem.Spec PyProof.Rows L2
section
variable {X : Cx} {pins : List (Addr × Obj)} {σ : L2.St} {H : Hp} {s : Shared}
/-- one entry is laid by the comprehension -/
theorem set_tup {Er : Value → Shared → Prop} {d b : Addr} {kvs : List (List L2.Key × V)} {k : List L2.Key} {v : V} {u r : Value} {Qu : Unit → Shared → Prop} (room : X.A.units + 1 < cLine) (I : Inv X pins σ H s) (at_d : H d = some (.dT kvs)) (few : kvs.length < sizeLine)
    (at_b : H b = some (.tup (k.map kV))) (ru : RelV (.ref b) u) (rr : RelV v r) (go : ∀ s', Inv X pins σ (upd H d (.dT (putK kvs k v))) s' → Qu () s') : wpAny (model X.prog X.w) X.A (dictSet d u r) Qu Er s := by
  obtain rfl : u = Value.ref b := ru
  obtain ⟨fits, notSys, xs, rel, raw⟩ := dt_of I.hok at_d
  have n1 : xs.length ≤ sizeLine := Paired.length rel ▸ fits
  have n2 : (putK kvs k v).length ≤ sizeLine := Nat.le_trans (length_putK kvs k v) few
  refine wpAny_dictSet_heap (hsz := n1) (show X.A.units < cLine from Nat.lt_of_succ_lt room) (key_of I.hok at_b) raw fun hp raw' same => go _ ?_
  obtain ⟨o, es, ep, g1, g2, g3, g4, _, g5⟩ := raw'
  refine d_write I (by rw [at_d]; exact True.intro) same ⟨o, g1⟩ ⟨n2, notSys, _, (rel.put k at_b rr).keeps fun c ys ec => ?_, o, es, ep, g1, g2, g3, g4, g5⟩
  rw [upd_ne (ne_of ec at_d fun z => nomatch z)]
  exact ec
end
section
variable {X : Cx}
def tDcT (wi : TI) (g : TG) (tt : TT) (tk tv : TE) (vs : List Nat) : TE := fun σ H Q => wi σ H fun J H1 => ∀ D, H1 D = none → ∃ W : Nat → Nat → Hp → Prop, (∃ m, W 0 m (upd H1 D (.dT []))) ∧ ∀ i m H, W i m H →
  (J.stop i H ∧ Q (.ref D) H) ∨ (J.go i H ∧ ∃ Nx : Hp → Prop, (∀ H', Nx H' → ∃ m', m' < m ∧ W (i + 1) m' H') ∧ ∀ x H', J.yld i H x H' → g x (wipe σ vs) H' fun σ2 H2 => wipe σ2 vs = wipe σ vs ∧ tt σ2 H2 fun t H3 =>
    if t = true then tk σ2 H3 fun y H4 => tv σ2 H4 fun z H5 => ∃ b kvs k, y = .ref b ∧ H5 b = some (.tup (k.map kV)) ∧ H5 D = some (.dT kvs) ∧ kvs.length < sizeLine ∧ Nx (upd H5 D (.dT (putK kvs k z))) else Nx H3)
theorem dcT_core {pins : List (Addr × Obj)} {s0 : Shared} {σ : L2.St} {H0 : Hp} {Q : VK} {kx vx tg iter : Expr} {ifs : List Expr} {scope : Scope} {own : List (Str × Nat)} {pos pos' : Pos} {wi : TI} {g : TG} {tt : TT} {tk tv : TE} {use : Option (Value → Sem Unit)} {Qf : Value → Shared → Prop}
    (room : X.A.units + 64 < cLine) (calm : X.calm = true) (nd : X.N.Nodup) (I0 : Inv X pins σ H0 s0) (pi : PI X tg iter wi) (ok : BlkOk X.N X.env.scope scope own)
    (pgs : ∀ (s : Shared) (H : Hp) (C : Addr) (cl : List (Str × Addr)) (fp : List Addr), PG (X.blk s H scope (compEnvC scope cl C X.env) fp) tg g) (pts : ∀ (s : Shared) (H : Hp) (C : Addr) (cl : List (Str × Addr)) (fp : List Addr), PTs (X.blk s H scope (compEnvC scope cl C X.env) fp) ifs tt)
    (pks : ∀ (s : Shared) (H : Hp) (C : Addr) (cl : List (Str × Addr)) (fp : List Addr), PE (X.blk s H scope (compEnvC scope cl C X.env) fp) kx tk) (pvs : ∀ (s : Shared) (H : Hp) (C : Addr) (cl : List (Str × Addr)) (fp : List Addr), PE (X.blk s H scope (compEnvC scope cl C X.env) fp) vx tv)
    (fold : ∀ x, foldedSetIterable iter X.env x = pure x) (rd : tDcT wi g tt tk tv (own.map (·.2)) σ H0 Q)
    (post : ∀ D C t ns G, Inv X pins σ G t → Q (.ref D) G → t.heap.Ns C ns → FpOk X pins G C → compPost (model X.prog X.w) X.A X.xe use Qf (.ref D) C (.ok .next) t) :
    wpAny (model X.prog X.w) X.A (comprehension (.DictComp kx vx [⟨tg, iter, ifs, 0⟩] scope pos) scope X.env pos' newDict false (eval iter X.env) use) Qf X.xe s0 := by
  have isFree : ∀ y ∈ scope.names, y.2 = .free → ∃ c, X.env.cells.lookup y.1 = some c := fun y hy ey => (ok.free y hy ey).elim (fun z => I0.ok.has _ (.inl z)) fun z => I0.ok.has _ (.inr z)
  refine wpAny_comprehension_free (use := use) rfl fold (closure_ok isFree) ok.kind (fun y hy ey => (ok.uniq y hy).trans (congrArg some ey)) (thn (pi.run pins s0 σ H0 _ I0 rd) fun _ sa ha => thn ha fun _ sb hb => ?_)
  obtain ⟨it, fp, tn, J, Hb, rfl, Ib, Tn, tn0, fb, q⟩ := hb
  refine wpAny_newObj_type (newEnv_comp ?_)
  have free0 : Hb sb.heap.objs.size = none := Ib.hok.fresh (Nat.le_refl _)
  obtain ⟨W, ⟨m0, w0⟩, turn⟩ := q _ free0
  -- with the dict, empty
  obtain ⟨sc, esc⟩ : ∃ z : Shared, z = { sb with heap := sb.heap.push { cls := .type "dict", data := .dict #[] } } := ⟨_, rfl⟩
  obtain ⟨Hc, eHc⟩ : ∃ z : Hp, z = upd Hb sb.heap.objs.size (.dT []) := ⟨_, rfl⟩
  have Ic : Inv X pins σ Hc sc := by
    rw [esc, eHc]
    exact Ib.laid (t' := sb.toks) (fun b o z => Heap.get?_push_of_some _ z) (Nat.le_refl _) (dt_empty sb.heap Ib.big)
  have up : ∀ b o, sb.heap.get? b = some o → sc.heap.get? b = some o := fun b o z => by
    rw [esc]
    exact Heap.get?_push_of_some _ z
  have below : ∀ b ∈ fp, b < sb.heap.objs.size := fun b hb => let ⟨_, z, _⟩ := Tn.obj _ _ tn0 b hb; Heap.lt_size z
  have fc : ∀ b ∈ fp, FpOk X pins Hc b ∧ b < sc.heap.objs.size := fun b hb => by
    obtain ⟨o, z, _⟩ := Tn.obj _ _ tn0 b hb
    refine ⟨⟨?_, (fb b hb).2⟩, Heap.lt_size (up b o z)⟩
    rw [eHc, upd_ne (Nat.ne_of_lt (below b hb))]
    exact (fb b hb).1
  have tnc : tn 0 sc.heap := Tn.keep _ _ _ tn0 fun b _ o z => up b o z
  have Ie := block_start Ic ok nd fc
  obtain ⟨cells, ecl⟩ : ∃ z, z = cellsFrom (sc.heap.objs.size + 1) scope.names (cloFrom X.env.cells scope.names []) := ⟨_, rfl⟩
  have pg := pgs sc Hc sc.heap.objs.size cells fp
  have pt := pts sc Hc sc.heap.objs.size cells fp
  have pk := pks sc Hc sc.heap.objs.size cells fp
  have pv := pvs sc Hc sc.heap.objs.size cells fp
  rw [← ecl] at Ie
  rw [← esc]
  show codeAny _ _ (.compStart _ 0 (.ref it) (.ref sb.heap.objs.size) (compEnvC scope (cellsFrom (sc.heap.objs.size + 1) scope.names (cloFrom X.env.cells scope.names [])) sc.heap.objs.size X.env)) (compPost _ _ X.xe use Qf (.ref sb.heap.objs.size) sc.heap.objs.size) _
  rw [← ecl]
  have loc : (compEnvC scope cells sc.heap.objs.size X.env).locals = sc.heap.objs.size := rfl
  rw [← eHc] at w0
  have empty : ∀ b ∈ fp, Hc b = none := fun b hb => (fc b hb).1.1
  obtain ⟨sd, esd⟩ : ∃ z : Shared, z = { sc with heap := pushCells (sc.heap.push { cls := .type "dict", data := .dict #[] }) scope.names } := ⟨_, rfl⟩
  have tnd : tn 0 sd.heap := Tn.keep _ _ _ tnc fun b _ o z => by
    rw [esd]
    exact pushCells_keeps _ _ _ _ (Heap.get?_push_of_some _ z)
  rw [← esd] at Ie ⊢
  generalize compEnvC scope cells sc.heap.objs.size X.env = ce at Ie pg pt pk pv loc ⊢
  -- the iterator's own objects in the block
  have own_ok : ∀ {ρ : L2.St} {G : Hp} {t : Shared}, Inv (X.blk sc Hc scope ce fp) [] ρ G t → (∀ b ∈ fp, G b = none) → ∀ b ∈ fp, FpOk (X.blk sc Hc scope ce fp) [] G b := fun {ρ G t} J hn b hb =>
    ⟨hn b hb, (J.ok.exf b hb).1, J.ok.exfs b hb, .inl hb, fun y c z => (J.ok.exf b hb).2 y c z, fun p hp => (nomatch hp)⟩
  have run : codeAny (model X.prog X.w) X.A (.compLoop (.DictComp kx vx [⟨tg, iter, ifs, 0⟩] scope pos) 0 (.ref it) (.ref sb.heap.objs.size) ce) (compPost (model X.prog X.w) X.A X.xe use Qf (.ref sb.heap.objs.size) sc.heap.objs.size) sd := by
    refine compLoop_anyD (fun m t => ∃ i G, Inv (X.blk sc Hc scope ce fp) [] (wipe σ (own.map (·.2))) G t ∧ tn i t.heap ∧ (∀ b ∈ fp, G b = none) ∧ W i m G) ?_ m0 ⟨0, Hc, Ie, tnd, empty, w0⟩
    rintro m t ⟨i, G, J, tni, none_, wi_⟩
    rcases turn i m G wi_ with ⟨stop, fin⟩ | ⟨go, Nx, less, step⟩
    · refine thnF (Tn.done (X.blk sc Hc scope ce fp) rfl rfl rfl calm i [] t _ G (fun _ _ => False) J (own_ok J none_) tni stop) fun r t2 ⟨er, J2⟩ => ?_
      subst er
      have back : Inv X pins σ G t2 := Ic.call' (ch := fp) J2.os J2.base J2.hok J2.bare fun b hb => ⟨(fc b hb).1.2.2.2.1, (fc b hb).1.2.1, (fc b hb).1.2.2.2.2.1, (fc b hb).1.2.2.2.2.2⟩
      have noC : G sc.heap.objs.size = none := by
        have z : G ce.locals = none := J2.free
        rwa [loc] at z
      obtain ⟨ns, isNs, _⟩ := J2.loc
      have isNs' : t2.heap.Ns ce.locals ns := isNs
      rw [loc] at isNs'
      exact post _ _ t2 ns G back fin isNs' (Ic.fpOk (Nat.le_refl _) noC)
    · refine thnF (Tn.item (X.blk sc Hc scope ce fp) rfl rfl rfl calm i [] t _ G (fun _ _ => False) J (own_ok J none_) tni go) fun r t2 ⟨u, er, h2⟩ => ?_
      subst er
      refine thnF h2 fun _ t3 ⟨x, G3, J3, r3, y3, tn3, none3⟩ => ?_
      have K3 := J3.pinned (own_ok J3 none3) (Tn.obj _ _ tn3)
      refine thnF (pg.run _ t3 _ G3 x u _ K3 r3 (step x G3 y3)) fun _ t4 ⟨ρ4, G4, J4, same4, q4⟩ => ?_
      refine thnF (pt.run _ t4 ρ4 G4 _ J4 q4) fun yes t5 ⟨G5, J5, q5⟩ => ?_
      have next : ∀ {t' : Shared} {G' : Hp}, Inv (X.blk sc Hc scope ce fp) ([] ++ pinsAt fp t3.heap) ρ4 G' t' → Nx G' → ∃ m', m' < m ∧ ∃ i G, Inv (X.blk sc Hc scope ce fp) [] (wipe σ (own.map (·.2))) G t' ∧ tn i t'.heap ∧ (∀ b ∈ fp, G b = none) ∧ W i m' G := fun {t' G'} J' nx => by
        obtain ⟨m', lt, w'⟩ := less G' nx
        have held : ∀ b ∈ fp, ∀ o, t3.heap.get? b = some o → t'.heap.get? b = some o ∧ G' b = none := fun b hb o z =>
          have p := J'.pin (b, o) (List.mem_append_right _ (List.mem_append_right _ (mem_pinsAt hb z)))
          ⟨p.1, p.2.1⟩
        have len : (wipe σ (own.map (·.2))).length = ρ4.length := by rw [← same4, wipe_length]
        refine ⟨m', lt, i + 1, G', (J'.unpinned (pins := [])).weak len (fun j v z => ?_), Tn.keep _ _ _ tn3 fun b hb o z => (held b hb o z).1, fun b hb => ?_, w'⟩
        · rw [← same4] at z
          exact (wipe_some z).1
        · obtain ⟨o, z, _⟩ := Tn.obj _ _ tn3 b hb
          exact (held b hb o z).2
      cases yes with
      | false =>
        simp only [Bool.false_eq_true, if_false] at q5 ⊢
        exact next J5 q5
      | true =>
        simp only [if_true] at q5 ⊢
        refine thnF (pk.run _ t5 ρ4 G5 _ J5 q5) fun ku t6 ⟨yk, G6, J6, r6, q6⟩ => thnF (pv.run _ t6 ρ4 G6 _ J6 q6) fun vu t7 ⟨yv, G7, J7, r7, b, kvs, k, ek, at_b, at_d, few, nx⟩ => ?_
        subst ek
        exact set_tup (X := X.blk sc Hc scope ce fp) (show X.A.units + 1 < cLine by omega) J7 at_d few at_b r6 r7 fun t8 J8 => next J8 nx
  exact codeAny_compStart_dict run (Tn.self X.A 0 _ _ _ tnd run)
/-- as a value -/
theorem pe_dcT {kx vx tg iter : Expr} {ifs : List Expr} {scope : Scope} {own : List (Str × Nat)} {pos : Pos} {wi : TI} {g : TG} {tt : TT} {tk tv : TE} (room : X.A.units + 64 < cLine) (calm : X.calm = true) (nd : X.N.Nodup) (pi : PI X tg iter wi) (ok : BlkOk X.N X.env.scope scope own)
    (pgs : ∀ (s : Shared) (H : Hp) (C : Addr) (cl : List (Str × Addr)) (fp : List Addr), PG (X.blk s H scope (compEnvC scope cl C X.env) fp) tg g) (pts : ∀ (s : Shared) (H : Hp) (C : Addr) (cl : List (Str × Addr)) (fp : List Addr), PTs (X.blk s H scope (compEnvC scope cl C X.env) fp) ifs tt)
    (pks : ∀ (s : Shared) (H : Hp) (C : Addr) (cl : List (Str × Addr)) (fp : List Addr), PE (X.blk s H scope (compEnvC scope cl C X.env) fp) kx tk) (pvs : ∀ (s : Shared) (H : Hp) (C : Addr) (cl : List (Str × Addr)) (fp : List Addr), PE (X.blk s H scope (compEnvC scope cl C X.env) fp) vx tv)
    (fold : ∀ x, foldedSetIterable iter X.env x = pure x := by intro _; rfl) : PE X (.DictComp kx vx [⟨tg, iter, ifs, 0⟩] scope pos) (tDcT wi g tt tk tv (own.map (·.2))) := by
  refine ⟨fun pins s0 σ H0 Q I0 rd => ?_⟩
  rw [arm_eval_DictComp]
  refine dcT_core room calm nd I0 pi ok pgs pts pks pvs fold rd fun D C t ns G J fin isNs ⟨f0, f1, f2, f3, f4, f5⟩ => ⟨ns, isNs, fun h2 sb2 => ⟨.ref D, G, J.turned (t' := t.toks) (fun b o ne z => (sb2.2 b ne).trans z) f0 f1 f3 f4 f5, rfl, fin⟩⟩
/-- name = {..} on one line, the name a local -/
theorem ps_setDcT {i : Nat} {y : Str} {py : Pos} {kx vx tg iter : Expr} {ifs : List Expr} {scope : Scope} {own : List (Str × Nat)} {pos spos : Pos} {wi : TI} {g : TG} {tt : TT} {tk tv : TE} (room : X.A.units + 64 < cLine) (calm : X.calm = true) (nd : X.N.Nodup) (at_y : X.N[i]? = some y) (loc : X.env.scope.names.lookup y = some .local)
    (sw : swapsWith (.DictComp kx vx [⟨tg, iter, ifs, 0⟩] scope pos) (some (.Name y py)) spos.line X.env = pure true) (pi : PI X tg iter wi) (ok : BlkOk X.N X.env.scope scope own)
    (pgs : ∀ (s : Shared) (H : Hp) (C : Addr) (cl : List (Str × Addr)) (fp : List Addr), PG (X.blk s H scope (compEnvC scope cl C X.env) fp) tg g) (pts : ∀ (s : Shared) (H : Hp) (C : Addr) (cl : List (Str × Addr)) (fp : List Addr), PTs (X.blk s H scope (compEnvC scope cl C X.env) fp) ifs tt)
    (pks : ∀ (s : Shared) (H : Hp) (C : Addr) (cl : List (Str × Addr)) (fp : List Addr), PE (X.blk s H scope (compEnvC scope cl C X.env) fp) kx tk) (pvs : ∀ (s : Shared) (H : Hp) (C : Addr) (cl : List (Str × Addr)) (fp : List Addr), PE (X.blk s H scope (compEnvC scope cl C X.env) fp) vx tv)
    (fold : ∀ x, foldedSetIterable iter X.env x = pure x := by intro _; rfl) : PS X (.Assign [.Name y py] (.DictComp kx vx [⟨tg, iter, ifs, 0⟩] scope pos) spos) (tAsg (tDcT wi g tt tk tv (own.map (·.2))) (gName i)) := by
  refine ⟨fun pins s0 σ H0 D I0 rd => ?_⟩
  rw [exec_Assign_Name_used _ _ _ _ sw]
  refine wpAny_bind (wpAny_standAt (wpAny_bind ?_))
  show wpAny _ X.A (do let _ ← comprehension (.DictComp kx vx [⟨tg, iter, ifs, 0⟩] scope pos) scope X.env (firstIterPos [⟨tg, iter, ifs, 0⟩] pos) newDict false (eval iter X.env) (some (assign (.Name y py) X.env))) _ _ s0
  have rd' : tDcT wi g tt tk tv (own.map (·.2)) σ H0 (fun x G => gName i x σ G D.nx) := rd
  refine wpAny_bind (thn (dcT_core (Qf := fun _ t => SP X pins D .next t) room calm nd I0 pi ok pgs pts pks pvs fold rd' fun L C t ns G J fin isNs fo => ?_) fun _ _ z => wpAny_pure (wpAny_pure z))
  obtain ⟨f0, f1, f2, f3, f4, f5⟩ := fo
  show wpAny _ _ (assign (.Name y py) X.env (.ref L)) _ _ _
  refine wpAny_assign_Name (store_ok2 (v := V.ref L) J nd at_y (.inl loc) rfl (fun t2 J2 ⟨c, sb, hc⟩ => ?_) (.inr loc))
  have ne : C ≠ c := hc.elim (fun z => z ▸ f1) fun z e => f4 y c z e.symm
  exact ⟨ns, isNs.sameBut sb ne, fun h3 sb3 => ⟨_, G, J2.turned (t' := t2.toks) (fun b o hb e => (sb3.2 b hb).trans e) f0 f1 f3 f4 f5, fin⟩⟩
theorem sw_dict {kx vx : Expr} {gs : List Comprehension} {scope : Scope} {pos py : Pos} {y : Str} {l : Nat} {env : Env} (fn : env.scope.kind = .function) (loc : env.scope.names.lookup y = some .local) (row : (py.line == pos.line) = true)
    (other : (scope.names.any fun (n, k) => n == y && (k == .local || k == .cell)) = false) : swapsWith (.DictComp kx vx gs scope pos) (some (.Name y py)) l env = pure true := by
  have k1 : env.kindOf y = some .local := loc
  have k2 : env.blockKind = .function := by
    unfold Env.blockKind
    rw [fn]
    rfl
  unfold swapsWith
  simp only [k1, k2, other, Expr.pos, row]
  rfl
end
end DcT

/-! sorted(d), the keys of d tuples of ints, of any number. -/
namespace SortR
open PySem PySem.Spec PyProof.Rows L2 PySem.W
theorem enc_alikeT (p q : Addr × List Int) : alike (PyData.tuple (p.2.map .int)) (PyData.tuple (q.2.map .int)) = true := by
  simp only [alike]
  exact alike_ints p.2 q.2
theorem le_tuples : dataLe false (fun b : Addr × List Int => PyData.tuple (b.2.map .int)) = rowLe := by
  have e : dataLe false (fun b : Addr × List Int => PyData.tuple (b.2.map .int)) = dataLe false (fun b : Addr × List Int => PyData.list (b.2.map .int)) := by
    funext p q
    simp only [dataLe_eq, dataLt_tuple, dataLt_list]
  rw [e]
  exact dataLe_rows (fun b : Addr × List Int => b.2)
/-- the keys' tuples, in the dict's sequence -/
theorem key_rows {H : Hp} : ∀ {kvs : List (List L2.Key × V)} {ks : List (List L2.Key × Addr × Value)} {bs : List (List Int)},
    Paired (fun (p : List L2.Key × V) (q : List L2.Key × Addr × Value) => p.1 = q.1 ∧ H q.2.1 = some (.tup (p.1.map kV)) ∧ RelV p.2 q.2.2) kvs ks → kvs.map (·.1) = bs.map (fun ns => ns.map Sum.inl) →
    ∃ as : List (Addr × List Int), as.map (·.1) = ks.map (·.2.1) ∧ as.map (·.2) = bs ∧ ∀ b ∈ as, H b.1 = some (.tup (b.2.map V.int))
  | _, _, [], .nil, _ => ⟨[], rfl, rfl, fun _ m => nomatch m⟩
  | _, _, n :: bs, .cons (a := p) (b := q) h t, e => by
    rw [List.map_cons, List.map_cons] at e
    obtain ⟨e1, e2⟩ := List.cons.inj e
    obtain ⟨as, f1, f2, f3⟩ := key_rows t e2
    refine ⟨(q.2.1, n) :: as, by rw [List.map_cons, List.map_cons, f1], by rw [List.map_cons, f2], fun b m => ?_⟩
    rcases List.mem_cons.mp m with z | z
    · rw [z]
      have g := h.2.1
      rw [e1, List.map_map] at g
      exact g
    · exact f3 b z
  | _, _, [], .cons _ _, e => by cases e
  | _, _, _ :: _, .nil, e => by cases e
section
variable {X : Cx}
theorem call_sortedDT (hu : X.A.units + 64 < cLine) (calm : X.calm = true) : CallR X (.builtin "sorted") (fun xs H Q => ∃ (d : Addr) (kvs : List (List L2.Key × V)) (bs : List (List Int)), xs = [V.ref d] ∧ H d = some (.dT kvs) ∧ kvs.map (·.1) = bs.map (fun ns => ns.map Sum.inl) ∧ (∀ k ∈ bs, k ≠ []) ∧
    ∀ as : List (Addr × List Int), as.map (·.2) = bs → (∀ b ∈ as, H b.1 = some (.tup (b.2.map V.int))) → ∀ p, H p = none → Q (.ref p) (upd H p (.lst ((as.mergeSort rowLe).map fun b => V.ref b.1)))) := by
  intro pins s σ H xs us Q I r h
  obtain ⟨d, kvs, bs, rfl, hd, hk, hne, q⟩ := h
  obtain ⟨u, rfl, ru⟩ := vals1 r
  obtain rfl : u = Value.ref d := ru
  obtain ⟨z, hs, ks, pr, o, es, ep, ho, hx, hdt, he, hn⟩ := (show ObjOk X.prog X.w H s.heap d (.dT kvs) from I.hok d _ hd)
  obtain ⟨as, a1, a2, a3⟩ := key_rows pr hk
  have l0 : es.size = ks.length := size_of_entries he
  have l1 : kvs.length = ks.length := Paired.length pr
  have l2 : as.length = ks.length := by rw [← List.length_map (f := (·.1)), a1, List.length_map]
  have fits : ks.length ≤ sizeLine := l1 ▸ z
  refine Calls.call_function_entry PyProof.Rows.kind_sorted PyProof.Rows.plain_sorted PyProof.Rows.entry_sorted (PyProof.Rows.args_sorted1 _) ?_
  unfold Builtin.«sorted»
  refine wpAny_bind (m := checkCount "sorted" 1 1 _) (wpAny_pure (wpAny_bind (kdu_collect (A := X.A.in1) (kdl_raw hs hx hdt) (I.ok.hd calm) ho (l0 ▸ fits) fun h1 tk acc keep it => ?_)))
  have ea : acc.toList = as.map fun b => Value.ref b.1 := by
    have e1 : acc.toList = ks.map fun x => Value.ref x.2.1 := by
      have len : acc.toList.length = ks.length := by rw [Array.length_toList, it.1, l0]
      refine List.ext_getElem (by rw [List.length_map, len]) fun j j1 j2 => ?_
      obtain ⟨en, hen, hv⟩ := it.2 j acc.toList[j] (by rw [← Array.getElem?_toList, List.getElem?_eq_getElem j1])
      have at_j := entry_at he j
      rw [hen, List.getElem?_eq_getElem (len ▸ j1)] at at_j
      have e2 : en = entryOfKey (tupleKind (mixKind X.prog X.w)) (ks[j]'(len ▸ j1)) := Option.some.inj at_j
      rw [hv, e2, List.getElem_map]
      rfl
    rw [e1]
    have e3 := congrArg (List.map Value.ref) a1
    rw [List.map_map, List.map_map] at e3
    exact e3.symm
  have len : acc.toList.length = as.length := by rw [ea, List.length_map]
  have I1 : Inv X pins σ H { s with heap := h1, toks := tk } := I.kept keep
  refine wpAny_bind (wpAny_newList ?_ (by rw [len, l2]; exact fits))
  have at_p : (h1.push (seqObj "list" acc.toList.toArray 0)).get? h1.objs.size = some (seqObj "list" acc.toList.toArray 0) := Heap.get?_push_size _ rfl
  have old : ∀ b u, h1.get? b = some u → b ≠ h1.objs.size ∧ (h1.push (seqObj "list" acc.toList.toArray 0)).get? b = some u := fun b u e => ⟨Nat.ne_of_lt (Heap.lt_size e), Heap.get?_push_of_some _ e⟩
  have each : EachIs (fun v (b : Addr × List Int) => v = Value.ref b.1 ∧ True) acc.toList as := by
    have vr : Vals (as.map fun b => V.ref b.1) acc.toList := by
      rw [ea]
      clear ea a1 a2 a3 l2 len q it
      induction as with
      | nil => exact .nil
      | cons b as ih => exact .cons rfl ih
    exact vals_each (h := s.heap) (K := X.K) (H := H) (P := fun _ => True) vr fun _ _ => trivial
  obtain ⟨hS, ehS⟩ : ∃ z, z = sortingHeap (h1.push (seqObj "list" acc.toList.toArray 0)) h1.objs.size acc.toList := ⟨_, rfl⟩
  have reads : EachIs (fun v (b : Addr × List Int) => ∃ rs, Reads hS v (PyData.tuple (b.2.map .int)) rs) acc.toList as := by
    have each2 : EachIs (fun v (b : Addr × List Int) => v = Value.ref b.1 ∧ H b.1 = some (.tup (b.2.map V.int))) acc.toList as := by
      have vr : Vals (as.map fun b => V.ref b.1) acc.toList := each_back each
      exact vals_each (h := s.heap) (K := X.K) (H := H) vr a3
    refine each_mono each2 fun v b ⟨ev, hb⟩ => ?_
    rw [ev]
    obtain ⟨rs, rr⟩ := Dp.reads I1 (PyData.tuple (b.2.map .int)) (.ref b.1) (.ref b.1) (.tup (SqT.of hb) (rows_dp b.2)) rfl
    refine ⟨rs, PyProof.Rows.Reads.keeps (fun c u e => ?_) rr⟩
    rw [ehS]
    obtain ⟨n1, n2⟩ := old c u e
    exact sortingHeap_old n1 n2
  have alikeAll_ : AllAlike (as.map fun b => PyData.tuple (b.2.map .int)) := AllAlike.of enc_alikeT
  have sortable : Sortable (as.map fun b => PyData.tuple (b.2.map .int)) := .inl fun dd hm => by
    obtain ⟨b, hb, rfl⟩ := List.mem_map.mp hm
    have mem : b.2 ∈ bs := a2 ▸ List.mem_map.mpr ⟨b, hb, rfl⟩
    cases e : b.2 with
    | nil => exact absurd e (hne _ mem)
    | cons x l => exact ⟨_, _, rfl⟩
  have shallow : ∀ dd ∈ as.map (fun b => PyData.tuple (b.2.map .int)), dd.depth = 1 := fun dd hm => by
    obtain ⟨b, _, rfl⟩ := List.mem_map.mp hm
    simp only [PyData.depth, depth_ints]
  show wpAny _ _ _ _ _ { s with heap := h1.push (seqObj "list" acc.toList.toArray 0), toks := tk }
  have sorts : ∀ Ar : Around, Ar.units ≤ X.A.units + 8 → SortsAt X.prog X.w Ar { s with heap := hS, toks := tk } (dataKind hS (as.map fun b => PyData.tuple (b.2.map .int))) acc.toList := fun Ar hA =>
    SortsAt.data (s := { s with heap := hS, toks := tk }) (each_map (R := fun v dd => ∃ rs, Reads hS v dd rs) (fun b : Addr × List Int => PyData.tuple (b.2.map .int)) reads) alikeAll_ sortable fun dd hm => by rw [shallow dd hm]; omega
  rw [ehS] at sorts reads
  have each3 := sortVals_data (R := fun v (b : Addr × List Int) => v = Value.ref b.1 ∧ True) (enc := fun b : Addr × List Int => PyData.tuple (b.2.map .int)) false each reads alikeAll_
  rw [le_tuples] at each3
  have back := each_back each3
  have short : ((as.mergeSort rowLe).map fun b => V.ref b.1).length ≤ sizeLine := by
    rw [List.length_map, List.length_mergeSort, l2]
    exact fits
  refine wpAny_bind (wpAny_holding (wpAny_call_entry PyProof.Rows.slot_list_sort ⟨_, at_p, rfl⟩ PyProof.Rows.entry_list_sort
    (list_sort_vals (s := { s with heap := h1.push (seqObj "list" acc.toList.toArray 0), toks := tk }) at_p (sorts _ (by show X.A.units + 1 + 1 ≤ X.A.units + 8; omega)) (by rw [len, l2]; exact fits) ⟨_, rfl, ?_⟩) (PyProof.Rows.args_list_sort _)))
  obtain ⟨n2, at2⟩ := PyProof.Rows.sortedHeap_at (vs := acc.toList) (out := (sortVals (dataKind (sortingHeap (h1.push (seqObj "list" acc.toList.toArray 0)) h1.objs.size acc.toList) (as.map fun b => PyData.tuple (b.2.map .int))) false acc.toList acc.toList).toArray) at_p
  refine wpAny_pure ⟨_, rfl, .ref h1.objs.size, upd H h1.objs.size (.lst ((as.mergeSort rowLe).map fun b => V.ref b.1)), I1.laid (t' := tk) (fun b u e => ?_) (Nat.le_refl _) ⟨short, _, n2, back, at2⟩, rfl, q as a2 a3 _ (I1.hok.fresh (Nat.le_refl _))⟩
  obtain ⟨n1, g⟩ := old b u e
  rw [PyProof.Rows.sortedHeap_old n1 (Heap.lt_size g)]
  exact g
end
end SortR

/-! Comprehensions with a test, and dict comprehensions, by the value of each turn. -/
namespace LcM
open PySem PySem.Spec PyProof.Rows L2
/-- what is kept -/
def kept (p : Nat → Bool) (F : Nat → V) (n : Nat) : List V := ((List.range n).filter p).map F
theorem kept_yes {p : Nat → Bool} {F : Nat → V} {n : Nat} (h : p n = true) : kept p F (n + 1) = kept p F n ++ [F n] := by
  unfold kept
  rw [List.range_succ, List.filter_append, List.map_append, List.filter_cons_of_pos h]
  rfl
theorem kept_no {p : Nat → Bool} {F : Nat → V} {n : Nat} (h : p n = false) : kept p F (n + 1) = kept p F n := by
  unfold kept
  rw [List.range_succ, List.filter_append, List.map_append, List.filter_cons_of_neg (by rw [h]; exact Bool.false_ne_true)]
  exact List.append_nil _
theorem kept_le (p : Nat → Bool) (F : Nat → V) (n : Nat) : (kept p F n).length ≤ n := by
  unfold kept
  rw [List.length_map]
  exact Nat.le_trans (List.length_filter_le _ _) (Nat.le_of_eq List.length_range)
section
variable {K : PySem.W.Frag} {a : Addr} {xs : List V} {g : TG} {tt : TT} {te tk tv : TE} {vs : List Nat} {σ : L2.St} {H0 : Hp} {D : Addr} {Qd : Hp → Prop}
theorem lc_listT (p : Nat → Bool) (F : Nat → V) (hD : H0 D = none) (hx : SqL K H0 a xs) (small : xs.length ≤ 1000000)
    (turn : ∀ (i : Nat) (x : V) (H : Hp) (Ry : V → Hp → Prop) (Rn : Hp → Prop), xs[i]? = some x → Grows H0 H → (p i = true → ∀ H4, Grows H H4 → Ry (F i) H4) → (p i = false → ∀ H4, Grows H H4 → Rn H4) →
      g x (wipe σ vs) H fun σ2 H2 => wipe σ2 vs = wipe σ vs ∧ tt σ2 H2 fun t H3 => if t = true then te σ2 H3 Ry else Rn H3)
    (done : ∀ H, Grows H0 H → H D = some (.lst (kept p F xs.length)) → Qd H) :
    ∃ W : Nat → Nat → Hp → Prop, (∃ m, W 0 m (upd H0 D (.lst []))) ∧ ∀ i m H, W i m H →
      ((Itl K a).stop i H ∧ Qd H) ∨ ((Itl K a).go i H ∧ ∃ Nx : Hp → Prop, (∀ H', Nx H' → ∃ m', m' < m ∧ W (i + 1) m' H') ∧ ∀ x H', (Itl K a).yld i H x H' → g x (wipe σ vs) H' fun σ2 H2 => wipe σ2 vs = wipe σ vs ∧ tt σ2 H2 fun b H3 =>
        if b = true then te σ2 H3 fun y H4 => ∃ acc, H4 D = some (.lst acc) ∧ acc.length < sizeLine ∧ Nx (upd H4 D (.lst (acc ++ [y]))) else Nx H3) := by
  refine lc_list (fun i H => Grows H0 H ∧ H D = some (.lst (kept p F i))) ⟨Grows.new hD, upd_same⟩ (fun i H _ m => m.1.seq hx) (fun i x H ex m => ?_) fun H m => done H m.1 m.2
  have il := Nat.lt_of_lt_of_le (List.getElem?_eq_some_iff.mp ex).1 small
  refine turn i x H _ _ ex m.1 (fun hp H4 s => ⟨_, s _ _ m.2, ?_, fun b o e => ?_, ?_⟩) fun hp H4 s => ⟨m.1.trans s, ?_⟩
  · exact Nat.lt_of_le_of_lt (kept_le p F i) (Nat.lt_trans il (by decide))
  · rw [upd_ne (ne_of_none e hD)]
    exact s _ _ (m.1 _ _ e)
  · rw [upd_same, kept_yes hp]
  · rw [kept_no hp]
    exact s _ _ m.2
/-- a dict's entries, laid one after another -/
def laid {κ : Type} [DecidableEq κ] (p : Nat → Bool) (G : Nat → κ) (F : Nat → V) : Nat → List (κ × V)
  | 0 => []
  | n + 1 => if p n = true then putK (laid p G F n) (G n) (F n) else laid p G F n
theorem laid_le {κ : Type} [DecidableEq κ] (p : Nat → Bool) (G : Nat → κ) (F : Nat → V) : ∀ n, (laid p G F n).length ≤ n
  | 0 => Nat.le_refl _
  | n + 1 => by
    have ih := laid_le p G F n
    unfold laid
    by_cases h : p n = true
    · rw [if_pos h]
      exact Nat.le_trans (length_putK _ _ _) (Nat.succ_le_succ ih)
    · rw [if_neg h]
      exact Nat.le_succ_of_le ih
/-- over enumerate, keys ints or texts, no test -/
theorem dc_enumM (G : Nat → L2.Key) (F : Nat → V) (hD : H0 D = none) (hx : SqL K H0 a xs) (small : xs.length ≤ 1000000)
    (turn : ∀ (i : Nat) (x : V) (T : Addr) (H : Hp) (R : V → Hp → V → Hp → Prop), xs[i]? = some x → Grows H0 H → H T = none → (∀ H4 H5, Grows (upd H T (.tup [.int (i : Nat), x])) H4 → Grows H4 H5 → R (kV (G i)) H4 (F i) H5) →
      g (.ref T) (wipe σ vs) (upd H T (.tup [.int (i : Nat), x])) fun σ2 H2 => wipe σ2 vs = wipe σ vs ∧ tk σ2 H2 fun y H4 => tv σ2 H4 fun z H5 => R y H4 z H5)
    (done : ∀ H, Grows H0 H → H D = some (.dK (laid (fun _ => true) G F xs.length)) → Qd H) :
    ∃ W : Nat → Nat → Hp → Prop, (∃ m, W 0 m (upd H0 D (.dK []))) ∧ ∀ i m H, W i m H →
      ((Ite K a).stop i H ∧ Qd H) ∨ ((Ite K a).go i H ∧ ∃ Nx : Hp → Prop, (∀ H', Nx H' → ∃ m', m' < m ∧ W (i + 1) m' H') ∧ ∀ x H', (Ite K a).yld i H x H' → g x (wipe σ vs) H' fun σ2 H2 => wipe σ2 vs = wipe σ vs ∧ tYes σ2 H2 fun b H3 =>
        if b = true then tk σ2 H3 fun y H4 => tv σ2 H4 fun z H5 => ∃ kvs k, y = kV k ∧ H5 D = some (.dK kvs) ∧ kvs.length < sizeLine ∧ Nx (upd H5 D (.dK (putK kvs k z))) else Nx H3) := by
  let inv : Nat → Hp → Prop := fun i H => Grows H0 H ∧ H D = some (.dK (laid (fun _ => true) G F i))
  refine ⟨fun i m H => m = xs.length - i ∧ i ≤ xs.length ∧ inv i H, ⟨_, rfl, Nat.zero_le _, Grows.new hD, upd_same⟩, ?_⟩
  rintro i m H ⟨rfl, hi, pv⟩
  rcases Nat.lt_or_ge i xs.length with lt | ge
  · have ex : xs[i]? = some xs[i] := List.getElem?_eq_getElem lt
    refine .inr ⟨⟨xs, _, pv.1.seq hx, ex⟩, inv (i + 1), fun H' p' => ⟨xs.length - (i + 1), by omega, rfl, lt, p'⟩, fun v H' y => ?_⟩
    obtain ⟨T, x, rfl, hT, rfl, f1⟩ := y
    have e0 : (fun (σ2 : L2.St) (H2 : Hp) => wipe σ2 vs = wipe σ vs ∧ tYes σ2 H2 fun b H3 => if b = true then tk σ2 H3 fun y H4 => tv σ2 H4 fun z H5 => ∃ kvs k, y = kV k ∧ H5 D = some (.dK kvs) ∧ kvs.length < sizeLine ∧ inv (i + 1) (upd H5 D (.dK (putK kvs k z))) else inv (i + 1) H3) =
        fun σ2 H2 => wipe σ2 vs = wipe σ vs ∧ tk σ2 H2 fun y H4 => tv σ2 H4 fun z H5 => ∃ kvs k, y = kV k ∧ H5 D = some (.dK kvs) ∧ kvs.length < sizeLine ∧ inv (i + 1) (upd H5 D (.dK (putK kvs k z))) := by
      funext σ2 H2
      unfold tYes
      dsimp only
      rw [if_pos rfl]
    rw [e0]
    refine turn i x T H (fun y _ z H5 => ∃ kvs k, y = kV k ∧ H5 D = some (.dK kvs) ∧ kvs.length < sizeLine ∧ inv (i + 1) (upd H5 D (.dK (putK kvs k z)))) (f1 xs (pv.1.seq hx)) pv.1 hT fun H4 H5 s4 s5 => ⟨_, G i, rfl, s5 _ _ (s4 _ _ (Grows.new hT _ _ pv.2)), ?_, fun b o e => ?_, ?_⟩
    · exact Nat.lt_of_le_of_lt (laid_le _ G F i) (Nat.lt_of_lt_of_le lt (Nat.le_trans small (by decide)))
    · rw [upd_ne (ne_of_none e hD)]
      exact s5 _ _ (s4 _ _ (Grows.new hT _ _ (pv.1 _ _ e)))
    · rw [upd_same]
      rfl
  · have e : i = xs.length := by omega
    subst e
    exact .inl ⟨⟨xs, pv.1.seq hx, Nat.le_refl _⟩, done H pv.1 pv.2⟩
/-- over a list, the keys tuples, with a test -/
theorem dc_listTT (p : Nat → Bool) (G : Nat → List L2.Key) (F : Nat → V) (hD : H0 D = none) (hx : SqL K H0 a xs) (small : xs.length ≤ 1000000)
    (turn : ∀ (i : Nat) (x : V) (H : Hp) (R : V → V → Hp → Prop) (Rn : Hp → Prop), xs[i]? = some x → Grows H0 H → (p i = true → ∀ b H5, Grows H H5 → H5 b = some (.tup ((G i).map kV)) → R (.ref b) (F i) H5) → (p i = false → ∀ H4, Grows H H4 → Rn H4) →
      g x (wipe σ vs) H fun σ2 H2 => wipe σ2 vs = wipe σ vs ∧ tt σ2 H2 fun t H3 => if t = true then tk σ2 H3 fun y H4 => tv σ2 H4 fun z H5 => R y z H5 else Rn H3)
    (done : ∀ H, Grows H0 H → H D = some (.dT (laid p G F xs.length)) → Qd H) :
    ∃ W : Nat → Nat → Hp → Prop, (∃ m, W 0 m (upd H0 D (.dT []))) ∧ ∀ i m H, W i m H →
      ((Itl K a).stop i H ∧ Qd H) ∨ ((Itl K a).go i H ∧ ∃ Nx : Hp → Prop, (∀ H', Nx H' → ∃ m', m' < m ∧ W (i + 1) m' H') ∧ ∀ x H', (Itl K a).yld i H x H' → g x (wipe σ vs) H' fun σ2 H2 => wipe σ2 vs = wipe σ vs ∧ tt σ2 H2 fun t H3 =>
        if t = true then tk σ2 H3 fun y H4 => tv σ2 H4 fun z H5 => ∃ b kvs k, y = .ref b ∧ H5 b = some (.tup (k.map kV)) ∧ H5 D = some (.dT kvs) ∧ kvs.length < sizeLine ∧ Nx (upd H5 D (.dT (putK kvs k z))) else Nx H3) := by
  let inv : Nat → Hp → Prop := fun i H => Grows H0 H ∧ H D = some (.dT (laid p G F i))
  refine ⟨fun i m H => m = xs.length - i ∧ i ≤ xs.length ∧ inv i H, ⟨_, rfl, Nat.zero_le _, Grows.new hD, upd_same⟩, ?_⟩
  rintro i m H ⟨rfl, hi, pv⟩
  rcases Nat.lt_or_ge i xs.length with lt | ge
  · have ex : xs[i]? = some xs[i] := List.getElem?_eq_getElem lt
    refine .inr ⟨⟨xs, _, pv.1.seq hx, ex⟩, inv (i + 1), fun H' p' => ⟨xs.length - (i + 1), by omega, rfl, lt, p'⟩, fun v H' y => ?_⟩
    obtain ⟨rfl, y⟩ := y
    refine turn i v _ (fun y z H5 => ∃ b kvs k, y = .ref b ∧ H5 b = some (.tup (k.map kV)) ∧ H5 D = some (.dT kvs) ∧ kvs.length < sizeLine ∧ inv (i + 1) (upd H5 D (.dT (putK kvs k z)))) (inv (i + 1)) (y xs (pv.1.seq hx)) pv.1 (fun hp b H5 s5 hb => ⟨b, _, G i, rfl, hb, s5 _ _ pv.2, ?_, fun c o e => ?_, ?_⟩) fun hp H4 s4 => ⟨pv.1.trans s4, ?_⟩
    · exact Nat.lt_of_le_of_lt (laid_le _ G F i) (Nat.lt_of_lt_of_le lt (Nat.le_trans small (by decide)))
    · rw [upd_ne (ne_of_none e hD)]
      exact s5 _ _ (pv.1 _ _ e)
    · rw [upd_same]
      show _ = some (HO.dT (if p i = true then _ else _))
      rw [if_pos hp]
    · rw [s4 _ _ pv.2]
      show _ = some (HO.dT (if p i = true then _ else _))
      rw [if_neg (by rw [hp]; exact Bool.false_ne_true)]
  · have e : i = xs.length := by omega
    subst e
    exact .inl ⟨⟨xs, pv.1.seq hx, Nat.le_refl _⟩, done H pv.1 pv.2⟩
end
end LcM

/-! A comprehension that makes new lists of ints. -/
namespace LcM
open PySem PySem.Spec PyProof.Rows L2
/-- new lists of ints -/
structure Nw (H0 H : Hp) (cs : List (Addr × List Int)) : Prop where
  lists : ∀ c ∈ cs, H c.1 = some (.lst (c.2.map V.int))
  new : ∀ c ∈ cs, H0 c.1 = none
  nodup : (cs.map (·.1)).Nodup
theorem Nw.keep {H0 H H' : Hp} {cs : List (Addr × List Int)} (n : Nw H0 H cs) (s : Grows H H') : Nw H0 H' cs := ⟨fun c m => s _ _ (n.lists c m), n.new, n.nodup⟩
section
variable {K : PySem.W.Frag} {a : Addr} {xs : List V} {g : TG} {te : TE} {vs : List Nat} {σ : L2.St} {H0 : Hp} {D : Addr} {Qd : Hp → Prop}
theorem lc_listR (R : Nat → List Int) (hD : H0 D = none) (hx : SqL K H0 a xs) (small : xs.length ≤ 1000000)
    (turn : ∀ (i : Nat) (x : V) (H : Hp) (Rk : V → Hp → Prop), xs[i]? = some x → Grows H0 H → (∀ q H4, Grows H H4 → H q = none → H4 q = some (.lst ((R i).map V.int)) → Rk (.ref q) H4) → g x (wipe σ vs) H fun σ2 H2 => wipe σ2 vs = wipe σ vs ∧ te σ2 H2 Rk)
    (done : ∀ H cs, Grows H0 H → cs.map (·.2) = (List.range xs.length).map R → Nw H0 H cs → (∀ c ∈ cs, c.1 ≠ D) → H D = some (.lst (cs.map fun c => V.ref c.1)) → Qd H) :
    ∃ W : Nat → Nat → Hp → Prop, (∃ m, W 0 m (upd H0 D (.lst []))) ∧ ∀ i m H, W i m H →
      ((Itl K a).stop i H ∧ Qd H) ∨ ((Itl K a).go i H ∧ ∃ Nx : Hp → Prop, (∀ H', Nx H' → ∃ m', m' < m ∧ W (i + 1) m' H') ∧ ∀ x H', (Itl K a).yld i H x H' → g x (wipe σ vs) H' fun σ2 H2 => wipe σ2 vs = wipe σ vs ∧ tYes σ2 H2 fun b H3 =>
        if b = true then te σ2 H3 fun y H4 => ∃ acc, H4 D = some (.lst acc) ∧ acc.length < sizeLine ∧ Nx (upd H4 D (.lst (acc ++ [y]))) else Nx H3) := by
  refine lc_list (fun i H => ∃ cs : List (Addr × List Int), Grows H0 H ∧ cs.map (·.2) = (List.range i).map R ∧ Nw H0 H cs ∧ (∀ c ∈ cs, c.1 ≠ D) ∧ H D = some (.lst (cs.map fun c => V.ref c.1)))
    ⟨[], Grows.new hD, rfl, ⟨(fun _ m => nomatch m), (fun _ m => nomatch m), List.Pairwise.nil⟩, (fun _ m => nomatch m), upd_same⟩ (fun i H _ ⟨_, s, _⟩ => s.seq hx) (fun i x H ex ⟨cs, s, e, n, apart, top⟩ => ?_) fun H ⟨cs, s, e, n, apart, top⟩ => done H cs s e n apart top
  rw [yes_eq (A := fun σ2 => wipe σ2 vs = wipe σ vs)]
  refine turn i x H _ ex s fun q H4 s4 hq at_q => ?_
  have il := Nat.lt_of_lt_of_le (List.getElem?_eq_some_iff.mp ex).1 small
  have len : cs.length = i := by
    have := congrArg List.length e
    rw [List.length_map, List.length_map, List.length_range] at this
    exact this
  have qD : q ≠ D := fun z => by
    rw [z, top] at hq
    cases hq
  have all : Grows H0 (upd H4 D (.lst (cs.map (fun c => V.ref c.1) ++ [.ref q]))) := fun b o eb => by
    rw [upd_ne (ne_of_none eb hD)]
    exact s4 _ _ (s _ _ eb)
  have q0 : H0 q = none := by
    rcases Option.eq_none_or_eq_some (H0 q) with z | ⟨o, z⟩
    · exact z
    · have := s _ _ z
      rw [hq] at this
      cases this
  refine ⟨_, s4 _ _ top, ?_, cs ++ [(q, R i)], all, ?_, ⟨?_, ?_, ?_⟩, ?_, ?_⟩
  · rw [List.length_map, len]
    exact Nat.lt_trans il (by decide)
  · rw [List.map_append, e, List.range_succ, List.map_append]
    rfl
  · intro c m
    rcases List.mem_append.mp m with m | m
    · rw [upd_ne (apart c m)]
      exact s4 _ _ (n.lists c m)
    · rw [List.mem_singleton.mp m, upd_ne qD]
      exact at_q
  · intro c m
    rcases List.mem_append.mp m with m | m
    · exact n.new c m
    · rw [List.mem_singleton.mp m]
      exact q0
  · rw [List.map_append, List.nodup_append]
    refine ⟨n.nodup, List.nodup_cons.mpr ⟨(fun z => nomatch z), List.Pairwise.nil⟩, fun b mb d md => ?_⟩
    obtain ⟨c, mc, rfl⟩ := List.mem_map.mp mb
    have ed : d = q := by simpa using md
    rw [ed]
    intro z
    have := n.lists c mc
    rw [z, hq] at this
    cases this
  · intro c m
    rcases List.mem_append.mp m with m | m
    · exact apart c m
    · rw [List.mem_singleton.mp m]
      exact qD
  · rw [upd_same, List.map_append]
    rfl
end
end LcM

/-! Rules with their readings named by K, for use within comprehensions. -/
namespace LcM
open PySem PySem.Spec PyProof.Rows L2
def rLenS (K : PySem.W.Frag) : List V → Hp → VK → Prop := fun xs H Q => ∃ p ys, xs = [.ref p] ∧ (SqL K H p ys ∨ SqT K H p ys) ∧ Q (.int ys.length) H
def rLst (K : PySem.W.Frag) : List V → Hp → VK → Prop := fun xs H Q => ∃ p ys, xs = [.ref p] ∧ (SqL K H p ys ∨ SqT K H p ys) ∧ ∀ l, H l = none → Q (.ref l) (upd H l (.lst ys))
def rTup (K : PySem.W.Frag) : List V → Hp → VK → Prop := fun xs H Q => ∃ p ys, xs = [.ref p] ∧ SqL K H p ys ∧ ∀ t, H t = none → Q (.ref t) (upd H t (.tup ys))
section
variable {X : Cx}
theorem call_lenK : CallR X (.builtin "len") (rLenS X.K) := fun pins s σ H xs us Q I r ⟨p, ys, e, h, q⟩ => call_len_seq pins s σ H xs us Q I r ⟨p, ys, e, h, q⟩
theorem call_lstK : CallR X (.type "list") (rLst X.K) := fun pins s σ H xs us Q I r ⟨p, ys, e, h, q⟩ => call_list_of pins s σ H xs us Q I r ⟨p, ys, e, h, q⟩
theorem call_tupK : CallR X (.type "tuple") (rTup X.K) := fun pins s σ H xs us Q I r ⟨p, ys, e, h, q⟩ => call_tuple_of pins s σ H xs us Q I r ⟨p, ys, e, .inl ⟨h, q⟩⟩
end
end LcM

/-! What cut gives, on lists of lists of ints. -/
namespace LcM
open PySem PySem.Spec PyProof.Rows L2 SortR
/-- the last place of x among the first n -/
def plcN (ns : List Int) (x : Int) : Nat → Option Nat
  | 0 => none
  | n + 1 => if ns.getD n 0 = x then some n else plcN ns x n
def plc (ns : List Int) (x : Int) : Option Nat := plcN ns x ns.length
theorem valV_laid (ns : List Int) (x : Int) : ∀ n, valV (laid (fun _ => true) (fun i => (Sum.inl (ns.getD i 0) : L2.Key)) (fun i => V.int (i : Nat)) n) (Sum.inl x) = (plcN ns x n).map fun j => V.int (j : Nat)
  | 0 => rfl
  | n + 1 => by
    have ih := valV_laid ns x n
    unfold laid plcN
    rw [if_pos rfl, valV_put]
    by_cases e : ns.getD n 0 = x
    · rw [if_pos e, if_pos (by rw [e])]
      rfl
    · rw [if_neg e, if_neg (fun z => e (Sum.inl.inj z).symm)]
      exact ih
/-- a group's persons who stay, by their places -/
def meet (ns r : List Int) : List Int := ((List.range r.length).filter fun i => (plc ns (r.getD i 0)).isSome).map fun i => (((plc ns (r.getD i 0)).getD 0 : Nat) : Int)
def two (m : List Int) : Bool := decide (2 ≤ (m.length : Int))
/-- unlike rows, in the sequence in which they come first -/
def firsts (p : Nat → Bool) (M : Nat → List Int) : Nat → List (List Int)
  | 0 => []
  | n + 1 => if p n = true then (if M n ∈ firsts p M n then firsts p M n else firsts p M n ++ [M n]) else firsts p M n
theorem put_keys {κ : Type} [DecidableEq κ] (kvs : List (κ × V)) (k : κ) (v : V) : (putK kvs k v).map (·.1) = if k ∈ kvs.map (·.1) then kvs.map (·.1) else kvs.map (·.1) ++ [k] := by
  unfold putK
  by_cases h : (kvs.any fun kv => decide (kv.1 = k)) = true
  · rw [if_pos h]
    obtain ⟨kv, hm, e⟩ := List.any_eq_true.mp h
    rw [if_pos (List.mem_map.mpr ⟨kv, hm, of_decide_eq_true e⟩), List.map_map]
    refine List.map_congr_left fun q _ => ?_
    show (if q.1 = k then (q.1, v) else q).1 = q.1
    split <;> rfl
  · rw [if_neg h, if_neg fun z => ?_, List.map_append]
    · rfl
    · obtain ⟨kv, hm, e⟩ := List.mem_map.mp z
      exact h (List.any_eq_true.mpr ⟨kv, hm, decide_eq_true e⟩)
theorem inl_inj {m n : List Int} (h : (m.map Sum.inl : List L2.Key) = n.map Sum.inl) : m = n := by
  induction m generalizing n with
  | nil =>
    cases n with
    | nil => rfl
    | cons _ _ => cases h
  | cons x m ih =>
    cases n with
    | nil => cases h
    | cons y n =>
      rw [List.map_cons, List.map_cons] at h
      obtain ⟨h1, h2⟩ := List.cons.inj h
      rw [Sum.inl.inj h1, ih h2]
theorem keys_laid (p : Nat → Bool) (M : Nat → List Int) (F : Nat → V) : ∀ n, (laid p (fun i => ((M i).map Sum.inl : List L2.Key)) F n).map (·.1) = (firsts p M n).map fun m => m.map Sum.inl
  | 0 => rfl
  | n + 1 => by
    have ih := keys_laid p M F n
    unfold laid firsts
    by_cases h : p n = true
    · rw [if_pos h, if_pos h, put_keys, ih]
      by_cases m : M n ∈ firsts p M n
      · rw [if_pos m, if_pos (List.mem_map.mpr ⟨_, m, rfl⟩)]
      · rw [if_neg m, if_neg fun z => ?_, List.map_append]
        · rfl
        · obtain ⟨r, hr, e⟩ := List.mem_map.mp z
          rw [inl_inj e] at hr
          exact m hr
    · rw [if_neg h, if_neg h]
      exact ih
theorem firsts_of (p : Nat → Bool) (M : Nat → List Int) : ∀ n, ∀ r ∈ firsts p M n, ∃ i, i < n ∧ p i = true ∧ r = M i
  | 0, _, h => nomatch h
  | n + 1, r, h => by
    have ih := firsts_of p M n r
    unfold firsts at h
    have old : r ∈ firsts p M n → ∃ i, i < n + 1 ∧ p i = true ∧ r = M i := fun z => let ⟨i, a, b, c⟩ := ih z; ⟨i, Nat.lt_succ_of_lt a, b, c⟩
    by_cases hp : p n = true
    · rw [if_pos hp] at h
      split at h
      · exact old h
      · rcases List.mem_append.mp h with z | z
        · exact old z
        · exact ⟨n, Nat.lt_succ_self n, hp, List.mem_singleton.mp z⟩
    · rw [if_neg hp] at h
      exact old h
theorem firsts_le (p : Nat → Bool) (M : Nat → List Int) : ∀ n, (firsts p M n).length ≤ n
  | 0 => Nat.le_refl _
  | n + 1 => by
    have ih := firsts_le p M n
    unfold firsts
    split
    · split
      · omega
      · rw [List.length_append, List.length_singleton]
        omega
    · omega
def cutR (rs : List (List Int)) (ns : List Int) : List (List Int) := (firsts (fun i => two (meet ns (rs.getD i []))) (fun i => meet ns (rs.getD i [])) rs.length).mergeSort fun p q => decide (p ≤ q)
theorem sort_rows (as : List (Addr × List Int)) : (as.mergeSort rowLe).map (·.2) = (as.map (·.2)).mergeSort fun p q => decide (p ≤ q) := List.map_mergeSort fun _ _ _ _ => rfl
end LcM

/-! Lists of ints and lists of such, as data. -/
namespace LcM
open PySem PySem.Spec PyProof.Rows L2 SortR
theorem eqvAll_ints : ∀ ns ms : List Int, PyData.eqvAll (ns.map .int) (ms.map .int) = decide (ns = ms)
  | [], [] => by
    simp only [List.map_nil, PyData.eqvAll]
    exact (decide_eq_true (rfl : ([] : List Int) = [])).symm
  | x :: ns, y :: ms => by
    rw [List.map_cons, List.map_cons, PyData.eqvAll, eqvAll_ints ns ms, PyData.eqv]
    by_cases e : x = y
    · rw [e, beq_self_eq_true, Bool.true_and]
      by_cases e2 : ns = ms
      · rw [decide_eq_true e2, decide_eq_true (by rw [e2])]
      · rw [decide_eq_false e2, decide_eq_false fun z => e2 (List.cons.inj z).2]
    · rw [beq_eq_false_iff_ne.mpr e, Bool.false_and, decide_eq_false fun z => e (List.cons.inj z).1]
  | [], _ :: _ => by
    rw [List.map_nil, List.map_cons, PyData.eqvAll]
    exact (decide_eq_false fun z => nomatch z).symm
  | _ :: _, [] => by
    rw [List.map_nil, List.map_cons, PyData.eqvAll]
    exact (decide_eq_false fun z => nomatch z).symm
theorem eqv_ints (ns ms : List Int) : PyData.eqv (PyData.list (ns.map .int)) (PyData.list (ms.map .int)) = decide (ns = ms) := by
  rw [PyData.eqv]
  exact eqvAll_ints ns ms
theorem eqvAll_rows : ∀ rs qs : List (List Int), PyData.eqvAll (rs.map fun r => .list (r.map .int)) (qs.map fun r => .list (r.map .int)) = decide (rs = qs)
  | [], [] => by
    simp only [List.map_nil, PyData.eqvAll]
    exact (decide_eq_true (rfl : ([] : List (List Int)) = [])).symm
  | x :: ns, y :: ms => by
    rw [List.map_cons, List.map_cons, PyData.eqvAll, eqvAll_rows ns ms, eqv_ints]
    by_cases e : x = y
    · rw [decide_eq_true e, Bool.true_and]
      by_cases e2 : ns = ms
      · rw [decide_eq_true e2, decide_eq_true (by rw [e, e2])]
      · rw [decide_eq_false e2, decide_eq_false fun z => e2 (List.cons.inj z).2]
    · rw [decide_eq_false e, Bool.false_and, decide_eq_false fun z => e (List.cons.inj z).1]
  | [], _ :: _ => by
    rw [List.map_nil, List.map_cons, PyData.eqvAll]
    exact (decide_eq_false fun z => nomatch z).symm
  | _ :: _, [] => by
    rw [List.map_nil, List.map_cons, PyData.eqvAll]
    exact (decide_eq_false fun z => nomatch z).symm
theorem eqv_rows (rs qs : List (List Int)) : PyData.eqv (PyData.list (rs.map fun r => .list (r.map .int))) (PyData.list (qs.map fun r => .list (r.map .int))) = decide (rs = qs) := by
  rw [PyData.eqv]
  exact eqvAll_rows rs qs
theorem lay_ints : ∀ ns : List Int, PyData.canLayAll0 (ns.map .int) = true
  | [] => by simp only [List.map_nil, PyData.canLayAll0]
  | n :: ns => by simp only [List.map_cons, PyData.canLayAll0, PyData.canLay0, lay_ints ns, Bool.and_self]
theorem lay_rows : ∀ rs : List (List Int), PyData.canLayAll0 (rs.map fun r => .list (r.map .int)) = true
  | [] => by simp only [List.map_nil, PyData.canLayAll0]
  | r :: rs => by simp only [List.map_cons, PyData.canLayAll0, PyData.canLay0, lay_ints r, lay_rows rs, Bool.and_self]
theorem depth_rows : ∀ rs : List (List Int), PyData.depthAll (rs.map fun r => .list (r.map .int)) ≤ 1
  | [] => by simp only [List.map_nil, PyData.depthAll]; omega
  | r :: rs => by
    have := depth_rows rs
    simp only [List.map_cons, PyData.depthAll, PyData.depth, PySem.W.depth_ints]
    omega
theorem shaped_ints (ns : List Int) : SeqAt.shaped (PyData.list (ns.map .int)) = true := by
  unfold SeqAt.shaped
  simp only [PyData.canLay0, lay_ints, PyData.depth, PySem.W.depth_ints]
  decide
theorem shaped_rows (rs : List (List Int)) : SeqAt.shaped (PyData.list (rs.map fun r => .list (r.map .int))) = true := by
  have d := depth_rows rs
  have e : (PyData.list (rs.map fun r => .list (r.map .int))).depth ≤ 64 := by
    simp only [PyData.depth]
    omega
  unfold SeqAt.shaped
  rw [decide_eq_true e, Bool.and_true]
  simp only [PyData.canLay0, lay_rows]
/-- lists of lists as data -/
theorem rows_data {K : PySem.W.Frag} {H : Hp} : ∀ {bs : List (Addr × List Int)}, (∀ b ∈ bs, SqL K H b.1 (b.2.map V.int)) → DpAll K H (bs.map fun b => V.ref b.1) ((bs.map (·.2)).map fun r => .list (r.map .int))
  | [], _ => .nil
  | b :: bs, h => .cons (.lst (h b List.mem_cons_self) (rows_dp b.2)) (rows_data fun c m => h c (List.mem_cons_of_mem _ m))
end LcM

/-! sorted(xs), xs ints, THE sorted list. -/
namespace SortR
open PySem PySem.Spec PyProof.Rows L2 PySem.W
def intLe (p q : Int) : Bool := decide (p ≤ q)
theorem ints_each {h : Heap} : ∀ {ns : List Int} {us : List Value}, Vals (ns.map V.int) us → EachIs (fun v (n : Int) => ∃ t, v = Value.int n t) us ns
  | [], _, .nil => .nil
  | _ :: _, _, .cons h1 h2 => .cons h1 (ints_each (h := h) h2)
theorem each_ints : ∀ {us : List Value} {ns : List Int}, EachIs (fun v (n : Int) => ∃ t, v = Value.int n t) us ns → Vals (ns.map V.int) us
  | _, _, .nil => .nil
  | _, _, .cons h t => .cons h (each_ints t)
section
variable {X : Cx}
theorem call_sortedInts (hu : X.A.units + 64 < cLine) : CallR X (.builtin "sorted") (fun xs H Q => ∃ (a : Addr) (ns : List Int), xs = [V.ref a] ∧ SqL X.K H a (ns.map V.int) ∧ ∀ p, H p = none → Q (.ref p) (upd H p (.lst ((ns.mergeSort intLe).map V.int)))) := by
  intro pins s σ H xs us Q I r h
  obtain ⟨a, ns, rfl, hs, q⟩ := h
  obtain ⟨u, rfl, ru⟩ := vals1 r
  obtain rfl : u = Value.ref a := ru
  obtain ⟨its, rv, hl, hz⟩ := I.list hs
  have each := ints_each (h := s.heap) rv
  have len : its.length = ns.length := by rw [← rv.length, List.length_map]
  have reads : EachIs (fun v (n : Int) => ∃ as, Reads s.heap v (PyData.int n) as) its ns := each_mono each fun v n ⟨t, e⟩ => by
    rw [e]
    exact ⟨_, Reads.int n t⟩
  have le : dataLe false (fun n : Int => PyData.int n) = intLe := dataLe_int fun n : Int => n
  refine sorted_data (enc := fun n : Int => PyData.int n) hl.isList each reads (AllAlike.of fun p q => by simp only [alike]) (Sortable.others fun b => ⟨(fun z => nomatch z), fun xs z => nomatch z⟩) (by rw [List.length_map] at hz; exact hz) (fun b _ => by
    have d : (PyData.int b).depth = 0 := by simp only [PyData.depth]
    rw [d]
    omega) fun out ho each3 => ?_
  rw [le] at each3
  have back := each_ints each3
  obtain ⟨n, hn⟩ := sortedAll_at s.heap its out.toArray
  refine ⟨.ref (s.heap.objs.size + 1), upd H (s.heap.objs.size + 1) (.lst ((ns.mergeSort intLe).map V.int)), I.laid (t' := s.toks) (fun b o e => sortedAll_old e) (Nat.le_succ _) ⟨?_, out, n, back, hn⟩, rfl, q _ (I.hok.fresh (Nat.le_succ _))⟩
  rw [List.length_map, List.length_mergeSort]
  rw [List.length_map] at hz
  exact hz
end
end SortR

/-! Comprehensions over a tuple or a list, each turn's value by a relation that lasts. -/
namespace LcM
open PySem PySem.Spec PyProof.Rows L2
/-- so far -/
structure Mx (H0 : Hp) (D : Addr) (Rel : Nat → V → Hp → Prop) (i : Nat) (H : Hp) (ys : List V) : Prop where
  grow : Grows H0 H
  top : H D = some (.lst ys)
  len : ys.length = i
  rel : ∀ j y, ys[j]? = some y → Rel j y H
theorem Mx.more {H0 H H4 : Hp} {D : Addr} {Rel : Nat → V → Hp → Prop} {i : Nat} {ys : List V} {y : V} (last : ∀ j y H H', Grows H H' → Rel j y H → Rel j y H') (free : ∀ j y H zs, Rel j y H → H D = some (.lst zs) → ∀ u, Rel j y (upd H D u)) (hD : H0 D = none) (m : Mx H0 D Rel i H ys) (s : Grows H H4) (r : Rel i y H4) (small : i < 1000000) :
    ∃ acc, H4 D = some (.lst acc) ∧ acc.length < sizeLine ∧ ∃ ys', Mx H0 D Rel (i + 1) (upd H4 D (.lst (acc ++ [y]))) ys' := by
  have at_D := s _ _ m.top
  refine ⟨ys, at_D, ?_, ys ++ [y], fun b o e => ?_, upd_same, ?_, fun j z e => ?_⟩
  · rw [m.len]
    exact Nat.lt_trans small (by decide)
  · rw [upd_ne (ne_of_none e hD)]
    exact s _ _ (m.grow _ _ e)
  · rw [List.length_append, m.len]
    rfl
  · rcases Nat.lt_or_ge j ys.length with l | g
    · rw [List.getElem?_append_left l] at e
      exact free j z H4 _ (last j z H H4 s (m.rel j z e)) at_D _
    · rw [List.getElem?_append_right g] at e
      have zero : j - ys.length = 0 := by
        rcases Nat.eq_zero_or_pos (j - ys.length) with q | q
        · exact q
        · rw [List.getElem?_eq_none (by show 1 ≤ j - ys.length; omega)] at e
          cases e
      rw [zero] at e
      obtain rfl : y = z := Option.some.inj e
      obtain rfl : j = i := by rw [← m.len]; omega
      exact free j y H4 _ r at_D _
section
variable {K : PySem.W.Frag} {a : Addr} {xs : List V} {g : TG} {te : TE} {vs : List Nat} {σ : L2.St} {H0 : Hp} {D : Addr} {Qd : Hp → Prop}
theorem lc_tupX (Rel : Nat → V → Hp → Prop) (last : ∀ j y H H', Grows H H' → Rel j y H → Rel j y H') (free : ∀ j y H zs, Rel j y H → H D = some (.lst zs) → ∀ u, Rel j y (upd H D u)) (hD : H0 D = none) (hx : SqT K H0 a xs) (small : xs.length ≤ 1000000)
    (turn : ∀ (i : Nat) (x : V) (H : Hp) (Rk : V → Hp → Prop), xs[i]? = some x → Grows H0 H → H D ≠ none → (∀ y H4, Grows H H4 → Rel i y H4 → Rk y H4) → g x (wipe σ vs) H fun σ2 H2 => wipe σ2 vs = wipe σ vs ∧ te σ2 H2 Rk)
    (done : ∀ H ys, Mx H0 D Rel xs.length H ys → Qd H) :
    ∃ W : Nat → Nat → Hp → Prop, (∃ m, W 0 m (upd H0 D (.lst []))) ∧ ∀ i m H, W i m H →
      ((Itt K a).stop i H ∧ Qd H) ∨ ((Itt K a).go i H ∧ ∃ Nx : Hp → Prop, (∀ H', Nx H' → ∃ m', m' < m ∧ W (i + 1) m' H') ∧ ∀ x H', (Itt K a).yld i H x H' → g x (wipe σ vs) H' fun σ2 H2 => wipe σ2 vs = wipe σ vs ∧ tYes σ2 H2 fun b H3 =>
        if b = true then te σ2 H3 fun y H4 => ∃ acc, H4 D = some (.lst acc) ∧ acc.length < sizeLine ∧ Nx (upd H4 D (.lst (acc ++ [y]))) else Nx H3) := by
  refine lc_tup (fun i H => ∃ ys, Mx H0 D Rel i H ys) ⟨[], Grows.new hD, upd_same, rfl, fun j y e => by rw [List.getElem?_nil] at e; cases e⟩ (fun i H _ ⟨_, m⟩ => m.grow.tup hx) (fun i x H ex ⟨ys, m⟩ => ?_) fun H ⟨ys, m⟩ => done H ys m
  rw [yes_eq (A := fun σ2 => wipe σ2 vs = wipe σ vs)]
  exact turn i x H _ ex m.grow (by rw [m.top]; exact fun z => nomatch z) fun y H4 s r => m.more last free hD s r (Nat.lt_of_lt_of_le (List.getElem?_eq_some_iff.mp ex).1 small)
theorem lc_listX (Rel : Nat → V → Hp → Prop) (last : ∀ j y H H', Grows H H' → Rel j y H → Rel j y H') (free : ∀ j y H zs, Rel j y H → H D = some (.lst zs) → ∀ u, Rel j y (upd H D u)) (hD : H0 D = none) (hx : SqL K H0 a xs) (small : xs.length ≤ 1000000)
    (turn : ∀ (i : Nat) (x : V) (H : Hp) (Rk : V → Hp → Prop), xs[i]? = some x → Grows H0 H → H D ≠ none → (∀ y H4, Grows H H4 → Rel i y H4 → Rk y H4) → g x (wipe σ vs) H fun σ2 H2 => wipe σ2 vs = wipe σ vs ∧ te σ2 H2 Rk)
    (done : ∀ H ys, Mx H0 D Rel xs.length H ys → Qd H) :
    ∃ W : Nat → Nat → Hp → Prop, (∃ m, W 0 m (upd H0 D (.lst []))) ∧ ∀ i m H, W i m H →
      ((Itl K a).stop i H ∧ Qd H) ∨ ((Itl K a).go i H ∧ ∃ Nx : Hp → Prop, (∀ H', Nx H' → ∃ m', m' < m ∧ W (i + 1) m' H') ∧ ∀ x H', (Itl K a).yld i H x H' → g x (wipe σ vs) H' fun σ2 H2 => wipe σ2 vs = wipe σ vs ∧ tYes σ2 H2 fun b H3 =>
        if b = true then te σ2 H3 fun y H4 => ∃ acc, H4 D = some (.lst acc) ∧ acc.length < sizeLine ∧ Nx (upd H4 D (.lst (acc ++ [y]))) else Nx H3) := by
  refine lc_list (fun i H => ∃ ys, Mx H0 D Rel i H ys) ⟨[], Grows.new hD, upd_same, rfl, fun j y e => by rw [List.getElem?_nil] at e; cases e⟩ (fun i H _ ⟨_, m⟩ => m.grow.seq hx) (fun i x H ex ⟨ys, m⟩ => ?_) fun H ⟨ys, m⟩ => done H ys m
  rw [yes_eq (A := fun σ2 => wipe σ2 vs = wipe σ vs)]
  exact turn i x H _ ex m.grow (by rw [m.top]; exact fun z => nomatch z) fun y H4 s r => m.more last free hD s r (Nat.lt_of_lt_of_le (List.getElem?_eq_some_iff.mp ex).1 small)
/-- a loop over enumerate of a list that stands still -/
theorem for_enumL {tb : TS} {Dn : Ends} (Pv : Nat → L2.St → Hp → Prop) (h0 : Pv 0 σ H0) (hl : ∀ i σ H, Pv i σ H → SqL K H a xs)
    (hs : ∀ (i : Nat) (x : V) (T : Addr) (σ : L2.St) (H : Hp), xs[i]? = some x → Pv i σ H → H T = none → g (.ref T) σ (upd H T (.tup [.int (i : Nat), x])) fun σ2 H2 => tb { Dn with nx := Pv (i + 1), ct := Pv (i + 1), bk := Dn.nx } σ2 H2) (hd : ∀ σ H, Pv xs.length σ H → Dn.nx σ H) :
    ∃ W : Nat → Nat → L2.St → Hp → Prop, (∃ m, W 0 m σ H0) ∧ ∀ i m σ H, W i m σ H →
      ((Ite K a).stop i H ∧ Dn.nx σ H) ∨ ((Ite K a).go i H ∧ ∃ N : L2.St → Hp → Prop, (∀ σ' H', N σ' H' → ∃ m', m' < m ∧ W (i + 1) m' σ' H') ∧ ∀ v H', (Ite K a).yld i H v H' → g v σ H' fun σ2 H2 => tb { Dn with nx := N, ct := N, bk := Dn.nx } σ2 H2) := by
  refine ⟨fun i m σ H => m = xs.length - i ∧ i ≤ xs.length ∧ Pv i σ H, ⟨_, rfl, Nat.zero_le _, h0⟩, ?_⟩
  rintro i m σ H ⟨rfl, hi, pv⟩
  have qx := hl i σ H pv
  rcases Nat.lt_or_ge i xs.length with lt | ge
  · have ex : xs[i]? = some xs[i] := List.getElem?_eq_getElem lt
    refine .inr ⟨⟨xs, _, qx, ex⟩, Pv (i + 1), fun σ' H' p' => ⟨xs.length - (i + 1), by omega, rfl, lt, p'⟩, fun v H' y => ?_⟩
    obtain ⟨T, x', rfl, hT, rfl, f1⟩ := y
    exact hs i x' T σ H (f1 xs qx) pv hT
  · have e : i = xs.length := by omega
    subst e
    exact .inl ⟨⟨xs, qx, Nat.le_refl _⟩, hd σ H pv⟩
end
end LcM

/-! min(list of lists of ints, key=len). -/
namespace LcM
open PySem PySem.Spec PyProof PyProof.Rows L2 SortR
def lenAt (bs : List (Addr × List Int)) (i : Nat) : Int := ((bs.getD i (0, [])).2.length : Nat)
def firstMin (bs : List (Addr × List Int)) (i : Nat) : Prop := ∀ j, j < bs.length → lenAt bs i ≤ lenAt bs j ∧ (j < i → lenAt bs i < lenAt bs j)
def rMinLen (K : PySem.W.Frag) (Q : VK) : List V → Hp → Prop := fun vs H1 => ∃ (a : Addr) (bs : List (Addr × List Int)), vs = [.ref a] ∧ SqL K H1 a (bs.map fun b => V.ref b.1) ∧ (∀ b ∈ bs, SqL K H1 b.1 (b.2.map V.int)) ∧ bs ≠ [] ∧
  ∀ i, i < bs.length → firstMin bs i → Q (.ref (bs.getD i (0, [])).1) H1
def tMinLen (K : PySem.W.Frag) (te : TE) : TE := fun σ H Q => tCons te tNil σ H (rMinLen K Q)
section
variable {X : Cx} {e : Expr} {te : TE} {p p2 pos kp : Pos}
theorem ns_one {h : Heap} {a : Addr} {m m' : Str → Option Value} (x : h.Ns a m) (y : h.Ns a m') : m = m' := x.eq_nsMap.trans y.eq_nsMap.symm
/-- what only lets the names stand elsewhere changes nothing -/
theorem inv_fr {pins : List (Addr × Obj)} {σ : L2.St} {H : Hp} {s : Shared} {h' : Heap} {tk : Nat} {m : Str → Option Value} (I : Inv X pins σ H s) (n0 : s.heap.Ns X.env.locals m) (n1 : h'.Ns X.env.locals m) (keep : ∀ b o, b ≠ X.env.locals → s.heap.get? b = some o → h'.get? b = some o) :
    Inv X pins σ H { s with heap := h', toks := tk } := by
  refine I.step (ch := []) (fun b hb => nomatch hb) (fun b o nl _ _ q _ => keep b o nl q) (fun b o nl _ _ q _ => ⟨o.slots, keep b o nl q⟩) (fun b o _ _ z => z) (fun b o _ q => ?_) (fun _ _ z => z) (fun _ _ _ z => z) (fun _ ps z => ⟨#[], by rw [Array.append_empty]; exact z⟩) (fun m' z => ns_one n0 z ▸ n1) ?_ I.bare
  · by_cases el : b = X.env.locals
    · obtain ⟨o', _, _, q', _⟩ := n1
      exact ⟨o', el ▸ q'⟩
    · exact ⟨o, keep b o el q⟩
  · intro a o h
    refine (I.hok a o h).stay (fun b u hb q => keep b u (fun z => ?_) q) (fun _ z => z) (fun _ _ z => z)
    have f := I.free
    rw [← z] at f
    rcases hb with hb | hb
    · rw [hb, h] at f
      cases f
    · rw [hb] at f
      cases f
theorem pe_minLen (calm : X.calm = true) (hg : Gl X "min") (hm : X.mg "min" = none) (hl : Gl X "len") (ml : X.mg "len" = none) (he : PE X e te)
    (h1 : starEach [e] X.env = (false, eval e X.env) :: starEach [] X.env := by rfl) (h2 : backTo pos (starEach [e] X.env) = (false, eval e X.env) :: backTo pos (starEach [] X.env) := by rfl) (h3 : ((backTo pos (starEach [e] X.env)).any fun x => x.1) = false := by rfl) : PE X (.Call (.Name "min" p) [e] [⟨some "key", .Name "len" p2, kp⟩] pos) (tMinLen X.K te) := by
  refine ⟨fun pins s σ H Q I rd => ?_⟩
  refine wpAny_Call_Name_kw (ld_blt (u := Value.builtin "min") I hg hm (by decide +kernel) ?_)
  refine Rows.callWith_kw (thn ((pa_cons he pa_nil (hs := h1)).run pos pins s σ H (rMinLen X.K Q) I rd) fun us s1 ⟨vs, H1, I1, rv, q⟩ => ?_) h2 h3
  obtain ⟨a, bs, rfl, hA, hB, hne, k⟩ := q
  obtain ⟨u, rfl, ru⟩ := vals1 rv
  obtain rfl : u = Value.ref a := ru
  refine Rows.evalAll_cons (wpAny_bind (ld_blt (u := Value.builtin "len") I1 hl ml (by decide +kernel) (wpAny_bind (wpAny_standAt (wpAny_pure (Rows.evalAll_nil ?_))))))
  obtain ⟨its, rvs, pl, hz⟩ := I1.list hA
  obtain ⟨m, ns, look⟩ := I1.loc
  obtain ⟨m', fr'⟩ := I1.fr
  have fr : Rows.Fr X.base X.env.locals s1.heap m := ⟨ns, fr'.keep, fr'.above⟩
  have kept : ∀ h, Rows.Fr X.base X.env.locals h m → Rows.News X.base X.env.locals h (allNews X.base s1.heap X.env.locals) → ∀ b o, b ≠ X.env.locals → s1.heap.get? b = some o → h.get? b = some o := fun h f n b o nl q => by
    rcases Option.eq_none_or_eq_some (X.base.get? b) with z | ⟨o', z⟩
    · exact (n (b, o) (mem_allNews nl z q)).1
    · have := fr.keep b o' z
      rw [q] at this
      cases this
      exact f.keep b o z
  have apart : ∀ {b : Addr} {xs : Array Value}, PlainL s1.heap b xs → b ≠ X.env.locals := fun {b xs} hb z => by
    obtain ⟨o, n, g, _, _, d⟩ := hb
    obtain ⟨o', es, ep, g', d', _⟩ := ns
    rw [z, g'] at g
    cases g
    rw [d'] at d
    cases d
  have len : its.length = bs.length := by
    rw [← rvs.length, List.length_map]
  have get : ∀ {i : Nat} {v : Value}, its[i]? = some v → i < bs.length ∧ v = Value.ref (bs.getD i (0, [])).1 := fun {i v} hv => by
    have il : i < bs.length := by
      rw [← len]
      exact (List.getElem?_eq_some_iff.mp hv).1
    refine ⟨il, ?_⟩
    have e1 : (bs.map fun b => V.ref b.1)[i]? = some (V.ref (bs.getD i (0, [])).1) := by
      rw [List.getElem?_map, List.getElem?_eq_getElem il, List.getD_eq_getElem?_getD, List.getElem?_eq_getElem il]
      rfl
    obtain ⟨u, hu, ru⟩ := rvs.get e1
    rw [hv] at hu
    cases hu
    exact ru
  refine Rows.kmb_min (kid := "len") (news := allNews X.base s1.heap X.env.locals) (vs := its) (lenAt bs) (I1.ok.hd calm) fr news_all (fun h f n => (pl.at fun o q => kept h f n a o (apart pl) q).isList) ?_ (fun i v hv h tk own f n => ?_) fun i v h' tk' hv hmin f n => ?_
  · rw [len]
    rcases Nat.eq_zero_or_pos bs.length with z | z
    · exact absurd (List.length_eq_zero_iff.mp z) hne
    · exact z
  · obtain ⟨il, rfl⟩ := get hv
    have n' : Rows.News X.base X.env.locals h (allNews X.base s1.heap X.env.locals) := fun p hp => n p (List.mem_append_left _ hp)
    have mem : bs.getD i (0, []) ∈ bs := by
      rw [List.getD_eq_getElem?_getD, List.getElem?_eq_getElem il]
      exact List.getElem_mem il
    obtain ⟨rs, rvr, plr, hzr⟩ := I1.list (hB _ mem)
    have lenr : rs.length = (bs.getD i (0, [])).2.length := by rw [← rvr.length, List.length_map]
    refine Calls.call_len_list ((plr.at fun o q => kept h f n' _ o (apart plr) q).isList) ?_ ⟨h, _, tk + 1, rfl, ?_, f, n⟩
    · rw [List.size_toArray, lenr]
      rw [List.length_map] at hzr
      have : sizeLine < 2 ^ 63 := by decide
      omega
    · unfold lenAt
      rw [List.size_toArray, lenr]
  · obtain ⟨il, rfl⟩ := get hv
    refine ⟨V.ref (bs.getD i (0, [])).1, H1, inv_fr I1 ns f.ns (kept h' f n), rfl, k i il fun j jl => ?_⟩
    exact hmin j (by rw [len]; exact jl)
end
end LcM

/-! for i, x in enumerate(list, start=k). -/
namespace LcM
open PySem PySem.Spec PyProof PyProof.Rows L2
def ItS (K : PySem.W.Frag) (a : Addr) (k : Int) : It where
  go := fun i H => ∃ xs x, SqL K H a xs ∧ xs[i]? = some x
  yld := fun i H v H' => ∃ T x, v = .ref T ∧ H T = none ∧ H' = upd H T (.tup [.int (k + (i : Nat)), x]) ∧ ∀ xs, SqL K H a xs → xs[i]? = some x
  stop := fun i H => ∃ xs, SqL K H a xs ∧ xs.length = i
theorem turn_enumS {P : Program} {w : World} {K : PySem.W.Frag} {elts : List Expr} {kk : Nat} {tpos : Pos} (a e it : Addr) (k : Int) :
    Turn P w K (.Tuple elts kk tpos) (ItS K a k) [e, it] e (fun i h => (∃ old, IsEnum h e it (k + (i : Nat)) old) ∧ h.IsListIter it a i ∧ e ≠ it) where
  mem := by simp
  obj := fun t h st b hb => by
    obtain ⟨⟨old, ie⟩, ⟨o, ho, _, hd⟩, _⟩ := st
    have q : b = e ∨ b = it := by simpa using hb
    rcases q with q | q
    · rw [q]
      exact ⟨_, ie, fun v z => nomatch z⟩
    · rw [q]
      exact ⟨o, ho, fun v z => by rw [hd] at z; cases z⟩
  keep := fun t h h' st kp => by
    obtain ⟨⟨old, ie⟩, ⟨o, ho, hc, hd⟩, ne⟩ := st
    exact ⟨⟨old, kp e (by simp) _ ie⟩, ⟨o, kp it (by simp) _ ho, hc, hd⟩, ne⟩
  item := by
    intro X hP hw hK hc i pins s σ H E I hf st hg
    subst hP hw hK
    obtain ⟨⟨old, ie⟩, li, ne⟩ := st
    obtain ⟨xs, x, hS, hx⟩ := hg
    obtain ⟨its, rv, pl, hz⟩ := I.list hS
    have hli := li
    obtain ⟨oi, hoi, hci, hdi⟩ := hli
    have ha_e : a ≠ e := fun z => by
      obtain ⟨o, ho, hcl, _⟩ := pl.isList
      rw [z, ie] at ho
      cases ho
      exact absurd (Value.type.inj hcl) (by decide)
    have ha_it : a ≠ it := fun z => by
      obtain ⟨o, ho, hcl, _⟩ := pl.isList
      rw [z, hoi] at ho
      cases ho
      rw [hci] at hcl
      exact absurd (Value.type.inj hcl) (by decide)
    have il : i < its.toArray.size := by
      rw [List.size_toArray, ← rv.length]
      exact (List.getElem?_eq_some_iff.mp hx).1
    obtain ⟨u, hu, ru⟩ := rv.get hx
    have W := WalksT.enumFrom (prog := X.prog) (w := X.w) (A := X.A) k (Draws.list (A := X.A.in1) (by exact I.ok.hd hc) it a ha_it its.toArray) e ne (fun z => by simp at z; exact z.elim ne ha_e.symm) (List.mem_cons_self)
    refine W.item i s _ E il ⟨⟨old, ie⟩, li, pl.isList⟩ fun T vals h' tk pt big isT mid keep => ⟨.ref T, rfl, W.go elts kk tpos i T { s with heap := h', toks := tk } _ E mid fun h2 st2 keep2 => ?_⟩
    obtain ⟨t, y, py, rfl⟩ := pt
    have ey : y = u := by
      have q : its.toArray[i]? = some y := py
      rw [List.getElem?_toArray, hu] at q
      cases q
      rfl
    subst ey
    have nT := W.apart i T h' mid
    obtain ⟨oT, gT, cT, n, dT⟩ := isT
    have gT2 := keep2 T oT nT gT
    have obj : ObjOk X.prog X.w (upd H T (.tup [.int (k + (i : Nat)), x])) h2 T (.tup [.int (k + (i : Nat)), x]) :=
      ⟨by show 2 ≤ sizeLine; decide, [_, y], .cons ⟨t, rfl⟩ (.cons ru .nil), ⟨oT, gT2, cT, n, dT⟩⟩
    have I1 : Inv X pins σ (upd H T (.tup [.int (k + (i : Nat)), x])) { s with heap := h2, toks := tk } :=
      I.turnedNew (t' := tk) (ch := [e, it]) (fun c o hb q => keep2 c o hb (keep c o hb q)) hf big obj
    refine ⟨.ref T, _, I1, rfl, ⟨T, x, rfl, I.hok.fresh big, rfl, fun xs' h' => ?_⟩, ⟨?_, st2.2.1, ne⟩, fun b hb => ?_⟩
    · rw [I.list_inj h' hS]
      exact hx
    · obtain ⟨⟨old', ie'⟩, _⟩ := st2
      exact ⟨old', ie'⟩
    · have low : b < s.heap.objs.size := by
        have q : b = e ∨ b = it := by simpa using hb
        rcases q with q | q
        · rw [q]; exact Heap.lt_size ie
        · rw [q]; exact Heap.lt_size hoi
      rw [upd_ne (Nat.ne_of_lt (Nat.lt_of_lt_of_le low big))]
      exact (hf b hb).1
  done := by
    intro X hP hw hK hc i pins s σ H E I hf st hg
    subst hP hw hK
    obtain ⟨⟨old, ie⟩, li, ne⟩ := st
    obtain ⟨xs, hS, rfl⟩ := hg
    obtain ⟨its, rv, pl, hz⟩ := I.list hS
    have hli := li
    obtain ⟨oi, hoi, hci, hdi⟩ := hli
    have ha_e : a ≠ e := fun z => by
      obtain ⟨o, ho, hcl, _⟩ := pl.isList
      rw [z, ie] at ho
      cases ho
      exact absurd (Value.type.inj hcl) (by decide)
    have ha_it : a ≠ it := fun z => by
      obtain ⟨o, ho, hcl, _⟩ := pl.isList
      rw [z, hoi] at ho
      cases ho
      rw [hci] at hcl
      exact absurd (Value.type.inj hcl) (by decide)
    have sz : its.toArray.size = xs.length := by rw [List.size_toArray, ← rv.length]
    have W := WalksT.enumFrom (prog := X.prog) (w := X.w) (A := X.A) k (Draws.list (A := X.A.in1) (by exact I.ok.hd hc) it a ha_it its.toArray) e ne (fun z => by simp at z; exact z.elim ne ha_e.symm) (List.mem_cons_self)
    refine W.done s _ E (by rw [sz]; exact ⟨⟨old, ie⟩, li, pl.isList⟩) fun h' tk keep => ⟨rfl, ?_⟩
    exact I.turnedL (t' := tk) (ch := [e, it]) keep hf
  self := fun A i s Q E st q => by
    obtain ⟨⟨old, ie⟩, _⟩ := st
    exact wpAny_pyIter_enum ie q
section
variable {X : Cx} {K : PySem.W.Frag} {a : Addr} {xs : List V} {g : TG} {tb : TS} {Dn : Ends} {σ : L2.St} {H0 : Hp}
def iEnumS (K : PySem.W.Frag) (k : Int) (ta : TA) : TI := fun σ H R => ta σ H fun vs H1 => ∃ a xs, vs = [.ref a] ∧ SqL K H1 a xs ∧ R (ItS K a k) H1
theorem pi_enumS {elts : List Expr} {kk : Nat} {tpos p p2 pos kp : Pos} {e : Expr} {ta : TA} {k : Int} {j : Nat} (hg : Gl X "enumerate") (hm : X.mg "enumerate" = none) (h0 : -2 ^ 63 ≤ k) (h1 : k < 2 ^ 63) (ha : PA X [e] ta) (calm : X.calm = true)
    (hs : starEach [e] X.env = (false, eval e X.env) :: starEach [] X.env := by rfl) (hb : backTo pos (starEach [e] X.env) = (false, eval e X.env) :: backTo pos (starEach [] X.env) := by rfl) (hpl : (backTo pos (starEach [e] X.env)).any (·.1) = false := by rfl) :
    PI X (.Tuple elts kk tpos) (.Call (.Name "enumerate" p) [e] [⟨some "start", .Constant (.int k) j p2, kp⟩] pos) (iEnumS X.K k ta) := by
  refine ⟨fun pins s σ H R I h => ?_⟩
  refine wpAny_Call_Name_kw (ld_blt (u := Value.type "enumerate") I hg hm (by decide +kernel) ?_)
  refine PySem.W.callWith_of (P := fun _ => True) (by rw [hpl]; rfl) (fun _ _ => ⟨.machine, .inr (.inl rfl), fun _ _ _ _ _ q => wpAny_pure q⟩) ?_
  refine Rows.evalArgs_kw2 (by rfl) (thn (ha.run pos pins s σ H _ I h) fun us s1 ⟨vs, H1, I1, r1, q1⟩ => ?_) hs
  obtain ⟨a, xs, rfl, hq, q⟩ := q1
  obtain ⟨u1, rfl, e1⟩ := vals1 r1
  obtain rfl : u1 = Value.ref a := e1
  refine thn ((pk_cons (nm := some "start") pe_int pk_nil).run pos pins s1 σ H1 (fun zs G => zs = [V.int k] ∧ G = H1) I1 ⟨rfl, rfl⟩) fun ks s2 ⟨zs, G, I2, r2, ez, eG⟩ => ⟨trivial, ?_⟩
  subst ez eG
  obtain ⟨u2, rfl, ⟨t, rfl⟩⟩ := vals1 r2
  obtain ⟨its, rv, pl, hz⟩ := I2.list hq
  refine enum_begins_start (begins_list a its.toArray) pl.isList h0 h1 fun h' ie git size keep => ?_
  have J : Inv X pins σ G { s2 with heap := h' } := I2.kept (t' := s2.toks) keep
  refine wpAny_pyIter_enum (s := { s2 with heap := h' }) ie ⟨s2.heap.objs.size + 1, [s2.heap.objs.size + 1, s2.heap.objs.size], _, _, G, rfl, J, turn_enumS a (s2.heap.objs.size + 1) s2.heap.objs.size k, ⟨⟨.none, ?_⟩, ⟨_, git, rfl, rfl⟩, Nat.succ_ne_self _⟩, fun b hb => ?_, q⟩
  · show IsEnum h' (s2.heap.objs.size + 1) s2.heap.objs.size (k + ((0 : Nat) : Int)) .none
    rw [Int.natCast_zero, Int.add_zero]
    exact ie
  · have low : s2.heap.objs.size ≤ b := by
      have e : b = s2.heap.objs.size + 1 ∨ b = s2.heap.objs.size := by simpa using hb
      rcases e with e | e
      · rw [e]; exact Nat.le_succ _
      · rw [e]; exact Nat.le_refl _
    have q' := I2.fpOk low (I2.hok.fresh low)
    exact q'
/-- for i, x in enumerate(list, start=k) -/
theorem for_enumS {k : Int} (Pv : Nat → L2.St → Hp → Prop) (h0 : Pv 0 σ H0) (hl : ∀ i σ H, Pv i σ H → SqL K H a xs)
    (hs : ∀ (i : Nat) (x : V) (T : Addr) (σ : L2.St) (H : Hp), xs[i]? = some x → Pv i σ H → H T = none → g (.ref T) σ (upd H T (.tup [.int (k + (i : Nat)), x])) fun σ2 H2 => tb { Dn with nx := Pv (i + 1), ct := Pv (i + 1), bk := Dn.nx } σ2 H2) (hd : ∀ σ H, Pv xs.length σ H → Dn.nx σ H) :
    ∃ W : Nat → Nat → L2.St → Hp → Prop, (∃ m, W 0 m σ H0) ∧ ∀ i m σ H, W i m σ H →
      ((ItS K a k).stop i H ∧ Dn.nx σ H) ∨ ((ItS K a k).go i H ∧ ∃ N : L2.St → Hp → Prop, (∀ σ' H', N σ' H' → ∃ m', m' < m ∧ W (i + 1) m' σ' H') ∧ ∀ v H', (ItS K a k).yld i H v H' → g v σ H' fun σ2 H2 => tb { Dn with nx := N, ct := N, bk := Dn.nx } σ2 H2) := by
  refine ⟨fun i m σ H => m = xs.length - i ∧ i ≤ xs.length ∧ Pv i σ H, ⟨_, rfl, Nat.zero_le _, h0⟩, ?_⟩
  rintro i m σ H ⟨rfl, hi, pv⟩
  have qx := hl i σ H pv
  rcases Nat.lt_or_ge i xs.length with lt | ge
  · have ex : xs[i]? = some xs[i] := List.getElem?_eq_getElem lt
    refine .inr ⟨⟨xs, _, qx, ex⟩, Pv (i + 1), fun σ' H' p' => ⟨xs.length - (i + 1), by omega, rfl, lt, p'⟩, fun v H' y => ?_⟩
    obtain ⟨T, x, rfl, hT, rfl, same⟩ := y
    exact hs i x T σ H (same xs qx) pv hT
  · have e : i = xs.length := by omega
    subst e
    exact .inl ⟨⟨xs, qx, rfl⟩, hd σ H pv⟩
end
end LcM

/-! xs[::-1] of a list. -/
namespace LcM
open PySem PySem.Spec PyProof PyProof.Rows L2
theorem vals_revE : ∀ {xs : List V} {us : List Value}, Vals xs us → Vals xs.reverse us.reverse
  | _, _, .nil => .nil
  | _, _, .cons r t => by
    rw [List.reverse_cons, List.reverse_cons]
    exact (vals_revE t).append (.cons r .nil)
def tRev (K : PySem.W.Frag) (te : TE) : TE := fun σ H Q => te σ H fun x H1 => ∃ (a : Addr) (xs : List V), x = .ref a ∧ SqL K H1 a xs ∧ ∀ D, H1 D = none → Q (.ref D) (upd H1 D (.lst xs.reverse))
section
variable {X : Cx} {te : TE} {x : Str} {p p2 p3 p4 pos : Pos} {j : Nat}
theorem pe_rev (he : PE X (.Name x p) te) : PE X (.Subscript (.Name x p) (.Slice none none (some (.UnaryOp .USub (.Constant (.int 1) j p2) p3)) p4) pos) (tRev X.K te) := by
  refine ⟨fun pins s σ H Q I rd => ?_⟩
  refine Rows.Subscript_ (thn (he.run pins s σ H _ I rd) fun v s1 ⟨y, H1, I1, rv, a, xs, ey, hS, k⟩ => ?_)
  subst ey
  obtain rfl : v = Value.ref a := rv
  refine wpAny_Slice (wpAny_pure (wpAny_pure (thn ((po_some (pe_un un_neg pe_int)).run pins s1 σ H1 (fun o G => o = some (-1) ∧ G = H1) I1 ?_) fun st s2 ⟨o, G, I2, ip, eo, eG⟩ => ?_)))
  · exact ⟨1, rfl, -1, rfl, rfl, rfl⟩
  · subst eo eG
    obtain ⟨its, rvs, pl, hz⟩ := I2.list hS
    have up : ∀ b o, s2.heap.get? b = some o → (s2.heap.push { cls := .type "slice", data := .fields #[.none, .none, st] }).get? b = some o := fun b o q => Heap.get?_push_of_some _ q
    have isl := (pl.keeps up).isList
    have gs : (s2.heap.push { cls := .type "slice", data := .fields #[.none, .none, st] }).get? s2.heap.objs.size = some { cls := .type "slice", data := .fields #[.none, .none, st] } := Heap.get?_push_size _ rfl
    refine Rows.subscriptTail_ops (T := "list") (id := "list.__getitem__") ?_ PySem.F.slot_list_getitem.lookup (wpAny_getItem_list_slice isl ⟨_, gs, rfl, rfl⟩ .none .none ip (by decide) ?_ (by rw [List.size_toArray, ← rvs.length]; exact hz)) rfl fun _ => rfl
    · exact isl.typeIs (s := { s2 with heap := s2.heap.push { cls := .type "slice", data := .fields #[.none, .none, st] } })
    · rw [PySem.W.krv_pick]
      have big : s2.heap.objs.size ≤ (s2.heap.push { cls := .type "slice", data := .fields #[.none, .none, st] }).objs.size := by
        rw [Heap.size_push]
        exact Nat.le_succ _
      refine ⟨.ref _, upd G _ (.lst xs.reverse), I2.laid (t' := s2.toks) (fun b o q => Heap.get?_push_of_some _ (up b o q)) big ⟨?_, its.reverse, 0, ?_, ?_⟩, rfl, k _ (I2.hok.fresh big)⟩
      · rw [List.length_reverse]
        exact hz
      · exact vals_revE rvs
      · exact Heap.get?_push_size _ rfl
end
end LcM

/-! for i, (a, b) in enumerate(zip(xs, ys)): a zip that an enumerate walks. -/
namespace EnZ
open PySem PySem.Spec PyProof PyProof.Rows L2 LcM
/-- a zip, whatever it says of the tuple that it gave out -/
abbrev ZAt (h : Heap) (z TI TO : Addr) (o : Value) (f : Bool) : Prop :=
  h.get? z = some { cls := .type "zip", dict := none, data := .fields #[o, .bool f, .bool false, .ref TI, .ref TO], slots := #[] }
section
variable {prog : Program} {w : World} {A : Around} {E : Value → Shared → Prop} {s : Shared}
def Free (prog : Program) (w : World) (z : Addr) (s : Shared) : Prop := ∀ (A : Around) (Q : Bool → Shared → Prop) (E : Value → Shared → Prop), Q true s → wpAny (model prog w) A (Builtin.SmallTypes.ownedTupleIsFree (.ref z)) Q E s
theorem free_none {z TI TO : Addr} {f : Bool} (az : ZAt s.heap z TI TO .none f) : Free prog w z s := fun A Q E q => by
  unfold Builtin.SmallTypes.ownedTupleIsFree
  exact wpAny_bind (wpAny_field az rfl (x := .none) rfl (wpAny_pure q))
theorem free_dead {z TI TO T : Addr} {f : Bool} (az : ZAt s.heap z TI TO (rawInt T) f) (gone : s.heap.get? T = none) : Free prog w z s := fun A Q E q => by
  unfold Builtin.SmallTypes.ownedTupleIsFree
  refine wpAny_bind (wpAny_field az rfl (x := rawInt T) rfl ?_)
  have look : wpAny (model prog w) A (loadIfAlive T) (fun r s' => r = none ∧ s' = s) E s := fun _ _ _ => ⟨gone, rfl⟩
  show wpAny _ _ (loadIfAlive ((T : Int).toNat) >>= fun r => _) _ _ _
  rw [Int.toNat_natCast]
  refine wpAny_bind (wpAny_mono look (fun r s' h => ?_) fun _ _ x => x)
  obtain ⟨rfl, rfl⟩ := h
  exact wpAny_pure q
/-- the next pair, where the own tuple is free -/
theorem item_free {z TI TO i1 i2 a b : Addr} {m n : Nat} {xs ys : Array Value} {x y p q o : Value} {f : Bool} {R : Value → Shared → Prop} (D : ZipApart z TI TO i1 i2 a b) (free : Free prog w z s) (az : ZAt s.heap z TI TO o f) (aI : IsPair s.heap TI (.ref i1) (.ref i2)) (aO : IsPair s.heap TO p q)
    (l1 : s.heap.IsListIter i1 a m) (l2 : s.heap.IsListIter i2 b n) (ls1 : s.heap.IsList a xs) (ls2 : s.heap.IsList b ys) (ex : xs[m]? = some x) (ey : ys[n]? = some y)
    (then_ : ∀ h', ZAt h' z TI TO (rawInt s.heap.objs.size) false → IsPair h' TO x y → h'.IsListIter i1 a (m + 1) → h'.IsListIter i2 b (n + 1) → IsPair h' s.heap.objs.size x y → h'.objs.size = s.heap.objs.size + 1 →
      (∀ c u, c ≠ z → c ≠ TO → c ≠ i1 → c ≠ i2 → s.heap.get? c = some u → h'.get? c = some u) → R (.ref s.heap.objs.size) { s with heap := h' }) :
    wpAny (model prog w) A (Builtin.«zip.__next__» ⟨[.ref z], []⟩) (fun fin s' => ∃ v, fin = .done (.ret v) ∧ R v s') E s := by
  show wpAny _ _ (field (.ref z) 2 >>= fun t => _) _ _ _
  refine wpAny_bind (wpAny_field az rfl (x := .bool false) rfl ?_)
  show wpAny _ _ (field (.ref z) 3 >>= fun t => _) _ _ _
  refine wpAny_bind (wpAny_field az rfl (x := .ref TI) rfl (wpAny_bind (wpAny_seqItems aI rfl ?_)))
  show wpAny _ _ (Builtin.SmallTypes.ownedTupleIsFree (.ref z) >>= fun t => _) _ _ _
  refine wpAny_bind (free _ _ _ ?_)
  simp only [if_true]
  refine wpAny_bind (wpAny_rule (wpAny_bind (wpAny_field az rfl (x := .ref TO) rfl (wpAny_bind (wpAny_setField_rec az (by simp) fun g1 z1 s1 => ?_)))))
  replace z1 : ZAt g1 z TI TO .ellipsis f := z1
  simp only [List.zipIdx_cons, List.zipIdx_nil, List.forIn_cons, List.forIn_nil]
  refine wpAny_bind (wpAny_bind (wpAny_bind (wpAny_onRaise ?_)))
  show wpAny _ _ (Builtin.SmallTypes.nextOf (.ref i1) >>= fun t => _) _ _ _
  refine wpAny_bind (wpAny_nextOf_list_item (l1.extBut s1.extBut D.i1z) (ls1.extBut s1.extBut D.l1z) ex fun g2 j1 s2 => wpAny_pure ?_)
  have o2 : IsPair g2 TO p q := s2.extBut _ _ D.TOi1 (s1.extBut _ _ D.TOz aO)
  refine wpAny_bind (wpAny_seqItems o2 rfl (wpAny_bind (wpAny_updateSeq_pair o2 fun g3 o3 s3 => ?_)))
  replace o3 : IsPair g3 TO x q := o3
  refine wpAny_bind (wpAny_letGo (wpAny_pure ?_))
  refine wpAny_bind (wpAny_bind (wpAny_onRaise ?_))
  show wpAny _ _ (Builtin.SmallTypes.nextOf (.ref i2) >>= fun t => _) _ _ _
  have l2' := ((l2.extBut s1.extBut D.i2z).extBut s2.extBut D.i12.symm).extBut s3.extBut D.TOi2.symm
  have ls2' := ((ls2.extBut s1.extBut D.l2z).extBut s2.extBut D.l2i1).extBut s3.extBut D.l2TO
  refine wpAny_bind (wpAny_nextOf_list_item l2' ls2' ey fun g4 j2 s4 => wpAny_pure ?_)
  have o4 : IsPair g4 TO x q := s4.extBut _ _ D.TOi2 o3
  refine wpAny_bind (wpAny_seqItems o4 rfl (wpAny_bind (wpAny_updateSeq_pair o4 fun g5 o5 s5 => ?_)))
  replace o5 : IsPair g5 TO x y := o5
  refine wpAny_bind (wpAny_letGo (wpAny_pure (wpAny_pure ?_)))
  refine wpAny_bind (wpAny_seqItems o5 rfl (wpAny_bind (wpAny_newTuple ?_)))
  have size : g5.objs.size = s.heap.objs.size := by rw [s5.1, s4.1, s3.1, s2.1, s1.1]
  have z5 : ZAt g5 z TI TO .ellipsis f := s5.extBut _ _ D.TOz.symm (s4.extBut _ _ D.i2z.symm (s3.extBut _ _ D.TOz.symm (s2.extBut _ _ D.i1z.symm z1)))
  have stays : ∀ c u, c ≠ z → c ≠ TO → c ≠ i1 → c ≠ i2 → s.heap.get? c = some u → g5.get? c = some u := fun c u n1 n2 n3 n4 e =>
    s5.extBut _ _ n2 (s4.extBut _ _ n4 (s3.extBut _ _ n2 (s2.extBut _ _ n3 (s1.extBut _ _ n1 e))))
  have m1 : g5.IsListIter i1 a (m + 1) := ((j1.extBut s3.extBut D.TOi1.symm).extBut s4.extBut D.i12).extBut s5.extBut D.TOi1.symm
  have m2 : g5.IsListIter i2 b (n + 1) := j2.extBut s5.extBut D.TOi2.symm
  have low : z < g5.objs.size := Heap.lt_size z5
  show wpAny _ _ (Builtin.SmallTypes.ownedTupleHandOut (.ref z) (.ref g5.objs.size) >>= fun t => _) _ _ _
  refine wpAny_bind ?_
  unfold Builtin.SmallTypes.ownedTupleHandOut
  have z6 : ZAt (g5.push { cls := .type "tuple", data := .seq #[x, y] }) z TI TO .ellipsis f := Heap.get?_push_of_some _ z5
  refine wpAny_bind (wpAny_setField_rec z6 (by simp) fun g7 z7 s7 => ?_)
  replace z7 : ZAt g7 z TI TO (rawInt g5.objs.size) f := z7
  refine wpAny_setField_rec z7 (by simp) fun g8 z8 s8 => ?_
  replace z8 : ZAt g8 z TI TO (rawInt g5.objs.size) false := z8
  have up : ∀ c u, c ≠ z → g5.get? c = some u → g8.get? c = some u := fun c u n1 e => s8.extBut _ _ n1 (s7.extBut _ _ n1 (Heap.get?_push_of_some _ e))
  have new : IsPair g8 g5.objs.size x y := s8.extBut _ _ (Nat.ne_of_gt low) (s7.extBut _ _ (Nat.ne_of_gt low) (Heap.get?_push_size _ rfl))
  have one : g8.objs.size = g5.objs.size + 1 := by rw [s8.1, s7.1, Heap.size_push]
  rw [size] at z8 new one
  refine wpAny_pure ⟨_, rfl, ?_⟩
  show R (.ref g5.objs.size) _
  rw [size]
  exact then_ g8 z8 (up _ _ D.TOz o5) (m1.at fun u e => up _ u D.i1z e) (m2.at fun u e => up _ u D.i2z e) new one fun c u n1 n2 n3 n4 e => up c u n1 (stays c u n1 n2 n3 n4 e)
/-- no more pairs, where the own tuple is free -/
theorem end_free {z TI TO i1 i2 a b : Addr} {m n : Nat} {xs ys : Array Value} {p q o : Value} {f : Bool} {R : Fin → Shared → Prop} (calm : A.handled = none) (D : ZipApart z TI TO i1 i2 a b) (free : Free prog w z s) (az : ZAt s.heap z TI TO o f) (aI : IsPair s.heap TI (.ref i1) (.ref i2)) (aO : IsPair s.heap TO p q)
    (l1 : s.heap.IsListIter i1 a m) (l2 : s.heap.IsListIter i2 b n) (ls1 : s.heap.IsList a xs) (ls2 : s.heap.IsList b ys) (no : xs[m]? = none ∨ ys[n]? = none)
    (out : ∀ h' e, (∀ c u, c ≠ z → c ≠ TO → c ≠ i1 → c ≠ i2 → s.heap.get? c = some u → h'.get? c = some u) → (∃ u, h'.get? e = some u ∧ u.cls = .type "StopIteration") → E (.ref e) { s with heap := h' }) :
    wpAny (model prog w) A (Builtin.«zip.__next__» ⟨[.ref z], []⟩) R E s := by
  show wpAny _ _ (field (.ref z) 2 >>= fun t => _) _ _ _
  refine wpAny_bind (wpAny_field az rfl (x := .bool false) rfl ?_)
  show wpAny _ _ (field (.ref z) 3 >>= fun t => _) _ _ _
  refine wpAny_bind (wpAny_field az rfl (x := .ref TI) rfl (wpAny_bind (wpAny_seqItems aI rfl ?_)))
  show wpAny _ _ (Builtin.SmallTypes.ownedTupleIsFree (.ref z) >>= fun t => _) _ _ _
  refine wpAny_bind (free _ _ _ ?_)
  simp only [if_true]
  refine wpAny_bind (wpAny_rule (wpAny_bind (wpAny_field az rfl (x := .ref TO) rfl (wpAny_bind (wpAny_setField_rec az (by simp) fun g1 z1 s1 => ?_)))))
  replace z1 : ZAt g1 z TI TO .ellipsis f := z1
  simp only [List.zipIdx_cons, List.zipIdx_nil, List.forIn_cons, List.forIn_nil]
  refine wpAny_bind (wpAny_bind (wpAny_bind (wpAny_onRaise ?_)))
  show wpAny _ _ (Builtin.SmallTypes.nextOf (.ref i1) >>= fun t => _) _ _ _
  rcases Option.eq_none_or_eq_some xs[m]? with hx | ⟨x, hx⟩
  · refine wpAny_bind (wpAny_nextOf_list_end calm (l1.extBut s1.extBut D.i1z) (ls1.extBut s1.extBut D.l1z) hx fun g2 e s2 he => ?_)
    obtain ⟨oe, ge, ce⟩ := he
    have z2 : ZAt g2 z TI TO .ellipsis f := s2 _ _ D.i1z.symm z1
    have ez : e ≠ z := fun t => by
      rw [t, z2] at ge
      cases ge
      simp at ce
    exact wpAny_setField_rec z2 (by simp) fun g3 _ s3 => out g3 e (fun c u n1 _ n3 _ t => s3.extBut _ _ n1 (s2 _ _ n3 (s1.extBut _ _ n1 t))) ⟨oe, s3.extBut _ _ ez ge, ce⟩
  · have hy : ys[n]? = none := no.resolve_left fun t => by
      rw [hx] at t
      cases t
    refine wpAny_bind (wpAny_nextOf_list_item (l1.extBut s1.extBut D.i1z) (ls1.extBut s1.extBut D.l1z) hx fun g2 j1 s2 => wpAny_pure ?_)
    have o2 : IsPair g2 TO p q := s2.extBut _ _ D.TOi1 (s1.extBut _ _ D.TOz aO)
    refine wpAny_bind (wpAny_seqItems o2 rfl (wpAny_bind (wpAny_updateSeq_pair o2 fun g3 o3 s3 => ?_)))
    refine wpAny_bind (wpAny_letGo (wpAny_pure ?_))
    refine wpAny_bind (wpAny_bind (wpAny_onRaise ?_))
    show wpAny _ _ (Builtin.SmallTypes.nextOf (.ref i2) >>= fun t => _) _ _ _
    have l2' := ((l2.extBut s1.extBut D.i2z).extBut s2.extBut D.i12.symm).extBut s3.extBut D.TOi2.symm
    have ls2' := ((ls2.extBut s1.extBut D.l2z).extBut s2.extBut D.l2i1).extBut s3.extBut D.l2TO
    refine wpAny_bind (wpAny_nextOf_list_end calm l2' ls2' hy fun g4 e s4 he => ?_)
    obtain ⟨oe, ge, ce⟩ := he
    have z4 : ZAt g4 z TI TO .ellipsis f := s4 _ _ D.i2z.symm (s3.extBut _ _ D.TOz.symm (s2.extBut _ _ D.i1z.symm z1))
    have ez : e ≠ z := fun t => by
      rw [t, z4] at ge
      cases ge
      simp at ce
    exact wpAny_setField_rec z4 (by simp) fun g5 _ s5 => out g5 e (fun c u n1 n2 n3 n4 t => s5.extBut _ _ n1 (s4 _ _ n4 (s3.extBut _ _ n2 (s2.extBut _ _ n3 (s1.extBut _ _ n1 t))))) ⟨oe, s5.extBut _ _ ez ge, ce⟩
/-- a zip between two pairs -/
def ZSt (h : Heap) (z TI TO i1 i2 a b : Addr) (k : Nat) : Prop :=
  (∃ o f, ZAt h z TI TO o f ∧ (o = .none ∨ ∃ T : Addr, o = rawInt T)) ∧ IsPair h TI (.ref i1) (.ref i2) ∧ (∃ x y, IsPair h TO x y) ∧ h.IsListIter i1 a k ∧ h.IsListIter i2 b k
theorem next_item {z TI TO i1 i2 a b : Addr} {k : Nat} {xs ys : Array Value} {x y : Value} {R : Value → Shared → Prop} (D : ZipApart z TI TO i1 i2 a b) (st : ZSt s.heap z TI TO i1 i2 a b k) (ls1 : s.heap.IsList a xs) (ls2 : s.heap.IsList b ys) (ex : xs[k]? = some x) (ey : ys[k]? = some y)
    (then_ : ∀ h', ZSt h' z TI TO i1 i2 a b (k + 1) → IsPair h' s.heap.objs.size x y → h'.objs.size = s.heap.objs.size + 1 →
      (∀ c u, c ≠ z → c ≠ TO → c ≠ i1 → c ≠ i2 → s.heap.get? c = some u → h'.get? c = some u) → R (.ref s.heap.objs.size) { s with heap := h' }) :
    wpAny (model prog w) A (Builtin.SmallTypes.nextOf (.ref z)) R E s := by
  obtain ⟨⟨o, f, az, ho⟩, aI, ⟨p, q, aO⟩, l1, l2⟩ := st
  have ty : s.TypeIs (.ref z) "zip" := ⟨_, az, rfl⟩
  unfold Builtin.SmallTypes.nextOf
  refine wpAny_bind (wpAny_callSpecial?_slot (name := Str.ofString "__next__") ty F.slot_zip_next (wpAny_call_entry F.slot_zip_next ty F.entry_zip_next ?_ (F.args_zip_next_1 _)))
  have byFree : Free prog w z s → wpAny (model prog w) A.in1 (Builtin.«zip.__next__» ⟨[.ref z], []⟩) (fun fin s' => ∃ v, fin = .done (.ret v) ∧ wpAny (model prog w) A (pure v) R E s') E s := fun fr =>
    item_free D fr az aI aO l1 l2 ls1 ls2 ex ey fun h' b1 b2 b3 b4 b5 b6 b7 => wpAny_pure (then_ h' ⟨⟨_, _, b1, .inr ⟨_, rfl⟩⟩, b7 _ _ D.TIz D.TITO D.TIi1 D.TIi2 aI, ⟨_, _, b2⟩, b3, b4⟩ b5 b6 b7)
  rcases ho with rfl | ⟨T, rfl⟩
  · exact byFree (free_none az)
  · rcases Option.eq_none_or_eq_some (s.heap.get? T) with gone | ⟨oT, here⟩
    · exact byFree (free_dead az gone)
    · exact zip_next_item_held D az here aI l1 l2 ls1 ls2 ex ey fun h' b1 b3 b4 b5 b6 b7 => wpAny_pure (then_ h' ⟨⟨_, _, b1, .inr ⟨_, rfl⟩⟩, b7 _ _ D.TIz D.TIi1 D.TIi2 aI, ⟨p, q, b7 _ _ D.TOz D.TOi1 D.TOi2 aO⟩, b3, b4⟩ b5 b6 fun c u n1 _ n3 n4 e => b7 c u n1 n3 n4 e)
theorem next_end {z TI TO i1 i2 a b : Addr} {k : Nat} {xs ys : Array Value} {R : Value → Shared → Prop} (calm : A.handled = none) (D : ZipApart z TI TO i1 i2 a b) (st : ZSt s.heap z TI TO i1 i2 a b k) (ls1 : s.heap.IsList a xs) (ls2 : s.heap.IsList b ys) (no : xs[k]? = none ∨ ys[k]? = none)
    (out : ∀ h' e, (∀ c u, c ≠ z → c ≠ TO → c ≠ i1 → c ≠ i2 → s.heap.get? c = some u → h'.get? c = some u) → (∃ u, h'.get? e = some u ∧ u.cls = .type "StopIteration") → E (.ref e) { s with heap := h' }) :
    wpAny (model prog w) A (Builtin.SmallTypes.nextOf (.ref z)) R E s := by
  obtain ⟨⟨o, f, az, ho⟩, aI, ⟨p, q, aO⟩, l1, l2⟩ := st
  have ty : s.TypeIs (.ref z) "zip" := ⟨_, az, rfl⟩
  unfold Builtin.SmallTypes.nextOf
  refine wpAny_bind (wpAny_callSpecial?_slot (name := Str.ofString "__next__") ty F.slot_zip_next (wpAny_call_entry F.slot_zip_next ty F.entry_zip_next ?_ (F.args_zip_next_1 _)))
  rcases ho with rfl | ⟨T, rfl⟩
  · exact end_free calm D (free_none az) az aI aO l1 l2 ls1 ls2 no out
  · rcases Option.eq_none_or_eq_some (s.heap.get? T) with gone | ⟨oT, here⟩
    · exact end_free calm D (free_dead az gone) az aI aO l1 l2 ls1 ls2 no out
    · exact zip_next_end_held calm D az here aI l1 l2 ls1 ls2 no fun h' e kp he => out h' e (fun c u n1 _ n3 n4 t => kp c u n1 n3 n4 t) he
end
end EnZ

namespace EnZ
open PySem PySem.Spec PyProof PyProof.Rows L2 LcM
section
variable {prog : Program} {w : World} {A : Around} {E : Value → Shared → Prop} {s : Shared}
/-- enumerate's next, over an iterator that makes an object at each turn -/
theorem enum_next {e it : Addr} {c : Int} {old : Value} {P : Value → Heap → Prop} {R : Value → Shared → Prop} (ae : IsEnum s.heap e it c old)
    (inner : ∀ F : Value → Shared → Prop, (∀ x h', P x h' → s.heap.objs.size ≤ h'.objs.size → h'.get? e = s.heap.get? e → F x { s with heap := h' }) → wpAny (model prog w) A (Builtin.SmallTypes.nextOf (.ref it)) F E s)
    (then_ : ∀ x g1 h', P x g1 → s.heap.objs.size ≤ g1.objs.size → IsEnumOut h' e it (c + 1) x g1.objs.size → h'.get? g1.objs.size = some { cls := .type "tuple", data := .seq #[.int c s.toks, x] } →
      h'.objs.size = g1.objs.size + 1 → (∀ b u, b ≠ e → g1.get? b = some u → h'.get? b = some u) → R (.ref g1.objs.size) { s with heap := h', toks := s.toks + 1 }) :
    wpAny (model prog w) A (Builtin.«enumerate.__next__» ⟨[.ref e], []⟩) (fun fin s' => ∃ v, fin = .done (.ret v) ∧ R v s') E s := by
  obtain ⟨hp, g, d, t0, os⟩ := s
  show wpAny _ _ (field (.ref e) 2 >>= fun t => _) _ _ _
  refine wpAny_bind (wpAny_field ae rfl (x := .ref it) rfl (wpAny_bind (inner _ fun x g1 px le same => ?_)))
  have e1 : IsEnum g1 e it c old := same.trans ae
  replace le : hp.objs.size ≤ g1.objs.size := le
  have low : e < g1.objs.size := Heap.lt_size e1
  show wpAny _ _ (field (.ref e) 3 >>= fun t => _) _ _ ⟨g1, g, d, t0, os⟩
  refine wpAny_bind (wpAny_field e1 rfl (x := rawInt c) rfl ?_)
  show wpAny _ _ (field (.ref e) 4 >>= fun t => _) _ _ ⟨g1, g, d, t0, os⟩
  refine wpAny_bind (wpAny_field e1 rfl (x := .none) rfl ?_)
  show wpAny _ _ (mkInt c >>= fun t => _) _ _ ⟨g1, g, d, t0, os⟩
  refine wpAny_bind (wpAny_mkInt ?_)
  show wpAny _ _ (setField (.ref e) 3 (rawInt (c + 1)) >>= fun t => _) _ _ ⟨g1, g, d, t0 + 1, os⟩
  refine wpAny_bind (wpAny_setField_rec e1 (by simp) fun g2 e2 s2 => ?_)
  replace s2 : Heap.SameBut e g1 g2 := s2
  replace e2 : IsEnum g2 e it (c + 1) old := e2
  show wpAny _ _ (setField (.ref e) 4 .none >>= fun t => _) _ _ ⟨g2, g, d, t0 + 1, os⟩
  refine wpAny_bind (wpAny_setField_rec e2 (by simp) fun g3 e3 s3 => ?_)
  replace s3 : Heap.SameBut e g2 g3 := s3
  replace e3 : IsEnum g3 e it (c + 1) old := e3
  show wpAny _ _ (newTuple [.int c t0, x] >>= fun t => _) _ _ ⟨g3, g, d, t0 + 1, os⟩
  refine wpAny_bind (wpAny_newTuple ?_)
  have size : g3.objs.size = g1.objs.size := by rw [s3.1, s2.1]
  obtain ⟨g4, h4⟩ : ∃ g4, g4 = g3.push { cls := .type "tuple", data := .seq #[.int c t0, x] } := ⟨_, rfl⟩
  have e4 : IsEnum g4 e it (c + 1) old := by
    rw [h4]
    exact Heap.get?_push_of_some _ e3
  have t4 : g4.get? g1.objs.size = some { cls := .type "tuple", data := .seq #[.int c t0, x] } := by
    rw [h4, ← size]
    exact Heap.get?_push_size _ rfl
  have n4 : g4.objs.size = g1.objs.size + 1 := by rw [h4, Heap.size_push, size]
  have k4 : ∀ b u, b ≠ e → g1.get? b = some u → g4.get? b = some u := fun b u n q => by
    rw [h4]
    exact Heap.get?_push_of_some _ (s3.extBut b u n (s2.extBut b u n q))
  show wpAny _ _ (Builtin.SmallTypes.ownedTupleIsFree (.ref e) >>= fun t => _) _ _ ⟨g3.push { cls := .type "tuple", data := .seq #[.int c t0, x] }, g, d, t0 + 1, os⟩
  rw [size, ← h4]
  refine wpAny_bind ?_
  unfold Builtin.SmallTypes.ownedTupleIsFree
  refine wpAny_bind (wpAny_field e4 rfl (x := .none) rfl (wpAny_pure ?_))
  simp only [if_true]
  refine wpAny_bind (wpAny_rule (wpAny_bind (wpAny_field e4 rfl (x := old) rfl (wpAny_bind (wpAny_setField_rec e4 (by simp) fun g5 e5 s5 => ?_)))))
  replace s5 : Heap.SameBut e g4 g5 := s5
  replace e5 : IsEnum g5 e it (c + 1) x := e5
  show wpAny _ _ (Builtin.SmallTypes.ownedTupleHandOut (.ref e) (.ref g1.objs.size) >>= fun t => _) _ _ ⟨g5, g, d, t0 + 1, os⟩
  refine wpAny_bind ?_
  unfold Builtin.SmallTypes.ownedTupleHandOut
  refine wpAny_bind (wpAny_setField_rec e5 (by simp) fun g6 e6 s6 => ?_)
  replace s6 : Heap.SameBut e g5 g6 := s6
  replace e6 : IsEnumOut g6 e it (c + 1) x g1.objs.size := e6
  refine wpAny_setField_rec e6 (by simp) fun g7 e7 s7 => ?_
  replace s7 : Heap.SameBut e g6 g7 := s7
  replace e7 : IsEnumOut g7 e it (c + 1) x g1.objs.size := e7
  have up : ∀ b u, b ≠ e → g4.get? b = some u → g7.get? b = some u := fun b u n q => s7.extBut b u n (s6.extBut b u n (s5.extBut b u n q))
  refine wpAny_bind (wpAny_letGo (wpAny_pure ⟨_, rfl, then_ x g1 g7 px le e7 (up _ _ (Nat.ne_of_gt low) t4) ?_ fun b u n q => up b u n (k4 b u n q)⟩))
  rw [s7.1, s6.1, s5.1, n4]
theorem py_next {e it : Addr} {c : Int} {old : Value} {P : Value → Heap → Prop} {R : Option Value → Shared → Prop} (ae : IsEnum s.heap e it c old)
    (inner : ∀ F : Value → Shared → Prop, ∀ E' : Value → Shared → Prop, (∀ x h', P x h' → s.heap.objs.size ≤ h'.objs.size → h'.get? e = s.heap.get? e → F x { s with heap := h' }) → wpAny (model prog w) A.in1 (Builtin.SmallTypes.nextOf (.ref it)) F E' s)
    (then_ : ∀ x g1 h', P x g1 → s.heap.objs.size ≤ g1.objs.size → IsEnumOut h' e it (c + 1) x g1.objs.size → h'.get? g1.objs.size = some { cls := .type "tuple", data := .seq #[.int c s.toks, x] } →
      h'.objs.size = g1.objs.size + 1 → (∀ b u, b ≠ e → g1.get? b = some u → h'.get? b = some u) → R (some (.ref g1.objs.size)) { s with heap := h', toks := s.toks + 1 }) :
    wpAny (model prog w) A (pyNext (.ref e)) R E s := by
  have ty : s.TypeIs (.ref e) "enumerate" := ⟨_, ae, rfl⟩
  unfold pyNext
  refine wpAny_bind (wpAny_attempt (wpAny_callSpecial?_slot (name := Str.ofString "__next__") ty F.slot_enumerate_next (wpAny_call_entry F.slot_enumerate_next ty F.entry_enumerate_next ?_ (F.args_enumerate_next_1 _))))
  exact enum_next ae (fun F => inner F _) fun x g1 h' a1 a2 a3 a4 a5 a6 => wpAny_pure (then_ x g1 h' a1 a2 a3 a4 a5 a6)
theorem py_end {e it : Addr} {c : Int} {old : Value} {P : Heap → Prop} {R : Option Value → Shared → Prop} (ae : IsEnum s.heap e it c old)
    (inner : ∀ F E' : Value → Shared → Prop, (∀ h' x, P h' → (∃ u, h'.get? x = some u ∧ u.cls = .type "StopIteration") → E' (.ref x) { s with heap := h' }) → wpAny (model prog w) A.in1 (Builtin.SmallTypes.nextOf (.ref it)) F E' s)
    (then_ : ∀ h', P h' → R none { s with heap := h' }) : wpAny (model prog w) A (pyNext (.ref e)) R E s := by
  have ty : s.TypeIs (.ref e) "enumerate" := ⟨_, ae, rfl⟩
  unfold pyNext
  refine wpAny_bind (wpAny_attempt (wpAny_callSpecial?_slot (name := Str.ofString "__next__") ty F.slot_enumerate_next (wpAny_call_entry F.slot_enumerate_next ty F.entry_enumerate_next ?_ (F.args_enumerate_next_1 _))))
  show wpAny _ _ (field (.ref e) 2 >>= fun t => _) _ _ _
  refine wpAny_bind (wpAny_field ae rfl (x := .ref it) rfl (wpAny_bind (inner _ _ fun h' x ph hx => ?_)))
  obtain ⟨u, gu, cu⟩ := hx
  exact wpAny_bind (wpAny_isInstance (T := "StopIteration") (b := true) ⟨u, gu, cu⟩ isSubtype_stop (wpAny_pure (then_ _ ph)))
/-- enumerate(z), z a zip: one new cell -/
theorem new_over {z TI TO : Addr} {o : Value} (az : IsZip s.heap z TI TO o) {R : Value → Shared → Prop}
    (then_ : ∀ h', IsEnum h' s.heap.objs.size z 0 .none → h'.objs.size = s.heap.objs.size + 1 → (∀ b u, s.heap.get? b = some u → h'.get? b = some u) → R (.ref s.heap.objs.size) { s with heap := h' }) :
    wpAny (model prog w) A (call (.type "enumerate") [.ref z]) R E s := by
  have M : Meets (Builtin.«enumerate.__new__» ⟨[.type "enumerate", .ref z], []⟩) (fun _ R s => IsZip s.heap z TI TO o ∧ R (.ok (.ret (.ref s.heap.objs.size))) { s with heap := s.heap.push { cls := .type "enumerate", data := .fields #[.none, .bool false, .ref z, rawInt 0, .none, .none] } }) :=
    .of_wp fun prog w A R s h => by
      obtain ⟨hp, g, d, tk, os⟩ := s
      obtain ⟨h1, h⟩ := h
      have hsub := sub_enumerate
      have q1 : ∀ {A' : Around} {E : Value → Shared → Prop} {Q : Value → Shared → Prop}, Q (.ref z) ⟨hp, g, d, tk, os⟩ → wpAny (model prog w) A' (pyIter (.ref z)) Q E ⟨hp, g, d, tk, os⟩ := fun q => wpAny_pyIter_zip (s := ⟨hp, g, d, tk, os⟩) h1 q
      wp_walk using q1
      refine wpAny_stack_any fun top => wpAny_pure ?_
      split <;> first
        | (wp_walk using q1; exact ⟨_, rfl, h⟩)
        | (rename_i own _ _ _ _ _
           cases (own == Value.type "enumerate") <;> (wp_walk using q1; exact ⟨_, rfl, h⟩))
  refine callType_new F.called_enumerate (by decide) (F.typeCall_enumerate_1 _) (F.newCall_enumerate_1 _) (fun obj => F.args_object_init_2 obj _) F.entry_enumerate_new M ⟨az, ?_⟩
  have he : IsEnum (s.heap.push { cls := .type "enumerate", data := .fields #[.none, .bool false, .ref z, rawInt 0, .none, .none] }) s.heap.objs.size z 0 .none := Heap.get?_push_size _ rfl
  refine ⟨⟨_, he, rfl⟩, then_ _ he (Heap.size_push ..) fun b u q => Heap.get?_push_of_some _ q⟩
end
end EnZ

namespace EnZ
open PySem PySem.Spec PyProof PyProof.Rows L2 LcM
/-- enumerate(zip(a, b)): each pair new, and the place and the pair in a new tuple -/
def ItZ (K : PySem.W.Frag) (a b : Addr) : It where
  go := fun i H => ∃ (xs ys : List V) (x y : V), SqL K H a xs ∧ SqL K H b ys ∧ xs[i]? = some x ∧ ys[i]? = some y
  yld := fun i H v H' => ∃ S T x y, v = .ref T ∧ H S = none ∧ H T = none ∧ S ≠ T ∧ H' = upd (upd H S (.tup [x, y])) T (.tup [.int (i : Nat), .ref S]) ∧ (∀ xs, SqL K H a xs → xs[i]? = some x) ∧ ∀ ys, SqL K H b ys → ys[i]? = some y
  stop := fun i H => ∃ xs ys : List V, SqL K H a xs ∧ SqL K H b ys ∧ (xs.length ≤ i ∨ ys.length ≤ i)
theorem turn_enZ {P : Program} {w : World} {K : PySem.W.Frag} {elts : List Expr} {kk : Nat} {tpos : Pos} {a b e z TI TO i1 i2 : Addr} (D : ZipApart z TI TO i1 i2 a b) (ez : e ≠ z) (eI : e ≠ TI) (eO : e ≠ TO) (e1 : e ≠ i1) (e2 : e ≠ i2) :
    Turn P w K (.Tuple elts kk tpos) (ItZ K a b) [e, z, TI, TO, i1, i2] e (fun i h => (∃ old, IsEnum h e z (i : Nat) old) ∧ ZSt h z TI TO i1 i2 a b i) where
  mem := by simp
  obj := fun i h st c hc => by
    obtain ⟨⟨old, ie⟩, ⟨o, f, az, _⟩, aI, ⟨x, y, aO⟩, ⟨o1, g1, _, d1⟩, ⟨o2, g2, _, d2⟩⟩ := st
    have q : c = e ∨ c = z ∨ c = TI ∨ c = TO ∨ c = i1 ∨ c = i2 := by simpa using hc
    rcases q with q | q | q | q | q | q <;> rw [q]
    · exact ⟨_, ie, fun v t => nomatch t⟩
    · exact ⟨_, az, fun v t => nomatch t⟩
    · exact ⟨_, aI, fun v t => nomatch t⟩
    · exact ⟨_, aO, fun v t => nomatch t⟩
    · exact ⟨o1, g1, fun v t => by rw [d1] at t; cases t⟩
    · exact ⟨o2, g2, fun v t => by rw [d2] at t; cases t⟩
  keep := fun i h h' st k => by
    obtain ⟨⟨old, ie⟩, ⟨o, f, az, ho⟩, aI, ⟨x, y, aO⟩, l1, l2⟩ := st
    exact ⟨⟨old, k e (by simp) _ ie⟩, ⟨o, f, k z (by simp) _ az, ho⟩, k TI (by simp) _ aI, ⟨x, y, k TO (by simp) _ aO⟩, l1.at fun u q => k i1 (by simp) u q, l2.at fun u q => k i2 (by simp) u q⟩
  item := by
    intro X hP hw hK hc i pins s σ H E I hf st hg
    subst hP hw hK
    obtain ⟨⟨old, ie⟩, zs⟩ := st
    obtain ⟨xs, ys, x, y, qx, qy, hx, hy⟩ := hg
    obtain ⟨its, rv, p1, _⟩ := I.list qx
    obtain ⟨its2, rv2, p2, _⟩ := I.list qy
    obtain ⟨u, hu, ru⟩ := rv.get hx
    obtain ⟨u2, hu2, ru2⟩ := rv2.get hy
    have lowE : e < s.heap.objs.size := Heap.lt_size ie
    have lowAll : ∀ c ∈ [e, z, TI, TO, i1, i2], c < s.heap.objs.size := fun c hc => by
      obtain ⟨⟨o, f, az, _⟩, aI, ⟨x0, y0, aO⟩, ⟨o1, g1, _, d1⟩, ⟨o2, g2, _, d2⟩⟩ := zs
      have q : c = e ∨ c = z ∨ c = TI ∨ c = TO ∨ c = i1 ∨ c = i2 := by simpa using hc
      rcases q with q | q | q | q | q | q <;> rw [q]
      · exact lowE
      · exact Heap.lt_size az
      · exact Heap.lt_size aI
      · exact Heap.lt_size aO
      · exact Heap.lt_size g1
      · exact Heap.lt_size g2
    refine py_next (P := fun v g1 => v = .ref s.heap.objs.size ∧ ZSt g1 z TI TO i1 i2 a b (i + 1) ∧ IsPair g1 s.heap.objs.size u u2 ∧ g1.objs.size = s.heap.objs.size + 1 ∧ ∀ c o, c ≠ z → c ≠ TO → c ≠ i1 → c ≠ i2 → s.heap.get? c = some o → g1.get? c = some o) ie
      (fun F E' k => next_item D zs p1.isList p2.isList (by simpa using hu) (by simpa using hu2) fun h' b1 b2 b3 b4 => k _ h' ⟨rfl, b1, b2, b3, b4⟩ (by omega) ((b4 e _ ez eO e1 e2 ie).trans ie.symm)) fun v g1 h' pv le eo tup sz up => ?_
    obtain ⟨rfl, zs1, pair, size, kp⟩ := pv
    refine ⟨_, rfl, wpAny_letOwnedTupleGo_enum (s := { s with heap := h', toks := s.toks + 1 }) eo fun h2 ie2 sb => ?_⟩
    replace sb : Heap.SameBut e h' h2 := sb
    have nS : s.heap.objs.size ≠ g1.objs.size := by omega
    have hS : H s.heap.objs.size = none := I.hok.fresh (Nat.le_refl _)
    have hT : H g1.objs.size = none := I.hok.fresh le
    have up2 : ∀ c o, c ≠ e → g1.get? c = some o → h2.get? c = some o := fun c o n q => (sb.2 c n).trans (up c o n q)
    have I1 : Inv X pins σ (upd H s.heap.objs.size (.tup [x, y])) { s with heap := g1 } :=
      I.turnedNew (t' := s.toks) (ch := [z, TO, i1, i2]) (fun c o hb q => kp c o (fun t => hb (by simp [t])) (fun t => hb (by simp [t])) (fun t => hb (by simp [t])) (fun t => hb (by simp [t])) q) (fun c hc => hf c (by
        have q : c = z ∨ c = TO ∨ c = i1 ∨ c = i2 := by simpa using hc
        rcases q with q | q | q | q <;> rw [q] <;> simp)) (Nat.le_refl _) ⟨by show 2 ≤ sizeLine; decide, [u, u2], .cons ru (.cons ru2 .nil), ⟨_, pair, rfl, _, rfl⟩⟩
    have tup2 : h2.get? g1.objs.size = some { cls := .type "tuple", data := .seq #[.int (i : Nat) s.toks, .ref s.heap.objs.size] } := (sb.2 _ (Nat.ne_of_gt (Nat.lt_of_lt_of_le lowE le))).trans tup
    have fe := hf e (by simp)
    have I2 : Inv X pins σ (upd (upd H s.heap.objs.size (.tup [x, y])) g1.objs.size (.tup [.int (i : Nat), .ref s.heap.objs.size])) { s with heap := h2, toks := s.toks + 1 } :=
      I1.turnedNew (t' := s.toks + 1) (ch := [e]) (fun c o hb q => up2 c o (fun t => hb (by simp [t])) q) (fun c hc => by
        have q : c = e := by simpa using hc
        rw [q]
        exact ⟨by rw [upd_ne (Nat.ne_of_lt lowE)]; exact fe.1, fe.2⟩) (Nat.le_refl _) ⟨by show 2 ≤ sizeLine; decide, [.int (i : Nat) s.toks, .ref s.heap.objs.size], .cons ⟨_, rfl⟩ (.cons rfl .nil), ⟨_, tup2, rfl, _, rfl⟩⟩
    refine ⟨.ref g1.objs.size, _, I2, rfl, ⟨_, _, x, y, rfl, hS, hT, nS, rfl, fun l hl => by rw [I.list_inj hl qx]; exact hx, fun l hl => by rw [I.list_inj hl qy]; exact hy⟩, ⟨⟨_, ie2⟩, ?_⟩, fun c hc => ?_⟩
    · obtain ⟨⟨o, f, az, ho⟩, aI, ⟨x0, y0, aO⟩, l1, l2⟩ := zs1
      exact ⟨⟨o, f, up2 _ _ ez.symm az, ho⟩, up2 _ _ eI.symm aI, ⟨x0, y0, up2 _ _ eO.symm aO⟩, l1.at fun u q => up2 _ u e1.symm q, l2.at fun u q => up2 _ u e2.symm q⟩
    · have low := lowAll c hc
      rw [upd_ne (Nat.ne_of_lt (Nat.lt_of_lt_of_le low le)), upd_ne (Nat.ne_of_lt low)]
      exact (hf c hc).1
  done := by
    intro X hP hw hK hc i pins s σ H E I hf st hg
    subst hP hw hK
    obtain ⟨⟨old, ie⟩, zs⟩ := st
    obtain ⟨xs, ys, qx, qy, no⟩ := hg
    obtain ⟨its, rv, p1, _⟩ := I.list qx
    obtain ⟨its2, rv2, p2, _⟩ := I.list qy
    have l1 := rv.length
    have l2 := rv2.length
    have he : its.toArray[i]? = none ∨ its2.toArray[i]? = none := no.imp (fun q => by simp; omega) fun q => by simp; omega
    exact py_end (P := fun h' => ∀ c o, c ≠ z → c ≠ TO → c ≠ i1 → c ≠ i2 → s.heap.get? c = some o → h'.get? c = some o) ie (fun F E' k => next_end (by exact I.ok.hd hc) D zs p1.isList p2.isList he fun h' x kp hx => k h' x kp hx) fun h' kp =>
      ⟨rfl, I.turnedL (t' := s.toks) (ch := [z, TO, i1, i2]) (fun c o hb q => kp c o (fun t => hb (by simp [t])) (fun t => hb (by simp [t])) (fun t => hb (by simp [t])) (fun t => hb (by simp [t])) q) fun c hc => hf c (by
        have q : c = z ∨ c = TO ∨ c = i1 ∨ c = i2 := by simpa using hc
        rcases q with q | q | q | q <;> rw [q] <;> simp)⟩
  self := fun A i s Q E st q => by
    obtain ⟨⟨old, ie⟩, _⟩ := st
    exact wpAny_pyIter_enum ie q
def iEnZ (K : PySem.W.Frag) (ta : TA) : TI := fun σ H R => ta σ H fun vs H1 => ∃ a b xs ys, vs = [.ref a, .ref b] ∧ SqL K H1 a xs ∧ SqL K H1 b ys ∧ R (ItZ K a b) H1
/-- an expression that gives a new zip of two lists -/
def EvZ (X : Cx) (ze : Expr) (ta : TA) : Prop := ∀ (pins : List (Addr × Obj)) (s : Shared) (σ : L2.St) (H : Hp) (R : It → Hp → Prop), Inv X pins σ H s → iEnZ X.K ta σ H R → wpAny (model X.prog X.w) X.A (eval ze X.env) (fun v s1 => ∃ (n a b : Nat) (H1 : Hp), v = .ref (n + 4) ∧ Inv X pins σ H1 s1 ∧ s1.heap.objs.size = n + 5 ∧ a < n ∧ b < n ∧
  IsZip s1.heap (n + 4) (n + 2) (n + 3) .none ∧ IsPair s1.heap (n + 2) (.ref n) (.ref (n + 1)) ∧ (∃ x y, IsPair s1.heap (n + 3) x y) ∧ s1.heap.IsListIter n a 0 ∧ s1.heap.IsListIter (n + 1) b 0 ∧ (∀ c : Nat, n ≤ c → FpOk X pins H1 c) ∧ R (ItZ X.K a b) H1) X.xe s
theorem ev_zip {X : Cx} {e e2 : Expr} {ta : TA} {zp zpos : Pos} (gz : Gl X "zip") (mz : X.mg "zip" = none) (ha : PA X [e, e2] ta)
    (hs : starEach [e, e2] X.env = (false, eval e X.env) :: starEach [e2] X.env := by rfl) (hpl : (backTo zpos (starEach [e2] X.env)).any (·.1) = false := by rfl) : EvZ X (.Call (.Name "zip" zp) [e, e2] [] zpos) ta := by
  intro pins s σ H R I h
  refine Call_ (ld_blt I gz mz PyProof.Rows.boot_zip (PyProof.Rows.callWith_type1 (thn (ha.run zpos pins s σ H _ I h) fun us s1 ⟨vs, H1, I1, r1, q1⟩ => ?_) hs hpl))
  obtain ⟨a, b, xs, ys, rfl, hqx, hqy, q⟩ := q1
  cases r1 with
  | cons ra rr =>
  cases rr with
  | cons rb rr =>
    cases rr
    cases ra
    cases rb
    obtain ⟨its, rv, p1, _⟩ := I1.list hqx
    obtain ⟨its2, rv2, p2, _⟩ := I1.list hqy
    refine call_zip_2 p1.isList p2.isList fun h' hz hI hO h1 h2 size kp => ?_
    exact ⟨s1.heap.objs.size, a, b, H1, rfl, I1.kept (t' := s1.toks) kp, size, p1.lt, p2.lt, hz, hI, ⟨_, _, hO⟩, h1, h2, fun c low => I1.fpOk low (I1.hok.fresh low), q⟩
theorem pi_enZ {X : Cx} {ze : Expr} {ta : TA} {p pos tpos : Pos} {elts : List Expr} {kk : Nat} (ge : Gl X "enumerate") (me : X.mg "enumerate" = none) (hz : EvZ X ze ta)
    (hs : starEach [ze] X.env = (false, eval ze X.env) :: starEach [] X.env := by rfl) : PI X (.Tuple elts kk tpos) (.Call (.Name "enumerate" p) [ze] [] pos) (iEnZ X.K ta) := by
  refine ⟨fun pins s σ H R I h => ?_⟩
  refine Call_ (ld_blt (u := Value.type "enumerate") I ge me (by decide +kernel) (PyProof.Rows.callWith_type1 ?_ hs rfl))
  rw [hs]
  show wpAny _ _ (spliced ((false, eval ze X.env) :: backTo pos (starEach [] X.env))) _ _ s
  refine Calls.spliced_cons (thn (hz pins s σ H R I h) fun v s1 hv => ?_)
  obtain ⟨n, a, b, H1, rfl, I1, size, la, lb, az, aI, aO, h1, h2, fp, q⟩ := hv
  refine Calls.spliced_nil ?_
  refine new_over az fun h2' he size2 kp2 => ?_
  have I2 : Inv X pins σ H1 { s1 with heap := h2' } := I1.kept (t' := s1.toks) kp2
  refine wpAny_pyIter_enum (s := { s1 with heap := h2' }) he ?_
  obtain ⟨x0, y0, aO⟩ := aO
  have ne : ∀ j : Nat, j < 5 → s1.heap.objs.size ≠ n + j := fun j hj t => by
    rw [size] at t
    omega
  refine ⟨s1.heap.objs.size, [s1.heap.objs.size, n + 4, n + 2, n + 3, n, n + 1], _, _, H1, rfl, I2,
    turn_enZ (PySem.W.ktu_apart n a b la lb) (ne 4 (by decide)) (ne 2 (by decide)) (ne 3 (by decide)) (ne 0 (by decide)) (ne 1 (by decide)), ⟨⟨_, he⟩, ⟨_, _, kp2 _ _ az, .inl rfl⟩, kp2 _ _ aI, ⟨x0, y0, kp2 _ _ aO⟩, h1.at fun u t => kp2 _ u t, h2.at fun u t => kp2 _ u t⟩, fun c hc => ?_, q⟩
  have z : c = s1.heap.objs.size ∨ c = n + 4 ∨ c = n + 2 ∨ c = n + 3 ∨ c = n ∨ c = n + 1 := by simpa using hc
  have low : n ≤ c := by
    rcases z with z | z | z | z | z | z <;> rw [z]
    · rw [size]
      exact Nat.le_add_right _ _
    · exact Nat.le_add_right _ _
    · exact Nat.le_add_right _ _
    · exact Nat.le_add_right _ _
    · exact Nat.le_refl _
    · exact Nat.le_add_right _ _
  exact fp c low
end EnZ

namespace EnZ
open PySem PySem.Spec PyProof PyProof.Rows L2 LcM
section
variable {K : PySem.W.Frag} {a b : Addr} {xs ys : List V} {g : TG} {te : TE} {vs : List Nat} {σ : L2.St} {H0 : Hp} {D : Addr} {Qd : Hp → Prop}
/-- [e for i, (x, y) in enumerate(zip(xs, ys))], by the value of each turn -/
theorem lc_enZM (F : Nat → V) (hD : H0 D = none) (hx : SqL K H0 a xs) (hy : SqL K H0 b ys) (small : xs.length ≤ 1000000)
    (turn : ∀ (i : Nat) (x y : V) (S T : Addr) (H : Hp) (R : V → Hp → Prop), xs[i]? = some x → ys[i]? = some y → Grows H0 H → H S = none → H T = none → S ≠ T → (∀ H4, Grows (upd (upd H S (.tup [x, y])) T (.tup [.int (i : Nat), .ref S])) H4 → R (F i) H4) →
      g (.ref T) (wipe σ vs) (upd (upd H S (.tup [x, y])) T (.tup [.int (i : Nat), .ref S])) fun σ2 H2 => wipe σ2 vs = wipe σ vs ∧ te σ2 H2 R)
    (done : ∀ H, Grows H0 H → H D = some (.lst ((List.range (min xs.length ys.length)).map F)) → Qd H) :
    ∃ W : Nat → Nat → Hp → Prop, (∃ m, W 0 m (upd H0 D (.lst []))) ∧ ∀ i m H, W i m H →
      ((ItZ K a b).stop i H ∧ Qd H) ∨ ((ItZ K a b).go i H ∧ ∃ Nx : Hp → Prop, (∀ H', Nx H' → ∃ m', m' < m ∧ W (i + 1) m' H') ∧ ∀ x H', (ItZ K a b).yld i H x H' → g x (wipe σ vs) H' fun σ2 H2 => wipe σ2 vs = wipe σ vs ∧ tYes σ2 H2 fun b H3 =>
        if b = true then te σ2 H3 fun y H4 => ∃ acc, H4 D = some (.lst acc) ∧ acc.length < sizeLine ∧ Nx (upd H4 D (.lst (acc ++ [y]))) else Nx H3) := by
  refine ⟨fun i m H => m = min xs.length ys.length - i ∧ i ≤ min xs.length ys.length ∧ Ma H0 D F i H, ⟨_, rfl, Nat.zero_le _, Ma.start hD⟩, ?_⟩
  rintro i m H ⟨rfl, hi, ma⟩
  have qx : SqL K H a xs := ma.1.seq hx
  have qy : SqL K H b ys := ma.1.seq hy
  rcases Nat.lt_or_ge i (min xs.length ys.length) with lt | ge
  · have l1 : i < xs.length := Nat.lt_of_lt_of_le lt (Nat.min_le_left _ _)
    have l2 : i < ys.length := Nat.lt_of_lt_of_le lt (Nat.min_le_right _ _)
    refine .inr ⟨⟨xs, ys, _, _, qx, qy, List.getElem?_eq_getElem l1, List.getElem?_eq_getElem l2⟩, Ma H0 D F (i + 1), fun H' p => ⟨min xs.length ys.length - (i + 1), by omega, rfl, lt, p⟩, fun v H' yy => ?_⟩
    obtain ⟨S, T, x, y, rfl, hS, hT, ne, rfl, sx, sy⟩ := yy
    rw [yes_eq (A := fun σ2 => wipe σ2 vs = wipe σ vs)]
    have gr : Grows H (upd (upd H S (.tup [x, y])) T (.tup [.int (i : Nat), .ref S])) := (Grows.new hS).trans (Grows.new (by rw [upd_ne ne.symm]; exact hT))
    exact turn i x y S T H _ (sx xs qx) (sy ys qy) ma.1 hS hT ne fun H4 s => ma.more hD (gr.trans s) (Nat.lt_of_lt_of_le l1 small)
  · have e : i = min xs.length ys.length := by omega
    subst e
    refine .inl ⟨⟨xs, ys, qx, qy, ?_⟩, done H ma.1 ma.2⟩
    rcases Nat.le_total xs.length ys.length with q | q
    · exact .inl (by rw [Nat.min_eq_left q]; exact Nat.le_refl _)
    · exact .inr (by rw [Nat.min_eq_right q]; exact Nat.le_refl _)
end
end EnZ

/-! comprehensions over a range with a test; dict comprehensions over a list. -/
namespace LcM
open PySem PySem.Spec PyProof PyProof.Rows L2 SortR
section
variable {K : PySem.W.Frag} {a : Addr} {xs : List V} {g : TG} {tt : TT} {te tk tv : TE} {vs : List Nat} {σ : L2.St} {H0 : Hp} {D : Addr} {Qd : Hp → Prop}
/-- [e for i in range(lo, lo + n) if t] -/
theorem lc_rangeT {lo : Int} {n : Nat} (p : Nat → Bool) (F : Nat → V) (hD : H0 D = none) (small : n ≤ 1000000)
    (turn : ∀ (i : Nat) (H : Hp) (Ry : V → Hp → Prop) (Rn : Hp → Prop), i < n → Grows H0 H → (p i = true → ∀ H4, Grows H H4 → Ry (F i) H4) → (p i = false → ∀ H4, Grows H H4 → Rn H4) →
      g (.int (lo + i)) (wipe σ vs) H fun σ2 H2 => wipe σ2 vs = wipe σ vs ∧ tt σ2 H2 fun t H3 => if t = true then te σ2 H3 Ry else Rn H3)
    (done : ∀ H, Grows H0 H → H D = some (.lst (kept p F n)) → Qd H) :
    ∃ W : Nat → Nat → Hp → Prop, (∃ m, W 0 m (upd H0 D (.lst []))) ∧ ∀ i m H, W i m H →
      ((Itr lo n).stop i H ∧ Qd H) ∨ ((Itr lo n).go i H ∧ ∃ Nx : Hp → Prop, (∀ H', Nx H' → ∃ m', m' < m ∧ W (i + 1) m' H') ∧ ∀ x H', (Itr lo n).yld i H x H' → g x (wipe σ vs) H' fun σ2 H2 => wipe σ2 vs = wipe σ vs ∧ tt σ2 H2 fun b H3 =>
        if b = true then te σ2 H3 fun y H4 => ∃ acc, H4 D = some (.lst acc) ∧ acc.length < sizeLine ∧ Nx (upd H4 D (.lst (acc ++ [y]))) else Nx H3) := by
  refine lc_range (fun i H => Grows H0 H ∧ H D = some (.lst (kept p F i))) ⟨Grows.new hD, upd_same⟩ (fun i H il m => ?_) fun H m => done H m.1 m.2
  refine turn i H _ _ il m.1 (fun hp H4 s => ⟨_, s _ _ m.2, ?_, fun b o e => ?_, ?_⟩) fun hp H4 s => ⟨m.1.trans s, ?_⟩
  · exact Nat.lt_of_le_of_lt (kept_le p F i) (Nat.lt_of_lt_of_le il (Nat.le_trans small (by decide)))
  · rw [upd_ne (ne_of_none e hD)]
    exact s _ _ (m.1 _ _ e)
  · rw [upd_same, kept_yes hp]
  · rw [kept_no hp]
    exact s _ _ m.2
/-- {k: v for x in xs}, keys ints or texts -/
theorem dc_listM (G : Nat → L2.Key) (F : Nat → V) (hD : H0 D = none) (hx : SqL K H0 a xs) (small : xs.length ≤ 1000000)
    (turn : ∀ (i : Nat) (x : V) (H : Hp) (R : V → Hp → V → Hp → Prop), xs[i]? = some x → Grows H0 H → (∀ H4 H5, Grows H H4 → Grows H4 H5 → R (kV (G i)) H4 (F i) H5) →
      g x (wipe σ vs) H fun σ2 H2 => wipe σ2 vs = wipe σ vs ∧ tk σ2 H2 fun y H4 => tv σ2 H4 fun z H5 => R y H4 z H5)
    (done : ∀ H, Grows H0 H → H D = some (.dK (laid (fun _ => true) G F xs.length)) → Qd H) :
    ∃ W : Nat → Nat → Hp → Prop, (∃ m, W 0 m (upd H0 D (.dK []))) ∧ ∀ i m H, W i m H →
      ((Itl K a).stop i H ∧ Qd H) ∨ ((Itl K a).go i H ∧ ∃ Nx : Hp → Prop, (∀ H', Nx H' → ∃ m', m' < m ∧ W (i + 1) m' H') ∧ ∀ x H', (Itl K a).yld i H x H' → g x (wipe σ vs) H' fun σ2 H2 => wipe σ2 vs = wipe σ vs ∧ tYes σ2 H2 fun b H3 =>
        if b = true then tk σ2 H3 fun y H4 => tv σ2 H4 fun z H5 => ∃ kvs k, y = kV k ∧ H5 D = some (.dK kvs) ∧ kvs.length < sizeLine ∧ Nx (upd H5 D (.dK (putK kvs k z))) else Nx H3) := by
  let inv : Nat → Hp → Prop := fun i H => Grows H0 H ∧ H D = some (.dK (laid (fun _ => true) G F i))
  refine ⟨fun i m H => m = xs.length - i ∧ i ≤ xs.length ∧ inv i H, ⟨_, rfl, Nat.zero_le _, Grows.new hD, upd_same⟩, ?_⟩
  rintro i m H ⟨rfl, hi, pv⟩
  rcases Nat.lt_or_ge i xs.length with lt | ge
  · have ex : xs[i]? = some xs[i] := List.getElem?_eq_getElem lt
    refine .inr ⟨⟨xs, _, pv.1.seq hx, ex⟩, inv (i + 1), fun H' p' => ⟨xs.length - (i + 1), by omega, rfl, lt, p'⟩, fun v H' y => ?_⟩
    obtain ⟨rfl, f1⟩ := y
    have e0 : (fun (σ2 : L2.St) (H2 : Hp) => wipe σ2 vs = wipe σ vs ∧ tYes σ2 H2 fun b H3 => if b = true then tk σ2 H3 fun y H4 => tv σ2 H4 fun z H5 => ∃ kvs k, y = kV k ∧ H5 D = some (.dK kvs) ∧ kvs.length < sizeLine ∧ inv (i + 1) (upd H5 D (.dK (putK kvs k z))) else inv (i + 1) H3) =
        fun σ2 H2 => wipe σ2 vs = wipe σ vs ∧ tk σ2 H2 fun y H4 => tv σ2 H4 fun z H5 => ∃ kvs k, y = kV k ∧ H5 D = some (.dK kvs) ∧ kvs.length < sizeLine ∧ inv (i + 1) (upd H5 D (.dK (putK kvs k z))) := by
      funext σ2 H2
      unfold tYes
      dsimp only
      rw [if_pos rfl]
    rw [e0]
    refine turn i v _ (fun y _ z H5 => ∃ kvs k, y = kV k ∧ H5 D = some (.dK kvs) ∧ kvs.length < sizeLine ∧ inv (i + 1) (upd H5 D (.dK (putK kvs k z)))) (f1 xs (pv.1.seq hx)) pv.1 fun H4 H5 s4 s5 => ⟨_, G i, rfl, s5 _ _ (s4 _ _ pv.2), ?_, fun b o e => ?_, ?_⟩
    · exact Nat.lt_of_le_of_lt (laid_le _ G F i) (Nat.lt_of_lt_of_le lt (Nat.le_trans small (by decide)))
    · rw [upd_ne (ne_of_none e hD)]
      exact s5 _ _ (s4 _ _ (pv.1 _ _ e))
    · rw [upd_same]
      rfl
  · have e : i = xs.length := by omega
    subst e
    exact .inl ⟨⟨xs, pv.1.seq hx, Nat.le_refl _⟩, done H pv.1 pv.2⟩
end
end LcM

/-! Masks of ascending lists, bit by bit. -/
namespace LcM
open PySem
def mk (ns : List Nat) : Nat := (ns.map (2 ^ ·)).sum
theorem mk_cons (x : Nat) (xs : List Nat) : mk (x :: xs) = 2 ^ x + mk xs := by
  unfold mk
  rw [List.map_cons, List.sum_cons]
theorem mk_dvd (y : Nat) : ∀ xs : List Nat, (∀ z ∈ xs, y ≤ z) → 2 ^ y ∣ mk xs
  | [], _ => ⟨0, rfl⟩
  | x :: xs, h => by
    rw [mk_cons]
    exact Nat.dvd_add (Nat.pow_dvd_pow 2 (h x List.mem_cons_self)) (mk_dvd y xs fun z hz => h z (List.mem_cons_of_mem _ hz))
theorem mk_bit : ∀ (xs : List Nat) (i : Nat), xs.Pairwise (· < ·) → (mk xs).testBit i = decide (i ∈ xs)
  | [], i, _ => by
    show Nat.testBit 0 i = _
    rw [Nat.zero_testBit]
    rfl
  | x :: xs, i, h => by
    obtain ⟨h1, h2⟩ := List.pairwise_cons.mp h
    have ih := mk_bit xs i h2
    obtain ⟨k, hk⟩ := mk_dvd (x + 1) xs fun z hz => h1 z hz
    rw [mk_cons, Nat.add_comm, hk, Nat.testBit_two_pow_mul_add k (Nat.pow_lt_pow_right (by decide) (Nat.lt_succ_self x))]
    rw [hk] at ih
    by_cases l : i < x + 1
    · rw [if_pos l, Nat.testBit_two_pow]
      have no : i ∉ xs := fun z => by
        have := h1 i z
        omega
      by_cases e : x = i
      · rw [decide_eq_true e, e, decide_eq_true List.mem_cons_self]
      · rw [decide_eq_false e, decide_eq_false fun z => (List.mem_cons.mp z).elim (fun q => e q.symm) no]
    · rw [if_neg l]
      have z := Nat.testBit_two_pow_mul_add k (b := 0) (i := x + 1) (Nat.two_pow_pos _) i
      rw [if_neg l, Nat.add_zero] at z
      rw [← z, ih]
      have ne : i ≠ x := by omega
      by_cases m : i ∈ xs
      · rw [decide_eq_true m, decide_eq_true (List.mem_cons_of_mem _ m)]
      · rw [decide_eq_false m, decide_eq_false fun q => (List.mem_cons.mp q).elim ne m]
/-- masks of lists that do not cross -/
theorem mk_and {xs ys : List Nat} (hx : xs.Pairwise (· < ·)) (hy : ys.Pairwise (· < ·)) (h : (∀ z ∈ xs, z ∉ ys) ∨ (∀ z ∈ xs, z ∈ ys) ∨ ∀ z ∈ ys, z ∈ xs) : mk xs &&& mk ys = 0 ∨ mk xs &&& mk ys = mk xs ∨ mk xs &&& mk ys = mk ys := by
  have bit : ∀ i, (mk xs &&& mk ys).testBit i = (decide (i ∈ xs) && decide (i ∈ ys)) := fun i => by rw [Nat.testBit_and, mk_bit xs i hx, mk_bit ys i hy]
  rcases h with h | h | h
  · refine .inl (Nat.eq_of_testBit_eq fun i => ?_)
    rw [bit, Nat.zero_testBit]
    by_cases m : i ∈ xs
    · rw [decide_eq_false (h i m), Bool.and_false]
    · rw [decide_eq_false m, Bool.false_and]
  · refine .inr (.inl (Nat.eq_of_testBit_eq fun i => ?_))
    rw [bit, mk_bit xs i hx]
    by_cases m : i ∈ xs
    · rw [decide_eq_true m, decide_eq_true (h i m)]
      rfl
    · rw [decide_eq_false m, Bool.false_and]
  · refine .inr (.inr (Nat.eq_of_testBit_eq fun i => ?_))
    rw [bit, mk_bit ys i hy]
    by_cases m : i ∈ ys
    · rw [decide_eq_true m, decide_eq_true (h i m)]
      rfl
    · rw [decide_eq_false m, Bool.and_false]
end LcM

namespace K46
open PySem PySem.Spec PyProof.Rows L2 LcM
def top (i : Nat) : Stmt := PySem.Challenge.pw_twopartings_k46_leaving_of_twenty.main.body.getD i (.Pass ⟨0, 0, 0, 0⟩)
abbrev sBag : Stmt := top 46
abbrev sStir : Stmt := top 47
abbrev sDraw : Stmt := top 48
abbrev sAlike : Stmt := top 49
def CPowW (i j : Int) : Prop := 0 ≤ j ∧ (Builtin.Int.intBits i : Int) * j ≤ 2 ^ 27
section
variable {X : Cx}
theorem op_powW : OpR X (binaryOp .Pow) (rI CPowW fun i j => .int (i ^ j.toNat)) := opI fun _ _ _ _ _ _ _ hc q => pow_int hc.1 hc.2 q
end
theorem bits_of {i : Int} {n : Nat} (h : i.natAbs < 2 ^ n) (h0 : 0 < n) : Builtin.Int.intBits i ≤ n := by
  unfold Builtin.Int.intBits
  split
  · omega
  · have := PySem.Flt.log2_lt_of h0 h
    omega
theorem pow3' {i : Int} {n : Nat} (h : i.natAbs < 2 ^ 64) (hn : n ≤ 1000) : CPowW i n := ⟨by omega, by
  have := bits_of h (by decide)
  have z : (Builtin.Int.intBits i : Int) * (n : Int) ≤ 64 * 1000 := Int.mul_le_mul (by omega) (by omega) (by omega) (by decide)
  omega⟩
theorem pow3 {i : Int} (h : i.natAbs < 2 ^ 300) : CPowW i 3 := ⟨by decide, by have := bits_of h (by decide); omega⟩

/-! ### the heap grows: all of it stays but at one place -/
def Gr (p : Addr) (H H' : Hp) : Prop := ∀ b o, b ≠ p → H b = some o → H' b = some o
theorem Gr.refl {p : Addr} {H : Hp} : Gr p H H := fun _ _ _ e => e
theorem Gr.trans {p : Addr} {H H1 H2 : Hp} (x : Gr p H H1) (y : Gr p H1 H2) : Gr p H H2 := fun b o n e => y b o n (x b o n e)
theorem Gr.new {p a : Addr} {H : Hp} {o : HO} (h : H a = none) : Gr p H (upd H a o) := fun b u n e => by
  rw [upd_ne (ne_of_none e h)]
  exact e
theorem Gr.at {p : Addr} {H : Hp} {o : HO} : Gr p H (upd H p o) := fun b u n e => by
  rw [upd_ne n]
  exact e
theorem _root_.LcM.Grows.gr {p : Addr} {H H' : Hp} (x : Grows H H') : Gr p H H' := fun b o _ e => x b o e
/-! ### the pouch -/
/-! ### the bag -/
def bagL (b : Addr) (i t s k : Int) : HO := .lst [.ref b, .int i, .int t, .int s, .int k]
def big : Int := 10 ^ 600
structure Bag (H : Hp) (a : Addr) : Prop where
  ex : ∃ (b : Addr) (i : Nat) (t s k : Int) (cs : List Int), H a = some (bagL b i t s k) ∧ H b = some (.lst (cs.map V.int)) ∧ b ≠ a ∧ i ≤ cs.length ∧ cs.length ≤ 63 ∧ 0 ≤ t ∧ 0 ≤ s ∧ s < 2147483647 ∧ ∀ c ∈ cs, 0 ≤ c
/-- all but the bag as it was -/
def But (a : Addr) (H H' : Hp) : Prop := ∀ b, b ≠ a → H' b = H b
theorem But.refl {a : Addr} {H : Hp} : But a H H := fun _ _ => rfl
theorem But.trans {a : Addr} {H H1 H2 : Hp} (x : But a H H1) (y : But a H1 H2) : But a H H2 := fun b h => (y b h).trans (x b h)
theorem But.upd {a : Addr} {H : Hp} {o : HO} : But a H (upd H a o) := fun b h => upd_ne h

structure Txt0 (mg : Str → Option Value) : Prop where
  int : mg "int" = none
  range : mg "range" = none
  len : mg "len" = none
  abs : mg "abs" = none
  max : mg "max" = none
  min : mg "min" = none
def spStir : Sp := fun vs H Q _ => ∃ (a : Addr) (w : Int), vs = [.ref a, .int w] ∧ Bag H a ∧ 0 < w ∧ w.natAbs.log2 < 200 ∧
  ∀ (v : Int) (H' : Hp), 0 ≤ v → v < w → Bag H' a → But a H H' → Q (.int v) H'

section
variable {P : Program} {w : World} {K : PySem.W.Frag} {mg : Str → Option Value} {base : Heap}
theorem scStir : FnScope ["bag", "wide", "found", "k", "mixed"] ["bag", "wide"] (defScope sStir) := ⟨rfl, rfl, rfl, by decide +kernel, rfl, by decide +kernel, by decide +kernel⟩
theorem ok_stir {f : Addr} {fd : FuncData} (F : Fun K "_law_stirred" "_law_stirred" sStir f fd) (T : Txt0 mg) : FnOk P w K mg base CX0 1 f fd ["bag", "wide"] spStir := by
  refine F.ok scStir (fun vs H Q E h => ?_) (fun cdv A outer s H vs Q E hr h => ?_)
  · obtain ⟨a, w, rfl, _⟩ := h
    rfl
  · obtain ⟨a, w, rfl, hB, hw, hw2, k⟩ := h
    refine ⟨_, pss_cons (ps_set (i := 2) scStir.nd rfl (.inl rfl) pe_int)
      (pss_cons (ps_for PassesOwn.never rfl (pi_range1 (by rfl) T.range (pa_cons (pe_op op_add pe_int (pe_op op_fdiv (pe_bits (pv 1)) pe_int)) pa_nil))
          (pg_name (i := 3) scStir.nd rfl (.inl rfl))
        (pss_cons (ps_asg (pe_op op_add (pe_ix ix_list (pv 0) pe_int (fun _ _ => rfl)) pe_int) (pg_sub (pv 0) pe_int set_list))
        (pss_cons (ps_set (i := 4) scStir.nd rfl (.inl rfl)
          (pe_op op_add (pe_op op_add (pe_op op_add (pe_op op_powW (pe_ix ix_list (pv 0) pe_int (fun _ _ => rfl)) pe_int) (pe_op op_mul pe_int (pe_ix ix_list (pv 0) pe_int (fun _ _ => rfl)))) (pe_op op_mul pe_int (pe_ix ix_list (pv 0) pe_int (fun _ _ => rfl)))) pe_int))
        (pss_cons (ps_asg (pe_op op_mod (pe_callTy call_int1 (by rfl) T.int boot_int (pa_cons (pv 4) pa_nil)) pe_int) (pg_sub (pv 0) pe_int set_list))
        (pss_one (ps_set (i := 2) scStir.nd rfl (.inl rfl) (pe_op op_add (pe_op op_mul (pv 2) pe_int) (pe_op op_fdiv (pe_ix ix_list (pv 0) pe_int (fun _ _ => rfl)) pe_int))))))))
      (pss_one (ps_ret (pe_op op_mod (pe_callTy call_int1 (by rfl) T.int boot_int (pa_cons (pv 2) pa_nil)) (pv 1))))), ?_⟩
    have hbw : Builtin.Int.intBits w ≤ 200 := by
      unfold Builtin.Int.intBits
      split <;> omega
    refine ⟨_, rfl, w, rfl, _, _, rfl, rfl, ⟨by decide, by decide⟩, _, _, rfl, rfl, _, rfl, by omega, by omega,
      for_range (fun i σ H' => ∃ (fnd : Int) (kk mm : Option V), σ = [some (.ref a), some (.int w), some (.int fnd), kk, mm] ∧ 0 ≤ fnd ∧ Bag H' a ∧ But a H H')
      ⟨0, none, none, rfl, Int.le_refl _, hB, .refl⟩ ?_ ?_⟩
    · rintro i σ H' _ ⟨fnd, kk, mm, rfl, hf, ⟨b, ix, t, sd, kn, cs, h1, h2, nb, hi, hc, ht, hs, hs2, hcs⟩, hbut⟩
      have sz : (Builtin.Int.intBits sd : Int) * 3 ≤ 2 ^ 27 := by
        have := intBits_le_64 (k := sd) (by omega) (by omega)
        omega
      -- bag[4] = bag[4] + 1
      refine ⟨_, rfl, a, _, _, _, rfl, rfl, SqL.of h1, rfl, _, _, rfl, rfl, _, rfl, a, _, _, 4, rfl, rfl, h1, rfl, ?_⟩
      -- mixed
      refine ⟨_, rfl, a, _, _, _, rfl, rfl, SqL.of upd_same, rfl, _, _, rfl, rfl, ⟨by decide, sz⟩, ?_⟩
      refine ⟨_, rfl, a, _, _, _, rfl, rfl, SqL.of upd_same, rfl, _, _, rfl, rfl, .inl ⟨by decide, by decide⟩, _, _, rfl, rfl, ?_⟩
      refine ⟨_, rfl, a, _, _, _, rfl, rfl, SqL.of upd_same, rfl, _, _, rfl, rfl, .inl ⟨by decide, by decide⟩, _, _, rfl, rfl, _, _, rfl, rfl, ?_⟩
      obtain ⟨m, hm⟩ : ∃ m : Int, m = sd ^ (3 : Int).toNat + 69621 * sd + 1031 * (kn + 1) + 1 := ⟨_, rfl⟩
      -- bag[3] = int(mixed) % 2147483647
      refine ⟨_, rfl, .inl ⟨_, rfl, _, _, rfl, rfl, (by decide : (0 : Int) < 2147483647), _, rfl, a, _, _, 3, rfl, rfl, upd_same, rfl, ?_⟩⟩
      -- found
      refine ⟨_, rfl, _, _, rfl, rfl, .inr ⟨by decide, by decide⟩, _, rfl, a, _, _, _, rfl, rfl, SqL.of upd_same, rfl, _, _, rfl, rfl, ⟨by decide, by decide⟩, _, _, rfl, rfl, ?_⟩
      have g0 : 0 ≤ m % 2147483647 := Int.emod_nonneg _ (by decide)
      have g1 : m % 2147483647 < 2147483647 := Int.emod_lt_of_pos _ (by decide)
      refine ⟨fnd * 134217728 + m % 2147483647 / 16, _, _, (by rw [hm]; rfl), by omega, ⟨b, ix, t, m % 2147483647, kn + 1, cs, (by rw [hm]; exact upd_same), ?_, nb, hi, hc, ht, g0, g1, hcs⟩, hbut.trans (But.upd.trans But.upd)⟩
      rw [upd_ne nb, upd_ne nb]
      exact h2
    · rintro σ H' ⟨fnd, kk, mm, rfl, hf, hB', hbut⟩
      refine ⟨_, rfl, .inl ⟨_, rfl, _, rfl, _, _, rfl, rfl, hw, ?_⟩⟩
      exact k _ _ (Int.emod_nonneg _ (by omega)) (Int.emod_lt_of_pos _ hw) hB' hbut
end
end K46

namespace K46
open PySem PySem.Spec PyProof.Rows L2 LcM
structure Txt1 (K : PySem.W.Frag) (mg : Str → Option Value) (fS : Addr) : Prop extends Txt0 mg where
  gS : mg "_law_stirred" = some (.ref fS)
section
variable {P : Program} {w : World} {K : PySem.W.Frag} {mg : Str → Option Value} {base : Heap}
theorem scDraw : FnScope ["bag", "wide", "found"] ["bag", "wide"] (defScope sDraw) := ⟨rfl, rfl, rfl, by decide +kernel, rfl, by decide +kernel, by decide +kernel⟩
theorem dec_of {t u : Int} (e : decide (V.int t = V.int u) = true) : t = u := by simpa using e
theorem ok_draw {f fS : Addr} {fd fdS : FuncData} (F : Fun K "_law_draw" "_law_draw" sDraw f fd) (T : Txt1 K mg fS) (FS : Fun K "_law_stirred" "_law_stirred" sStir fS fdS) (bS : Binds K fdS ["bag", "wide"] []) : FnOk P w K mg base CX0 2 f fd ["bag", "wide"] spStir := by
  have GS : FnOk P w K mg base CX0 1 fS fdS ["bag", "wide"] spStir := ok_stir FS T.toTxt0
  refine F.ok scDraw (fun vs H Q E h => ?_) (fun cdv A outer s H vs Q E hr h => ?_)
  · obtain ⟨a, w, rfl, _⟩ := h
    rfl
  · obtain ⟨a, w, rfl, hB, hw, hw2, k⟩ := h
    refine ⟨_, pss_cons (ps_if (PW.pt (pw_and (pt_cmpR op_eq (pe_ix ix_list (pv 0) pe_int (fun _ _ => rfl)) pe_int (nomark _)) (pw_and1 (pt_cmpR op_lt (pe_ix ix_list (pv 0) pe_int (fun _ _ => rfl)) (pe_callB call_len_seq (by rfl) T.len boot_len (pa_cons (pe_ix ix_list (pv 0) pe_int (fun _ _ => rfl)) pa_nil)) (nomark _)))))
        (pss_cons (ps_asg (pe_ix ix_list (pe_ix ix_list (pv 0) pe_int (fun _ _ => rfl)) (pe_ix ix_list (pv 0) pe_int (fun _ _ => rfl)) (fun _ _ => rfl)) (pg_sub (pv 0) pe_int set_list))
          (pss_one (ps_asg (pe_op op_add (pe_ix ix_list (pv 0) pe_int (fun _ _ => rfl)) pe_int) (pg_sub (pv 0) pe_int set_list))))
        (pss_one (ps_if (pt_cmpR op_eq (pe_ix ix_list (pv 0) pe_int (fun _ _ => rfl)) pe_int (nomark _))
          (pss_one (ps_ret (pe_call GS hr rfl T.gS FS.kp bS .nil pass0 (pa_cons (pv 0) (pa_cons (pv 1) pa_nil)))))
          pss_nil)))
      (pss_cons (ps_set (i := 2) scDraw.nd rfl (.inl rfl) (pe_op op_mod (pe_callTy call_int1 (by rfl) T.int boot_int (pa_cons (pe_ix ix_list (pv 0) pe_int (fun _ _ => rfl)) pa_nil)) (pv 1)))
      (pss_cons (ps_asg (pe_op op_fdivW (pe_ix ix_list (pv 0) pe_int (fun _ _ => rfl)) (pv 1)) (pg_sub (pv 0) pe_int set_list))
      (pss_one (ps_ret (pv 2))))), ?_⟩
    obtain ⟨b, ix, t, sd, kn, cs, h1, h2, nb, hi, hc, ht, hs, hs2, hcs⟩ := id hB
    -- the last three statements, from any bag
    have last : ∀ (H' : Hp) (ix : Nat) (t kn : Int), H' a = some (bagL b ix t sd kn) → H' b = some (.lst (cs.map V.int)) → ix ≤ cs.length → 0 ≤ t → But a H H' →
        ∃ v : Int, ∃ H2 : Hp, v = t % w ∧ H2 = upd H' a (bagL b ix (t / w) sd kn) ∧ Q (.int v) H2 := fun H' ix t kn g1 g2 hi ht hb =>
      ⟨_, _, rfl, rfl, k _ _ (Int.emod_nonneg _ (by omega)) (Int.emod_lt_of_pos _ hw)
        ⟨b, ix, t / w, sd, kn, cs, upd_same, (by rw [upd_ne nb]; exact g2), nb, hi, hc, Int.ediv_nonneg ht (by omega), hs, hs2, hcs⟩ (hb.trans But.upd)⟩
    have fin : ∀ (H' : Hp) (ix : Nat) (t kn : Int), H' a = some (bagL b ix t sd kn) → H' b = some (.lst (cs.map V.int)) → ix ≤ cs.length → 0 ≤ t → But a H H' →
        tSeq (tAsg (tOp (rI (fun _ j => 0 < j) fun i j => V.int (i % j)) (tCB (fun xs H Q => (∃ i, xs = [V.int i] ∧ Q (.int i) H) ∨ ∃ k, xs = [V.bl k] ∧ Q (.int (if k then 1 else 0)) H) (tCons (tOp (rIxL K) (tVar 0) (tC (.int 2))) tNil)) (tVar 1)) (gName 2))
          (tSeq (tAsg (tOp (rI CDivW fun i j => V.int (i / j)) (tOp (rIxL K) (tVar 0) (tC (.int 2))) (tVar 1)) (gSub (tVar 0) (tC (.int 2)) rSetL)) (tRet (tVar 2)))
          { nx := fun _ H' => Q .non H', rt := Q } [some (.ref a), some (.int w), none] H' := fun H' ix t kn g1 g2 hi ht hb => by
      refine ⟨_, rfl, a, _, _, _, rfl, rfl, SqL.of g1, rfl, .inl ⟨_, rfl, _, rfl, _, _, rfl, rfl, hw, ?_⟩⟩
      refine ⟨_, rfl, a, _, _, _, rfl, rfl, SqL.of g1, rfl, _, rfl, _, _, rfl, rfl, ⟨hw, by omega⟩, _, rfl, a, _, _, 2, rfl, rfl, g1, rfl, _, rfl, ?_⟩
      obtain ⟨v, H2, rfl, rfl, q⟩ := last H' ix t kn g1 g2 hi ht hb
      exact q
    refine ⟨_, rfl, a, _, _, _, rfl, rfl, SqL.of h1, rfl, rfl, _, rfl, ?_⟩
    refine ite2 (fun e0 => ?_) (fun e0 => ?_)
    · obtain rfl := dec_of e0
      refine ⟨_, rfl, a, _, _, _, rfl, rfl, SqL.of h1, rfl, _, rfl, a, _, _, _, rfl, rfl, SqL.of h1, rfl, b, _, rfl, .inl (SqL.of h2), _, _, rfl, rfl, _, rfl, ?_⟩
      refine ite2 (fun e1 => ?_) (fun e1 => ?_)
      · have lt : ix < cs.length := by
          have := of_decide_eq_true e1
          rw [List.length_map] at this
          omega
        have g : (cs.map V.int)[ix]? = some (.int cs[ix]) := by
          rw [List.getElem?_map, List.getElem?_eq_getElem lt]
          rfl
        refine ⟨_, rfl, a, _, _, _, rfl, rfl, SqL.of h1, rfl, _, rfl, a, _, _, _, rfl, rfl, SqL.of h1, rfl, b, _, _, _, rfl, rfl, SqL.of h2, atI_nat g, _, rfl, a, _, _, 2, rfl, rfl, h1, rfl, ?_⟩
        refine ⟨_, rfl, a, _, _, _, rfl, rfl, SqL.of upd_same, rfl, _, _, rfl, rfl, _, rfl, a, _, _, 1, rfl, rfl, upd_same, rfl, ?_⟩
        refine fin _ (ix + 1) cs[ix] kn upd_same (by rw [upd_ne nb, upd_ne nb]; exact h2) (by omega) (hcs _ (List.getElem_mem lt)) (But.upd.trans But.upd)
      · refine ⟨_, rfl, a, _, _, _, rfl, rfl, SqL.of h1, rfl, rfl, _, rfl, iteT ?_⟩
        exact ⟨_, rfl, _, rfl, a, w, rfl, hB, hw, hw2, k⟩
    · refine iteF ?_
      refine ⟨_, rfl, a, _, _, _, rfl, rfl, SqL.of h1, rfl, rfl, _, rfl, ?_⟩
      refine ite2 (fun e1 => absurd e1 e0) (fun _ => ?_)
      exact fin H ix t kn h1 h2 hi ht .refl
theorem same_upd {H : Hp} {p : Addr} {o : HO} (h : H p = none) : Same H (upd H p o) := fun b x e => by
  rw [upd_ne (ne_of_none e h)]
  exact e
theorem cut_ints (ns : List Int) (lo hi : Option Int) : ∃ ms : List Int, cutV (ns.map V.int) lo hi = ms.map V.int ∧ ms.length ≤ ns.length :=
  ⟨(ns.drop (HT.sIx (ns.map V.int).length 0 lo)).take (HT.sIx (ns.map V.int).length (ns.map V.int).length hi - HT.sIx (ns.map V.int).length 0 lo), by unfold cutV; rw [List.map_take, List.map_drop], by
    rw [List.length_take, List.length_drop]
    omega⟩
theorem int_at {ms : List Int} {i : Nat} {y : V} (h : (ms.map V.int)[i]? = some y) : ∃ z, y = V.int z := by
  rw [List.getElem?_map] at h
  cases e : ms[i]? with
  | none =>
    rw [e] at h
    cases h
  | some u =>
    rw [e] at h
    exact ⟨u, (Option.some.inj h).symm⟩
/-- a bag, new -/
def spBag (K : PySem.W.Frag) : Sp := fun vs H Q _ => ∃ (a : Addr) (ns : List Int), vs = [.ref a] ∧ SqL K H a (ns.map V.int) ∧ ns.length ≤ 63 ∧ ∀ (H' : Hp) (p : Addr), Same H H' → H p = none → Bag H' p → Q (.ref p) H'
theorem scBag : FnScope ["script", "stir", "cell"] ["script"] (defScope sBag) := ⟨rfl, rfl, rfl, by decide +kernel, rfl, by decide +kernel, by decide +kernel⟩
theorem ok_bag {f : Addr} {fd : FuncData} (F : Fun K "_law_bag" "_law_bag" sBag f fd) (T : Txt0 mg) : FnOk P w K mg base CX0 1 f fd ["script"] (spBag K) := by
  refine F.ok scBag (fun vs H Q E h => ?_) (fun cdv A outer s H vs Q E hr h => ?_)
  · obtain ⟨a, ns, rfl, _⟩ := h
    rfl
  · obtain ⟨a, ns, rfl, hS, hlen, k⟩ := h
    refine ⟨_, pss_cons (ps_set (i := 1) scBag.nd rfl (.inl rfl) pe_int)
      (pss_cons (ps_for PassesOwn.never rfl (pi_list (pe_slice sl_list (pv 0) po_none (po_some pe_int))) (pg_name (i := 2) scBag.nd rfl (.inl rfl))
        (pss_one (ps_set (i := 1) scBag.nd rfl (.inl rfl) (pe_op op_mod (pe_callTy call_int1 (by rfl) T.int boot_int (pa_cons (pe_op op_add (pe_op op_add (pe_op op_mul (pv 1) pe_int) (pe_op op_mod (pe_callTy call_int1 (by rfl) T.int boot_int (pa_cons (pv 2) pa_nil)) pe_int)) pe_int) pa_nil)) pe_int))))
      (pss_one (ps_ret (pe_lst (pa_cons
        (pe_lc (own := [("cell", 2)]) (g := gName 2) (tt := tYes) rfl scBag.nd (pi_list (pe_slice sl_list (pv 0) po_none (po_some pe_int))) (blkOk_by (N := ["script", "stir", "cell"]) (sc := defScope sBag) (by decide +kernel))
          (fun _ _ _ _ _ => pg_name (i := 2) scBag.nd rfl (Or.inl rfl)) (fun _ _ _ _ _ => pts_nil)
          (fun _ _ _ _ _ => pe_op op_mod (pe_callTy call_int1 (by rfl) T.int boot_int (pa_cons (pe_callB call_abs (by rfl) T.abs (by decide +kernel) (pa_cons (pv 2) pa_nil)) pa_nil)) (pe_op op_powW (pe_op op_pow pe_int pe_int) pe_int)))
        (pa_cons pe_int (pa_cons pe_int (pa_cons (pv 1) (pa_cons pe_int pa_nil))))))))), ?_⟩
    obtain ⟨ms, hms, hml⟩ := cut_ints ns none (some 63)
    refine ⟨_, rfl, 63, rfl, a, _, rfl, hS, fun c nc => ⟨c, rfl, ⟨_, SqL.of upd_same⟩, for_list (K := K) (a := c) (xs := ms.map V.int)
      (fun i σ H' => ∃ (st : Int) (v : Option V), σ = [some (.ref a), some (.int st), v] ∧ 0 ≤ st ∧ st < 2147483647 ∧ Same H H' ∧ H' c = some (.lst (ms.map V.int)))
      ⟨251, none, rfl, by decide, by decide, same_upd nc, by rw [upd_same, hms]⟩ (fun i σ H' _ ⟨_, _, _, _, _, _, e⟩ => SqL.of e) ?_ ?_⟩⟩
    · rintro i y σ H' hi' ⟨st, v, rfl, h0, h1, sm, hc⟩
      obtain ⟨z, rfl⟩ := int_at hi'
      refine ⟨_, rfl, _, _, rfl, rfl, .inr ⟨by decide, by decide⟩, _, rfl, .inl ⟨_, rfl, _, _, rfl, rfl, (by show (0 : Int) < 2147483629; decide), _, _, rfl, rfl, _, _, rfl, rfl, .inl ⟨_, rfl, _, _, rfl, rfl, (by show (0 : Int) < 2147483647; decide), ?_⟩⟩⟩
      exact ⟨_, _, rfl, Int.emod_nonneg _ (by decide), Int.emod_lt_of_pos _ (by decide), sm, hc⟩
    · rintro σ H' ⟨st, v, rfl, h0, h1, sm, hc⟩
      have hS' : SqL K H' a (ns.map V.int) := sm.seq hS
      refine ⟨_, rfl, 63, rfl, a, _, rfl, hS', fun d nd => ⟨d, rfl, ⟨_, SqL.of upd_same⟩, fun D hD => ?_⟩⟩
      have hdD : d ≠ D := fun e => by
        rw [← e, upd_same] at hD
        cases hD
      refine lc_list (K := K) (a := d) (xs := ms.map V.int) (fun i H2 => ∃ cs : List Int, Same H' H2 ∧ H2 d = some (.lst (ms.map V.int)) ∧ H2 D = some (.lst (cs.map V.int)) ∧ H' D = none ∧ cs.length = i ∧ ∀ x ∈ cs, 0 ≤ x)
        ⟨[], (same_upd nd).trans (same_upd hD), by rw [upd_ne hdD, upd_same, hms], upd_same, (by rw [upd_ne hdD.symm] at hD; exact hD), rfl, fun x hx => nomatch hx⟩ (fun i H2 _ ⟨_, _, e, _⟩ => SqL.of e) ?_ ?_
      · rintro i y H2 hi' ⟨cs, sm2, e1, e2, nD, el, pos⟩
        obtain ⟨z, rfl⟩ := int_at hi'
        have hil : i < ms.length := by
          have := (List.getElem?_eq_some_iff.mp hi').1
          rw [List.length_map] at this
          exact this
        refine ⟨rfl, ?_⟩
        unfold tYes
        dsimp only
        rw [if_pos rfl]
        refine ⟨_, rfl, _, rfl, .inl ⟨_, rfl, _, _, rfl, rfl, ⟨by decide, by decide, by decide⟩, _, _, rfl, rfl, ⟨by decide, by decide +kernel⟩, _, _, rfl, rfl, Int.pow_pos (Int.pow_pos (by decide)), ?_⟩⟩
        refine ⟨_, e2, ?_, cs ++ [(if z < 0 then -z else z) % ((10 ^ (60 : Int).toNat) ^ (10 : Int).toNat)], fun b o e => ?_, ?_, ?_, nD, ?_, ?_⟩
        · rw [List.length_map]
          exact small1000 (by omega)
        · rw [upd_ne (ne_of_none e nD)]
          exact sm2 _ _ e
        · rw [upd_ne hdD]
          exact e1
        · rw [upd_same, List.map_append]
          rfl
        · rw [List.length_append, List.length_singleton, el]
        · intro x hx
          rcases List.mem_append.mp hx with hx | hx
          · exact pos x hx
          · rw [List.mem_singleton.mp hx]
            exact Int.emod_nonneg _ (Int.ne_of_gt (Int.pow_pos (Int.pow_pos (by decide))))
      · rintro H2 ⟨cs, sm2, e1, e2, nD, el, pos⟩
        rw [List.length_map] at el
        refine ⟨_, rfl, (by show 5 ≤ sizeLine; decide), fun p hp => ?_⟩
        have nDp : D ≠ p := ne_of_none e2 hp
        refine k _ p ((sm.trans sm2).trans (same_upd hp)) ((sm.trans sm2).free hp) ⟨D, 0, 0, st, 0, cs, upd_same, ?_, nDp, Nat.zero_le _, by omega, Int.le_refl _, h0, h1, pos⟩
        rw [upd_ne nDp]
        exact e2
end
end K46

namespace K46
open PySem PySem.Spec PyProof.Rows L2 LcM
theorem at_in {xs : List V} {v : Int} (h0 : 0 ≤ v) (h1 : v < xs.length) : ∃ z ∈ xs, atI xs v = some z := by
  have lt : v.toNat < xs.length := by omega
  have q := atI_nat (List.getElem?_eq_getElem lt)
  rw [Int.toNat_of_nonneg h0] at q
  exact ⟨_, List.getElem_mem lt, q⟩
end K46

namespace K46
open PySem PySem.Spec PyProof.Rows L2 SortR LcM
abbrev sNumber : Stmt := top 12
abbrev sPerson : Stmt := top 13
abbrev sAsc : Stmt := top 14
abbrev sPList : Stmt := top 15
abbrev sGroup : Stmt := top 16
abbrev sMask : Stmt := top 19
abbrev sCross : Stmt := top 20
abbrev sAny : Stmt := top 21
abbrev sParting : Stmt := top 24
abbrev sPersons : Stmt := top 25
/-- the program's defs, where they stand -/
structure ProgF (K : PySem.W.Frag) (mg : Str → Option Value) where
  (fNum fPer fAsc fPL fGr fMask fCross fAny fIs fPs : Addr)
  (dNum dPer dAsc dPL dGr dMask dCross dAny dIs dPs : FuncData)
  FNum : Fun K "is_number" "is_number" sNumber fNum dNum
  FPer : Fun K "is_person" "is_person" sPerson fPer dPer
  FAsc : Fun K "is_ascending" "is_ascending" sAsc fAsc dAsc
  FPL : Fun K "is_person_list" "is_person_list" sPList fPL dPL
  FGr : Fun K "is_group" "is_group" sGroup fGr dGr
  FMask : Fun K "mask_of" "mask_of" sMask fMask dMask
  FCross : Fun K "masks_cross" "masks_cross" sCross fCross dCross
  FAny : Fun K "any_cross" "any_cross" sAny fAny dAny
  FIs : Fun K "is_parting" "is_parting" sParting fIs dIs
  FPs : Fun K "persons_of" "persons_of" sPersons fPs dPs
  gNum : mg "is_number" = some (.ref fNum)
  gPer : mg "is_person" = some (.ref fPer)
  gAsc : mg "is_ascending" = some (.ref fAsc)
  gPL : mg "is_person_list" = some (.ref fPL)
  gGr : mg "is_group" = some (.ref fGr)
  gMask : mg "mask_of" = some (.ref fMask)
  gCross : mg "masks_cross" = some (.ref fCross)
  gAny : mg "any_cross" = some (.ref fAny)
  gIs : mg "is_parting" = some (.ref fIs)
  gPs : mg "persons_of" = some (.ref fPs)
  bNum : Binds K dNum ["thing"] []
  bPer : Binds K dPer ["thing", "persons"] []
  bAsc : Binds K dAsc ["items"] []
  bPL : Binds K dPL ["thing", "persons"] []
  bGr : Binds K dGr ["thing", "persons"] []
  bMask : Binds K dMask ["group"] []
  bCross : Binds K dCross ["one", "other"] []
  bAny : Binds K dAny ["groups"] []
  bIs : Binds K dIs ["thing"] []
  bPs : Binds K dPs ["parting"] []
  gComb : mg "combinations" = some (.type "itertools.combinations")
  mostT : Tok
  gMost : mg "MOST_PERSONS" = some (.int 20 mostT)
/-- the built-in kinds that may come -/
def kinds : List String := ["int", "bool", "str", "NoneType", "list", "tuple", "dict"]
structure TxtP (mg : Str → Option Value) : Prop where
  isi : mg "isinstance" = none
  int : mg "int" = none
  bool : mg "bool" = none
  list : mg "list" = none
  len : mg "len" = none
  all : mg "all" = none
  any : mg "any" = none
  sum : mg "sum" = none
  zip : mg "zip" = none
  sorted : mg "sorted" = none
  tuple : mg "tuple" = none
  range : mg "range" = none
  enumerate : mg "enumerate" = none
def spNumber (K : PySem.W.Frag) : Sp := fun vs H Q _ => ∃ (x : V) (t : String), vs = [x] ∧ TyX K H x (.type t) ∧ t ∈ kinds ∧ Q (.bl (decide (t = "int"))) H
def spPerson (K : PySem.W.Frag) : Sp := fun vs H Q _ => ∃ (x : V) (t : String) (n : Int), vs = [x, .int n] ∧ TyX K H x (.type t) ∧ t ∈ kinds ∧ (t = "int" → ∃ i, x = .int i ∧ Q (.bl (decide (0 ≤ i) && decide (i < n))) H) ∧ (t ≠ "int" → Q (.bl false) H)
/-- each below the one behind it -/
def ascI (ns : List Int) : Bool := (List.range (ns.length - 1)).all fun i => decide (ns.getD i 0 < ns.getD (i + 1) 0)
def ascR (rs : List (List Int)) : Bool := (List.range (rs.length - 1)).all fun i => decide (rs.getD i [] < rs.getD (i + 1) [])
def spAscI (K : PySem.W.Frag) : Sp := fun vs H Q _ => ∃ (a : Addr) (ns : List Int), vs = [.ref a] ∧ SqL K H a (ns.map V.int) ∧ ns.length ≤ 1000 ∧ ∀ H', Grows H H' → Q (.bl (ascI ns)) H'
def spAscR (K : PySem.W.Frag) : Sp := fun vs H Q _ => ∃ (a : Addr) (bs : List (Addr × List Int)), vs = [.ref a] ∧ SqL K H a (bs.map fun b => V.ref b.1) ∧ (∀ b ∈ bs, SqL K H b.1 (b.2.map V.int)) ∧ bs.length ≤ 1000 ∧ ∀ H', Grows H H' → Q (.bl (ascR (bs.map (·.2)))) H'
section
variable {P : Program} {w : World} {K : PySem.W.Frag} {mg : Str → Option Value} {base : Heap}
theorem scNumber : FnScope ["thing"] ["thing"] (defScope sNumber) := ⟨rfl, rfl, rfl, by decide +kernel, rfl, by decide +kernel, by decide +kernel⟩
theorem scPerson : FnScope ["thing", "persons"] ["thing", "persons"] (defScope sPerson) := ⟨rfl, rfl, rfl, by decide +kernel, rfl, by decide +kernel, by decide +kernel⟩
theorem scAsc : FnScope ["items", "low", "high"] ["items"] (defScope sAsc) := ⟨rfl, rfl, rfl, by decide +kernel, rfl, by decide +kernel, by decide +kernel⟩
theorem ok_number {f : Addr} {fd : FuncData} (F : Fun K "is_number" "is_number" sNumber f fd) (T : TxtP mg) : FnOk P w K mg base CX0 1 f fd ["thing"] (spNumber K) := by
  refine F.ok scNumber (fun vs H Q E h => ?_) (fun cdv A outer s H vs Q E hr h => ?_)
  · obtain ⟨x, t, rfl, _⟩ := h
    rfl
  · obtain ⟨x, t, rfl, ty, hk, k⟩ := h
    refine ⟨_, (pss_one (ps_ret (pe_and (pe_callB call_isi (by rfl) T.isi (by decide +kernel) (pa_cons (pv 0) (pa_cons (pe_bltn (v := .ty "int") (u := .type "int") (by rfl) T.int (by decide +kernel) rfl) pa_nil))) (pe_one (pe_not (pe_callB call_isi (by rfl) T.isi (by decide +kernel) (pa_cons (pv 0) (pa_cons (pe_bltn (v := .ty "bool") (u := .type "bool") (by rfl) T.bool (by decide +kernel) rfl) pa_nil)))))))), ?_⟩
    simp only [kinds, List.mem_cons, List.not_mem_nil, or_false] at hk
    rcases hk with rfl | rfl | rfl | rfl | rfl | rfl | rfl
    · exact ⟨_, rfl, _, _, _, _, true, rfl, .ty "int", ty, kit_ty (by decide +kernel), true, rfl, _, rfl, _, _, _, _, false, rfl, .ty "bool", ty, kit_ty (by decide +kernel), false, rfl, k⟩
    · exact ⟨_, rfl, _, _, _, _, true, rfl, .ty "int", ty, kit_ty (by decide +kernel), true, rfl, _, rfl, _, _, _, _, true, rfl, .ty "bool", ty, kit_ty (by decide +kernel), true, rfl, k⟩
    all_goals exact ⟨_, rfl, _, _, _, _, false, rfl, .ty "int", ty, kit_ty (by decide +kernel), false, rfl, k⟩
theorem ok_person (Z : ProgF K mg) (T : TxtP mg) : FnOk P w K mg base CX0 2 Z.fPer Z.dPer ["thing", "persons"] (spPerson K) := by
  have GNum : FnOk P w K mg base CX0 1 Z.fNum Z.dNum ["thing"] (spNumber K) := ok_number Z.FNum T
  refine Z.FPer.ok scPerson (fun vs H Q E h => ?_) (fun cdv A outer s H vs Q E hr h => ?_)
  · obtain ⟨x, t, n, rfl, _⟩ := h
    rfl
  · obtain ⟨x, t, n, rfl, ty, hk, k1, k2⟩ := h
    refine ⟨_, (pss_one (ps_ret (pe_and (pe_call GNum (hr.mono (by decide)) rfl Z.gNum Z.FNum.kp Z.bNum .nil pass0 (pa_cons (pv 0) pa_nil)) (pe_one (pe_chain op_le op_lt pe_int (pv 0) (pv 1)))))), ?_⟩
    refine ⟨_, rfl, x, t, rfl, ty, hk, ?_⟩
    by_cases e : t = "int"
    · obtain ⟨i, rfl, q⟩ := k1 e
      refine ⟨_, rfl, ?_⟩
      rw [if_pos (decide_eq_true e)]
      refine ⟨_, rfl, _, _, rfl, rfl, _, rfl, ?_⟩
      by_cases l : 0 ≤ i
      · rw [if_pos (decide_eq_true l)]
        refine ⟨_, rfl, _, _, rfl, rfl, ?_⟩
        rw [decide_eq_true l, Bool.true_and] at q
        exact q
      · rw [if_neg (by rw [decide_eq_false l]; exact Bool.false_ne_true)]
        rw [decide_eq_false l, Bool.false_and] at q
        exact q
    · refine ⟨_, rfl, ?_⟩
      rw [if_neg (by rw [decide_eq_false e]; exact Bool.false_ne_true)]
      exact k2 e
theorem at_map {α : Type} {f : α → V} {ns : List α} {i : Nat} {x : V} {d : α} (h : (ns.map f)[i]? = some x) : x = f (ns.getD i d) := by
  rw [List.getElem?_map] at h
  obtain ⟨z, hz, e⟩ := Option.map_eq_some_iff.mp h
  rw [← e, List.getD_eq_getElem?_getD, hz]
  rfl
theorem at_tail {α : Type} {f : α → V} {ns : List α} {i : Nat} {x : V} {d : α} (h : (ns.map f).tail[i]? = some x) : x = f (ns.getD (i + 1) d) := by
  rw [List.getElem?_tail] at h
  exact at_map h
theorem all_rng (n : Nat) (p : Nat → Bool) : ((List.range n).map p).all id = (List.range n).all p := by
  rw [List.all_map]
  rfl
theorem ok_ascI {f : Addr} {fd : FuncData} (F : Fun K "is_ascending" "is_ascending" sAsc f fd) (T : TxtP mg) : FnOk P w K mg base CX0 1 f fd ["items"] (spAscI K) := by
  refine F.ok scAsc (fun vs H Q E h => ?_) (fun cdv A outer s H vs Q E hr h => ?_)
  · obtain ⟨a, ns, rfl, _⟩ := h
    rfl
  · obtain ⟨a, ns, rfl, hS, hn, k⟩ := h
    refine ⟨_, (pss_one (ps_ret (pe_callB (cr_all rfl) (by rfl) T.all (by decide +kernel) (pa_cons (pe_lc (own := [("low", 1), ("high", 2)]) (g := gTup K 2 (gCons (gName 1) (gCons (gName 2) gNil))) (tt := tYes) rfl scAsc.nd (pi_zip (by rfl) T.zip (pa_cons (pv 0) (pa_cons (pe_slice sl_list (pv 0) (po_some pe_int) po_none) pa_nil))) (blkOk_by (own := [("low", 1), ("high", 2)]) (N := ["items", "low", "high"]) (sc := defScope sAsc) (by decide +kernel)) (fun _ _ _ _ _ => pg_tup rfl (pgs_cons (pg_name (i := 1) scAsc.nd rfl (Or.inl rfl)) (pgs_cons (pg_name (i := 2) scAsc.nd rfl (Or.inl rfl)) pgs_nil))) (fun _ _ _ _ _ => pts_nil) (fun _ _ _ _ _ => (pe_cmpR op_lt (pv 1) (pv 2) (nomark _)))) pa_nil)))), ?_⟩
    refine ⟨_, rfl, _, rfl, 1, rfl, a, _, rfl, hS, fun c nc => ?_⟩
    rw [cut_tail]
    refine ⟨a, c, _, _, rfl, (Grows.new nc).seq hS, SqL.of upd_same, fun D hD => lc_zipM (K := K) (fun i => V.bl (decide (ns.getD i 0 < ns.getD (i + 1) 0))) hD ((Grows.new nc).seq hS) (SqL.of upd_same) (by rw [List.length_map]; omega) (fun i x y T H' R hx hy sm hT kR => ?_) fun H' sm eD => ?_⟩
    · refine ⟨T, _, rfl, SqT.of upd_same, rfl, _, _, rfl, _, _, rfl, rfl, ?_⟩
      obtain rfl := at_map (d := 0) hx
      obtain rfl := at_tail (d := 0) hy
      exact ⟨rfl, _, rfl, _, rfl, _, _, rfl, rfl, kR _ .refl⟩
    · have e : min (ns.map V.int).length (ns.map V.int).tail.length = ns.length - 1 := by
        rw [List.length_tail, List.length_map]
        omega
      rw [e] at eD
      refine ⟨D, (List.range (ns.length - 1)).map fun i => decide (ns.getD i 0 < ns.getD (i + 1) 0), rfl, SqL.of (by rw [eD, List.map_map]; rfl), ?_⟩
      rw [all_rng]
      exact k H' ((Grows.new nc).trans sm)
theorem ok_ascR {f : Addr} {fd : FuncData} (F : Fun K "is_ascending" "is_ascending" sAsc f fd) (T : TxtP mg) : FnOk P w K mg base CX0 1 f fd ["items"] (spAscR K) := by
  refine F.ok scAsc (fun vs H Q E h => ?_) (fun cdv A outer s H vs Q E hr h => ?_)
  · obtain ⟨a, bs, rfl, _⟩ := h
    rfl
  · obtain ⟨a, bs, rfl, hS, hb, hn, k⟩ := h
    refine ⟨_, (pss_one (ps_ret (pe_callB (cr_all rfl) (by rfl) T.all (by decide +kernel) (pa_cons (pe_lc (own := [("low", 1), ("high", 2)]) (g := gTup K 2 (gCons (gName 1) (gCons (gName 2) gNil))) (tt := tYes) rfl scAsc.nd (pi_zip (by rfl) T.zip (pa_cons (pv 0) (pa_cons (pe_slice sl_list (pv 0) (po_some pe_int) po_none) pa_nil))) (blkOk_by (own := [("low", 1), ("high", 2)]) (N := ["items", "low", "high"]) (sc := defScope sAsc) (by decide +kernel)) (fun _ _ _ _ _ => pg_tup rfl (pgs_cons (pg_name (i := 1) scAsc.nd rfl (Or.inl rfl)) (pgs_cons (pg_name (i := 2) scAsc.nd rfl (Or.inl rfl)) pgs_nil))) (fun _ _ _ _ _ => pts_nil) (fun _ _ _ _ _ => (pe_cmpR (r := rLtR K) (op_ltR (by exact hr.units)) (pv 1) (pv 2) (nomark _)))) pa_nil)))), ?_⟩
    refine ⟨_, rfl, _, rfl, 1, rfl, a, _, rfl, hS, fun c nc => ?_⟩
    rw [cut_tail]
    have hbD : ∀ i : Nat, i < bs.length → SqL K H (bs.getD i (0, [])).1 ((bs.getD i (0, [])).2.map V.int) := fun i hi => by
      rw [List.getD_eq_getElem?_getD, List.getElem?_eq_getElem hi]
      exact hb _ (List.getElem_mem hi)
    refine ⟨a, c, _, _, rfl, (Grows.new nc).seq hS, SqL.of upd_same, fun D hD => lc_zipM (K := K) (fun i => V.bl (decide ((bs.getD i (0, [])).2 < (bs.getD (i + 1) (0, [])).2))) hD ((Grows.new nc).seq hS) (SqL.of upd_same) (by rw [List.length_map]; omega) (fun i x y T H' R hx hy sm hT kR => ?_) fun H' sm eD => ?_⟩
    · have i1 := (List.getElem?_eq_some_iff.mp hx).1
      have i2 := (List.getElem?_eq_some_iff.mp hy).1
      rw [List.length_map] at i1
      rw [List.length_tail, List.length_map] at i2
      refine ⟨T, _, rfl, SqT.of upd_same, rfl, _, _, rfl, _, _, rfl, rfl, ?_⟩
      obtain rfl := at_map (d := (0, [])) hx
      obtain rfl := at_tail (d := (0, [])) hy
      have st : Grows H (upd H' T (.tup [V.ref (bs.getD i (0, [])).1, V.ref (bs.getD (i + 1) (0, [])).1])) := ((Grows.new nc).trans sm).trans (Grows.new hT)
      exact ⟨rfl, _, rfl, _, rfl, _, _, _, _, rfl, rfl, st.seq (hbD i i1), st.seq (hbD (i + 1) (by omega)), kR _ .refl⟩
    · have e : min (bs.map fun b => V.ref b.1).length (bs.map fun b => V.ref b.1).tail.length = bs.length - 1 := by
        rw [List.length_tail, List.length_map]
        omega
      rw [e] at eD
      refine ⟨D, (List.range (bs.length - 1)).map fun i => decide ((bs.getD i (0, [])).2 < (bs.getD (i + 1) (0, [])).2), rfl, SqL.of (by rw [eD, List.map_map]; rfl), ?_⟩
      rw [all_rng]
      have q := k H' ((Grows.new nc).trans sm)
      unfold ascR at q
      rw [List.length_map] at q
      have fe : ∀ i, (bs.map (·.2)).getD i [] = (bs.getD i (0, [])).2 := fun i => by
        rw [List.getD_eq_getElem?_getD, List.getD_eq_getElem?_getD, List.getElem?_map]
        cases bs[i]? <;> rfl
      simp only [fe] at q
      exact q
end
end K46

namespace K46
open PySem PySem.Spec PyProof.Rows L2 SortR LcM
theorem ty_list {K : PySem.W.Frag} {H : Hp} {a : Addr} {xs : List V} (h : SqL K H a xs) : TyX K H (.ref a) (.type "list") := by
  rcases h with (h | ⟨o, h⟩) | ⟨o, its, n, h, hc, _⟩
  · exact .base (.lst h)
  · exact .base (.frz h)
  · exact .kList h hc
def inR (n : Int) (ns : List Int) : Bool := (List.range ns.length).all fun i => decide (0 ≤ ns.getD i 0) && decide (ns.getD i 0 < n)
def plist (n : Int) (ns : List Int) : Bool := inR n ns && ascI ns
def group (n : Int) (ns : List Int) : Bool := plist n ns && decide (2 ≤ (ns.length : Int))
def maskI (ns : List Int) : Int := ((List.range ns.length).map fun i => 1 * 2 ^ (ns.getD i 0).toNat).sum
def crossI (i j : Int) : Bool := !inV (.int (Builtin.bitAnd i j)) [.int 0, .int i, .int j]
def anyX (rs : List (List Int)) : Bool := (List.range (Comb.prs rs.length).length).any fun t => crossI (maskI (rs.getD ((Comb.prs rs.length).getD t (0, 0)).1 [])) (maskI (rs.getD ((Comb.prs rs.length).getD t (0, 0)).2 []))
def isP (rs : List (List Int)) : Bool := decide ((rs.length : Int) < 20) && ((List.range rs.length).all fun i => group (rs.length + 1) (rs.getD i [])) && ascR rs && !anyX rs
def spPL (K : PySem.W.Frag) (m : Int → List Int → Bool) : Sp := fun vs H Q _ => ∃ (a : Addr) (n : Int) (ns : List Int), vs = [.ref a, .int n] ∧ SqL K H a (ns.map V.int) ∧ ns.length ≤ 1000 ∧ ∀ H', Grows H H' → Q (.bl (m n ns)) H'
def spMask (K : PySem.W.Frag) : Sp := fun vs H Q _ => ∃ (a : Addr) (ns : List Int), vs = [.ref a] ∧ SqL K H a (ns.map V.int) ∧ ns.length ≤ 1000 ∧ (∀ x ∈ ns, 0 ≤ x ∧ x ≤ 1000) ∧ ∀ H', Grows H H' → Q (.int (maskI ns)) H'
def spCross : Sp := fun vs H Q _ => ∃ (i j : Int), vs = [.int i, .int j] ∧ ∀ H', Grows H H' → Q (.bl (crossI i j)) H'
section
variable {P : Program} {w : World} {K : PySem.W.Frag} {mg : Str → Option Value} {base : Heap}
theorem scPList : FnScope ["thing", "persons", "item"] ["thing", "persons"] (defScope sPList) := ⟨rfl, rfl, rfl, by decide +kernel, rfl, by decide +kernel, by decide +kernel⟩
theorem scGroup : FnScope ["thing", "persons"] ["thing", "persons"] (defScope sGroup) := ⟨rfl, rfl, rfl, by decide +kernel, rfl, by decide +kernel, by decide +kernel⟩
theorem scMask : FnScope ["group", "person"] ["group"] (defScope sMask) := ⟨rfl, rfl, rfl, by decide +kernel, rfl, by decide +kernel, by decide +kernel⟩
theorem scCross : FnScope ["one", "other"] ["one", "other"] (defScope sCross) := ⟨rfl, rfl, rfl, by decide +kernel, rfl, by decide +kernel, by decide +kernel⟩
theorem ok_plist (Z : ProgF K mg) (T : TxtP mg) : FnOk P w K mg base CX0 3 Z.fPL Z.dPL ["thing", "persons"] (spPL K plist) := by
  have GPer : FnOk P w K mg base CX0 2 Z.fPer Z.dPer ["thing", "persons"] (spPerson K) := ok_person Z T
  have GAsc : FnOk P w K mg base CX0 1 Z.fAsc Z.dAsc ["items"] (spAscI K) := ok_ascI Z.FAsc T
  refine Z.FPL.ok scPList (fun vs H Q E h => ?_) (fun cdv A outer s H vs Q E hr h => ?_)
  · obtain ⟨a, n, ns, rfl, _⟩ := h
    rfl
  · obtain ⟨a, n, ns, rfl, hS, hn, k⟩ := h
    refine ⟨_, (pss_cons (ps_if (pt_not (pt_val (pe_callB call_isi (by rfl) T.isi (by decide +kernel) (pa_cons (pv 0) (pa_cons (pe_bltn (v := .ty "list") (u := .type "list") (by rfl) T.list (by decide +kernel) rfl) pa_nil))))) (pss_one (ps_ret pe_bl)) pss_nil)
      (pss_one (ps_ret (pe_and (pe_callB (cr_all rfl) (by rfl) T.all (by decide +kernel) (pa_cons (pe_lc (own := [("item", 2)]) (g := gName 2) (tt := tYes) rfl scPList.nd (pi_list (pv 0)) (blkOk_by (own := [("item", 2)]) (N := ["thing", "persons", "item"]) (sc := defScope sPList) (by decide +kernel)) (fun _ _ _ _ _ => pg_name (i := 2) scPList.nd rfl (Or.inl rfl)) (fun _ _ _ _ _ => pts_nil) (fun _ _ _ _ _ => (pe_call GPer (hr.mono (by decide)) rfl Z.gPer Z.FPer.kp Z.bPer .nil pass0 (pa_cons (pv 2) (pa_cons (pv 1) pa_nil))))) pa_nil)) (pe_one (pe_call GAsc (hr.mono (by decide)) rfl Z.gAsc Z.FAsc.kp Z.bAsc .nil pass0 (pa_cons (pv 0) pa_nil))))))), ?_⟩
    refine ⟨_, rfl, _, _, _, _, true, rfl, .ty "list", ty_list hS, kit_ty (by decide +kernel), true, rfl, ?_⟩
    refine iteF ⟨_, rfl, a, rfl, ⟨_, hS⟩, fun D hD => lc_listM (K := K) (fun i => V.bl (decide (0 ≤ ns.getD i 0) && decide (ns.getD i 0 < n))) hD hS (by rw [List.length_map]; omega) (fun i x H' R hx sm kR => ?_) fun H' sm eD => ?_⟩
    · obtain rfl := at_map (d := 0) hx
      refine ⟨rfl, _, rfl, _, rfl, _, "int", n, rfl, .base (.int _), by decide, fun _ => ⟨_, rfl, kR _ .refl⟩, fun z => absurd rfl z⟩
    · rw [List.length_map] at eD
      refine ⟨D, (List.range ns.length).map fun i => decide (0 ≤ ns.getD i 0) && decide (ns.getD i 0 < n), rfl, SqL.of (by rw [eD, List.map_map]; rfl), _, rfl, ?_⟩
      rw [all_rng]
      show if inR n ns = true then _ else _
      by_cases hi : inR n ns = true
      · rw [if_pos hi]
        refine ⟨_, rfl, a, ns, rfl, sm.seq hS, hn, fun H2 s2 => ?_⟩
        have q := k H2 (sm.trans s2)
        unfold plist at q
        rw [hi, Bool.true_and] at q
        exact q
      · rw [if_neg hi]
        have q := k H' sm
        unfold plist at q
        rw [Bool.eq_false_iff.mpr hi, Bool.false_and] at q
        exact q
theorem ok_group (Z : ProgF K mg) (T : TxtP mg) : FnOk P w K mg base CX0 4 Z.fGr Z.dGr ["thing", "persons"] (spPL K group) := by
  have GPL : FnOk P w K mg base CX0 3 Z.fPL Z.dPL ["thing", "persons"] (spPL K plist) := ok_plist Z T
  refine Z.FGr.ok scGroup (fun vs H Q E h => ?_) (fun cdv A outer s H vs Q E hr h => ?_)
  · obtain ⟨a, n, ns, rfl, _⟩ := h
    rfl
  · obtain ⟨a, n, ns, rfl, hS, hn, k⟩ := h
    refine ⟨_, (pss_one (ps_ret (pe_and (pe_call GPL (hr.mono (by decide)) rfl Z.gPL Z.FPL.kp Z.bPL .nil pass0 (pa_cons (pv 0) (pa_cons (pv 1) pa_nil))) (pe_one (pe_cmpR op_ge (pe_callB call_len_seq (by rfl) T.len (by decide +kernel) (pa_cons (pv 0) pa_nil)) pe_int (nomark _)))))), ?_⟩
    refine ⟨_, rfl, _, rfl, a, n, ns, rfl, hS, hn, fun H2 s2 => ⟨_, rfl, ?_⟩⟩
    have q := k H2 s2
    unfold group at q
    by_cases hi : plist n ns = true
    · rw [if_pos hi]
      rw [hi, Bool.true_and] at q
      refine ⟨_, rfl, a, _, rfl, .inl (s2.seq hS), _, _, rfl, rfl, ?_⟩
      rw [List.length_map]
      exact q
    · rw [if_neg hi]
      rw [Bool.eq_false_iff.mpr hi, Bool.false_and] at q
      exact q
theorem ok_mask (Z : ProgF K mg) (T : TxtP mg) : FnOk P w K mg base CX0 1 Z.fMask Z.dMask ["group"] (spMask K) := by
  refine Z.FMask.ok scMask (fun vs H Q E h => ?_) (fun cdv A outer s H vs Q E hr h => ?_)
  · obtain ⟨a, ns, rfl, _⟩ := h
    rfl
  · obtain ⟨a, ns, rfl, hS, hn, hr0, k⟩ := h
    refine ⟨_, (pss_one (ps_ret (pe_callB (cr_sum rfl) (by rfl) T.sum (by decide +kernel) (pa_cons (pe_lc (own := [("person", 1)]) (g := gName 1) (tt := tYes) rfl scMask.nd (pi_list (pv 0)) (blkOk_by (own := [("person", 1)]) (N := ["group", "person"]) (sc := defScope sMask) (by decide +kernel)) (fun _ _ _ _ _ => pg_name (i := 1) scMask.nd rfl (Or.inl rfl)) (fun _ _ _ _ _ => pts_nil) (fun _ _ _ _ _ => (pe_op op_shl pe_int (pv 1)))) pa_nil)))), ?_⟩
    refine ⟨_, rfl, a, rfl, ⟨_, hS⟩, fun D hD => lc_listM (K := K) (fun i => V.int (1 * 2 ^ (ns.getD i 0).toNat)) hD hS (by rw [List.length_map]; omega) (fun i x H' R hx sm kR => ?_) fun H' sm eD => ?_⟩
    · have il := (List.getElem?_eq_some_iff.mp hx).1
      rw [List.length_map] at il
      obtain rfl := at_map (d := 0) hx
      have mem : ns.getD i 0 ∈ ns := by
        rw [List.getD_eq_getElem?_getD, List.getElem?_eq_getElem il]
        exact List.getElem_mem il
      obtain ⟨m0, m1⟩ := hr0 _ mem
      exact ⟨rfl, _, rfl, _, _, rfl, rfl, ⟨m0, by omega, by decide⟩, kR _ .refl⟩
    · rw [List.length_map] at eD
      refine ⟨D, (List.range ns.length).map fun i => 1 * 2 ^ (ns.getD i 0).toNat, rfl, SqL.of (by rw [eD, List.map_map]; rfl), ?_⟩
      exact k H' sm
theorem ok_cross (Z : ProgF K mg) : FnOk P w K mg base CX0 1 Z.fCross Z.dCross ["one", "other"] spCross := by
  refine Z.FCross.ok scCross (fun vs H Q E h => ?_) (fun cdv A outer s H vs Q E hr h => ?_)
  · obtain ⟨i, j, rfl, _⟩ := h
    rfl
  · obtain ⟨i, j, rfl, k⟩ := h
    refine ⟨_, (pss_one (ps_ret (pe_cmpR op_notIn_seq (pe_op op_and (pv 0) (pv 1)) (pe_tup (pa_cons pe_int (pa_cons (pv 0) (pa_cons (pv 1) pa_nil)))) (by rfl)))), ?_⟩
    refine ⟨_, rfl, _, rfl, _, _, rfl, rfl, _, rfl, _, rfl, (by show 3 ≤ sizeLine; decide), fun t ht => ⟨t, _, rfl, .inr (SqT.of upd_same), rfl, rfl, ?_⟩⟩
    exact k _ (Grows.new ht)
end
end K46

namespace K46
open PySem PySem.Spec PyProof.Rows L2 SortR LcM
/-- a list of lists of ints, as it stands -/
structure Rw (K : PySem.W.Frag) (H : Hp) (a : Addr) (bs : List (Addr × List Int)) : Prop where
  top : SqL K H a (bs.map fun b => V.ref b.1)
  each : ∀ b ∈ bs, SqL K H b.1 (b.2.map V.int)
theorem Rw.keep {K : PySem.W.Frag} {H H' : Hp} {a : Addr} {bs : List (Addr × List Int)} (r : Rw K H a bs) (s : Grows H H') : Rw K H' a bs := ⟨s.seq r.top, fun b m => s.seq (r.each b m)⟩
theorem Rw.at {K : PySem.W.Frag} {H : Hp} {a : Addr} {bs : List (Addr × List Int)} (r : Rw K H a bs) {i : Nat} (hi : i < bs.length) : SqL K H (bs.getD i (0, [])).1 ((bs.getD i (0, [])).2.map V.int) := by
  rw [List.getD_eq_getElem?_getD, List.getElem?_eq_getElem hi]
  exact r.each _ (List.getElem_mem hi)
theorem snd_at (bs : List (Addr × List Int)) (i : Nat) : (bs.map (·.2)).getD i [] = (bs.getD i (0, [])).2 := by
  rw [List.getD_eq_getElem?_getD, List.getD_eq_getElem?_getD, List.getElem?_map]
  cases bs[i]? <;> rfl
theorem mem_at {bs : List (Addr × List Int)} {i : Nat} (hi : i < bs.length) : (bs.getD i (0, [])).2 ∈ bs.map (·.2) := by
  rw [List.getD_eq_getElem?_getD, List.getElem?_eq_getElem hi]
  exact List.mem_map.mpr ⟨_, List.getElem_mem hi, rfl⟩
theorem none_back {H H' : Hp} {a : Addr} (s : Grows H H') (h : H' a = none) : H a = none := by
  rcases Option.eq_none_or_eq_some (H a) with z | ⟨o, z⟩
  · exact z
  · rw [s _ _ z] at h
    cases h
theorem nw_back {H0 H1 H : Hp} {cs : List (Addr × List Int)} (n : Nw H1 H cs) (s : Grows H0 H1) : Nw H0 H cs := ⟨n.lists, fun c m => none_back s (n.new c m), n.nodup⟩
theorem snd_of {cs : List (Addr × List Int)} {R : Nat → List Int} {n i : Nat} (e : cs.map (·.2) = (List.range n).map R) (hi : i < n) : (cs.getD i (0, [])).2 = R i := by
  rw [← snd_at, e, List.getD_eq_getElem?_getD, List.getElem?_map, List.getElem?_range hi]
  rfl
theorem any_rng (n : Nat) (p : Nat → Bool) : ((List.range n).map p).any id = (List.range n).any p := by
  rw [List.any_map]
  rfl
/-- of the size that may come -/
def Sz (rs : List (List Int)) : Prop := rs.length ≤ 1000 ∧ ∀ r ∈ rs, r.length ≤ 1000
def spAny (K : PySem.W.Frag) : Sp := fun vs H Q _ => ∃ (a : Addr) (bs : List (Addr × List Int)), vs = [.ref a] ∧ Rw K H a bs ∧ Sz (bs.map (·.2)) ∧ (∀ r ∈ bs.map (·.2), ∀ x ∈ r, 0 ≤ x ∧ x ≤ 1000) ∧ ∀ H', Grows H H' → Q (.bl (anyX (bs.map (·.2)))) H'
def spIs (K : PySem.W.Frag) : Sp := fun vs H Q _ => ∃ (a : Addr) (bs : List (Addr × List Int)), vs = [.ref a] ∧ Rw K H a bs ∧ Sz (bs.map (·.2)) ∧ ∀ H', Grows H H' → Q (.bl (isP (bs.map (·.2)))) H'
def spPs (K : PySem.W.Frag) : Sp := fun vs H Q _ => ∃ (a : Addr) (bs : List (Addr × List Int)), vs = [.ref a] ∧ Rw K H a bs ∧ Sz (bs.map (·.2)) ∧ isP (bs.map (·.2)) = true ∧ ∀ H', Grows H H' → Q (.int (bs.length + 1)) H'
section
variable {P : Program} {w : World} {K : PySem.W.Frag} {mg : Str → Option Value} {base : Heap}
theorem scAny : FnScope ["groups", "masks", "group", "one", "other"] ["groups"] (defScope sAny) := ⟨rfl, rfl, rfl, by decide +kernel, rfl, by decide +kernel, by decide +kernel⟩
theorem scParting : FnScope ["thing", "persons", "group"] ["thing"] (defScope sParting) := ⟨rfl, rfl, rfl, by decide +kernel, rfl, by decide +kernel, by decide +kernel⟩
theorem scPersons : FnScope ["parting"] ["parting"] (defScope sPersons) := ⟨rfl, rfl, rfl, by decide +kernel, rfl, by decide +kernel, by decide +kernel⟩
theorem ok_any (Z : ProgF K mg) (T : TxtP mg) : FnOk P w K mg base CX0 2 Z.fAny Z.dAny ["groups"] (spAny K) := by
  have GMask : FnOk P w K mg base CX0 1 Z.fMask Z.dMask ["group"] (spMask K) := ok_mask Z T
  have GCross : FnOk P w K mg base CX0 1 Z.fCross Z.dCross ["one", "other"] spCross := ok_cross Z
  refine Z.FAny.ok scAny (fun vs H Q E h => ?_) (fun cdv A outer s H vs Q E hr h => ?_)
  · obtain ⟨a, bs, rfl, _⟩ := h
    rfl
  · obtain ⟨a, bs, rfl, hB, ⟨hz1, hz2⟩, hx, k⟩ := h
    refine ⟨_, (pss_cons (ps_setLc (i := 1) (own := [("group", 2)]) (g := gName 2) (tt := tYes) rfl scAny.nd rfl rfl (sw_true rfl rfl rfl (by decide +kernel)) (pi_list (pv 0)) (blkOk_by (own := [("group", 2)]) (N := ["groups", "masks", "group", "one", "other"]) (sc := defScope sAny) (by decide +kernel)) (fun _ _ _ _ _ => pg_name (i := 2) scAny.nd rfl (Or.inl rfl)) (fun _ _ _ _ _ => pts_nil) (fun _ _ _ _ _ => (pe_call GMask (hr.mono (by decide)) rfl Z.gMask Z.FMask.kp Z.bMask .nil pass0 (pa_cons (pv 2) pa_nil))))
      (pss_one (ps_ret (pe_callB (cr_any rfl) (by rfl) T.any (by decide +kernel) (pa_cons (pe_lc (own := [("one", 3), ("other", 4)]) (g := gTup K 2 (gCons (gName 3) (gCons (gName 4) gNil))) (tt := tYes) rfl scAny.nd (Comb.pi_comb (by rfl) Z.gComb (pa_cons (pv 1) (pa_cons pe_int pa_nil))) (blkOk_by (own := [("one", 3), ("other", 4)]) (N := ["groups", "masks", "group", "one", "other"]) (sc := defScope sAny) (by decide +kernel)) (fun _ _ _ _ _ => pg_tup rfl (pgs_cons (pg_name (i := 3) scAny.nd rfl (Or.inl rfl)) (pgs_cons (pg_name (i := 4) scAny.nd rfl (Or.inl rfl)) pgs_nil))) (fun _ _ _ _ _ => pts_nil) (fun _ _ _ _ _ => (pe_call GCross (hr.mono (by decide)) rfl Z.gCross Z.FCross.kp Z.bCross .nil pass0 (pa_cons (pv 3) (pa_cons (pv 4) pa_nil))))) pa_nil))))), ?_⟩
    rw [List.length_map] at hz1
    refine ⟨_, rfl, a, rfl, ⟨_, hB.top⟩, fun D hD => lc_listM (K := K) (fun i => V.int (maskI (bs.getD i (0, [])).2)) hD hB.top (by rw [List.length_map]; omega) (fun i x H' R hx' sm kR => ?_) fun H' sm eD => ?_⟩
    · have il := (List.getElem?_eq_some_iff.mp hx').1
      rw [List.length_map] at il
      obtain rfl := at_map (d := (0, [])) hx'
      exact ⟨rfl, _, rfl, _, _, rfl, sm.seq (hB.at il), hz2 _ (mem_at il), hx _ (mem_at il), fun H2 s2 => kR _ s2⟩
    · rw [List.length_map] at eD
      refine ⟨_, rfl, D, _, rfl, SqL.of eD, fun D2 hD2 => lc_combM (xs := (List.range bs.length).map fun i => V.int (maskI (bs.getD i (0, [])).2)) (fun t => V.bl (crossI (maskI (bs.getD ((Comb.prs bs.length).getD t (0, 0)).1 (0, [])).2) (maskI (bs.getD ((Comb.prs bs.length).getD t (0, 0)).2 (0, [])).2))) hD2 (by rw [List.length_map, List.length_range]; exact hz1) (fun t i j x y T H' R ht ex ey sm2 hT kR => ?_) fun H2 sm2 eD2 => ?_⟩
      · rw [List.length_map, List.length_range] at ht
        rw [List.getElem?_map] at ex ey
        have gx : x = .int (maskI (bs.getD i (0, [])).2) := by
          obtain ⟨z, hz, e⟩ := Option.map_eq_some_iff.mp ex
          have e2 := (List.getElem?_eq_some_iff.mp hz)
          obtain ⟨l2, e3⟩ := e2
          rw [List.getElem_range] at e3
          rw [← e, ← e3]
        have gy : y = .int (maskI (bs.getD j (0, [])).2) := by
          obtain ⟨z, hz, e⟩ := Option.map_eq_some_iff.mp ey
          have e2 := (List.getElem?_eq_some_iff.mp hz)
          obtain ⟨l2, e3⟩ := e2
          rw [List.getElem_range] at e3
          rw [← e, ← e3]
        subst gx gy
        have et : (Comb.prs bs.length).getD t (0, 0) = (i, j) := by
          rw [List.getD_eq_getElem?_getD, ht]
          rfl
        rw [et] at kR
        exact ⟨T, _, rfl, SqT.of upd_same, rfl, _, _, rfl, _, _, rfl, rfl, rfl, _, rfl, _, rfl, _, _, rfl, fun H3 s3 => kR _ s3⟩
      · rw [List.length_map, List.length_range] at eD2
        refine ⟨D2, (List.range (Comb.prs bs.length).length).map fun t => crossI (maskI (bs.getD ((Comb.prs bs.length).getD t (0, 0)).1 (0, [])).2) (maskI (bs.getD ((Comb.prs bs.length).getD t (0, 0)).2 (0, [])).2), rfl, SqL.of (by rw [eD2, List.map_map]; rfl), ?_⟩
        rw [any_rng]
        have q := k H2 (sm.trans sm2)
        unfold anyX at q
        simp only [List.length_map, snd_at] at q
        exact q
theorem rows_in {n : Int} {ns : List Int} (h : group n ns = true) (hn : n ≤ 1000) : ∀ x ∈ ns, 0 ≤ x ∧ x ≤ 1000 := by
  unfold group plist at h
  simp only [Bool.and_eq_true] at h
  obtain ⟨⟨h1, _⟩, _⟩ := h
  intro x hx
  obtain ⟨i, hi, e⟩ := List.getElem_of_mem hx
  have q := List.all_eq_true.mp h1 i (List.mem_range.mpr hi)
  simp only [Bool.and_eq_true, decide_eq_true_eq] at q
  rw [List.getD_eq_getElem?_getD, List.getElem?_eq_getElem hi] at q
  have q' : 0 ≤ ns[i] ∧ ns[i] < n := q
  rw [e] at q'
  omega
theorem ok_is (Z : ProgF K mg) (T : TxtP mg) : FnOk P w K mg base CX0 5 Z.fIs Z.dIs ["thing"] (spIs K) := by
  have GGr : FnOk P w K mg base CX0 4 Z.fGr Z.dGr ["thing", "persons"] (spPL K group) := ok_group Z T
  have GAsc : FnOk P w K mg base CX0 1 Z.fAsc Z.dAsc ["items"] (spAscR K) := ok_ascR Z.FAsc T
  have GAny : FnOk P w K mg base CX0 2 Z.fAny Z.dAny ["groups"] (spAny K) := ok_any Z T
  refine Z.FIs.ok scParting (fun vs H Q E h => ?_) (fun cdv A outer s H vs Q E hr h => ?_)
  · obtain ⟨a, bs, rfl, _⟩ := h
    rfl
  · obtain ⟨a, bs, rfl, hB, hz, k⟩ := h
    refine ⟨_, (pss_cons (ps_if (PW.pt (pw_or (pt_not (pt_val (pe_callB call_isi (by rfl) T.isi (by decide +kernel) (pa_cons (pv 0) (pa_cons (pe_bltn (v := .ty "list") (u := .type "list") (by rfl) T.list (by decide +kernel) rfl) pa_nil))))) (pw_or1 (pt_cmpR op_ge (pe_callB call_len_seq (by rfl) T.len (by decide +kernel) (pa_cons (pv 0) pa_nil)) (pe_glob (v := .int 20) rfl Z.gMost ⟨_, rfl⟩) (nomark _))))) (pss_one (ps_ret pe_bl)) pss_nil)
      (pss_cons (ps_set (i := 1) scParting.nd rfl (.inr rfl) (pe_op op_add (pe_callB call_len_seq (by rfl) T.len (by decide +kernel) (pa_cons (pv 0) pa_nil)) pe_int))
      (pss_cons (ps_if (pt_not (pt_val (pe_callB (cr_all rfl) (by rfl) T.all (by decide +kernel) (pa_cons (pe_lc (own := [("group", 2)]) (g := gName 2) (tt := tYes) rfl scParting.nd (pi_list (pv 0)) (blkOk_by (own := [("group", 2)]) (N := ["thing", "persons", "group"]) (sc := defScope sParting) (by decide +kernel)) (fun _ _ _ _ _ => pg_name (i := 2) scParting.nd rfl (Or.inl rfl)) (fun _ _ _ _ _ => pts_nil) (fun _ _ _ _ _ => (pe_call GGr (hr.mono (by decide)) rfl Z.gGr Z.FGr.kp Z.bGr .nil pass0 (pa_cons (pv 2) (pa_cons (pv 1) pa_nil))))) pa_nil)))) (pss_one (ps_ret pe_bl)) pss_nil)
      (pss_one (ps_ret (pe_and (pe_call GAsc (hr.mono (by decide)) rfl Z.gAsc Z.FAsc.kp Z.bAsc .nil pass0 (pa_cons (pv 0) pa_nil)) (pe_one (pe_not (pe_call GAny (hr.mono (by decide)) rfl Z.gAny Z.FAny.kp Z.bAny .nil pass0 (pa_cons (pv 0) pa_nil)))))))))), ?_⟩
    have hz' := hz
    obtain ⟨hz1, hz2⟩ := hz
    rw [List.length_map] at hz1
    refine ⟨_, rfl, _, _, _, _, true, rfl, .ty "list", ty_list hB.top, kit_ty (by decide +kernel), true, rfl, iteF ⟨_, rfl, a, _, rfl, .inl hB.top, _, _, rfl, rfl, _, rfl, ?_⟩⟩
    rw [List.length_map]
    refine ite2 (fun e => ?_) (fun e => ?_)
    · have ge := of_decide_eq_true e
      have q := k H .refl
      unfold isP at q
      rw [List.length_map, decide_eq_false (by omega), Bool.false_and, Bool.false_and, Bool.false_and] at q
      exact q
    · have lt : (bs.length : Int) < 20 := by
        rcases Int.lt_or_le (bs.length : Int) 20 with z | z
        · exact z
        · exact absurd (decide_eq_true z) e
      refine ⟨_, rfl, a, _, rfl, .inl hB.top, _, _, rfl, rfl, ?_⟩
      rw [List.length_map]
      refine ⟨_, rfl, a, rfl, ⟨_, hB.top⟩, fun D hD => lc_listM (K := K) (fun i => V.bl (group (bs.length + 1) (bs.getD i (0, [])).2)) hD hB.top (by rw [List.length_map]; omega) (fun i x H' R hx' sm kR => ?_) fun H' sm eD => ?_⟩
      · have il := (List.getElem?_eq_some_iff.mp hx').1
        rw [List.length_map] at il
        obtain rfl := at_map (d := (0, [])) hx'
        exact ⟨rfl, _, rfl, _, rfl, _, _, _, rfl, sm.seq (hB.at il), hz2 _ (mem_at il), fun H2 s2 => kR _ s2⟩
      · rw [List.length_map] at eD
        refine ⟨D, (List.range bs.length).map fun i => group (bs.length + 1) (bs.getD i (0, [])).2, rfl, SqL.of (by rw [eD, List.map_map]; rfl), ?_⟩
        rw [all_rng]
        refine ⟨_, rfl, ?_⟩
        have val : ∀ H2, Grows H H2 → Q (.bl (((List.range bs.length).all fun i => group (bs.length + 1) (bs.getD i (0, [])).2) && ascR (bs.map (·.2)) && !anyX (bs.map (·.2)))) H2 := fun H2 s2 => by
          have q := k H2 s2
          unfold isP at q
          simp only [List.length_map, snd_at] at q
          rw [decide_eq_true lt, Bool.true_and] at q
          exact q
        by_cases hg : ((List.range bs.length).all fun i => group (bs.length + 1) (bs.getD i (0, [])).2) = true
        · rw [hg] at val ⊢
          refine iteF ⟨_, rfl, a, bs, rfl, (hB.keep sm).top, (hB.keep sm).each, hz1, fun H2 s2 => ⟨_, rfl, ?_⟩⟩
          by_cases ha : ascR (bs.map (·.2)) = true
          · rw [if_pos ha]
            have hx : ∀ r ∈ bs.map (·.2), ∀ x ∈ r, 0 ≤ x ∧ x ≤ 1000 := fun r hr x hx => by
              obtain ⟨i, hi, e⟩ := List.getElem_of_mem hr
              rw [List.length_map] at hi
              have g := List.all_eq_true.mp hg i (List.mem_range.mpr hi)
              have e2 : (bs.getD i (0, [])).2 = r := by
                rw [← snd_at, List.getD_eq_getElem?_getD, List.getElem?_eq_getElem (by rw [List.length_map]; exact hi), e]
                rfl
              rw [e2] at g
              exact rows_in g (by omega) x hx
            refine ⟨_, rfl, a, bs, rfl, (hB.keep sm).keep s2, hz', hx, fun H3 s3 => ⟨_, rfl, ?_⟩⟩
            have q := val H3 ((sm.trans s2).trans s3)
            rw [ha, Bool.true_and, Bool.true_and] at q
            exact q
          · rw [if_neg ha]
            have q := val H2 (sm.trans s2)
            rw [Bool.eq_false_iff.mpr ha, Bool.true_and, Bool.false_and] at q
            exact q
        · have q := val H' sm
          rw [Bool.eq_false_iff.mpr hg] at q ⊢
          rw [Bool.false_and, Bool.false_and] at q
          exact iteT q
theorem ok_persons (Z : ProgF K mg) (T : TxtP mg) : FnOk P w K mg base CX0 6 Z.fPs Z.dPs ["parting"] (spPs K) := by
  have GIs : FnOk P w K mg base CX0 5 Z.fIs Z.dIs ["thing"] (spIs K) := ok_is Z T
  refine Z.FPs.ok scPersons (fun vs H Q E h => ?_) (fun cdv A outer s H vs Q E hr h => ?_)
  · obtain ⟨a, bs, rfl, _⟩ := h
    rfl
  · obtain ⟨a, bs, rfl, hB, hz, hp, k⟩ := h
    refine ⟨_, (pss_cons (ps_if (pt_not (pt_val (pe_call GIs (hr.mono (by decide)) rfl Z.gIs Z.FIs.kp Z.bIs .nil pass0 (pa_cons (pv 0) pa_nil)))) (pss_one ps_never) pss_nil)
      (pss_one (ps_ret (pe_op op_add (pe_callB call_len_seq (by rfl) T.len (by decide +kernel) (pa_cons (pv 0) pa_nil)) pe_int)))), ?_⟩
    refine ⟨_, rfl, a, bs, rfl, hB, hz, fun H2 s2 => ?_⟩
    rw [hp]
    refine ⟨_, rfl, iteF ⟨_, rfl, a, _, rfl, .inl (s2.seq hB.top), _, _, rfl, rfl, ?_⟩⟩
    rw [List.length_map]
    exact k H2 s2
end
end K46

namespace K46
open PySem PySem.Spec PyProof.Rows L2 SortR LcM
abbrev sCut : Stmt := top 27
def valOf : Stmt → Expr
  | .Assign _ v _ => v
  | _ => .Constant .none 0 ⟨0, 0, 0, 0⟩
def lcScope : Expr → Scope
  | .ListComp _ _ s _ => s
  | _ => defScope sCut
abbrev scMeet : Scope := lcScope (valOf ((defBody sCut).getD 2 (.Pass ⟨0, 0, 0, 0⟩)))
section
variable {P : Program} {w : World} {K : PySem.W.Frag} {mg : Str → Option Value} {base : Heap}
theorem scCut : FnScope ["parting", "some", "places", "place", "person", "meetings", "group", "kept", "meeting"] ["parting", "some"] (defScope sCut) := ⟨rfl, rfl, rfl, by decide +kernel, rfl, by decide +kernel, by decide +kernel⟩
def spCut (K : PySem.W.Frag) : Sp := fun vs H Q _ => ∃ (a b : Addr) (bs : List (Addr × List Int)) (ns : List Int), vs = [.ref a, .ref b] ∧ Rw K H a bs ∧ Sz (bs.map (·.2)) ∧ SqL K H b (ns.map V.int) ∧ ns.length ≤ 1000 ∧
  ∀ (p : Addr) (cs : List (Addr × List Int)) (H' : Hp), cs.map (·.2) = cutR (bs.map (·.2)) ns → Grows H H' → H p = none → Nw H H' cs → (∀ c ∈ cs, c.1 ≠ p) → H' p = some (.lst (cs.map fun c => V.ref c.1)) → Q (.ref p) H'
theorem ok_cut {f : Addr} {fd : FuncData} (F : Fun K "cut" "cut" sCut f fd) (T : TxtP mg) : FnOk P w K mg base CX0 1 f fd ["parting", "some"] (spCut K) := by
  refine F.ok scCut (fun vs H Q E h => ?_) (fun cdv A outer s H vs Q E hr h => ?_)
  · obtain ⟨a, b, bs, ns, rfl, _⟩ := h
    rfl
  · obtain ⟨a, b, bs, ns, rfl, hB, ⟨hz1, hz2⟩, hS, hn, k⟩ := h
    have hu := hu_of hr
    rw [List.length_map] at hz1
    refine ⟨_, (pss_cons (ps_set (i := 2) scCut.nd rfl (.inr rfl) (pe_dc (own := [("place", 3), ("person", 4)]) (g := gTup K 2 (gCons (gName 3) (gCons (gName 4) gNil))) (tt := tYes) rfl scCut.nd (pi_enum (by rfl) T.enumerate (pa_cons (pv 1) pa_nil)) (blkOk_by (own := [("place", 3), ("person", 4)]) (N := ["parting", "some", "places", "place", "person", "meetings", "group", "kept", "meeting"]) (sc := defScope sCut) (by decide +kernel)) (fun _ _ _ _ _ => pg_tup rfl (pgs_cons (pg_name (i := 3) scCut.nd rfl (Or.inl rfl)) (pgs_cons (pg_name (i := 4) scCut.nd rfl (Or.inl rfl)) pgs_nil))) (fun _ _ _ _ _ => pts_nil) (fun _ _ _ _ _ => pv 4) (fun _ _ _ _ _ => pv 3)))
      (pss_cons (ps_setLc (i := 5) (own := [("group", 6)]) (g := gName 6) (tt := tYes) rfl scCut.nd rfl rfl (sw_true rfl rfl rfl (by decide +kernel)) (pi_list (pv 0)) (blkOk_by (own := [("group", 6)]) (N := ["parting", "some", "places", "place", "person", "meetings", "group", "kept", "meeting"]) (sc := defScope sCut) (by decide +kernel)) (fun _ _ _ _ _ => pg_name (i := 6) scCut.nd rfl (Or.inl rfl)) (fun _ _ _ _ _ => pts_nil) (fun _ _ _ _ _ => (pe_lc (wi := iList K (tVar 6)) (own := [("person", 4)]) (g := gName 4) rfl scCut.nd (pi_list (pv 6)) (blkOk_by (own := [("person", 4)]) (N := ["parting", "some", "places", "place", "person", "meetings", "group", "kept", "meeting"]) (sc := { kind := .function, names := [(".0", .local), ("group", .local), ("places", .cell)], isGenerator := false, isCoroutine := false }) (by decide +kernel)) (fun _ _ _ _ _ => pg_name (i := 4) scCut.nd rfl (Or.inl rfl)) (fun _ _ _ _ _ => pts_one (pt_cmp (pc_din hu (pv 4) (pv 2)))) (fun _ _ _ _ _ => pe_dget hu (pv 2) (pv 4) (fun _ _ => rfl)))))
      (pss_cons (DcT.ps_setDcT (i := 7) (own := [("meeting", 8)]) (g := gName 8) (by exact hr.units) rfl scCut.nd rfl rfl (DcT.sw_dict rfl rfl rfl (by decide +kernel)) (pi_list (pv 5)) (blkOk_by (own := [("meeting", 8)]) (N := ["parting", "some", "places", "place", "person", "meetings", "group", "kept", "meeting"]) (sc := defScope sCut) (by decide +kernel)) (fun _ _ _ _ _ => pg_name (i := 8) scCut.nd rfl (Or.inl rfl)) (fun _ _ _ _ _ => pts_one (pt_cmpR op_ge (pe_callB (id := "len") (r := rLenS K) (by exact call_lenK) (by rfl) T.len (by decide +kernel) (pa_cons (pv 8) pa_nil)) pe_int (nomark _))) (fun _ _ _ _ _ => pe_callTy (T := "tuple") (r := rTup K) (by exact call_tupK) (by rfl) T.tuple (by decide +kernel) (pa_cons (pv 8) pa_nil)) (fun _ _ _ _ _ => pe_bl))
      (pss_one (ps_ret (pe_lc (own := [("meeting", 8)]) (g := gName 8) (tt := tYes) rfl scCut.nd (pi_list (pe_callB (call_sortedDT hr.units rfl) (by rfl) T.sorted (by decide +kernel) (pa_cons (pv 7) pa_nil))) (blkOk_by (own := [("meeting", 8)]) (N := ["parting", "some", "places", "place", "person", "meetings", "group", "kept", "meeting"]) (sc := defScope sCut) (by decide +kernel)) (fun _ _ _ _ _ => pg_name (i := 8) scCut.nd rfl (Or.inl rfl)) (fun _ _ _ _ _ => pts_nil) (fun _ _ _ _ _ => pe_callTy (T := "list") (r := rLst K) (by exact call_lstK) (by rfl) T.list (by decide +kernel) (pa_cons (pv 8) pa_nil)))))))), ?_⟩
    refine ⟨_, rfl, b, _, rfl, hS, fun D1 hD1 => dc_enumM (K := K) (fun i => Sum.inl (ns.getD i 0)) (fun i => V.int (i : Nat)) hD1 hS (by rw [List.length_map]; omega) (fun i x Tp H' R hx sm hT kR => ?_) fun H1 sm1 eP => ?_⟩
    · obtain rfl := at_map (d := 0) hx
      exact ⟨Tp, _, rfl, SqT.of upd_same, rfl, _, _, rfl, _, _, rfl, rfl, rfl, _, rfl, _, rfl, kR _ _ .refl .refl⟩
    rw [List.length_map] at eP
    have hB1 := hB.keep sm1
    refine ⟨_, rfl, a, rfl, ⟨_, hB1.top⟩, fun D2 hD2 => lc_listR (K := K) (fun i => meet ns (bs.getD i (0, [])).2) hD2 hB1.top (by rw [List.length_map]; omega) (fun i x H' Rk hx sm kR => ?_) fun H2 cs sm2 e2 nw2 apart2 top2 => ?_⟩
    · have il := (List.getElem?_eq_some_iff.mp hx).1
      rw [List.length_map] at il
      obtain rfl := at_map (d := (0, [])) hx
      have hr1 := (hB1.keep sm).at il
      have hrl := hz2 _ (mem_at il)
      generalize (bs.getD i (0, [])).2 = r at hr1 kR hrl
      refine ⟨rfl, _, rfl, _, rfl, ⟨_, hr1⟩, fun D3 hD3 => lc_listT (K := K) (fun j => (plc ns (r.getD j 0)).isSome) (fun j => V.int (((plc ns (r.getD j 0)).getD 0 : Nat) : Int)) hD3 hr1 ?_ (fun j y H2 Ry Rn hy sm2 ky kn => ?_) fun H3 sm3 eD3 => ?_⟩
      · rw [List.length_map]
        omega
      · obtain rfl := at_map (d := 0) hy
        have eP2 := sm2 _ _ (sm _ _ eP)
        have val : valV (laid (fun _ => true) (fun i => (Sum.inl (ns.getD i 0) : L2.Key)) (fun i => V.int (i : Nat)) ns.length) (Sum.inl (r.getD j 0)) = (plc ns (r.getD j 0)).map fun j => V.int (j : Nat) := valV_laid ns (r.getD j 0) ns.length
        refine ⟨rfl, _, rfl, _, rfl, D1, _, rfl, DGet.k (k := Sum.inl (r.getD j 0)) eP2, _, rfl, ?_⟩
        rw [val]
        cases e : plc ns (r.getD j 0) with
        | none =>
          rw [e] at kn
          exact iteF (kn rfl _ .refl)
        | some q =>
          rw [e] at ky
          rw [e] at val
          refine iteT ⟨_, rfl, _, rfl, D1, V.int (q : Nat), rfl, ?_, ky rfl _ .refl⟩
          have g := DGet.k (k := Sum.inl (r.getD j 0)) eP2
          rw [val] at g
          exact g
      · rw [List.length_map] at eD3
        refine kR D3 H3 sm3 hD3 ?_
        rw [eD3]
        unfold kept meet
        rw [List.map_map]
        rfl
    rw [List.length_map] at e2
    have csl : cs.length = bs.length := by
      have z := congrArg List.length e2
      rw [List.length_map, List.length_map, List.length_range] at z
      exact z
    refine ⟨_, rfl, D2, rfl, ⟨_, SqL.of top2⟩, fun D4 hD4 => dc_listTT (K := K) (fun i => two (meet ns (bs.getD i (0, [])).2)) (fun i => (meet ns (bs.getD i (0, [])).2).map Sum.inl) (fun _ => V.bl true) hD4 (SqL.of top2) (by rw [List.length_map]; omega) (fun i x H' R Rn hx sm kR kn => ?_) fun H3 sm3 eK => ?_⟩
    · have il := (List.getElem?_eq_some_iff.mp hx).1
      rw [List.length_map, csl] at il
      obtain rfl := at_map (d := (0, [])) hx
      have mem : cs.getD i (0, []) ∈ cs := by
        rw [List.getD_eq_getElem?_getD, List.getElem?_eq_getElem (by rw [csl]; exact il)]
        exact List.getElem_mem _
      have at_c := sm _ _ (nw2.lists _ mem)
      rw [snd_of e2 il] at at_c
      refine ⟨rfl, _, rfl, _, _, rfl, .inl (SqL.of at_c), _, _, rfl, rfl, _, rfl, ?_⟩
      rw [List.length_map]
      show if two (meet ns (bs.getD i (0, [])).2) = true then _ else _
      by_cases h2 : two (meet ns (bs.getD i (0, [])).2) = true
      · rw [if_pos h2]
        refine ⟨_, rfl, _, _, rfl, SqL.of at_c, fun t ht => kR h2 t _ (Grows.new ht) ?_⟩
        rw [upd_same, List.map_map]
        rfl
      · rw [if_neg h2]
        exact kn (Bool.eq_false_iff.mpr h2) _ .refl
    rw [List.length_map, csl] at eK
    refine ⟨_, rfl, D4, _, firsts (fun i => two (meet ns (bs.getD i (0, [])).2)) (fun i => meet ns (bs.getD i (0, [])).2) bs.length, rfl, eK, keys_laid _ _ _ _, fun q hq => ?_, fun as eas has q hq => ?_⟩
    · obtain ⟨i, _, h2, rfl⟩ := firsts_of _ _ _ q hq
      intro z
      unfold two at h2
      rw [z] at h2
      cases h2
    refine ⟨q, rfl, ⟨_, SqL.of upd_same⟩, fun D5 hD5 => lc_listR (K := K) (fun i => ((as.mergeSort rowLe).getD i (0, [])).2) hD5 (SqL.of upd_same) ?_ (fun i x H' Rk hx sm kR => ?_) fun H5 cs5 sm5 e5 nw5 apart5 top5 => ?_⟩
    · rw [List.length_map, List.length_mergeSort]
      have z := congrArg List.length eas
      rw [List.length_map] at z
      rw [z]
      have := firsts_le (fun i => two (meet ns (bs.getD i (0, [])).2)) (fun i => meet ns (bs.getD i (0, [])).2) bs.length
      omega
    · have il := (List.getElem?_eq_some_iff.mp hx).1
      rw [List.length_map] at il
      obtain rfl := at_map (d := (0, [])) hx
      have mem : (as.mergeSort rowLe).getD i (0, []) ∈ as := by
        rw [List.getD_eq_getElem?_getD, List.getElem?_eq_getElem il]
        exact List.mem_mergeSort.mp (List.getElem_mem il)
      have at_t := sm _ _ (Grows.new hq _ _ (has _ mem))
      exact ⟨rfl, _, rfl, _, _, rfl, .inr (SqT.of at_t), fun l hl => kR l _ (Grows.new hl) hl upd_same⟩
    · have g2 : Grows H H2 := sm1.trans sm2
      have g3 : Grows H H3 := g2.trans sm3
      have g4 : Grows H (upd H3 q (.lst ((as.mergeSort rowLe).map fun b => V.ref b.1))) := g3.trans (Grows.new hq)
      refine k D5 cs5 H5 ?_ (g4.trans sm5) (none_back g4 hD5) (nw_back nw5 g4) apart5 top5
      rw [e5, List.length_map]
      have er : (List.range (as.mergeSort rowLe).length).map (fun i => ((as.mergeSort rowLe).getD i (0, [])).2) = (as.mergeSort rowLe).map (·.2) := by
        refine List.ext_getElem (by rw [List.length_map, List.length_map, List.length_range]) fun j j1 j2 => ?_
        rw [List.length_map] at j2
        rw [List.getElem_map, List.getElem_map, List.getElem_range, List.getD_eq_getElem?_getD, List.getElem?_eq_getElem j2]
        rfl
      rw [er, sort_rows, eas]
      unfold cutR
      simp only [List.length_map, snd_at]
end
end K46

namespace K46
open PySem PySem.Spec PyProof.Rows L2 SortR LcM
theorem plist_of {n : Int} {ks : List Int} (up : ks.Pairwise (· < ·)) (rng : ∀ x ∈ ks, 0 ≤ x ∧ x < n) : plist n ks = true := by
  unfold plist inR ascI
  rw [Bool.and_eq_true]
  refine ⟨List.all_eq_true.mpr fun i hi => ?_, List.all_eq_true.mpr fun i hi => ?_⟩
  · have il := List.mem_range.mp hi
    have e : ks.getD i 0 = ks[i] := by rw [List.getD_eq_getElem?_getD, List.getElem?_eq_getElem il]; rfl
    have := rng _ (List.getElem_mem il)
    rw [e, decide_eq_true this.1, decide_eq_true this.2]
    rfl
  · have il := List.mem_range.mp hi
    have l1 : i < ks.length := by omega
    have l2 : i + 1 < ks.length := by omega
    have e1 : ks.getD i 0 = ks[i] := by rw [List.getD_eq_getElem?_getD, List.getElem?_eq_getElem l1]; rfl
    have e2 : ks.getD (i + 1) 0 = ks[i + 1] := by rw [List.getD_eq_getElem?_getD, List.getElem?_eq_getElem l2]; rfl
    rw [e1, e2]
    exact decide_eq_true (List.pairwise_iff_getElem.mp up i (i + 1) l1 l2 (Nat.lt_succ_self i))
theorem gr_none {p a : Addr} {H H' : Hp} (g : Gr p H H') (h : H' a = none) (n : a ≠ p) : H a = none := by
  rcases Option.eq_none_or_eq_some (H a) with z | ⟨o, z⟩
  · exact z
  · rw [g a o n z] at h
    cases h
theorem rg_ints (n : Int) : rgV 0 n = ((List.range n.toNat).map fun i => (0 + (i : Nat) : Int)).map V.int := by
  unfold rgV
  rw [List.map_map, Int.sub_zero]
  rfl
theorem rg_up (n : Nat) : ((List.range n).map fun i => (0 + (i : Nat) : Int)).Pairwise (· < ·) := by
  rw [List.pairwise_map]
  exact List.pairwise_lt_range.imp fun {a b} h => by omega
theorem rg_in (n : Nat) : ∀ x ∈ (List.range n).map fun i => (0 + (i : Nat) : Int), 0 ≤ x ∧ x < n := fun x hx => by
  obtain ⟨i, hi, e⟩ := List.mem_map.mp hx
  have := List.mem_range.mp hi
  omega
theorem inV_ints (i : Int) (ns : List Int) : inV (.int i) (ns.map V.int) = decide (i ∈ ns) := by
  unfold inV
  induction ns with
  | nil => rfl
  | cons x ns ih =>
    rw [List.map_cons, List.any_cons, ih]
    show ((x == i) || decide (i ∈ ns)) = decide (i ∈ x :: ns)
    by_cases e : x = i
    · rw [e, beq_self_eq_true, Bool.true_or, decide_eq_true List.mem_cons_self]
    · rw [beq_eq_false_iff_ne.mpr e, Bool.false_or]
      by_cases m : i ∈ ns
      · rw [decide_eq_true m, decide_eq_true (List.mem_cons_of_mem _ m)]
      · rw [decide_eq_false m, decide_eq_false fun z => (List.mem_cons.mp z).elim (fun q => e q.symm) m]
theorem flat_ints (ns : List Int) : (ns.map V.int).all flatV = true := by
  rw [List.all_map]
  exact List.all_eq_true.mpr fun _ _ => rfl
end K46

namespace K46
open PySem PySem.Spec PyProof.Rows L2 SortR LcM RepA
/-! ### data that lasts -/
theorem grows_seqT {K : PySem.W.Frag} {H H' : Hp} (s : Grows H H') {a : Addr} {xs : List V} (h : SqT K H a xs) : SqT K H' a xs := by
  rcases h with (h | ⟨o, h⟩) | h
  · exact .inl (.inl (s _ _ h))
  · exact .inl (.inr ⟨o, s _ _ h⟩)
  · exact .inr h
theorem Dp.grow {K : PySem.W.Frag} {H H' : Hp} (s : Grows H H') {x : V} {d : PyData} (h : Dp K H x d) : Dp K H' x d := by
  refine Dp.rec (motive_1 := fun x d _ => Dp K H' x d) (motive_2 := fun xs ds _ => DpAll K H' xs ds) ?_ ?_ ?_ ?_ ?_ ?_ ?_ ?_ h
  · exact .non
  · exact fun b => .bl b
  · exact fun i => .int i
  · exact fun x => .str x
  · exact fun q _ ih => .lst (s.seq q) ih
  · exact fun q _ ih => .tup (grows_seqT s q) ih
  · exact .nil
  · exact fun _ _ a b => .cons a b
theorem DpAll.grow {K : PySem.W.Frag} {H H' : Hp} (s : Grows H H') : ∀ {xs : List V} {ds : List PyData}, DpAll K H xs ds → DpAll K H' xs ds
  | _, _, .nil => .nil
  | _, _, .cons a b => .cons (Dp.grow s a) (DpAll.grow s b)
theorem Dd.grow {K : PySem.W.Frag} {H H' : Hp} (s : Grows H H') {x : V} {d : PyData} (h : Dd K H x d) : Dd K H' x d := by
  rcases h with h | ⟨a, e, q, ed⟩
  · exact .inl (Dp.grow s h)
  · exact .inr ⟨a, e, s _ _ q, ed⟩
theorem DpAll.len {K : PySem.W.Frag} {H : Hp} : ∀ {xs : List V} {ds : List PyData}, DpAll K H xs ds → xs.length = ds.length
  | _, _, .nil => rfl
  | _, _, .cons _ b => congrArg (· + 1) (DpAll.len b)
theorem DpAll.at {K : PySem.W.Frag} {H : Hp} : ∀ {ds : List PyData} {xs : List V} {i : Nat} {x : V}, DpAll K H xs ds → xs[i]? = some x → ∃ d, ds[i]? = some d ∧ Dp K H x d
  | [], _, _, _, .nil, h => nomatch h
  | d :: ds, _, i, x, .cons (vs := vs) a b, h => by
    cases i with
    | zero =>
      cases h
      exact ⟨_, rfl, a⟩
    | succ i =>
      have h' : vs[i]? = some x := h
      obtain ⟨e, he, q⟩ := DpAll.at b h'
      exact ⟨e, he, q⟩
def tyName : PyData → String
  | .none => "NoneType"
  | .bool _ => "bool"
  | .int _ => "int"
  | .str _ => "str"
  | .list _ => "list"
  | .tuple _ => "tuple"
  | .dict _ => "dict"
theorem dd_ty {K : PySem.W.Frag} {H : Hp} {x : V} {d : PyData} (h : Dd K H x d) : TyX K H x (.type (tyName d)) := by
  rcases h with h | ⟨a, rfl, q, rfl⟩
  · cases h with
    | non => exact .base .non
    | bl b => exact .base (.bl b)
    | int i => exact .base (.int i)
    | str s => exact .base (.str s)
    | lst q _ => exact ty_list q
    | tup q _ =>
      rcases q with (q | ⟨o, q⟩) | ⟨o, its, n, q, hc, _⟩
      · exact .base (.tup q)
      · exact .fTuple q
      · exact .kTuple q hc
  · exact .base (.dK q)
theorem ty_kinds (d : PyData) : tyName d ∈ kinds := by
  cases d <;> simp [tyName, kinds]
/-- is_coming, on data -/
def itemOk (i : Nat) : PyData → Bool
  | .int v => decide (-(i : Int) ≤ v) && decide (v ≤ (i : Int))
  | _ => false
def isC : PyData → Bool
  | .list ds => decide ((ds.length : Int) < 20) && (List.range ds.length).all fun i => itemOk i (ds.getD i .none)
  | _ => false
theorem isC_list (ds : List PyData) : isC (.list ds) = (decide ((ds.length : Int) < 20) && (List.range ds.length).all fun i => itemOk i (ds.getD i .none)) := rfl
abbrev sComing : Stmt := top 29
abbrev sBoth : Stmt := top 26
abbrev sItem : Stmt := top 30
abbrev sComOf : Stmt := top 31
abbrev sGrown : Stmt := top 32
abbrev sPlace : Stmt := top 33
abbrev sCome : Stmt := top 34
abbrev sPB : Stmt := top 35
structure ComF (K : PySem.W.Frag) (mg : Str → Option Value) where
  (fCut fComing fBoth fItem fComOf fGrown fPlace fCome fPB : Addr)
  (dCut dComing dBoth dItem dComOf dGrown dPlace dCome dPB : FuncData)
  FCut : Fun K "cut" "cut" sCut fCut dCut
  FComing : Fun K "is_coming" "is_coming" sComing fComing dComing
  FBoth : Fun K "both_parts" "both_parts" sBoth fBoth dBoth
  FItem : Fun K "item_of" "item_of" sItem fItem dItem
  FComOf : Fun K "coming_of" "coming_of" sComOf fComOf dComOf
  FGrown : Fun K "grown" "grown" sGrown fGrown dGrown
  FPlace : Fun K "place_of" "place_of" sPlace fPlace dPlace
  FCome : Fun K "come_into" "come_into" sCome fCome dCome
  FPB : Fun K "parting_by" "parting_by" sPB fPB dPB
  gCut : mg "cut" = some (.ref fCut)
  gComing : mg "is_coming" = some (.ref fComing)
  gBoth : mg "both_parts" = some (.ref fBoth)
  gItem : mg "item_of" = some (.ref fItem)
  gComOf : mg "coming_of" = some (.ref fComOf)
  gGrown : mg "grown" = some (.ref fGrown)
  gPlace : mg "place_of" = some (.ref fPlace)
  gCome : mg "come_into" = some (.ref fCome)
  gPB : mg "parting_by" = some (.ref fPB)
  bCut : Binds K dCut ["parting", "some"] []
  bComing : Binds K dComing ["thing"] []
  bBoth : Binds K dBoth ["parting", "group"] []
  bItem : Binds K dItem ["parting", "person"] []
  bComOf : Binds K dComOf ["parting"] []
  bGrown : Binds K dGrown ["group", "place", "person"] []
  bPlace : Binds K dPlace ["made", "item"] []
  bCome : Binds K dCome ["made", "item", "person"] []
  bPB : Binds K dPB ["coming"] []
/-- rows, as plain lists -/
structure Rl (H : Hp) (a : Addr) (cs : List (Addr × List Int)) : Prop where
  top : H a = some (.lst (cs.map fun c => V.ref c.1))
  each : ∀ c ∈ cs, H c.1 = some (.lst (c.2.map V.int))
theorem Rl.keep {H H' : Hp} {a : Addr} {cs : List (Addr × List Int)} (r : Rl H a cs) (g : Grows H H') : Rl H' a cs := ⟨g _ _ r.top, fun c m => g _ _ (r.each c m)⟩
theorem Rl.rw {K : PySem.W.Frag} {H : Hp} {a : Addr} {cs : List (Addr × List Int)} (r : Rl H a cs) : Rw K H a cs := ⟨SqL.of r.top, fun c m => SqL.of (r.each c m)⟩
theorem Rl.at {H : Hp} {a : Addr} {cs : List (Addr × List Int)} (r : Rl H a cs) {i : Nat} (hi : i < cs.length) : H (cs.getD i (0, [])).1 = some (.lst ((cs.getD i (0, [])).2.map V.int)) := by
  rw [List.getD_eq_getElem?_getD, List.getElem?_eq_getElem hi]
  exact r.each _ (List.getElem_mem hi)
def spComing (K : PySem.W.Frag) : Sp := fun vs H Q _ => ∃ (x : V) (d : PyData), vs = [x] ∧ Dd K H x d ∧ ∀ H', Grows H H' → Q (.bl (isC d)) H'
def growR (pl : List Int) (q : Int) (r : List Int) : List Int := if pl.length < r.length ∧ pl.getD 0 0 ∈ r then r ++ [q] else r
def spGrown : Sp := fun vs H Q _ => ∃ (a b : Addr) (r pl : List Int) (q : Int), vs = [.ref a, .ref b, .int q] ∧ H a = some (.lst (r.map V.int)) ∧ H b = some (.lst (pl.map V.int)) ∧ pl ≠ [] ∧ r.length ≤ 1000 ∧
  (growR pl q r = r → Q (.ref a) H) ∧ ∀ p H', Grows H H' → H p = none → H' p = some (.lst ((growR pl q r).map V.int)) → Q (.ref p) H'
def placeR (ms : List (List Int)) (i : Int) : List Int := if 0 ≤ i then [i] else ms.getD (-i - 1).toNat []
def spPlace : Sp := fun vs H Q _ => ∃ (a : Addr) (bs : List (Addr × List Int)) (i : Int), vs = [.ref a, .int i] ∧ Rl H a bs ∧ -(bs.length : Int) ≤ i ∧ bs.length ≤ 1000 ∧
  ∀ (p : Addr) (H' : Hp), Grows H H' → H' p = some (.lst ((placeR (bs.map (·.2)) i).map V.int)) → Q (.ref p) H'
section
variable {P : Program} {w : World} {K : PySem.W.Frag} {mg : Str → Option Value} {base : Heap}
theorem scComing : FnScope ["thing", "at", "item"] ["thing"] (defScope sComing) := ⟨rfl, rfl, rfl, by decide +kernel, rfl, by decide +kernel, by decide +kernel⟩
theorem scGrown : FnScope ["group", "place", "person"] ["group", "place", "person"] (defScope sGrown) := ⟨rfl, rfl, rfl, by decide +kernel, rfl, by decide +kernel, by decide +kernel⟩
theorem scPlace : FnScope ["made", "item"] ["made", "item"] (defScope sPlace) := ⟨rfl, rfl, rfl, by decide +kernel, rfl, by decide +kernel, by decide +kernel⟩
theorem ok_coming (Z : ProgF K mg) (T : TxtP mg) (Y : ComF K mg) : FnOk P w K mg base CX0 2 Y.fComing Y.dComing ["thing"] (spComing K) := by
  have GNum : FnOk P w K mg base CX0 1 Z.fNum Z.dNum ["thing"] (spNumber K) := ok_number Z.FNum T
  refine Y.FComing.ok scComing (fun vs H Q E h => ?_) (fun cdv A outer s H vs Q E hr h => ?_)
  · obtain ⟨x, d, rfl, _⟩ := h
    rfl
  · obtain ⟨x, d, rfl, hd, k⟩ := h
    refine ⟨_, (pss_cons (ps_if (PW.pt (pw_or (pt_not (pt_val (pe_callB call_isi (by rfl) T.isi (by decide +kernel) (pa_cons (pv 0) (pa_cons (pe_bltn (v := .ty "list") (u := .type "list") (by rfl) T.list (by decide +kernel) rfl) pa_nil))))) (pw_or1 (pt_cmpR op_ge (pe_callB call_len_seq (by rfl) T.len (by decide +kernel) (pa_cons (pv 0) pa_nil)) (pe_glob (v := .int 20) rfl Z.gMost ⟨_, rfl⟩) (nomark _))))) (pss_one (ps_ret pe_bl)) pss_nil)
      (pss_one (ps_ret (pe_callB (cr_all rfl) (by rfl) T.all (by decide +kernel) (pa_cons (pe_lc (own := [("at", 1), ("item", 2)]) (g := gTup K 2 (gCons (gName 1) (gCons (gName 2) gNil))) (tt := tYes) rfl scComing.nd (pi_enum (by rfl) T.enumerate (pa_cons (pv 0) pa_nil)) (blkOk_by (own := [("at", 1), ("item", 2)]) (N := ["thing", "at", "item"]) (sc := defScope sComing) (by decide +kernel)) (fun _ _ _ _ _ => pg_tup rfl (pgs_cons (pg_name (i := 1) scComing.nd rfl (Or.inl rfl)) (pgs_cons (pg_name (i := 2) scComing.nd rfl (Or.inl rfl)) pgs_nil))) (fun _ _ _ _ _ => pts_nil) (fun _ _ _ _ _ => (pe_and (pe_call GNum (hr.mono (by decide)) rfl Z.gNum Z.FNum.kp Z.bNum .nil pass0 (pa_cons (pv 2) pa_nil)) (pe_one (pe_chain op_le op_le (pe_un un_neg (pv 1)) (pv 2) (pv 1)))))) pa_nil))))), ?_⟩
    have ty := dd_ty hd
    by_cases isl : ∃ ds, d = .list ds
    · obtain ⟨ds, rfl⟩ := isl
      obtain ⟨a, xs, rfl, hS, hA⟩ : ∃ a xs, x = .ref a ∧ SqL K H a xs ∧ DpAll K H xs ds := by
        rcases hd with hd | ⟨_, _, _, z⟩
        · cases hd with | lst q r => exact ⟨_, _, rfl, q, r⟩
        · cases z
      have len := DpAll.len hA
      have tyl : TyX K H (.ref a) (.type "list") := ty_list hS
      refine ⟨_, rfl, _, _, _, _, true, rfl, .ty "list", tyl, kit_ty (by decide +kernel), true, rfl, ?_⟩
      refine iteF ⟨_, rfl, a, _, rfl, .inl hS, _, _, rfl, rfl, _, rfl, ?_⟩
      by_cases big : (ds.length : Int) < 20
      · rw [decide_eq_false (by rw [len]; omega)]
        refine iteF ⟨_, rfl, a, _, rfl, hS, fun D hD => lc_enumM (K := K) (fun i => V.bl (itemOk i (ds.getD i .none))) hD hS (by omega) (fun i x T' H' R hx sm hT kR => ?_) fun H' sm eD => ?_⟩
        · obtain ⟨d, ed, hdx⟩ := DpAll.at hA hx
          have eg : ds.getD i .none = d := by rw [List.getD_eq_getElem?_getD, ed]; rfl
          refine ⟨T', _, rfl, SqT.of upd_same, rfl, _, _, rfl, _, _, rfl, rfl, ?_⟩
          have dx' := Dp.grow (sm.trans (Grows.new (o := .tup [V.int (i : Nat), x]) hT)) hdx
          refine ⟨rfl, _, rfl, _, tyName d, rfl, dd_ty (.inl dx'), ty_kinds d, ?_⟩
          rw [eg] at kR
          cases hdx with
          | int v =>
            refine ⟨_, rfl, _, rfl, _, rfl, _, rfl, _, _, rfl, rfl, _, rfl, ?_⟩
            have kv : R (V.bl (decide (-(i : Int) ≤ v) && decide (v ≤ (i : Int)))) (upd H' T' (.tup [V.int (i : Nat), V.int v])) := kR _ .refl
            by_cases l : -(i : Int) ≤ v
            · rw [if_pos (decide_eq_true l)]
              rw [decide_eq_true l, Bool.true_and] at kv
              exact ⟨_, rfl, _, _, rfl, rfl, kv⟩
            · rw [if_neg (by rw [decide_eq_false l]; exact Bool.false_ne_true)]
              rw [decide_eq_false l, Bool.false_and] at kv
              exact kv
          | non => exact ⟨_, rfl, kR _ .refl⟩
          | bl b => exact ⟨_, rfl, kR _ .refl⟩
          | str b => exact ⟨_, rfl, kR _ .refl⟩
          | lst _ _ => exact ⟨_, rfl, kR _ .refl⟩
          | tup _ _ => exact ⟨_, rfl, kR _ .refl⟩
        · refine ⟨D, (List.range xs.length).map fun i => itemOk i (ds.getD i .none), rfl, SqL.of (by rw [eD, List.map_map]; rfl), ?_⟩
          rw [all_rng, len]
          have q := k H' sm
          rw [isC_list, decide_eq_true big, Bool.true_and] at q
          exact q
      · rw [decide_eq_true (by rw [len]; omega)]
        have q := k H .refl
        rw [isC_list, decide_eq_false big, Bool.false_and] at q
        exact iteT q
    · have no : isC d = false := by
        cases d <;> first | rfl | exact absurd ⟨_, rfl⟩ isl
      have q := k H .refl
      rw [no] at q
      refine ⟨_, rfl, _, _, _, _, false, rfl, .ty "list", ty, kit_ty ?_, false, rfl, iteT q⟩
      cases d <;> first | exact absurd ⟨_, rfl⟩ isl | (simp only [tyName]; decide +kernel)
theorem ok_grown (T : TxtP mg) (Y : ComF K mg) : FnOk P w K mg base CX0 1 Y.fGrown Y.dGrown ["group", "place", "person"] spGrown := by
  refine Y.FGrown.ok scGrown (fun vs H Q E h => ?_) (fun cdv A outer s H vs Q E hr h => ?_)
  · obtain ⟨a, b, r, pl, q, rfl, _⟩ := h
    rfl
  · obtain ⟨a, b, r, pl, q, rfl, hA, hB, hne, hl, k1, k2⟩ := h
    refine ⟨_, (pss_cons (ps_if (PW.pt (pw_and (pt_cmpR op_gt (pe_callB call_len_seq (by rfl) T.len (by decide +kernel) (pa_cons (pv 0) pa_nil)) (pe_callB call_len_seq (by rfl) T.len (by decide +kernel) (pa_cons (pv 1) pa_nil)) (nomark _)) (pw_and1 (pt_cmpR op_in_seq (pe_ix (r := rIxL K) ix_list (pv 1) pe_int (fun _ _ => rfl)) (pv 0) (by rfl))))) (pss_one (ps_ret (pe_op op_cat (pv 0) (pe_lst (pa_cons (pv 2) pa_nil))))) pss_nil)
      (pss_one (ps_ret (pv 0)))), ?_⟩
    refine ⟨_, rfl, a, _, rfl, .inl (SqL.of hA), _, rfl, b, _, rfl, .inl (SqL.of hB), _, _, rfl, rfl, _, rfl, ?_⟩
    rw [List.length_map, List.length_map]
    have pz : 0 < pl.length := List.length_pos_iff.mpr hne
    by_cases l : pl.length < r.length
    · rw [decide_eq_true (show ((pl.length : Nat) : Int) < (r.length : Nat) by omega)]
      have at0 : atI (pl.map V.int) 0 = some (V.int (pl.getD 0 0)) := by
        refine atI_nat (j := 0) ?_
        rw [List.getElem?_map, List.getD_eq_getElem?_getD, List.getElem?_eq_getElem pz]
        rfl
      refine iteT ⟨_, rfl, b, _, 0, _, rfl, rfl, SqL.of hB, at0, _, rfl, a, _, rfl, .inl (SqL.of hA), rfl, flat_ints r, _, rfl, ?_⟩
      show if (inV (V.int (pl.getD 0 0)) (r.map V.int)) = true then _ else _
      rw [inV_ints]
      by_cases m : pl.getD 0 0 ∈ r
      · have e : growR pl q r = r ++ [q] := if_pos ⟨l, m⟩
        rw [if_pos (decide_eq_true m)]
        refine ⟨_, rfl, _, rfl, (by show 1 ≤ sizeLine; decide), fun z hz => ⟨a, z, _, _, rfl, rfl, Grows.new hz _ _ hA, upd_same, ?_, fun p hp => ?_⟩⟩
        · rw [List.length_map]
          show r.length + 1 ≤ sizeLine
          exact Nat.le_trans (Nat.succ_le_succ hl) (by decide)
        · have g1 : Grows H (upd H z (.lst [V.int q])) := Grows.new hz
          refine k2 p _ (g1.trans (Grows.new hp)) (none_back g1 hp) ?_
          rw [upd_same, e, List.map_append]
          rfl
      · have e : growR pl q r = r := if_neg fun z => m z.2
        rw [if_neg (by rw [decide_eq_false m]; exact Bool.false_ne_true)]
        exact ⟨_, rfl, k1 e⟩
    · have e : growR pl q r = r := if_neg fun z => l z.1
      rw [decide_eq_false (show ¬ ((pl.length : Nat) : Int) < (r.length : Nat) by omega)]
      exact iteF (iteF ⟨_, rfl, k1 e⟩)
theorem ok_place (Y : ComF K mg) : FnOk P w K mg base CX0 1 Y.fPlace Y.dPlace ["made", "item"] spPlace := by
  refine Y.FPlace.ok scPlace (fun vs H Q E h => ?_) (fun cdv A outer s H vs Q E hr h => ?_)
  · obtain ⟨a, bs, i, rfl, _⟩ := h
    rfl
  · obtain ⟨a, bs, i, rfl, hB, hi, hl, k⟩ := h
    refine ⟨_, (pss_one (ps_ret (pe_ifExp (pt_cmpR op_ge (pv 1) pe_int (nomark _)) (pe_lst (pa_cons (pv 1) pa_nil)) (pe_ix (r := rIxL K) ix_list (pv 0) (pe_op op_sub (pe_un un_neg (pv 1)) pe_int) (fun _ _ => rfl))))), ?_⟩
    refine ⟨_, rfl, _, _, rfl, rfl, _, rfl, ?_⟩
    by_cases h0 : 0 ≤ i
    · have k' := k
      rw [show placeR (bs.map (·.2)) i = [i] from if_pos h0] at k'
      rw [decide_eq_true h0]
      refine iteT ⟨_, rfl, (by show 1 ≤ sizeLine; decide), fun p hp => k' p _ (Grows.new hp) upd_same⟩
    · have e : placeR (bs.map (·.2)) i = (bs.map (·.2)).getD (-i - 1).toNat [] := if_neg h0
      rw [decide_eq_false h0]
      have jl : (-i - 1).toNat < bs.length := by omega
      obtain ⟨z, _, ez⟩ := at_in (xs := bs.map fun b => V.ref b.1) (v := -i - 1) (by omega) (by rw [List.length_map]; omega)
      refine iteF ⟨_, rfl, _, rfl, _, rfl, _, _, rfl, rfl, a, _, _, V.ref (bs.getD (-i - 1).toNat (0, [])).1, rfl, rfl, SqL.of hB.top, ?_, k _ H .refl ?_⟩
      · have q : (bs.map fun b => V.ref b.1)[(-i - 1).toNat]? = some (V.ref (bs.getD (-i - 1).toNat (0, [])).1) := by
          rw [List.getElem?_map, List.getElem?_eq_getElem jl, List.getD_eq_getElem?_getD, List.getElem?_eq_getElem jl]
          rfl
        have q2 := atI_nat q
        rw [Int.toNat_of_nonneg (by omega)] at q2
        exact q2
      · rw [e, snd_at]
        exact hB.at jl
end
end K46

namespace K46
open PySem PySem.Spec PyProof.Rows L2 SortR LcM RepA
def comeR (ms : List (List Int)) (i q : Int) : List (List Int) := ms.map (growR (placeR ms i) q) ++ [placeR ms i ++ [q]]
def madeR (is : List Int) : Nat → List (List Int)
  | 0 => []
  | n + 1 => comeR (madeR is n) (is.getD n 0) (1 + (n : Nat))
def pbR (is : List Int) : List (List Int) := (madeR is is.length).mergeSort fun p q => decide (p ≤ q)
theorem madeR_len (is : List Int) : ∀ n, (madeR is n).length = n
  | 0 => rfl
  | n + 1 => by
    show (comeR (madeR is n) _ _).length = n + 1
    unfold comeR
    rw [List.length_append, List.length_map, madeR_len is n]
    rfl
theorem rngm {α β : Type} (ns : List α) (d : α) (f : α → β) : (List.range ns.length).map (fun i => f (ns.getD i d)) = ns.map f := by
  refine List.ext_getElem (by rw [List.length_map, List.length_map, List.length_range]) fun j j1 j2 => ?_
  rw [List.length_map] at j2
  rw [List.getElem_map, List.getElem_map, List.getElem_range, List.getD_eq_getElem?_getD, List.getElem?_eq_getElem j2]
  rfl
theorem growR_ok (pl : List Int) (q : Int) (r : List Int) : (growR pl q r).length ≤ r.length + 1 ∧ (r ≠ [] → growR pl q r ≠ []) := by
  unfold growR
  split
  · exact ⟨by rw [List.length_append]; exact Nat.le_refl _, fun _ z => by simp at z⟩
  · exact ⟨Nat.le_succ _, id⟩
theorem placeR_ok {ms : List (List Int)} {i : Int} {n : Nat} (h : ∀ r ∈ ms, r ≠ [] ∧ r.length ≤ n + 1) (hi : -(ms.length : Int) ≤ i) : placeR ms i ≠ [] ∧ (placeR ms i).length ≤ n + 1 := by
  unfold placeR
  split
  · exact ⟨(fun z => nomatch z), Nat.succ_le_succ (Nat.zero_le _)⟩
  · have jl : (-i - 1).toNat < ms.length := by omega
    rw [List.getD_eq_getElem?_getD, List.getElem?_eq_getElem jl]
    exact h _ (List.getElem_mem jl)
/-- a coming list -/
def Bd (is : List Int) : Prop := ∀ n, n < is.length → -(n : Int) ≤ is.getD n 0
theorem madeR_ok {is : List Int} (h : Bd is) : ∀ n, n ≤ is.length → ∀ r ∈ madeR is n, r ≠ [] ∧ r.length ≤ n + 1
  | 0, _, r, hr => nomatch hr
  | n + 1, hn, r, hr => by
    have ih := madeR_ok h n (Nat.le_of_succ_le hn)
    have p := placeR_ok (i := is.getD n 0) ih (by rw [madeR_len]; exact h n hn)
    have hr' : r ∈ comeR (madeR is n) (is.getD n 0) (1 + (n : Nat)) := hr
    unfold comeR at hr'
    rcases List.mem_append.mp hr' with m | m
    · obtain ⟨s, hs, rfl⟩ := List.mem_map.mp m
      obtain ⟨a, b⟩ := ih s hs
      have g := growR_ok (placeR (madeR is n) (is.getD n 0)) (1 + (n : Nat)) s
      exact ⟨g.2 a, by omega⟩
    · rw [List.mem_singleton.mp m]
      exact ⟨fun z => by simp at z, by rw [List.length_append]; exact Nat.succ_le_succ p.2⟩
theorem bd_of {is : List Int} (h : isC (.list (is.map .int)) = true) : Bd is ∧ is.length < 20 := by
  rw [isC_list, Bool.and_eq_true, List.length_map] at h
  have l := of_decide_eq_true h.1
  refine ⟨fun n hn => ?_, by omega⟩
  have q := List.all_eq_true.mp h.2 n (List.mem_range.mpr hn)
  have e : (is.map PyData.int).getD n .none = .int (is.getD n 0) := by
    rw [List.getD_eq_getElem?_getD, List.getD_eq_getElem?_getD, List.getElem?_map, List.getElem?_eq_getElem hn]
    rfl
  rw [e] at q
  unfold itemOk at q
  rw [Bool.and_eq_true] at q
  exact of_decide_eq_true q.1
theorem pick_rows {H : Hp} {R : Nat → List Int} {Pp : Addr → Prop} : ∀ (ys : List V) (k : Nat), (∀ j y, ys[j]? = some y → ∃ p, y = .ref p ∧ H p = some (.lst ((R (k + j)).map V.int)) ∧ Pp p) →
    ∃ cs : List (Addr × List Int), ys = cs.map (fun c => V.ref c.1) ∧ cs.map (·.2) = (List.range ys.length).map (fun j => R (k + j)) ∧ ∀ c ∈ cs, H c.1 = some (.lst (c.2.map V.int)) ∧ Pp c.1
  | [], k, _ => ⟨[], rfl, rfl, fun _ h => nomatch h⟩
  | y :: ys, k, h => by
    obtain ⟨p, rfl, e, pp⟩ := h 0 y rfl
    obtain ⟨cs, e1, e2, e3⟩ := pick_rows (R := R) (Pp := Pp) ys (k + 1) fun j z hz => by
      obtain ⟨q, a, b, c⟩ := h (j + 1) z hz
      refine ⟨q, a, ?_, c⟩
      rw [show k + 1 + j = k + (j + 1) by omega]
      exact b
    refine ⟨(p, R (k + 0)) :: cs, by rw [List.map_cons, ← e1], ?_, fun c hc => ?_⟩
    · rw [List.map_cons, e2, List.length_cons, List.range_succ_eq_map, List.map_cons, List.map_map]
      refine congrArg _ (List.map_congr_left fun j _ => ?_)
      show R (k + 1 + j) = R (k + (j + 1))
      rw [show k + 1 + j = k + (j + 1) by omega]
    · rcases List.mem_cons.mp hc with q | q
      · rw [q]
        exact ⟨e, pp⟩
      · exact e3 c q
def spCome : Sp := fun vs H Q _ => ∃ (a : Addr) (bs : List (Addr × List Int)) (i q : Int), vs = [.ref a, .int i, .int q] ∧ Rl H a bs ∧ -(bs.length : Int) ≤ i ∧ bs.length ≤ 900 ∧ (∀ r ∈ bs.map (·.2), r ≠ [] ∧ r.length ≤ 900 + 1) ∧
  ∀ (p : Addr) (cs : List (Addr × List Int)) (H' : Hp), cs.map (·.2) = comeR (bs.map (·.2)) i q → Grows H H' → H p = none → Rl H' p cs → (∀ c ∈ cs, (∃ b ∈ bs, c.1 = b.1) ∨ H c.1 = none) → Q (.ref p) H'
def spPB (K : PySem.W.Frag) : Sp := fun vs H Q _ => ∃ (a : Addr) (is : List Int), vs = [.ref a] ∧ SqL K H a (is.map V.int) ∧ isC (.list (is.map .int)) = true ∧
  ∀ (p : Addr) (cs : List (Addr × List Int)) (H' : Hp), cs.map (·.2) = pbR is → Grows H H' → H p = none → Rl H' p cs → (∀ c ∈ cs, c.1 ≠ p ∧ H c.1 = none) → Q (.ref p) H'
section
variable {P : Program} {w : World} {K : PySem.W.Frag} {mg : Str → Option Value} {base : Heap}
theorem scCome : FnScope ["made", "item", "person", "place", "group"] ["made", "item", "person"] (defScope sCome) := ⟨rfl, rfl, rfl, by decide +kernel, rfl, by decide +kernel, by decide +kernel⟩
theorem scPB : FnScope ["coming", "made", "person", "item"] ["coming"] (defScope sPB) := ⟨rfl, rfl, rfl, by decide +kernel, rfl, by decide +kernel, by decide +kernel⟩
theorem ok_come (T : TxtP mg) (Y : ComF K mg) : FnOk P w K mg base CX0 2 Y.fCome Y.dCome ["made", "item", "person"] spCome := by
  have GPlace : FnOk P w K mg base CX0 1 Y.fPlace Y.dPlace ["made", "item"] spPlace := ok_place Y
  have GGrown : FnOk P w K mg base CX0 1 Y.fGrown Y.dGrown ["group", "place", "person"] spGrown := ok_grown T Y
  refine Y.FCome.ok scCome (fun vs H Q E h => ?_) (fun cdv A outer s H vs Q E hr h => ?_)
  · obtain ⟨a, bs, i, q, rfl, _⟩ := h
    rfl
  · obtain ⟨a, bs, i, q, rfl, hB, hi, hl, hr1, k⟩ := h
    refine ⟨_, (pss_cons (ps_set (i := 3) scCome.nd rfl (.inr rfl) (pe_call GPlace (hr.mono (by decide)) rfl Y.gPlace Y.FPlace.kp Y.bPlace .nil pass0 (pa_cons (pv 0) (pa_cons (pv 1) pa_nil))))
      (pss_one (ps_ret (pe_op op_cat (pe_lc (own := [("group", 4)]) (g := gName 4) (tt := tYes) rfl scCome.nd (pi_list (pv 0)) (blkOk_by (own := [("group", 4)]) (N := ["made", "item", "person", "place", "group"]) (sc := defScope sCome) (by decide +kernel)) (fun _ _ _ _ _ => pg_name (i := 4) scCome.nd rfl (Or.inl rfl)) (fun _ _ _ _ _ => pts_nil) (fun _ _ _ _ _ => (pe_call GGrown (hr.mono (by decide)) rfl Y.gGrown Y.FGrown.kp Y.bGrown .nil pass0 (pa_cons (pv 4) (pa_cons (pv 3) (pa_cons (pv 2) pa_nil)))))) (pe_lst (pa_cons (pe_op op_cat (pv 3) (pe_lst (pa_cons (pv 2) pa_nil))) pa_nil)))))), ?_⟩
    refine ⟨_, rfl, _, rfl, a, bs, i, rfl, hB, hi, by omega, fun b H1 s1 eb => ?_⟩
    have pk := placeR_ok (n := 900) hr1 (by rw [List.length_map]; exact hi)
    generalize epl : placeR (bs.map (·.2)) i = pl at eb pk
    have B1 := hB.keep s1
    refine ⟨_, rfl, a, rfl, ⟨_, SqL.of B1.top⟩, fun D hD => lc_listX (K := K) (fun j v G => ∃ p, p ≠ D ∧ v = .ref p ∧ G p = some (.lst ((growR pl q ((bs.map (·.2)).getD j [])).map V.int)) ∧ ((∃ b ∈ bs, p = b.1) ∨ H p = none)) (fun j y G G' g ⟨p, np, e, ep, r⟩ => ⟨p, np, e, g _ _ ep, r⟩) (fun j y G zs ⟨p, np, e, ep, r⟩ _ u => ⟨p, np, e, (upd_ne np).trans ep, r⟩) hD (SqL.of B1.top) (by rw [List.length_map]; omega) (fun j x G Rk hx sm nD kR => ?_) fun G ys mx => ?_⟩
    · have jl := (List.getElem?_eq_some_iff.mp hx).1
      rw [List.length_map] at jl
      obtain rfl := at_map (d := (0, [])) hx
      have mem : bs.getD j (0, []) ∈ bs := by
        rw [List.getD_eq_getElem?_getD, List.getElem?_eq_getElem jl]
        exact List.getElem_mem jl
      have er : (bs.map (·.2)).getD j [] = (bs.getD j (0, [])).2 := snd_at bs j
      have eg := (B1.keep sm).at jl
      have nd : (bs.getD j (0, [])).1 ≠ D := fun z => by
        have := B1.at jl
        rw [z, hD] at this
        cases this
      refine ⟨rfl, _, rfl, _, rfl, _, rfl, _, b, _, pl, q, rfl, eg, sm _ _ eb, pk.1, ?_, fun e => ?_, fun p G' g' np' ep' => ?_⟩
      · have := (hr1 _ (mem_at jl)).2
        omega
      · exact kR _ G .refl ⟨_, nd, rfl, by rw [er, e]; exact eg, .inl ⟨_, mem, rfl⟩⟩
      · exact kR _ G' g' ⟨p, fun z => nD (z ▸ np'), rfl, by rw [er]; exact ep', .inr (none_back (s1.trans sm) np')⟩
    · obtain ⟨cs, e1, e2, e3⟩ := pick_rows (H := G) (R := fun j => growR pl q ((bs.map (·.2)).getD j [])) (Pp := fun p => p ≠ D ∧ ((∃ b ∈ bs, p = b.1) ∨ H p = none)) ys 0 fun j y hy => by
        obtain ⟨p, np, e, ep, r⟩ := mx.rel j y hy
        rw [Nat.zero_add]
        exact ⟨p, e, ep, np, r⟩
      have yl : ys.length = bs.length := by rw [mx.len, List.length_map]
      have e2' : cs.map (·.2) = (bs.map (·.2)).map (growR pl q) := by
        rw [e2, yl, ← List.length_map (f := (·.2)) (as := bs)]
        refine Eq.trans (List.map_congr_left fun j _ => ?_) (rngm (bs.map (·.2)) [] (growR pl q))
        rw [Nat.zero_add]
      have g1 := mx.grow
      have ebG := g1 _ _ eb
      refine ⟨_, rfl, _, rfl, (by show 1 ≤ sizeLine; decide), fun z hz => ⟨b, z, _, _, rfl, rfl, Grows.new hz _ _ ebG, upd_same, ?_, fun z2 hz2 => ⟨(by show 1 ≤ sizeLine; decide), fun z3 hz3 => ⟨D, z3, ys, _, rfl, rfl, ?_, upd_same, ?_, fun z4 hz4 => ?_⟩⟩⟩⟩
      · rw [List.length_map]
        show pl.length + 1 ≤ sizeLine
        exact Nat.le_trans (Nat.succ_le_succ pk.2) (by decide)
      · exact (((Grows.new (o := .lst [V.int q]) hz).trans (Grows.new hz2)).trans (Grows.new hz3)) _ _ mx.top
      · rw [yl]
        show bs.length + 1 ≤ sizeLine
        exact Nat.le_trans (Nat.succ_le_succ hl) (by decide)
      · have t3 : Grows (upd (upd G z (.lst [V.int q])) z2 (.lst (pl.map V.int ++ [V.int q]))) (upd (upd (upd (upd G z (.lst [V.int q])) z2 (.lst (pl.map V.int ++ [V.int q]))) z3 (.lst [V.ref z2])) z4 (.lst (ys ++ [V.ref z2]))) := (Grows.new hz3).trans (Grows.new hz4)
        have t2 := ((Grows.new (o := .lst [V.int q]) hz).trans (Grows.new (o := .lst (pl.map V.int ++ [V.int q])) hz2)).trans t3
        have gH : Grows H G := s1.trans g1
        refine k z4 (cs ++ [(z2, pl ++ [q])]) _ ?_ (gH.trans t2) (none_back (gH.trans ((Grows.new (o := .lst [V.int q]) hz).trans ((Grows.new (o := .lst (pl.map V.int ++ [V.int q])) hz2).trans (Grows.new (o := .lst [V.ref z2]) hz3)))) hz4) ⟨?_, fun c hc => ?_⟩ fun c hc => ?_
        · rw [List.map_append, e2']
          unfold comeR
          rw [epl]
          rfl
        · rw [upd_same, List.map_append, e1]
          rfl
        · rcases List.mem_append.mp hc with m | m
          · exact t2 _ _ (e3 c m).1
          · rw [List.mem_singleton.mp m]
            refine t3 _ _ ?_
            rw [upd_same, List.map_append]
            rfl
        · rcases List.mem_append.mp hc with m | m
          · exact (e3 c m).2.2
          · rw [List.mem_singleton.mp m]
            exact .inr (none_back (gH.trans (Grows.new (o := .lst [V.int q]) hz)) hz2)
theorem ok_pb (Z : ProgF K mg) (T : TxtP mg) (Y : ComF K mg) : FnOk P w K mg base CX0 3 Y.fPB Y.dPB ["coming"] (spPB K) := by
  have GComing : FnOk P w K mg base CX0 2 Y.fComing Y.dComing ["thing"] (spComing K) := ok_coming Z T Y
  have GCome : FnOk P w K mg base CX0 2 Y.fCome Y.dCome ["made", "item", "person"] spCome := ok_come T Y
  refine Y.FPB.ok scPB (fun vs H Q E h => ?_) (fun cdv A outer s H vs Q E hr h => ?_)
  · obtain ⟨a, is, rfl, _⟩ := h
    rfl
  · obtain ⟨a, is, rfl, hS, hC, k⟩ := h
    obtain ⟨bd, l20⟩ := bd_of hC
    refine ⟨_, (pss_cons (ps_if (pt_not (pt_val (pe_call GComing (hr.mono (by decide)) rfl Y.gComing Y.FComing.kp Y.bComing .nil pass0 (pa_cons (pv 0) pa_nil)))) (pss_one ps_never) pss_nil)
      (pss_cons (ps_set (i := 1) scPB.nd rfl (.inl rfl) (pe_lst pa_nil))
      (pss_cons (ps_for PassesOwn.never rfl (pi_enumS (by rfl) T.enumerate (by decide) (by decide) (pa_cons (pv 0) pa_nil) rfl) (pg_tup (by rfl) (pgs_cons (pg_name (i := 2) scPB.nd rfl (.inl rfl)) (pgs_cons (pg_name (i := 3) scPB.nd rfl (.inl rfl)) pgs_nil)))
      (pss_one (ps_set (i := 1) scPB.nd rfl (.inl rfl) (pe_call GCome (hr.mono (by decide)) rfl Y.gCome Y.FCome.kp Y.bCome .nil pass0 (pa_cons (pv 1) (pa_cons (pv 3) (pa_cons (pv 2) pa_nil)))))))
      (pss_one (ps_ret (pe_callB (call_sortedR hr.units) (by rfl) T.sorted (by decide +kernel) (pa_cons (pv 1) pa_nil))))))), ?_⟩
    refine ⟨_, rfl, _, _, rfl, .inl (.lst hS (rows_dp is)), fun H1 s1 => ?_⟩
    rw [hC]
    refine ⟨_, rfl, iteF ⟨(by show 0 ≤ sizeLine; decide), fun m0 hm0 => ?_⟩⟩
    have g0 : Grows H (upd H1 m0 (.lst [])) := s1.trans (Grows.new hm0)
    refine ⟨_, rfl, a, _, rfl, g0.seq hS, for_enumS (K := K) (xs := is.map V.int) (k := 1) (fun i σ G => ∃ m cs o2 o3, σ = [some (.ref a), some (.ref m), o2, o3] ∧ Grows H G ∧ Rl G m cs ∧ cs.map (·.2) = madeR is i ∧ ∀ c ∈ cs, H c.1 = none)
      ⟨m0, [], none, none, rfl, g0, ⟨upd_same, fun _ h => nomatch h⟩, rfl, fun _ h => nomatch h⟩ (fun i σ G ⟨_, _, _, _, _, g, _⟩ => g.seq hS) (fun i x T' σ G hx ⟨m, cs, o2, o3, e, g, rl, ec, nw⟩ hT => ?_) fun σ G ⟨m, cs, o2, o3, e, g, rl, ec, nw⟩ => ?_⟩
    · subst e
      have il := (List.getElem?_eq_some_iff.mp hx).1
      rw [List.length_map] at il
      obtain rfl := at_map (d := 0) hx
      have cl : cs.length = i := by
        have := congrArg List.length ec
        rw [List.length_map, madeR_len] at this
        exact this
      have gT : Grows G (upd G T' (.tup [V.int (1 + (i : Nat)), V.int (is.getD i 0)])) := Grows.new hT
      refine ⟨T', _, rfl, SqT.of upd_same, rfl, _, _, rfl, _, _, rfl, rfl, _, rfl, _, rfl, _, rfl, m, cs, is.getD i 0, 1 + (i : Nat), rfl, rl.keep gT, by rw [cl]; exact bd i il, by omega, fun r hr2 => ?_, fun p cs' G' ec' g' np rl' own => ?_⟩
      · rw [ec] at hr2
        have q := madeR_ok bd i (Nat.le_of_lt il) r hr2
        exact ⟨q.1, by omega⟩
      · refine ⟨p, cs', _, _, rfl, (g.trans gT).trans g', rl', ?_, fun c hc => ?_⟩
        · rw [ec', ec]
          rfl
        · rcases own c hc with ⟨b, hb, z⟩ | z
          · rw [z]
            exact nw b hb
          · exact none_back (g.trans gT) z
    · subst e
      rw [List.length_map] at ec
      refine ⟨_, rfl, m, cs, rfl, SqL.of rl.top, fun b hb => SqL.of (rl.each b hb), fun p hp => ?_⟩
      refine k p (cs.mergeSort rowLe) _ ?_ (g.trans (Grows.new hp)) (none_back g hp) ⟨upd_same, fun c hc => Grows.new hp _ _ (rl.each c (List.mem_mergeSort.mp hc))⟩ fun c hc => ⟨fun z => ?_, nw c (List.mem_mergeSort.mp hc)⟩
      · rw [sort_rows, ec]
        rfl
      · have q := rl.each c (List.mem_mergeSort.mp hc)
        rw [z, hp] at q
        cases q
end
end K46

namespace K46
open PySem PySem.Spec PyProof.Rows L2 SortR LcM RepA
/-- the part with the least person: the greatest one that begins alike -/
def firstN (rs : List (List Int)) (g : List Int) : Nat → List Int
  | 0 => [g.getD 0 0]
  | n + 1 => let f := firstN rs g n; let r := rs.getD n []
    if r.getD 0 0 = g.getD 0 0 ∧ f.length < r.length ∧ r.length < g.length then r else f
def secR (rs : List (List Int)) (g : List Int) : List Int := g.filter fun x => decide (x ∉ firstN rs g rs.length)
def spBoth : Sp := fun vs H Q _ => ∃ (a b : Addr) (bs : List (Addr × List Int)) (g : List Int), vs = [.ref a, .ref b] ∧ Rl H a bs ∧ H b = some (.lst (g.map V.int)) ∧ g ≠ [] ∧ (∀ r ∈ bs.map (·.2), r ≠ []) ∧ g.length ≤ 1000 ∧ bs.length ≤ 1000 ∧
  ∀ (p q1 q2 : Addr) (H' : Hp), Grows H H' → H' p = some (.lst [.ref q1, .ref q2]) → H' q2 = some (.lst ((secR (bs.map (·.2)) g).map V.int)) → Q (.ref p) H'
section
variable {P : Program} {w : World} {K : PySem.W.Frag} {mg : Str → Option Value} {base : Heap}
theorem scBoth : FnScope ["parting", "group", "first", "inner", "person"] ["parting", "group"] (defScope sBoth) := ⟨rfl, rfl, rfl, by decide +kernel, rfl, by decide +kernel, by decide +kernel⟩
theorem at_head {r : List Int} (h : r ≠ []) : atI (r.map V.int) 0 = some (V.int (r.getD 0 0)) := by
  have pz : 0 < r.length := List.length_pos_iff.mpr h
  refine atI_nat (j := 0) ?_
  rw [List.getElem?_map, List.getD_eq_getElem?_getD, List.getElem?_eq_getElem pz]
  rfl
theorem ok_both (T : TxtP mg) (Y : ComF K mg) : FnOk P w K mg base CX0 1 Y.fBoth Y.dBoth ["parting", "group"] spBoth := by
  refine Y.FBoth.ok scBoth (fun vs H Q E h => ?_) (fun cdv A outer s H vs Q E hr h => ?_)
  · obtain ⟨a, b, bs, g, rfl, _⟩ := h
    rfl
  · obtain ⟨a, b, bs, g, rfl, hB, hb, hne, hrs, hgl, hbl, k⟩ := h
    refine ⟨_, (pss_cons (ps_set (i := 2) scBoth.nd rfl (.inr rfl) (pe_lst (pa_cons (pe_ix (r := rIxL K) ix_list (pv 1) pe_int (fun _ _ => rfl)) pa_nil)))
      (pss_cons (ps_for PassesOwn.never rfl (pi_list (pv 0)) (pg_name (i := 3) scBoth.nd rfl (.inl rfl))
      (pss_one (ps_if (PW.pt (pw_and (pt_cmpR op_eq (pe_ix (r := rIxL K) ix_list (pv 3) pe_int (fun _ _ => rfl)) (pe_ix (r := rIxL K) ix_list (pv 1) pe_int (fun _ _ => rfl)) (nomark _)) (pw_and1 (pt_chain op_lt op_lt (pe_callB call_len_seq (by rfl) T.len (by decide +kernel) (pa_cons (pv 2) pa_nil)) (pe_callB call_len_seq (by rfl) T.len (by decide +kernel) (pa_cons (pv 3) pa_nil)) (pe_callB call_len_seq (by rfl) T.len (by decide +kernel) (pa_cons (pv 1) pa_nil)))))) (pss_one (ps_set (i := 2) scBoth.nd rfl (.inr rfl) (pv 3))) pss_nil)))
      (pss_one (ps_ret (pe_lst (pa_cons (pe_callTy call_list_of (by rfl) T.list (by decide +kernel) (pa_cons (pv 2) pa_nil)) (pa_cons (pe_lc (own := [("person", 4)]) (g := gName 4)  rfl scBoth.nd (pi_list (pv 1)) (blkOk_by (own := [("person", 4)]) (N := ["parting", "group", "first", "inner", "person"]) (sc := defScope sBoth) (by decide +kernel)) (fun _ _ _ _ _ => pg_name (i := 4) scBoth.nd rfl (Or.inl rfl)) (fun _ _ _ _ _ => (pts_one (pt_cmpR (r := rIn K true) (by exact op_notIn_seq) (pv 4) (pv 2) (by rfl)))) (fun _ _ _ _ _ => (pv 4))) pa_nil))))))), ?_⟩
    refine ⟨_, rfl, b, _, 0, _, rfl, rfl, SqL.of hb, at_head hne, (by show 1 ≤ sizeLine; decide), fun f0 hf0 => ?_⟩
    have g0 : Grows H (upd H f0 (.lst [V.int (g.getD 0 0)])) := Grows.new hf0
    refine ⟨_, rfl, a, rfl, ⟨_, SqL.of (hB.keep g0).top⟩, for_list (K := K) (a := a) (xs := bs.map fun b => V.ref b.1) (fun i σ G => ∃ f o, σ = [some (.ref a), some (.ref b), some (.ref f), o, none] ∧ Grows H G ∧ G f = some (.lst ((firstN (bs.map (·.2)) g i).map V.int)))
      ⟨f0, none, rfl, g0, upd_same⟩ (fun i σ G _ ⟨_, _, _, g', _⟩ => SqL.of (g' _ _ hB.top)) (fun i x σ G hx ⟨f, o, e, g', ef⟩ => ?_) fun σ G ⟨f, o, e, g', ef⟩ => ?_⟩
    · subst e
      have il := (List.getElem?_eq_some_iff.mp hx).1
      rw [List.length_map] at il
      obtain rfl := at_map (d := (0, [])) hx
      have ei := (hB.keep g').at il
      have ne := hrs _ (mem_at il)
      have eb := g' _ _ hb
      refine ⟨_, rfl, _, _, 0, _, rfl, rfl, SqL.of ei, at_head ne, _, rfl, b, _, 0, _, rfl, rfl, SqL.of eb, at_head hne, rfl, _, rfl, ?_⟩
      have same : ¬ ((bs.getD i (0, [])).2.getD 0 0 = g.getD 0 0 ∧ (firstN (bs.map (·.2)) g i).length < (bs.getD i (0, [])).2.length ∧ (bs.getD i (0, [])).2.length < g.length) → firstN (bs.map (·.2)) g (i + 1) = firstN (bs.map (·.2)) g i := fun z => by
        show (if _ then _ else _) = _
        rw [snd_at]
        exact if_neg z
      by_cases h1 : (bs.getD i (0, [])).2.getD 0 0 = g.getD 0 0
      · rw [decide_eq_true (congrArg V.int h1)]
        refine iteT ⟨_, rfl, f, _, rfl, .inl (SqL.of ef), _, rfl, _, _, rfl, .inl (SqL.of ei), _, _, rfl, rfl, _, rfl, ?_⟩
        rw [List.length_map, List.length_map]
        by_cases h2 : (firstN (bs.map (·.2)) g i).length < (bs.getD i (0, [])).2.length
        · rw [if_pos (decide_eq_true (show (((firstN (bs.map (·.2)) g i).length : Nat) : Int) < ((bs.getD i (0, [])).2.length : Nat) by omega))]
          refine ⟨_, rfl, b, _, rfl, .inl (SqL.of eb), _, _, rfl, rfl, _, rfl, ?_⟩
          rw [List.length_map]
          by_cases h3 : (bs.getD i (0, [])).2.length < g.length
          · rw [decide_eq_true (show (((bs.getD i (0, [])).2.length : Nat) : Int) < (g.length : Nat) by omega)]
            refine iteT ⟨_, rfl, _, _, rfl, g', ?_⟩
            have e : firstN (bs.map (·.2)) g (i + 1) = (bs.getD i (0, [])).2 := by
              show (if _ then _ else _) = _
              rw [snd_at]
              exact if_pos ⟨h1, h2, h3⟩
            rw [e]
            exact ei
          · rw [decide_eq_false (show ¬ (((bs.getD i (0, [])).2.length : Nat) : Int) < (g.length : Nat) by omega)]
            exact iteF ⟨f, _, rfl, g', by rw [same fun z => h3 z.2.2]; exact ef⟩
        · rw [if_neg (by rw [decide_eq_false (show ¬ (((firstN (bs.map (·.2)) g i).length : Nat) : Int) < ((bs.getD i (0, [])).2.length : Nat) by omega)]; exact Bool.false_ne_true)]
          refine ⟨_, rfl, iteF ⟨f, _, rfl, g', by rw [same fun z => h2 z.2.1]; exact ef⟩⟩
      · rw [decide_eq_false fun z => h1 (V.int.inj z)]
        exact iteF (iteF ⟨f, _, rfl, g', by rw [same fun z => h1 z.1]; exact ef⟩)
    · subst e
      rw [List.length_map] at ef
      have eb := g' _ _ hb
      refine ⟨_, rfl, f, _, rfl, .inl (SqL.of ef), fun q1 hq1 => ?_⟩
      have g1 : Grows G (upd G q1 (.lst ((firstN (bs.map (·.2)) g bs.length).map V.int))) := Grows.new hq1
      refine ⟨_, rfl, b, rfl, ⟨_, SqL.of (g1 _ _ eb)⟩, fun D hD => lc_listT (K := K) (fun i => decide (g.getD i 0 ∉ firstN (bs.map (·.2)) g bs.length)) (fun i => V.int (g.getD i 0)) hD (SqL.of (g1 _ _ eb)) (by rw [List.length_map]; omega) (fun i x G2 Ry Rn hx sm ky kn => ?_) fun G2 sm eD => ?_⟩
      · obtain rfl := at_map (d := 0) hx
        refine ⟨rfl, _, rfl, _, rfl, f, _, rfl, .inl (SqL.of (sm _ _ (g1 _ _ ef))), rfl, flat_ints _, _, rfl, ?_⟩
        show if (!inV (V.int (g.getD i 0)) ((firstN (bs.map (·.2)) g bs.length).map V.int)) = true then _ else _
        rw [inV_ints]
        by_cases m : g.getD i 0 ∈ firstN (bs.map (·.2)) g bs.length
        · rw [decide_eq_true m]
          exact iteF (kn (decide_eq_false fun z => z m) _ .refl)
        · rw [decide_eq_false m]
          exact iteT ⟨_, rfl, ky (decide_eq_true m) _ .refl⟩
      · rw [List.length_map] at eD
        have ek : kept (fun i => decide (g.getD i 0 ∉ firstN (bs.map (·.2)) g bs.length)) (fun i => V.int (g.getD i 0)) g.length = (secR (bs.map (·.2)) g).map V.int := by
          unfold kept secR
          rw [List.length_map]
          have e := (rngm g 0 id).trans (List.map_id g)
          have e2 : g.filter (fun x => decide (x ∉ firstN (bs.map (·.2)) g bs.length)) = ((List.range g.length).map fun i => g.getD i 0).filter fun x => decide (x ∉ firstN (bs.map (·.2)) g bs.length) := by
            rw [show ((List.range g.length).map fun i => g.getD i 0) = g from e]
          rw [e2, List.filter_map, List.map_map]
          rfl
        rw [ek] at eD
        refine ⟨(by show 2 ≤ sizeLine; decide), fun p hp => k p q1 D _ ((g'.trans g1).trans (sm.trans (Grows.new hp))) upd_same (Grows.new hp _ _ eD)⟩
end
end K46

namespace K46
open PySem PySem.Spec PyProof.Rows L2 SortR LcM RepA
def upto (n : Nat) : List Int := (List.range n).map fun i => (0 + (i : Nat) : Int)
def isMinB (js : List (List Int)) (i : Nat) : Bool := (List.range js.length).all fun j => decide ((js.getD i []).length ≤ (js.getD j []).length) && (!decide (j < i) || decide ((js.getD i []).length < (js.getD j []).length))
def itemAt (come : List (List Int)) (r : List Int) : Option Int :=
  if r.dropLast.length = 1 then some (r.dropLast.getD 0 0) else if r.dropLast = [] then none else (secR come r.dropLast).head?.map fun x => -x
def itemC (come : List (List Int)) (p : Int) (v : Int) : Bool :=
  let js := come.filter fun r => decide (p ∈ r)
  !js.isEmpty && (List.range js.length).all fun i => !isMinB js i || decide (itemAt come (js.getD i []) = some v)
def itemB (rs : List (List Int)) (p : Nat) (v : Int) : Bool := itemC (cutR rs (upto (p + 1))) p v
theorem cutR_row {rs : List (List Int)} {ns q : List Int} (h : q ∈ cutR rs ns) : 2 ≤ q.length ∧ ∃ r ∈ rs, q = meet ns r := by
  unfold cutR at h
  rw [List.mem_mergeSort] at h
  obtain ⟨i, il, hp, rfl⟩ := firsts_of _ _ _ _ h
  unfold two at hp
  have := of_decide_eq_true hp
  refine ⟨by omega, rs.getD i [], ?_, rfl⟩
  rw [List.getD_eq_getElem?_getD, List.getElem?_eq_getElem il]
  exact List.getElem_mem il
theorem meet_le (ns r : List Int) : (meet ns r).length ≤ r.length := by
  unfold meet
  rw [List.length_map]
  exact Nat.le_trans (List.length_filter_le _ _) (Nat.le_of_eq (List.length_range))
theorem cutR_len (rs : List (List Int)) (ns : List Int) : (cutR rs ns).length ≤ rs.length := by
  unfold cutR
  rw [List.length_mergeSort]
  exact firsts_le _ _ _
theorem upto_V (n : Nat) : rgV 0 ((0 : Int) + (n : Nat)) = (upto n).map V.int := by
  unfold rgV upto
  rw [List.map_map]
  have e : (0 + (n : Nat) - 0 : Int).toNat = n := by omega
  rw [e]
  rfl
theorem filt {α : Type} (d : α) (p : α → Bool) (cs : List α) : ((List.range cs.length).filter fun i => p (cs.getD i d)).map (fun i => cs.getD i d) = cs.filter p := by
  have e := (rngm cs d id).trans (List.map_id cs)
  have e2 : cs.filter p = ((List.range cs.length).map fun i => cs.getD i d).filter p := by
    rw [show ((List.range cs.length).map fun i => cs.getD i d) = cs from e]
  rw [e2, List.filter_map]
  rfl
theorem cut_last {r : List Int} (h : r ≠ []) : cutV (r.map V.int) none (some (-1)) = r.dropLast.map V.int := by
  have pz : 0 < r.length := List.length_pos_iff.mpr h
  unfold cutV HT.sIx
  rw [List.length_map]
  show List.take ((if (-1 : Int) < 0 then ((-1 : Int) + (r.length : Nat)).toNat else _) - 0) (List.drop 0 (r.map V.int)) = _
  rw [if_pos (by decide), List.drop_zero, Nat.sub_zero, show ((-1 : Int) + (r.length : Nat)).toNat = r.length - 1 by omega, ← List.map_take, List.dropLast_eq_take]
def spItem (K : PySem.W.Frag) : Sp := fun vs H Q _ => ∃ (a : Addr) (bs : List (Addr × List Int)) (p : Nat) (v : Int), vs = [.ref a, .int (p : Nat)] ∧ Rw K H a bs ∧ Sz (bs.map (·.2)) ∧ p ≤ 100 ∧ itemB (bs.map (·.2)) p v = true ∧ ∀ H', Grows H H' → Q (.int v) H'
def spComOf (K : PySem.W.Frag) : Sp := fun vs H Q _ => ∃ (a : Addr) (bs : List (Addr × List Int)) (is : List Int), vs = [.ref a] ∧ Rw K H a bs ∧ Sz (bs.map (·.2)) ∧ isP (bs.map (·.2)) = true ∧ is.length = bs.length ∧ (∀ j, j < is.length → itemB (bs.map (·.2)) (j + 1) (is.getD j 0) = true) ∧
  ∀ (p : Addr) (H' : Hp), Grows H H' → H p = none → H' p = some (.lst (is.map V.int)) → Q (.ref p) H'
section
variable {P : Program} {w : World} {K : PySem.W.Frag} {mg : Str → Option Value} {base : Heap}
theorem scItem : FnScope ["parting", "person", "come", "joined", "place", "group"] ["parting", "person"] (defScope sItem) := ⟨rfl, rfl, rfl, by decide +kernel, rfl, by decide +kernel, by decide +kernel⟩
theorem ok_item (T : TxtP mg) (TC : Txt0 mg) (Y : ComF K mg) : FnOk P w K mg base CX0 2 Y.fItem Y.dItem ["parting", "person"] (spItem K) := by
  have GCut : FnOk P w K mg base CX0 1 Y.fCut Y.dCut ["parting", "some"] (spCut K) := ok_cut Y.FCut T
  have GBoth : FnOk P w K mg base CX0 1 Y.fBoth Y.dBoth ["parting", "group"] spBoth := ok_both T Y
  refine Y.FItem.ok scItem (fun vs H Q E h => ?_) (fun cdv A outer s H vs Q E hr h => ?_)
  · obtain ⟨a, bs, p, v, rfl, _⟩ := h
    rfl
  · obtain ⟨a, bs, p, v, rfl, hB, hz, hp, hi, k⟩ := h
    refine ⟨_, (pss_cons (ps_set (i := 2) scItem.nd rfl (.inl rfl) (pe_call GCut (hr.mono (by decide)) rfl Y.gCut Y.FCut.kp Y.bCut .nil pass0 (pa_cons (pv 0) (pa_cons (pe_listRg rfl (by rfl) T.list (prg_1 (by rfl) T.range (pe_op op_add (pv 1) pe_int))) pa_nil))))
      (pss_cons (ps_set (i := 3) scItem.nd rfl (.inl rfl) (pe_minLen rfl (by rfl) TC.min (by rfl) T.len (pe_lc (own := [("group", 5)]) (g := gName 5)  rfl scItem.nd (pi_list (pv 2)) (blkOk_by (own := [("group", 5)]) (N := ["parting", "person", "come", "joined", "place", "group"]) (sc := defScope sItem) (by decide +kernel)) (fun _ _ _ _ _ => pg_name (i := 5) scItem.nd rfl (Or.inl rfl)) (fun _ _ _ _ _ => (pts_one (pt_cmpR (r := rIn K false) (by exact op_in_seq) (pv 1) (pv 5) (by rfl)))) (fun _ _ _ _ _ => (pv 5)))))
      (pss_cons (ps_set (i := 4) scItem.nd rfl (.inl rfl) (pe_slice sl_list (pv 3) po_none (po_some (pe_un un_neg pe_int))))
      (pss_cons (ps_if (pt_cmpR op_eq (pe_callB call_len_seq (by rfl) T.len (by decide +kernel) (pa_cons (pv 4) pa_nil)) pe_int (nomark _)) (pss_one (ps_ret (pe_ix (r := rIxL K) ix_list (pv 4) pe_int (fun _ _ => rfl)))) pss_nil)
      (pss_one (ps_ret (pe_un un_neg (pe_ix (r := rIxL K) ix_list (pe_ix (r := rIxL K) ix_list (pe_call GBoth (hr.mono (by decide)) rfl Y.gBoth Y.FBoth.kp Y.bBoth .nil pass0 (pa_cons (pv 2) (pa_cons (pv 4) pa_nil))) pe_int (fun _ _ => rfl)) pe_int (fun _ _ => rfl))))))))), ?_⟩
    refine ⟨_, rfl, _, rfl, _, _, rfl, rfl, _, rfl, .of_le (by decide) (by omega) (by decide) (by omega), fun q1 hq1 => ?_⟩
    rw [show ((p : Nat) : Int) + 1 = 0 + ((p + 1 : Nat) : Int) by omega, upto_V]
    have g1 : Grows H (upd H q1 (.lst ((upto (p + 1)).map V.int))) := Grows.new hq1
    refine ⟨a, q1, bs, _, rfl, hB.keep g1, hz, SqL.of upd_same, ?_, fun c cs H2 ecs g2 nc nw ap top => ?_⟩
    · unfold upto
      rw [List.length_map, List.length_range]
      omega
    have ci : itemC (cs.map (·.2)) p v = true := by
      rw [ecs]
      exact hi
    have csl : cs.length ≤ 1000 := by
      have e := congrArg List.length ecs
      rw [List.length_map] at e
      rw [e]
      exact Nat.le_trans (cutR_len _ _) hz.1
    have row : ∀ r ∈ cs.map (·.2), 2 ≤ r.length ∧ r.length ≤ 1000 := fun r hr2 => by
      rw [ecs] at hr2
      obtain ⟨a1, s1, hs, e⟩ := cutR_row hr2
      refine ⟨a1, ?_⟩
      rw [e]
      exact Nat.le_trans (meet_le _ _) (hz.2 _ hs)
    have rl : Rl H2 c cs := ⟨top, nw.lists⟩
    refine ⟨_, rfl, c, rfl, ⟨_, SqL.of top⟩, fun D hD => lc_listT (K := K) (fun i => decide ((p : Int) ∈ (cs.getD i (0, [])).2)) (fun i => V.ref (cs.getD i (0, [])).1) hD (SqL.of top) (by rw [List.length_map]; omega) (fun i x G Ry Rn hx sm ky kn => ?_) fun G sm eD => ?_⟩
    · have il := (List.getElem?_eq_some_iff.mp hx).1
      rw [List.length_map] at il
      obtain rfl := at_map (d := (0, [])) hx
      refine ⟨rfl, _, rfl, _, rfl, _, _, rfl, .inl (SqL.of ((rl.keep sm).at il)), rfl, flat_ints _, _, rfl, ?_⟩
      show if (inV (V.int p) ((cs.getD i (0, [])).2.map V.int)) = true then _ else _
      rw [inV_ints]
      by_cases m : (p : Int) ∈ (cs.getD i (0, [])).2
      · rw [decide_eq_true m]
        exact iteT ⟨_, rfl, ky (decide_eq_true m) _ .refl⟩
      · rw [decide_eq_false m]
        exact iteF (kn (decide_eq_false m) _ .refl)
    · rw [List.length_map] at eD
      have ek : kept (fun i => decide ((p : Int) ∈ (cs.getD i (0, [])).2)) (fun i => V.ref (cs.getD i (0, [])).1) cs.length = (cs.filter fun c => decide ((p : Int) ∈ c.2)).map fun c => V.ref c.1 := by
        rw [← filt (0, []) (fun c => decide ((p : Int) ∈ c.2)) cs, List.map_map]
        rfl
      rw [ek] at eD
      generalize ejs : (cs.filter fun c => decide ((p : Int) ∈ c.2)) = js at eD
      have ejs2 : (cs.map (·.2)).filter (fun r => decide ((p : Int) ∈ r)) = js.map (·.2) := by
        rw [List.filter_map, ← ejs]
        rfl
      have mem : ∀ j ∈ js, j ∈ cs := fun j hj => by
        rw [← ejs] at hj
        exact (List.mem_filter.mp hj).1
      unfold itemC at ci
      rw [ejs2, Bool.and_eq_true] at ci
      obtain ⟨c1, c2⟩ := ci
      have jne : js ≠ [] := fun z => by
        rw [z] at c1
        cases c1
      refine ⟨D, js, rfl, SqL.of eD, fun b hb => SqL.of (sm _ _ (nw.lists b (mem b hb))), jne, fun i il fm => ?_⟩
      have hmin : isMinB (js.map (·.2)) i = true := by
        unfold isMinB
        refine List.all_eq_true.mpr fun j hj => ?_
        have jl := List.mem_range.mp hj
        rw [List.length_map] at jl
        have q := fm j jl
        unfold lenAt at q
        rw [snd_at, snd_at, Bool.and_eq_true]
        refine ⟨decide_eq_true (by omega), ?_⟩
        by_cases l : j < i
        · have := q.2 l
          rw [decide_eq_true l, decide_eq_true (show (js.getD i (0, [])).2.length < (js.getD j (0, [])).2.length by omega)]
          rfl
        · rw [decide_eq_false l]
          rfl
      have at_i := List.all_eq_true.mp c2 i (List.mem_range.mpr (by rw [List.length_map]; exact il))
      rw [hmin, Bool.not_true, Bool.false_or, snd_at] at at_i
      have at_i := of_decide_eq_true at_i
      have memi : js.getD i (0, []) ∈ js := by
        rw [List.getD_eq_getElem?_getD, List.getElem?_eq_getElem il]
        exact List.getElem_mem il
      have rowi := row _ (List.mem_map.mpr ⟨_, mem _ memi, rfl⟩)
      have lists := sm _ _ (nw.lists _ (mem _ memi))
      generalize hJ : js.getD i (0, []) = J at at_i memi rowi lists
      have ne2 : J.2 ≠ [] := fun z => by rw [z] at rowi; exact absurd rowi.1 (by decide)
      have dl : J.2.dropLast.length = J.2.length - 1 := List.length_dropLast
      refine ⟨_, rfl, 1, rfl, -1, rfl, J.1, _, rfl, SqL.of lists, fun pl hpl => ?_⟩
      rw [cut_last ne2]
      have gpl : Grows G (upd G pl (.lst (J.2.dropLast.map V.int))) := Grows.new hpl
      have gH := g1.trans (g2.trans sm)
      refine ⟨_, rfl, pl, _, rfl, .inl (SqL.of upd_same), rfl, _, rfl, ?_⟩
      rw [List.length_map]
      have plne : J.2.dropLast ≠ [] := fun z => by
        have := congrArg List.length z
        rw [dl] at this
        have := rowi.1
        simp at *
        omega
      by_cases h1 : J.2.dropLast.length = 1
      · rw [decide_eq_true (show V.int ((J.2.dropLast.length : Nat) : Int) = V.int 1 by rw [h1]; rfl)]
        unfold itemAt at at_i
        rw [if_pos h1] at at_i
        have ev := Option.some.inj at_i
        refine iteT ⟨_, rfl, pl, _, 0, _, rfl, rfl, SqL.of upd_same, at_head plne, ?_⟩
        rw [ev]
        exact k _ (gH.trans gpl)
      · rw [decide_eq_false fun z => h1 (by have := V.int.inj z; omega)]
        unfold itemAt at at_i
        rw [if_neg h1, if_neg plne] at at_i
        refine iteF ⟨_, rfl, _, rfl, c, pl, cs, J.2.dropLast, rfl, rl.keep (sm.trans gpl), upd_same, plne, fun r hr2 z => ?_, by have := rowi.2; omega, csl, fun r1 r2 r3 G3 g3 e1 e2 => ⟨_, _, 1, V.ref r3, rfl, rfl, SqL.of e1, rfl, ?_⟩⟩
        · have := (row r hr2).1
          rw [z] at this
          exact absurd this (by decide)
        · generalize secR (cs.map (·.2)) J.2.dropLast = sec at e2 at_i
          cases sec with
          | nil => cases at_i
          | cons x xs =>
            have ev : -x = v := Option.some.inj at_i
            refine ⟨_, _, 0, V.int x, rfl, rfl, SqL.of e2, at_head (r := x :: xs) (fun z => nomatch z), _, rfl, ?_⟩
            have kk := k _ (gH.trans (gpl.trans g3))
            rw [← ev] at kk
            exact kk
theorem scComOf : FnScope ["parting", "person"] ["parting"] (defScope sComOf) := ⟨rfl, rfl, rfl, by decide +kernel, rfl, by decide +kernel, by decide +kernel⟩
theorem ok_comOf (Z : ProgF K mg) (T : TxtP mg) (TC : Txt0 mg) (Y : ComF K mg) : FnOk P w K mg base CX0 7 Y.fComOf Y.dComOf ["parting"] (spComOf K) := by
  have GPs : FnOk P w K mg base CX0 6 Z.fPs Z.dPs ["parting"] (spPs K) := ok_persons Z T
  have GItem : FnOk P w K mg base CX0 2 Y.fItem Y.dItem ["parting", "person"] (spItem K) := ok_item T TC Y
  refine Y.FComOf.ok scComOf (fun vs H Q E h => ?_) (fun cdv A outer s H vs Q E hr h => ?_)
  · obtain ⟨a, bs, is, rfl, _⟩ := h
    rfl
  · obtain ⟨a, bs, is, rfl, hB, hz, hP, hl, hi, k⟩ := h
    refine ⟨_, (pss_one (ps_ret (pe_lc (own := [("person", 1)]) (g := gName 1) (tt := tYes) rfl scComOf.nd (pi_range2 (by rfl) T.range (pa_cons pe_int (pa_cons (pe_call GPs (hr.mono (by decide)) rfl Z.gPs Z.FPs.kp Z.bPs .nil pass0 (pa_cons (pv 0) pa_nil)) pa_nil))) (blkOk_by (own := [("person", 1)]) (N := ["parting", "person"]) (sc := defScope sComOf) (by decide +kernel)) (fun _ _ _ _ _ => pg_name (i := 1) scComOf.nd rfl (Or.inl rfl)) (fun _ _ _ _ _ => pts_nil) (fun _ _ _ _ _ => (pe_call GItem (hr.mono (by decide)) rfl Y.gItem Y.FItem.kp Y.bItem .nil pass0 (pa_cons (pv 0) (pa_cons (pv 1) pa_nil))))))), ?_⟩
    have l20 : bs.length < 20 := by
      have q := hP
      unfold isP at q
      simp only [Bool.and_eq_true, decide_eq_true_eq] at q
      have := q.1.1.1
      rw [List.length_map] at this
      omega
    refine ⟨_, rfl, a, bs, rfl, hB, hz, hP, fun H1 s1 => ?_⟩
    have en : ((bs.length : Int) + 1 - 1).toNat = is.length := by omega
    refine ⟨1, _, rfl, by omega, fun D hD => lc_range (lo := 1) (n := ((bs.length : Int) + 1 - 1).toNat) (fun i G => Grows H1 G ∧ G D = some (.lst ((is.take i).map V.int))) ⟨Grows.new hD, upd_same⟩ (fun i G il ⟨g, e⟩ => ?_) fun G ⟨g, e⟩ => ?_⟩
    · rw [en] at il
      refine ⟨rfl, _, rfl, _, rfl, a, bs, i + 1, is.getD i 0, ?_, (hB.keep s1).keep g, hz, by omega, hi i il, fun G2 g2 => ⟨_, g2 _ _ e, ?_, fun c o q => ?_, ?_⟩⟩
      · show [V.ref a, V.int (1 + (i : Nat))] = [V.ref a, V.int ((i + 1 : Nat) : Int)]
        rw [show (1 + (i : Nat) : Int) = ((i + 1 : Nat) : Int) by omega]
      · rw [List.length_map, List.length_take]
        exact small1000 (by omega)
      · rw [upd_ne (ne_of_none q hD)]
        exact g2 _ _ (g c o q)
      · rw [upd_same, List.take_succ, List.map_append, List.getD_eq_getElem?_getD, List.getElem?_eq_getElem il]
        rfl
    · rw [en, List.take_length] at e
      exact k D G (s1.trans g) (none_back s1 hD) e
end
end K46

namespace K46
open PySem PySem.Spec PyProof.Rows L2 SortR LcM
theorem rng_map {α β : Type} (ns : List α) (d : α) (f : α → β) : (List.range ns.length).map (fun i => f (ns.getD i d)) = ns.map f := by
  refine List.ext_getElem (by rw [List.length_map, List.length_map, List.length_range]) fun j j1 j2 => ?_
  rw [List.length_map] at j2
  rw [List.getElem_map, List.getElem_map, List.getElem_range, List.getD_eq_getElem?_getD, List.getElem?_eq_getElem j2]
  rfl
theorem maskI_mk {ns : List Int} : maskI ns = ((mk (ns.map Int.toNat) : Nat) : Int) := by
  unfold maskI
  rw [rng_map ns 0 fun x => (1 : Int) * 2 ^ x.toNat]
  induction ns with
  | nil => rfl
  | cons x ns ih =>
    rw [List.map_cons, List.sum_cons, ih, List.map_cons, mk_cons, Int.one_mul, Int.natCast_add, Int.natCast_pow]
    rfl
/-- ascending lists of persons that lie apart, or one within the other -/
def Nice (xs ys : List Int) : Prop := (∀ z ∈ xs, z ∉ ys) ∨ (∀ z ∈ xs, z ∈ ys) ∨ ∀ z ∈ ys, z ∈ xs
theorem up_nat {xs : List Int} (h : xs.Pairwise (· < ·)) (p : ∀ x ∈ xs, 0 ≤ x) : (xs.map Int.toNat).Pairwise (· < ·) := by
  rw [List.pairwise_map]
  exact h.imp_of_mem fun {a b} ha hb lt => by
    have := p a ha
    have := p b hb
    omega
theorem mem_nat {xs : List Int} (p : ∀ x ∈ xs, 0 ≤ x) {i : Nat} : i ∈ xs.map Int.toNat ↔ (i : Int) ∈ xs := by
  rw [List.mem_map]
  constructor
  · rintro ⟨x, hx, rfl⟩
    rw [Int.toNat_of_nonneg (p x hx)]
    exact hx
  · intro h
    exact ⟨_, h, rfl⟩
theorem crossI_no {xs ys : List Int} (hx : xs.Pairwise (· < ·)) (hy : ys.Pairwise (· < ·)) (px : ∀ x ∈ xs, 0 ≤ x) (py : ∀ x ∈ ys, 0 ≤ x) (h : Nice xs ys) : crossI (maskI xs) (maskI ys) = false := by
  have h' : (∀ z ∈ xs.map Int.toNat, z ∉ ys.map Int.toNat) ∨ (∀ z ∈ xs.map Int.toNat, z ∈ ys.map Int.toNat) ∨ ∀ z ∈ ys.map Int.toNat, z ∈ xs.map Int.toNat := by
    rcases h with h | h | h
    · exact .inl fun z hz hz2 => h _ ((mem_nat px).mp hz) ((mem_nat py).mp hz2)
    · exact .inr (.inl fun z hz => (mem_nat py).mpr (h _ ((mem_nat px).mp hz)))
    · exact .inr (.inr fun z hz => (mem_nat px).mpr (h _ ((mem_nat py).mp hz)))
  have m := mk_and (up_nat hx px) (up_nat hy py) h'
  rw [maskI_mk, maskI_mk]
  unfold crossI
  rw [PyProof.Rows.bitAnd_pp (Int.natCast_nonneg _) (Int.natCast_nonneg _), Int.toNat_natCast, Int.toNat_natCast]
  generalize mk (xs.map Int.toNat) = a at m
  generalize mk (ys.map Int.toNat) = b at m
  have e : inV (.int ((a &&& b : Nat) : Int)) [.int 0, .int (a : Int), .int (b : Int)] = true := by
    unfold inV
    rcases m with m | m | m
    · rw [m]
      rfl
    · rw [m]
      simp [eqV]
    · rw [m]
      simp [eqV]
  rw [e]
  rfl
end K46

namespace K46
open PySem PySem.Spec PyProof.Rows L2 SortR LcM
/-- items of newcomers: each within its bounds -/
def Bnd (xs : List Int) : Prop := ∀ (j : Nat) (x : Int), xs[j]? = some x → -(j : Int) ≤ x ∧ x ≤ (j : Int)
theorem Bnd.add {xs : List Int} {x : Int} (h : Bnd xs) (h0 : -(xs.length : Int) ≤ x) (h1 : x ≤ (xs.length : Int)) : Bnd (xs ++ [x]) := fun j y e => by
  rcases Nat.lt_or_ge j xs.length with z | z
  · rw [List.getElem?_append_left z] at e
    exact h j y e
  · rw [List.getElem?_append_right z] at e
    have : j - xs.length = 0 := by
      rcases Nat.eq_zero_or_pos (j - xs.length) with q | q
      · exact q
      · rw [List.getElem?_eq_none (by show 1 ≤ j - xs.length; omega)] at e
        cases e
    rw [this] at e
    have e' : x = y := Option.some.inj e
    omega
/-! ### families that grow newcomer by newcomer -/
theorem len_sub : ∀ {xs ys : List Int}, xs.Nodup → (∀ z ∈ xs, z ∈ ys) → xs.length ≤ ys.length
  | [], _, _, _ => Nat.zero_le _
  | x :: xs, ys, h, s => by
    obtain ⟨nx, n⟩ := List.nodup_cons.mp h
    have m : x ∈ ys := s x List.mem_cons_self
    have q := len_sub n (ys := ys.erase x) fun z hz => (List.mem_erase_of_ne fun e => nx (by rw [← e]; exact hz)).mpr (s z (List.mem_cons_of_mem _ hz))
    rw [List.length_erase_of_mem m] at q
    have := List.length_pos_of_mem m
    rw [List.length_cons]
    omega
theorem sub_back {xs ys : List Int} (h : xs.Nodup) (s : ∀ z ∈ xs, z ∈ ys) (l : ys.length ≤ xs.length) : ∀ z ∈ ys, z ∈ xs := fun z hz => by
  apply Classical.byContradiction
  intro no
  have q := len_sub (List.nodup_cons.mpr ⟨no, h⟩) fun y hy => (List.mem_cons.mp hy).elim (fun e => by rw [e]; exact hz) (s y)
  rw [List.length_cons] at q
  omega
theorem up_nodup {xs : List Int} (h : xs.Pairwise (· < ·)) : xs.Nodup := h.imp fun {a b} lt e => by omega
theorem Nice.symm {xs ys : List Int} (h : Nice xs ys) : Nice ys xs := by
  rcases h with h | h | h
  · exact .inl fun z hz hx => h z hx hz
  · exact .inr (.inr h)
  · exact .inr (.inl h)
theorem Nice.same {xs : List Int} : Nice xs xs := .inr (.inl fun _ h => h)
/-- what the newcomer is beside or around -/
def baseB (rs : List (List Int)) (item : Int) : List Int := if 0 ≤ item then [item] else rs.getD (0 - item - 1).toNat []
/-- whether a group is around it -/
def inB (b w : List Int) : Bool := decide (b.length < w.length) && decide (b.headD 0 ∈ w)
def growB (f : Int) (b w : List Int) : List Int := if inB b w = true then w ++ [f] else w
def stepB (rs : List (List Int)) (item : Int) : List (List Int) := rs.map (growB ((rs.length : Int) + 1) (baseB rs item)) ++ [baseB rs item ++ [(rs.length : Int) + 1]]
def famB (is : List Int) : Nat → List (List Int)
  | 0 => []
  | n + 1 => stepB (famB is n) (is.getD n 0)
theorem stepB_len (rs : List (List Int)) (item : Int) : (stepB rs item).length = rs.length + 1 := by
  unfold stepB
  rw [List.length_append, List.length_map]
  rfl
theorem famB_len (is : List Int) : ∀ n, (famB is n).length = n
  | 0 => rfl
  | n + 1 => by
    show (stepB (famB is n) _).length = n + 1
    rw [stepB_len, famB_len is n]
structure Fam (rs : List (List Int)) : Prop where
  up : ∀ r ∈ rs, r.Pairwise (· < ·)
  two : ∀ r ∈ rs, 2 ≤ r.length
  rng : ∀ r ∈ rs, ∀ x ∈ r, 0 ≤ x ∧ x ≤ (rs.length : Int)
  nice : rs.Pairwise fun a b => Nice a b ∧ a ≠ b
theorem pw_mem {α : Type} {R : α → α → Prop} (sy : ∀ a b, R a b → R b a) {xs : List α} (h : xs.Pairwise R) {a b : α} (ha : a ∈ xs) (hb : b ∈ xs) : a = b ∨ R a b := by
  induction h with
  | nil => cases ha
  | @cons x xs hx _ ih =>
    rcases List.mem_cons.mp ha with e1 | e1
    · rcases List.mem_cons.mp hb with e2 | e2
      · exact .inl (e1.trans e2.symm)
      · rw [e1]
        exact .inr (hx b e2)
    · rcases List.mem_cons.mp hb with e2 | e2
      · rw [e2]
        exact .inr (sy _ _ (hx a e1))
      · exact ih e1 e2
theorem Fam.two_nice {rs : List (List Int)} (F : Fam rs) {a b : List Int} (ha : a ∈ rs) (hb : b ∈ rs) : Nice a b := by
  rcases pw_mem (R := fun a b => Nice a b ∧ a ≠ b) (fun a b h => ⟨h.1.symm, h.2.symm⟩) F.nice ha hb with e | e
  · rw [e]
    exact .same
  · exact e.1
structure Bas (rs : List (List Int)) (b : List Int) : Prop where
  up : b.Pairwise (· < ·)
  ne : ∃ h t, b = h :: t
  rng : ∀ x ∈ b, 0 ≤ x ∧ x ≤ (rs.length : Int)
  nice : ∀ w ∈ rs, Nice b w
theorem Fam.bas {rs : List (List Int)} (F : Fam rs) {item : Int} (h0 : -(rs.length : Int) ≤ item) (h1 : item ≤ rs.length) : Bas rs (baseB rs item) := by
  unfold baseB
  by_cases p : 0 ≤ item
  · rw [if_pos p]
    refine ⟨List.pairwise_singleton _ _, ⟨_, _, rfl⟩, fun x hx => by rw [List.mem_singleton.mp hx]; exact ⟨p, h1⟩, fun w _ => ?_⟩
    by_cases m : item ∈ w
    · exact .inr (.inl fun z hz => by rw [List.mem_singleton.mp hz]; exact m)
    · exact .inl fun z hz => by rw [List.mem_singleton.mp hz]; exact m
  · rw [if_neg p]
    have lt : (0 - item - 1).toNat < rs.length := by omega
    have e : rs.getD (0 - item - 1).toNat [] = rs[(0 - item - 1).toNat] := by rw [List.getD_eq_getElem?_getD, List.getElem?_eq_getElem lt]; rfl
    have m : rs.getD (0 - item - 1).toNat [] ∈ rs := by rw [e]; exact List.getElem_mem lt
    refine ⟨F.up _ m, ?_, F.rng _ m, fun w hw => F.two_nice m hw⟩
    have t := F.two _ m
    cases z : rs.getD (0 - item - 1).toNat [] with
    | nil => rw [z] at t; exact absurd t (by decide)
    | cons x y => exact ⟨x, y, rfl⟩
theorem Bas.head {rs : List (List Int)} {b : List Int} (B : Bas rs b) : b.headD 0 ∈ b := by
  obtain ⟨h, t, e⟩ := B.ne
  rw [e]
  exact List.mem_cons_self
theorem Bas.sub {rs : List (List Int)} {b w : List Int} (B : Bas rs b) (F : Fam rs) (hw : w ∈ rs) (i : inB b w = true) : (∀ z ∈ b, z ∈ w) ∧ b.length < w.length := by
  unfold inB at i
  simp only [Bool.and_eq_true, decide_eq_true_eq] at i
  refine ⟨?_, i.1⟩
  rcases B.nice w hw with h | h | h
  · exact absurd i.2 (h _ B.head)
  · exact h
  · have := len_sub (up_nodup (F.up w hw)) h
    omega
theorem Bas.out {rs : List (List Int)} {b w : List Int} (B : Bas rs b) (hw : w ∈ rs) (i : inB b w = false) : (∀ z ∈ b, z ∉ w) ∨ ∀ z ∈ w, z ∈ b := by
  rcases B.nice w hw with h | h | h
  · exact .inl h
  · refine .inr (sub_back (up_nodup B.up) h ?_)
    apply Classical.byContradiction
    intro l
    unfold inB at i
    rw [decide_eq_true (show b.length < w.length by omega), decide_eq_true (h _ B.head)] at i
    cases i
  · exact .inr h
theorem nice_both {a b : List Int} {f h : Int} (ha : h ∈ a) (hb : h ∈ b) (n : Nice a b) : Nice (a ++ [f]) (b ++ [f]) := by
  rcases n with n | n | n
  · exact absurd hb (n h ha)
  · exact .inr (.inl fun z hz => (List.mem_append.mp hz).elim (fun q => List.mem_append.mpr (.inl (n z q))) fun q => List.mem_append.mpr (.inr q))
  · exact .inr (.inr fun z hz => (List.mem_append.mp hz).elim (fun q => List.mem_append.mpr (.inl (n z q))) fun q => List.mem_append.mpr (.inr q))
theorem nice_one {rs : List (List Int)} {b w1 w2 : List Int} {f : Int} (B : Bas rs b) (F : Fam rs) (h1 : w1 ∈ rs) (h2 : w2 ∈ rs) (i1 : inB b w1 = true) (i2 : inB b w2 = false) (nf : f ∉ w2) : Nice (w1 ++ [f]) w2 := by
  obtain ⟨s, l⟩ := B.sub F h1 i1
  rcases F.two_nice h1 h2 with n | n | n
  · refine .inl fun z hz h => ?_
    rcases List.mem_append.mp hz with q | q
    · exact n z q h
    · rw [List.mem_singleton.mp q] at h
      exact nf h
  · have := len_sub (up_nodup (F.up w1 h1)) n
    unfold inB at i2
    rw [decide_eq_true (show b.length < w2.length by omega), decide_eq_true (n _ (s _ B.head))] at i2
    cases i2
  · exact .inr (.inr fun z hz => List.mem_append.mpr (.inl (n z hz)))
theorem Fam.step {rs : List (List Int)} (F : Fam rs) {item : Int} (h0 : -(rs.length : Int) ≤ item) (h1 : item ≤ rs.length) : Fam (stepB rs item) := by
  have B := F.bas h0 h1
  obtain ⟨f, ef⟩ : ∃ f : Int, f = (rs.length : Int) + 1 := ⟨_, rfl⟩
  have nf : ∀ w ∈ rs, f ∉ w := fun w hw z => by
    have := (F.rng w hw f z).2
    omega
  have nb : f ∉ baseB rs item := fun z => by
    have := (B.rng f z).2
    omega
  have up1 : ∀ {w : List Int}, w.Pairwise (· < ·) → (∀ x ∈ w, x ≤ (rs.length : Int)) → (w ++ [f]).Pairwise (· < ·) := fun {w} u r => List.pairwise_append.mpr ⟨u, List.pairwise_singleton _ _, fun a ha b hb => by
    rw [List.mem_singleton.mp hb]
    have := r a ha
    omega⟩
  have mem : ∀ r ∈ stepB rs item, (∃ w ∈ rs, r = growB f (baseB rs item) w) ∨ r = baseB rs item ++ [f] := fun r hr => by
    unfold stepB at hr
    rw [← ef] at hr
    rcases List.mem_append.mp hr with q | q
    · obtain ⟨w, hw, e⟩ := List.mem_map.mp q
      exact .inl ⟨w, hw, e.symm⟩
    · exact .inr (List.mem_singleton.mp q)
  have big : ((stepB rs item).length : Int) = f := by
    rw [stepB_len, ef]
    rfl
  refine ⟨fun r hr => ?_, fun r hr => ?_, fun r hr x hx => ?_, ?_⟩
  · rcases mem r hr with ⟨w, hw, rfl⟩ | rfl
    · unfold growB
      split
      · exact up1 (F.up w hw) fun x hx => (F.rng w hw x hx).2
      · exact F.up w hw
    · exact up1 B.up fun x hx => (B.rng x hx).2
  · rcases mem r hr with ⟨w, hw, rfl⟩ | rfl
    · have := F.two w hw
      unfold growB
      split
      · rw [List.length_append]
        omega
      · exact this
    · obtain ⟨h, t, e⟩ := B.ne
      rw [e, List.length_append, List.length_cons]
      show 2 ≤ t.length + 1 + 1
      omega
  · rw [big]
    have fin : ∀ {w : List Int}, (∀ x ∈ w, 0 ≤ x ∧ x ≤ (rs.length : Int)) → x ∈ w ++ [f] → 0 ≤ x ∧ x ≤ f := fun {w} r h => by
      rcases List.mem_append.mp h with q | q
      · have := r x q
        omega
      · rw [List.mem_singleton.mp q]
        omega
    rcases mem r hr with ⟨w, hw, rfl⟩ | rfl
    · unfold growB at hx
      split at hx
      · exact fin (F.rng w hw) hx
      · exact fin (F.rng w hw) (List.mem_append.mpr (.inl hx))
    · exact fin B.rng hx
  · unfold stepB
    rw [← ef]
    refine List.pairwise_append.mpr ⟨?_, List.pairwise_singleton _ _, fun a ha b hb => ?_⟩
    · rw [List.pairwise_map]
      refine F.nice.imp_of_mem fun {w1 w2} m1 m2 ⟨n, ne⟩ => ?_
      unfold growB
      cases i1 : inB (baseB rs item) w1 <;> cases i2 : inB (baseB rs item) w2
      · exact ⟨n, ne⟩
      · refine ⟨(nice_one B F m2 m1 i2 i1 (nf w1 m1)).symm, fun e => nf w1 m1 ?_⟩
        rw [if_neg Bool.false_ne_true, if_pos rfl] at e
        rw [e]
        exact List.mem_append.mpr (.inr List.mem_cons_self)
      · refine ⟨nice_one B F m1 m2 i1 i2 (nf w2 m2), fun e => nf w2 m2 ?_⟩
        rw [if_neg Bool.false_ne_true, if_pos rfl] at e
        rw [← e]
        exact List.mem_append.mpr (.inr List.mem_cons_self)
      · refine ⟨nice_both ((B.sub F m1 i1).1 _ B.head) ((B.sub F m2 i2).1 _ B.head) n, fun e => ne ?_⟩
        rw [if_pos rfl, if_pos rfl] at e
        exact List.append_cancel_right e
    · rw [List.mem_singleton.mp hb]
      obtain ⟨w, hw, e⟩ := List.mem_map.mp ha
      rw [← e]
      unfold growB
      cases i : inB (baseB rs item) w
      · rw [if_neg Bool.false_ne_true]
        refine ⟨?_, fun q => nf w hw ?_⟩
        · rcases B.out hw i with n | n
          · refine .inl fun z hz h => ?_
            rcases List.mem_append.mp h with q | q
            · exact n z q hz
            · rw [List.mem_singleton.mp q] at hz
              exact nf w hw hz
          · exact .inr (.inl fun z hz => List.mem_append.mpr (.inl (n z hz)))
        · rw [q]
          exact List.mem_append.mpr (.inr List.mem_cons_self)
      · rw [if_pos rfl]
        obtain ⟨s, l⟩ := B.sub F hw i
        refine ⟨.inr (.inr fun z hz => (List.mem_append.mp hz).elim (fun q => List.mem_append.mpr (.inl (s z q))) fun q => List.mem_append.mpr (.inr q)), fun q => ?_⟩
        have := congrArg List.length (List.append_cancel_right q)
        omega
theorem famB_ok {is : List Int} (h : Bnd is) : ∀ n, n ≤ is.length → Fam (famB is n)
  | 0, _ => ⟨(fun _ h => nomatch h), (fun _ h => nomatch h), (fun _ h => nomatch h), List.Pairwise.nil⟩
  | n + 1, hn => by
    have e : is[n]? = some is[n] := List.getElem?_eq_getElem hn
    have b := h n _ e
    have eg : is.getD n 0 = is[n] := by rw [List.getD_eq_getElem?_getD, e]; rfl
    have L := famB_len is n
    exact (famB_ok h n (Nat.le_of_succ_le hn)).step (by rw [L, eg]; exact b.1) (by rw [L, eg]; exact b.2)
/-! ### such a family, sorted, is a parting -/
theorem sorted_rows (rs : List (List Int)) : (rs.mergeSort fun p q => decide (p ≤ q)).Pairwise (· ≤ ·) := by
  have h := List.pairwise_mergeSort (le := fun p q : List Int => decide (p ≤ q)) (fun a b c h1 h2 => decide_eq_true (List.le_trans (of_decide_eq_true h1) (of_decide_eq_true h2)))
    (fun a b => by
      simp only [Bool.or_eq_true, decide_eq_true_eq]
      exact List.le_total a b) rs
  exact h.imp fun {a b} z => of_decide_eq_true z
theorem strict_rows {rs : List (List Int)} (h : rs.Pairwise (· ≤ ·)) (n : rs.Nodup) : rs.Pairwise (· < ·) :=
  (h.and n).imp fun {a b} z => (List.le_iff_lt_or_eq.mp z.1).resolve_right z.2
theorem ascR_of {rs : List (List Int)} (up : rs.Pairwise (· < ·)) : ascR rs = true := by
  unfold ascR
  refine List.all_eq_true.mpr fun i hi => ?_
  have il := List.mem_range.mp hi
  have l1 : i < rs.length := by omega
  have l2 : i + 1 < rs.length := by omega
  have e1 : rs.getD i [] = rs[i] := by rw [List.getD_eq_getElem?_getD, List.getElem?_eq_getElem l1]; rfl
  have e2 : rs.getD (i + 1) [] = rs[i + 1] := by rw [List.getD_eq_getElem?_getD, List.getElem?_eq_getElem l2]; rfl
  rw [e1, e2]
  exact decide_eq_true (List.pairwise_iff_getElem.mp up i (i + 1) l1 l2 (Nat.lt_succ_self i))
def sortB (rs : List (List Int)) : List (List Int) := rs.mergeSort fun p q => decide (p ≤ q)
theorem isP_fam {rs : List (List Int)} (F : Fam rs) (h : rs.length < 20) : isP (sortB rs) = true := by
  have perm : (sortB rs).Perm rs := List.mergeSort_perm _ _
  have len : (sortB rs).length = rs.length := perm.length_eq
  have mem : ∀ r ∈ sortB rs, r ∈ rs := fun r hr => perm.mem_iff.mp hr
  have nd : (sortB rs).Nodup := perm.nodup_iff.mpr (F.nice.imp fun {a b} z => z.2)
  unfold isP
  simp only [Bool.and_eq_true, decide_eq_true_eq, Bool.not_eq_true']
  refine ⟨⟨⟨by omega, List.all_eq_true.mpr fun i hi => ?_⟩, ascR_of (strict_rows (sorted_rows rs) nd)⟩, ?_⟩
  · have il := List.mem_range.mp hi
    have e : (sortB rs).getD i [] = (sortB rs)[i] := by rw [List.getD_eq_getElem?_getD, List.getElem?_eq_getElem il]; rfl
    have m := mem _ (List.getElem_mem il)
    rw [e]
    unfold group
    rw [plist_of (F.up _ m) fun x hx => ?_, Bool.true_and]
    · exact decide_eq_true (by have := F.two _ m; omega)
    · have := F.rng _ m x hx
      omega
  · unfold anyX
    refine List.any_eq_false.mpr fun k hk => ?_
    have kl := List.mem_range.mp hk
    obtain ⟨i, j, e⟩ : ∃ i j, (Comb.prs (sortB rs).length)[k] = (i, j) := ⟨_, _, rfl⟩
    have ek : (Comb.prs (sortB rs).length)[k]? = some (i, j) := by rw [List.getElem?_eq_getElem kl, e]
    obtain ⟨l1, l2, _⟩ := Comb.prs_step ek
    have ed : (Comb.prs (sortB rs).length).getD k (0, 0) = (i, j) := by rw [List.getD_eq_getElem?_getD, ek]; rfl
    have il : i < (sortB rs).length := by omega
    have e1 : (sortB rs).getD i [] = (sortB rs)[i] := by rw [List.getD_eq_getElem?_getD, List.getElem?_eq_getElem il]; rfl
    have e2 : (sortB rs).getD j [] = (sortB rs)[j] := by rw [List.getD_eq_getElem?_getD, List.getElem?_eq_getElem l2]; rfl
    rw [ed]
    show ¬ crossI (maskI ((sortB rs).getD i [])) (maskI ((sortB rs).getD j [])) = true
    rw [e1, e2]
    have m1 := mem _ (List.getElem_mem il)
    have m2 := mem _ (List.getElem_mem l2)
    rw [crossI_no (F.up _ m1) (F.up _ m2) (fun x hx => (F.rng _ m1 x hx).1) (fun x hx => (F.rng _ m2 x hx).1) (F.two_nice m1 m2)]
    exact Bool.false_ne_true
end K46

namespace K46
open PySem PySem.Spec PyProof.Rows L2 SortR LcM
/-! ### both parts of each group of a family that grows newcomer by newcomer -/
def Half (rs : List (List Int)) (x : List Int) : Prop := x ∈ rs ∨ ∃ p : Int, x = [p] ∧ 0 ≤ p ∧ p ≤ (rs.length : Int)
structure Cut2 (rs : List (List Int)) (g a b : List Int) : Prop where
  ha : Half rs a
  hb : Half rs b
  mem : ∀ z, z ∈ g ↔ z ∈ a ∨ z ∈ b
  dis : ∀ z ∈ a, z ∉ b
def Bin (rs : List (List Int)) : Prop := ∀ g ∈ rs, ∃ a b, Cut2 rs g a b
theorem Cut2.swap {rs : List (List Int)} {g a b : List Int} (c : Cut2 rs g a b) : Cut2 rs g b a := ⟨c.hb, c.ha, fun z => (c.mem z).trans or_comm, fun z p q => c.dis z q p⟩
theorem up_same : ∀ {xs ys : List Int}, xs.Pairwise (· < ·) → ys.Pairwise (· < ·) → (∀ z, z ∈ xs ↔ z ∈ ys) → xs = ys
  | [], [], _, _, _ => rfl
  | [], y :: ys, _, _, h => nomatch (h y).mpr List.mem_cons_self
  | x :: xs, [], _, _, h => nomatch (h x).mp List.mem_cons_self
  | x :: xs, y :: ys, a, b, h => by
    obtain ⟨a1, a2⟩ := List.pairwise_cons.mp a
    obtain ⟨b1, b2⟩ := List.pairwise_cons.mp b
    have e : x = y := by
      rcases List.mem_cons.mp ((h x).mp List.mem_cons_self) with e | m
      · exact e
      · rcases List.mem_cons.mp ((h y).mpr List.mem_cons_self) with e | m2
        · exact e.symm
        · have := a1 _ m2
          have := b1 _ m
          omega
    subst e
    rw [up_same a2 b2 fun z => ⟨fun m => ?_, fun m => ?_⟩]
    · rcases List.mem_cons.mp ((h z).mp (List.mem_cons_of_mem _ m)) with e | q
      · subst e
        have := a1 _ m
        omega
      · exact q
    · rcases List.mem_cons.mp ((h z).mpr (List.mem_cons_of_mem _ m)) with e | q
      · subst e
        have := b1 _ m
        omega
      · exact q
theorem Half.up {rs : List (List Int)} (u : ∀ r ∈ rs, r.Pairwise (· < ·)) {x : List Int} (h : Half rs x) : x.Pairwise (· < ·) := by
  rcases h with h | ⟨p, rfl, _⟩
  · exact u _ h
  · exact List.pairwise_singleton _ _
theorem Half.ne {rs : List (List Int)} (two : ∀ r ∈ rs, 2 ≤ r.length) {x : List Int} (h : Half rs x) : ∃ z, z ∈ x := by
  rcases h with h | ⟨p, rfl, _⟩
  · have := two _ h
    cases x with
    | nil => exact absurd this (by decide)
    | cons z _ => exact ⟨z, List.mem_cons_self⟩
  · exact ⟨p, List.mem_cons_self⟩
/-- what lies nicely by all groups lies nicely by one person too -/
theorem Half.nice {rs : List (List Int)} {b x : List Int} (n : ∀ w ∈ rs, Nice b w) (h : Half rs x) : Nice b x := by
  rcases h with h | ⟨p, rfl, _⟩
  · exact n _ h
  · by_cases m : p ∈ b
    · exact .inr (.inr fun z hz => by rw [List.mem_singleton.mp hz]; exact m)
    · exact .inl fun z hz q => m (by rw [← List.mem_singleton.mp q]; exact hz)
theorem Bin.step {rs : List (List Int)} (N : Bin rs) (F : Fam rs) {item : Int} (h0 : -(rs.length : Int) ≤ item) (h1 : item ≤ rs.length) : Bin (stepB rs item) := by
  have B := F.bas h0 h1
  obtain ⟨f, ef⟩ : ∃ f : Int, f = (rs.length : Int) + 1 := ⟨_, rfl⟩
  obtain ⟨b, eb⟩ : ∃ b : List Int, b = baseB rs item := ⟨_, rfl⟩
  have es : stepB rs item = rs.map (growB f b) ++ [b ++ [f]] := by
    unfold stepB
    rw [← ef, ← eb]
  have big : ((stepB rs item).length : Int) = f := by
    rw [stepB_len, ef]
    rfl
  have B0 : Bas rs b := by rw [eb]; exact B
  have old : ∀ {x : List Int}, Half rs x → inB b x = false → Half (stepB rs item) x := fun {x} h i => by
    rcases h with h | ⟨p, rfl, p0, p1⟩
    · refine .inl ?_
      rw [es]
      refine List.mem_append.mpr (.inl (List.mem_map.mpr ⟨x, h, ?_⟩))
      unfold growB
      rw [i, if_neg Bool.false_ne_true]
    · exact .inr ⟨p, rfl, p0, by rw [big, ef]; omega⟩
  have notin : ∀ {x : List Int}, Half rs x → f ∉ x := fun {x} h z => by
    rcases h with h | ⟨p, rfl, p0, p1⟩
    · have := (F.rng x h f z).2
      omega
    · rw [List.mem_singleton] at z
      omega
  have hf : Half (stepB rs item) [f] := .inr ⟨f, rfl, by omega, by rw [big]; exact Int.le_refl _⟩
  have new : b ++ [f] ∈ stepB rs item := by
    rw [es]
    exact List.mem_append.mpr (.inr List.mem_cons_self)
  have bb : inB b b = false := by
    unfold inB
    rw [decide_eq_false (Nat.lt_irrefl _), Bool.false_and]
  have hb : Half (stepB rs item) b := by
    refine old ?_ bb
    rw [eb]
    unfold baseB
    by_cases p : 0 ≤ item
    · rw [if_pos p]
      exact .inr ⟨item, rfl, p, h1⟩
    · rw [if_neg p]
      have lt : (0 - item - 1).toNat < rs.length := by omega
      refine .inl ?_
      rw [List.getD_eq_getElem?_getD, List.getElem?_eq_getElem lt]
      exact List.getElem_mem lt
  intro r hr
  rw [es] at hr
  rcases List.mem_append.mp hr with q | q
  · obtain ⟨w, hw, e⟩ := List.mem_map.mp q
    obtain ⟨x, y, c⟩ := N w hw
    have uw := F.up w hw
    have len : ∀ {x : List Int}, Half rs x → (∀ z ∈ x, z ∈ w) → x.length ≤ w.length := fun h s => len_sub (up_nodup (h.up F.up)) s
    unfold growB at e
    cases i : inB b w with
    | false =>
      rw [i, if_neg Bool.false_ne_true] at e
      subst e
      have out : ∀ {x : List Int}, Half rs x → (∀ z ∈ x, z ∈ w) → inB b x = false := fun {x} h s => by
        cases j : inB b x with
        | false => rfl
        | true =>
          unfold inB at i j
          simp only [Bool.and_eq_true, decide_eq_true_eq] at j
          rw [decide_eq_true (show b.length < w.length by have := len h s; omega), decide_eq_true (s _ j.2)] at i
          cases i
      exact ⟨x, y, old c.ha (out c.ha fun z hz => (c.mem z).mpr (.inl hz)), old c.hb (out c.hb fun z hz => (c.mem z).mpr (.inr hz)), c.mem, c.dis⟩
    | true =>
      rw [i, if_pos rfl] at e
      subst e
      obtain ⟨sub, lt⟩ := B0.sub F hw i
      have hm := sub _ B0.head
      -- the part x is that with the head of b
      have main : ∀ x y, Cut2 rs w x y → b.headD 0 ∈ x → ∃ a b', Cut2 (stepB rs item) (w ++ [f]) a b' := fun x y c hx => by
        have ny : inB b y = false := by
          unfold inB
          rw [decide_eq_false (c.dis _ hx), Bool.and_false]
        have hy := old c.hb ny
        have memf : ∀ {a : List Int}, (∀ z, z ∈ a ↔ z ∈ x) → ∀ z, z ∈ w ++ [f] ↔ z ∈ a ++ [f] ∨ z ∈ y := fun {a} ea z => by
          rw [List.mem_append, List.mem_append, c.mem, ea]
          exact ⟨fun h => h.elim (fun h => h.elim (fun q => .inl (.inl q)) .inr) fun q => .inl (.inr q), fun h => h.elim (fun h => h.elim (fun q => .inl (.inl q)) .inr) fun q => .inl (.inr q)⟩
        have disf : ∀ {a : List Int}, (∀ z, z ∈ a ↔ z ∈ x) → ∀ z ∈ a ++ [f], z ∉ y := fun {a} ea z hz hzy => by
          rcases List.mem_append.mp hz with q | q
          · exact c.dis z ((ea z).mp q) hzy
          · rw [List.mem_singleton.mp q] at hzy
            exact notin c.hb hzy
        cases ix : inB b x with
        | true =>
          refine ⟨x ++ [f], y, .inl ?_, hy, memf fun z => Iff.rfl, disf fun z => Iff.rfl⟩
          rcases c.ha with h | ⟨p, rfl, _⟩
          · rw [es]
            refine List.mem_append.mpr (.inl (List.mem_map.mpr ⟨x, h, ?_⟩))
            unfold growB
            rw [ix, if_pos rfl]
          · unfold inB at ix
            simp only [Bool.and_eq_true, decide_eq_true_eq] at ix
            obtain ⟨h, t, e⟩ := B0.ne
            have := ix.1
            rw [e, List.length_cons, List.length_singleton] at this
            omega
        | false =>
          have lx : x.length ≤ b.length := by
            apply Classical.byContradiction
            intro l
            unfold inB at ix
            rw [decide_eq_true (show b.length < x.length by omega), decide_eq_true hx] at ix
            cases ix
          have e : ∀ z, z ∈ b ↔ z ∈ x := by
            rcases c.ha.nice B0.nice with n | n | n
            · exact absurd hx (n _ B0.head)
            · exact fun z => ⟨n z, sub_back (up_nodup B0.up) n lx z⟩
            · refine fun z => ⟨fun hz => ?_, n z⟩
              rcases (c.mem z).mp (sub z hz) with q | q
              · exact q
              · rcases c.hb.nice B0.nice with m | m | m
                · exact absurd q (m _ hz)
                · exact absurd (m _ B0.head) (c.dis _ hx)
                · have : w.length ≤ b.length := len_sub (up_nodup uw) fun z hz => ((c.mem z).mp hz).elim (n z) (m z)
                  omega
          exact ⟨b ++ [f], y, .inl new, hy, memf e, disf e⟩
      rcases (c.mem _).mp hm with q | q
      · exact main x y c q
      · exact main y x c.swap q
  · rw [List.mem_singleton.mp q]
    exact ⟨b, [f], hb, hf, fun z => List.mem_append, fun z hz q => by
      rw [List.mem_singleton.mp q] at hz
      have := (B0.rng f hz).2
      omega⟩
theorem famB_bin {is : List Int} (h : Bnd is) : ∀ n, n ≤ is.length → Bin (famB is n)
  | 0, _ => fun _ h => nomatch h
  | n + 1, hn => by
    have e : is[n]? = some is[n] := List.getElem?_eq_getElem hn
    have b := h n _ e
    have eg : is.getD n 0 = is[n] := by rw [List.getD_eq_getElem?_getD, e]; rfl
    have L := famB_len is n
    exact (famB_bin h n (Nat.le_of_succ_le hn)).step (famB_ok h n (Nat.le_of_succ_le hn)) (by rw [L, eg]; exact b.1) (by rw [L, eg]; exact b.2)
/-! ### what both_parts makes of them -/
def firR (rs : List (List Int)) (g : List Int) : List Int := firstN rs g rs.length
theorem firR_eq {rs : List (List Int)} {g A : List Int} (two : ∀ r ∈ rs, 2 ≤ r.length) (hA : A = [g.getD 0 0] ∨ (A ∈ rs ∧ A.getD 0 0 = g.getD 0 0 ∧ A.length < g.length))
    (k : ∀ r ∈ rs, r.getD 0 0 = g.getD 0 0 → r.length < g.length → r.length ≤ A.length ∧ (r.length = A.length → r = A)) : firR rs g = A := by
  have inv : ∀ n, n ≤ rs.length → (firstN rs g n = [g.getD 0 0] ∨ (firstN rs g n ∈ rs ∧ (firstN rs g n).getD 0 0 = g.getD 0 0 ∧ (firstN rs g n).length < g.length)) ∧
      ∀ i, i < n → (rs.getD i []).getD 0 0 = g.getD 0 0 → (rs.getD i []).length < g.length → (rs.getD i []).length ≤ (firstN rs g n).length := by
    intro n
    induction n with
    | zero => exact fun _ => ⟨.inl rfl, fun i hi => absurd hi (Nat.not_lt_zero i)⟩
    | succ n ih =>
      intro hn
      obtain ⟨a, b⟩ := ih (by omega)
      have mem : rs.getD n [] ∈ rs := by
        rw [List.getD_eq_getElem?_getD, List.getElem?_eq_getElem (by omega : n < rs.length)]
        exact List.getElem_mem _
      have e : firstN rs g (n + 1) = if (rs.getD n []).getD 0 0 = g.getD 0 0 ∧ (firstN rs g n).length < (rs.getD n []).length ∧ (rs.getD n []).length < g.length then rs.getD n [] else firstN rs g n := rfl
      rw [e]
      split
      · rename_i c
        refine ⟨.inr ⟨mem, c.1, c.2.2⟩, fun i hi h1 h2 => ?_⟩
        by_cases q : i = n
        · rw [q]
          exact Nat.le_refl _
        · have := b i (by omega) h1 h2
          omega
      · rename_i c
        refine ⟨a, fun i hi h1 h2 => ?_⟩
        by_cases q : i = n
        · subst q
          rcases Nat.lt_or_ge (firstN rs g i).length (rs.getD i []).length with l | l
          · exact absurd ⟨h1, l, h2⟩ c
          · exact l
        · exact b i (by omega) h1 h2
  obtain ⟨a, b⟩ := inv rs.length (Nat.le_refl _)
  unfold firR
  rcases hA with hA | ⟨m, h1, h2⟩
  · rcases a with a | ⟨a1, a2, a3⟩
    · rw [a, hA]
    · have := (k _ a1 a2 a3).1
      have := two _ a1
      rw [hA] at *
      simp only [List.length_cons, List.length_nil] at *
      omega
  · obtain ⟨i, hi, ei⟩ := List.getElem_of_mem m
    have ei2 : rs.getD i [] = A := by
      rw [List.getD_eq_getElem?_getD, List.getElem?_eq_getElem hi]
      exact ei
    have q := b i hi (by rw [ei2]; exact h1) (by rw [ei2]; exact h2)
    rw [ei2] at q
    rcases a with a | ⟨a1, a2, a3⟩
    · rw [a] at q
      have := two A m
      simp only [List.length_cons, List.length_nil] at q
      omega
    · have z := k _ a1 a2 a3
      exact z.2 (by omega)
/-- all that the program needs of a parting's parts -/
def halfB (rs : List (List Int)) (x : List Int) : Bool := decide (x ∈ rs) || (decide (x.length = 1) && decide (0 ≤ x.getD 0 0) && decide (x.getD 0 0 ≤ (rs.length : Int)))
def partsB (rs : List (List Int)) (g : List Int) : Bool := halfB rs (firR rs g) && halfB rs (secR rs g) && decide ((firR rs g).length < g.length) && decide ((secR rs g).length < g.length)
def hvB (rs : List (List Int)) : Bool := rs.all (partsB rs)
theorem Half.b {rs : List (List Int)} {x : List Int} (h : Half rs x) : halfB rs x = true := by
  unfold halfB
  rcases h with h | ⟨p, rfl, p0, p1⟩
  · rw [decide_eq_true h, Bool.true_or]
  · rw [show decide (([p] : List Int).length = 1) = true from rfl, decide_eq_true (show 0 ≤ ([p] : List Int).getD 0 0 from p0), decide_eq_true (show ([p] : List Int).getD 0 0 ≤ (rs.length : Int) from p1)]
    exact Bool.or_true _
theorem Half.of {rs : List (List Int)} {x : List Int} (h : halfB rs x = true) : Half rs x := by
  unfold halfB at h
  simp only [Bool.or_eq_true, Bool.and_eq_true, decide_eq_true_eq] at h
  rcases h with h | ⟨⟨l, p0⟩, p1⟩
  · exact .inl h
  · match x, l with
    | [p], _ => exact .inr ⟨p, rfl, p0, p1⟩
theorem hd_mem {xs : List Int} {z : Int} (h : z ∈ xs) : xs.getD 0 0 ∈ xs := by
  cases xs with
  | nil => cases h
  | cons x xs => exact List.mem_cons_self
theorem hd_le {xs : List Int} (u : xs.Pairwise (· < ·)) {z : Int} (h : z ∈ xs) : xs.getD 0 0 ≤ z := by
  cases xs with
  | nil => cases h
  | cons x xs =>
    rcases List.mem_cons.mp h with e | e
    · rw [e]
      exact Int.le_refl _
    · exact Int.le_of_lt ((List.pairwise_cons.mp u).1 z e)
theorem bin_parts {rs : List (List Int)} (up : ∀ r ∈ rs, r.Pairwise (· < ·)) (two : ∀ r ∈ rs, 2 ≤ r.length) (nice : ∀ a ∈ rs, ∀ b ∈ rs, Nice a b) {g a b : List Int} (hg : g ∈ rs) (c : Cut2 rs g a b) (low : g.getD 0 0 ∈ a) : firR rs g = a ∧ secR rs g = b := by
  have ua := c.ha.up up
  have ub := c.hb.up up
  have ug := up g hg
  have ag : ∀ z ∈ a, z ∈ g := fun z hz => (c.mem z).mpr (.inl hz)
  have ha0 : a.getD 0 0 = g.getD 0 0 := by
    have h1 := hd_le ua low
    have h2 := hd_le ug (ag _ (hd_mem low))
    omega
  obtain ⟨zb, hzb⟩ := c.hb.ne two
  have lt : a.length < g.length := by
    have : (zb :: a).length ≤ g.length := len_sub (List.nodup_cons.mpr ⟨fun q => c.dis _ q hzb, up_nodup ua⟩) fun w hw => by
      rcases List.mem_cons.mp hw with e | e
      · rw [e]
        exact (c.mem _).mpr (.inr hzb)
      · exact ag _ e
    rw [List.length_cons] at this
    omega
  have e1 : firR rs g = a := by
    refine firR_eq two ?_ fun r hr h1 h2 => ?_
    · rcases c.ha with h | ⟨p, rfl, _⟩
      · exact .inr ⟨h, ha0, lt⟩
      · refine .inl ?_
        rw [← ha0]
        rfl
    · have ur := up r hr
      have rne : r.getD 0 0 ∈ r := by
        have := two r hr
        cases r with
        | nil => exact absurd this (by decide)
        | cons x _ => exact List.mem_cons_self
      have gr : g.getD 0 0 ∈ r := by
        rw [← h1]
        exact rne
      have small : ¬ ∀ z ∈ g, z ∈ r := fun z => by
        have := len_sub (up_nodup ug) z
        omega
      have rg : ∀ z ∈ r, z ∈ g := by
        rcases nice r hr g hg with q | q | q
        · exact absurd (ag _ low) (q _ gr)
        · exact q
        · exact absurd q small
      have ra : ∀ z ∈ r, z ∈ a := by
        rcases c.hb.nice (nice r hr) with q | q | q
        · exact fun z hz => ((c.mem z).mp (rg z hz)).resolve_right (q z hz)
        · exact absurd (q _ gr) (c.dis _ low)
        · rcases c.ha.nice (nice r hr) with p | p | p
          · exact absurd low (p _ gr)
          · exact p
          · exact absurd (fun z hz => ((c.mem z).mp hz).elim (p z) (q z)) small
      exact ⟨len_sub (up_nodup ur) ra, fun e => up_same ur ua fun z => ⟨ra z, sub_back (up_nodup ur) ra (by omega) z⟩⟩
  refine ⟨e1, ?_⟩
  show g.filter (fun x => decide (x ∉ firR rs g)) = _
  rw [e1]
  refine up_same (ug.filter _) ub fun z => ?_
  rw [List.mem_filter, decide_eq_true_eq, c.mem]
  exact ⟨fun h => h.1.resolve_left h.2, fun h => ⟨.inr h, fun q => c.dis z q h⟩⟩
theorem hv_of {rs : List (List Int)} (up : ∀ r ∈ rs, r.Pairwise (· < ·)) (two : ∀ r ∈ rs, 2 ≤ r.length) (nice : ∀ a ∈ rs, ∀ b ∈ rs, Nice a b) (N : Bin rs) : hvB rs = true := by
  refine List.all_eq_true.mpr fun g hg => ?_
  obtain ⟨a, b, c⟩ := N g hg
  have main : ∀ a b, Cut2 rs g a b → g.getD 0 0 ∈ a → partsB rs g = true := fun a b c low => by
    obtain ⟨e1, e2⟩ := bin_parts up two nice hg c low
    have ag : ∀ z ∈ a, z ∈ g := fun z hz => (c.mem z).mpr (.inl hz)
    have bg : ∀ z ∈ b, z ∈ g := fun z hz => (c.mem z).mpr (.inr hz)
    have lt : ∀ x y : List Int, Half rs x → Half rs y → (∀ z ∈ x, z ∈ g) → (∀ z ∈ y, z ∈ g) → (∀ z ∈ x, z ∉ y) → x.length < g.length := fun x y hx hy xg yg dis => by
      obtain ⟨zb, hzb⟩ := hy.ne two
      have : (zb :: x).length ≤ g.length := len_sub (List.nodup_cons.mpr ⟨fun q => dis _ q hzb, up_nodup (hx.up up)⟩) fun w hw => by
        rcases List.mem_cons.mp hw with e | e
        · rw [e]
          exact yg _ hzb
        · exact xg _ e
      rw [List.length_cons] at this
      omega
    unfold partsB
    rw [e1, e2, c.ha.b, c.hb.b, decide_eq_true (lt a b c.ha c.hb ag bg c.dis), decide_eq_true (lt b a c.hb c.ha bg ag fun z p q => c.dis z q p)]
    rfl
  have gne : g.getD 0 0 ∈ g := by
    have := two g hg
    cases g with
    | nil => exact absurd this (by decide)
    | cons x _ => exact List.mem_cons_self
  rcases (c.mem _).mp gne with q | q
  · exact main a b c q
  · exact main b a c.swap q
theorem hv_fam {rs : List (List Int)} (F : Fam rs) (N : Bin rs) : hvB (sortB rs) = true := by
  have perm : (sortB rs).Perm rs := List.mergeSort_perm _ _
  have len : (sortB rs).length = rs.length := perm.length_eq
  have mem : ∀ r, r ∈ sortB rs ↔ r ∈ rs := fun r => perm.mem_iff
  have half : ∀ {x}, Half rs x → Half (sortB rs) x := fun {x} h => by
    rcases h with h | ⟨p, e, p0, p1⟩
    · exact .inl ((mem _).mpr h)
    · exact .inr ⟨p, e, p0, by rw [len]; exact p1⟩
  refine hv_of (fun r hr => F.up r ((mem r).mp hr)) (fun r hr => F.two r ((mem r).mp hr)) (fun a ha b hb => F.two_nice ((mem a).mp ha) ((mem b).mp hb)) fun g hg => ?_
  obtain ⟨a, b, c⟩ := N g ((mem g).mp hg)
  exact ⟨a, b, half c.ha, half c.hb, c.mem, c.dis⟩
end K46

namespace K46
open PySem PySem.Spec PyProof.Rows L2 SortR LcM
/-! ### partings as families that fall apart, the number of persons told -/
def Hf (m : Nat) (Rs : List (List Int)) (x : List Int) : Prop := x ∈ Rs ∨ ∃ p : Int, x = [p] ∧ 0 ≤ p ∧ p ≤ (m : Int)
structure Lam (m : Nat) (Rs : List (List Int)) : Prop where
  up : ∀ r ∈ Rs, r.Pairwise (· < ·)
  two : ∀ r ∈ Rs, 2 ≤ r.length
  rng : ∀ r ∈ Rs, ∀ x ∈ r, 0 ≤ x ∧ x ≤ (m : Int)
  nice : ∀ a ∈ Rs, ∀ b ∈ Rs, Nice a b
  bin : ∀ g ∈ Rs, ∃ a b, Hf m Rs a ∧ Hf m Rs b ∧ (∀ z, z ∈ g ↔ z ∈ a ∨ z ∈ b) ∧ ∀ z, z ∈ a → z ∉ b
  com : 1 ≤ m → ∃ g ∈ Rs, ∀ z, z ∈ g ↔ 0 ≤ z ∧ z ≤ (m : Int)
theorem Hf.up {m : Nat} {Rs : List (List Int)} (L : Lam m Rs) {x : List Int} (h : Hf m Rs x) : x.Pairwise (· < ·) := by
  rcases h with h | ⟨p, rfl, _⟩
  · exact L.up x h
  · exact List.pairwise_singleton _ _
theorem Hf.ne {m : Nat} {Rs : List (List Int)} (L : Lam m Rs) {x : List Int} (h : Hf m Rs x) : ∃ h t, x = h :: t := by
  rcases h with h | ⟨p, rfl, _⟩
  · have := L.two x h
    cases x with
    | nil => exact absurd this (by decide)
    | cons a t => exact ⟨a, t, rfl⟩
  · exact ⟨p, [], rfl⟩
theorem Hf.rng {m : Nat} {Rs : List (List Int)} (L : Lam m Rs) {x : List Int} (h : Hf m Rs x) : ∀ z ∈ x, 0 ≤ z ∧ z ≤ (m : Int) := by
  rcases h with h | ⟨p, rfl, p0, p1⟩
  · exact L.rng x h
  · intro z hz
    rw [List.mem_singleton.mp hz]
    exact ⟨p0, p1⟩
theorem Hf.nice {m : Nat} {Rs : List (List Int)} (L : Lam m Rs) {x r : List Int} (h : Hf m Rs x) (hr : r ∈ Rs) : Nice x r := by
  rcases h with h | ⟨p, rfl, _⟩
  · exact L.nice x h r hr
  · by_cases z : p ∈ r
    · exact .inr (.inl fun y hy => by rw [List.mem_singleton.mp hy]; exact z)
    · exact .inl fun y hy => by rw [List.mem_singleton.mp hy]; exact z
/-! ### a person leaves, the others are called anew -/
def exK (k z : Int) : Int := if z < k then z else z + 1
def rnK (k x : Int) : Int := if x < k then x else x - 1
def ckR (k : Int) (r : List Int) : List Int := (r.filter fun x => decide (x ≠ k)).map (rnK k)
theorem ck_mem {k z : Int} {r : List Int} : z ∈ ckR k r ↔ exK k z ∈ r := by
  unfold ckR
  rw [List.mem_map]
  constructor
  · rintro ⟨x, hx, e⟩
    obtain ⟨hx, n⟩ := List.mem_filter.mp hx
    have n := of_decide_eq_true n
    have : exK k z = x := by
      rw [← e]
      unfold exK rnK
      by_cases c : x < k
      · rw [if_pos c, if_pos c]
      · rw [if_neg c, if_neg (show ¬ x - 1 < k by omega)]
        omega
    rw [this]
    exact hx
  · intro h
    refine ⟨exK k z, List.mem_filter.mpr ⟨h, decide_eq_true ?_⟩, ?_⟩
    · unfold exK
      split <;> omega
    · unfold exK rnK
      by_cases c : z < k
      · rw [if_pos c, if_pos c]
      · rw [if_neg c, if_neg (show ¬ z + 1 < k by omega)]
        omega
theorem ck_up {k : Int} {r : List Int} (u : r.Pairwise (· < ·)) : (ckR k r).Pairwise (· < ·) := by
  unfold ckR
  rw [List.pairwise_map]
  refine (u.filter _).imp_of_mem fun {a b} ha hb h => ?_
  have na := of_decide_eq_true (List.mem_filter.mp ha).2
  have nb := of_decide_eq_true (List.mem_filter.mp hb).2
  unfold rnK
  split <;> split <;> omega
theorem ck_nice {k : Int} {r s : List Int} (n : Nice r s) : Nice (ckR k r) (ckR k s) := by
  rcases n with n | n | n
  · exact .inl fun z hz h => n _ (ck_mem.mp hz) (ck_mem.mp h)
  · exact .inr (.inl fun z hz => ck_mem.mpr (n _ (ck_mem.mp hz)))
  · exact .inr (.inr fun z hz => ck_mem.mpr (n _ (ck_mem.mp hz)))
theorem len_two {x : List Int} {p q : Int} (hp : p ∈ x) (hq : q ∈ x) (n : p ≠ q) : 2 ≤ x.length := by
  have z := len_sub (xs := [p, q]) (ys := x) (by simp [n]) fun y hy => by
    simp only [List.mem_cons, List.not_mem_nil, or_false] at hy
    rcases hy with rfl | rfl
    · exact hp
    · exact hq
  exact z
theorem one_of {x : List Int} {h : Int} {t : List Int} (e : x = h :: t) (l : x.length < 2) : x = [h] := by
  rw [e, List.length_cons] at l
  have : t = [] := List.length_eq_zero_iff.mp (by omega)
  rw [e, this]
section
variable {m : Nat} {Rs Rs' : List (List Int)} {k : Int}
theorem Hf.cut (L : Lam m Rs) (h0 : 0 ≤ k) (h1 : k ≤ (m : Int)) (m1 : 1 ≤ m) (mem : ∀ r', r' ∈ Rs' ↔ 2 ≤ r'.length ∧ ∃ r ∈ Rs, r' = ckR k r) {x : List Int} (h : Hf m Rs x) {p : Int} (hp : p ∈ ckR k x) : Hf (m - 1) Rs' (ckR k x) := by
  rcases Nat.lt_or_ge (ckR k x).length 2 with l | l
  · have e : ∃ a t, ckR k x = a :: t := by
      cases z : ckR k x with
      | nil => rw [z] at hp; cases hp
      | cons a t => exact ⟨a, t, rfl⟩
    obtain ⟨a, t, e⟩ := e
    have o := one_of e l
    rw [o] at hp ⊢
    have ha : a ∈ ckR k x := by rw [o]; exact List.mem_cons_self
    have r := h.rng L _ (ck_mem.mp ha)
    refine .inr ⟨a, rfl, ?_⟩
    unfold exK at r
    split at r <;> omega
  · rcases h with h | ⟨q, rfl, _⟩
    · exact .inl ((mem _).mpr ⟨l, x, h, rfl⟩)
    · unfold ckR at l
      rw [List.length_map] at l
      have := List.length_filter_le (fun x => decide (x ≠ k)) [q]
      simp only [List.length_cons, List.length_nil] at this
      omega
theorem Lam.cut (L : Lam m Rs) (h0 : 0 ≤ k) (h1 : k ≤ (m : Int)) (m1 : 1 ≤ m) (mem : ∀ r', r' ∈ Rs' ↔ 2 ≤ r'.length ∧ ∃ r ∈ Rs, r' = ckR k r) : Lam (m - 1) Rs' := by
  have binK : ∀ n : Nat, ∀ g ∈ Rs, g.length ≤ n → 2 ≤ (ckR k g).length → ∃ a b, Hf (m - 1) Rs' a ∧ Hf (m - 1) Rs' b ∧ (∀ z, z ∈ ckR k g ↔ z ∈ a ∨ z ∈ b) ∧ ∀ z, z ∈ a → z ∉ b := by
    intro n
    induction n with
    | zero =>
      intro g hg l _
      have := L.two g hg
      omega
    | succ n ih =>
      intro g hg l l2
      obtain ⟨a, b, ha, hb, ab, dis⟩ := L.bin g hg
      have part : ∀ {x y : List Int}, Hf m Rs x → Hf m Rs y → (∀ z, z ∈ g ↔ z ∈ x ∨ z ∈ y) → (∀ z, z ∈ x → z ∉ y) → (∀ z, z ∉ ckR k y) → ∃ a b, Hf (m - 1) Rs' a ∧ Hf (m - 1) Rs' b ∧ (∀ z, z ∈ ckR k g ↔ z ∈ a ∨ z ∈ b) ∧ ∀ z, z ∈ a → z ∉ b := fun {x y} hx hy xy dis no => by
        have same : ckR k g = ckR k x := up_same (ck_up (L.up g hg)) (ck_up (hx.up L)) fun z => by
          rw [ck_mem, ck_mem, xy]
          exact ⟨fun h => h.resolve_right fun q => no z (ck_mem.mpr q), .inl⟩
        rw [same] at l2 ⊢
        rcases hx with hx | ⟨q, rfl, _⟩
        · obtain ⟨u, t, eu⟩ := hy.ne L
          have uy : u ∈ y := by rw [eu]; exact List.mem_cons_self
          have lt : x.length < g.length := by
            have q := len_sub (xs := u :: x) (ys := g) (List.nodup_cons.mpr ⟨fun z => dis u z uy, up_nodup (L.up x hx)⟩) fun z hz => by
              rcases List.mem_cons.mp hz with e | e
              · rw [e]
                exact (xy u).mpr (.inr uy)
              · exact (xy z).mpr (.inl e)
            rw [List.length_cons] at q
            omega
          exact ih x hx (by omega) l2
        · unfold ckR at l2
          rw [List.length_map] at l2
          have := List.length_filter_le (fun x => decide (x ≠ k)) [q]
          simp only [List.length_cons, List.length_nil] at this
          omega
      by_cases ea : ∃ z, z ∈ ckR k a
      · by_cases eb : ∃ z, z ∈ ckR k b
        · obtain ⟨p, hp⟩ := ea
          obtain ⟨q, hq⟩ := eb
          refine ⟨ckR k a, ckR k b, ha.cut L h0 h1 m1 mem hp, hb.cut L h0 h1 m1 mem hq, fun z => ?_, fun z h1 h2 => dis _ (ck_mem.mp h1) (ck_mem.mp h2)⟩
          rw [ck_mem, ck_mem, ck_mem, ab]
        · exact part ha hb ab dis fun z hz => eb ⟨z, hz⟩
      · exact part hb ha (fun z => (ab z).trans or_comm) (fun z h1 h2 => dis z h2 h1) fun z hz => ea ⟨z, hz⟩
  refine ⟨fun r hr => ?_, fun r hr => ((mem r).mp hr).1, fun r hr x hx => ?_, fun a ha b hb => ?_, fun g hg => ?_, fun m2 => ?_⟩
  · obtain ⟨_, s, hs, rfl⟩ := (mem r).mp hr
    exact ck_up (L.up s hs)
  · obtain ⟨_, s, hs, rfl⟩ := (mem r).mp hr
    have r := L.rng s hs _ (ck_mem.mp hx)
    unfold exK at r
    split at r <;> omega
  · obtain ⟨_, s, hs, rfl⟩ := (mem a).mp ha
    obtain ⟨_, t, ht, rfl⟩ := (mem b).mp hb
    exact ck_nice (L.nice s hs t ht)
  · obtain ⟨l, s, hs, rfl⟩ := (mem g).mp hg
    exact binK s.length s hs (Nat.le_refl _) l
  · obtain ⟨g, hg, all⟩ := L.com m1
    have hz : ∀ z : Int, z ∈ ckR k g ↔ 0 ≤ z ∧ z ≤ ((m - 1 : Nat) : Int) := fun z => by
      rw [ck_mem, all]
      unfold exK
      split <;> omega
    refine ⟨ckR k g, (mem _).mpr ⟨len_two (p := 0) (q := 1) ((hz 0).mpr (by omega)) ((hz 1).mpr (by omega)) (by decide), g, hg, rfl⟩, hz⟩
end
end K46

namespace K46
open PySem PySem.Spec PyProof.Rows L2 SortR LcM
/-! ### what comes newcomer by newcomer is such a family -/
theorem com_all {is : List Int} (b : Bnd is) : ∀ n, 1 ≤ n → n ≤ is.length → ∃ g ∈ famB is n, ∀ z, z ∈ g ↔ 0 ≤ z ∧ z ≤ (n : Int)
  | 0, h, _ => absurd h (by decide)
  | n + 1, _, hn => by
    have e : is[n]? = some is[n] := List.getElem?_eq_getElem hn
    have bd := b n _ e
    have eg : is.getD n 0 = is[n] := by rw [List.getD_eq_getElem?_getD, e]; rfl
    have L := famB_len is n
    have F := famB_ok b n (Nat.le_of_succ_le hn)
    obtain ⟨item, ei⟩ : ∃ item, item = is.getD n 0 := ⟨_, rfl⟩
    have B : Bas (famB is n) (baseB (famB is n) item) := F.bas (by rw [L, ei, eg]; exact bd.1) (by rw [L, ei, eg]; exact bd.2)
    show ∃ g ∈ stepB (famB is n) (is.getD n 0), _
    rw [← ei]
    unfold stepB
    obtain ⟨q, eq⟩ : ∃ q, q = baseB (famB is n) item := ⟨_, rfl⟩
    rw [← eq] at B ⊢
    rw [L]
    have whole : (∀ z, 0 ≤ z ∧ z ≤ (n : Int) → z ∈ q) → ∀ z, z ∈ q ++ [(n : Int) + 1] ↔ 0 ≤ z ∧ z ≤ ((n + 1 : Nat) : Int) := fun h z => by
      rw [List.mem_append, List.mem_singleton]
      constructor
      · rintro (m | m)
        · have r := B.rng z m
          rw [L] at r
          omega
        · omega
      · intro r
        rcases Int.lt_or_le z ((n : Int) + 1) with l | l
        · exact .inl (h z ⟨r.1, by omega⟩)
        · exact .inr (by omega)
    rcases Nat.eq_zero_or_pos n with z | pos
    · refine ⟨q ++ [(n : Int) + 1], List.mem_append.mpr (.inr List.mem_cons_self), whole fun y hy => ?_⟩
      obtain ⟨h, t, eh⟩ := B.ne
      have m : h ∈ q := by rw [eh]; exact List.mem_cons_self
      have r := B.rng h m
      rw [L] at r
      have : y = h := by omega
      rw [this]
      exact m
    · obtain ⟨G, hG, all⟩ := com_all b n pos (Nat.le_of_succ_le hn)
      have sub : ∀ z ∈ q, z ∈ G := fun z hz => by
        have r := B.rng z hz
        rw [L] at r
        exact (all z).mpr r
      rcases Nat.lt_or_ge q.length G.length with l | l
      · refine ⟨G ++ [(n : Int) + 1], List.mem_append.mpr (.inl (List.mem_map.mpr ⟨G, hG, ?_⟩)), fun z => ?_⟩
        · unfold growB inB
          rw [decide_eq_true l, decide_eq_true (sub _ B.head)]
          rfl
        · rw [List.mem_append, List.mem_singleton, all]
          omega
      · exact ⟨q ++ [(n : Int) + 1], List.mem_append.mpr (.inr List.mem_cons_self), whole fun z hz => sub_back (up_nodup B.up) sub l z ((all z).mpr hz)⟩
theorem lam_fam {is : List Int} (b : Bnd is) {n : Nat} (hn : n ≤ is.length) : Lam n (famB is n) := by
  have F := famB_ok b n hn
  have L := famB_len is n
  refine ⟨F.up, F.two, fun r hr x hx => ?_, fun x hx y hy => F.two_nice hx hy, fun g hg => ?_, fun h1 => com_all b n h1 hn⟩
  · have := F.rng r hr x hx
    rw [L] at this
    exact this
  · obtain ⟨x, y, c⟩ := famB_bin b n hn g hg
    have h : ∀ {z : List Int}, Half (famB is n) z → Hf n (famB is n) z := fun {z} h => by
      unfold Half at h
      rw [L] at h
      exact h
    exact ⟨x, y, h c.ha, h c.hb, c.mem, fun z hz => c.dis z hz⟩
theorem hd_is {x : List Int} {h : Int} {t : List Int} (e : x = h :: t) : x.headD 0 = h := by rw [e]; rfl
/-- the last person is beside something -/
theorem Lam.last {m : Nat} {Rs R0 : List (List Int)} (L : Lam m Rs) (m1 : 1 ≤ m) (mem : ∀ r', r' ∈ R0 ↔ 2 ≤ r'.length ∧ ∃ r ∈ Rs, r' = ckR (m : Int) r) :
    ∃ s, Hf (m - 1) R0 s ∧ ∀ r, r ∈ Rs ↔ r = s ++ [(m : Int)] ∨ ∃ w ∈ R0, r = growB (m : Int) s w := by
  -- the least group with the last person
  have least : ∀ n : Nat, ∀ g ∈ Rs, (m : Int) ∈ g → g.length ≤ n → ∃ g0 ∈ Rs, (m : Int) ∈ g0 ∧ ∀ r ∈ Rs, (m : Int) ∈ r → g0.length ≤ r.length := by
    intro n
    induction n with
    | zero =>
      intro g hg _ l
      have := L.two g hg
      omega
    | succ n ih =>
      intro g hg hm l
      by_cases c : ∃ r ∈ Rs, (m : Int) ∈ r ∧ r.length < g.length
      · obtain ⟨r, hr, rm, rl⟩ := c
        exact ih r hr rm (by omega)
      · refine ⟨g, hg, hm, fun r hr rm => ?_⟩
        rcases Nat.lt_or_ge r.length g.length with z | z
        · exact absurd ⟨r, hr, rm, z⟩ c
        · exact z
  obtain ⟨G, hG, all⟩ := L.com m1
  obtain ⟨g0, hg0, mg, low⟩ := least G.length G hG ((all _).mpr (by omega)) (Nat.le_refl _)
  have ug := L.up g0 hg0
  obtain ⟨s, hs, sg, ns⟩ : ∃ s, Hf m Rs s ∧ (∀ z, z ∈ g0 ↔ z ∈ s ∨ z = (m : Int)) ∧ (m : Int) ∉ s := by
    obtain ⟨a, b, ha, hb, ab, dis⟩ := L.bin g0 hg0
    have pick : ∀ {a b : List Int}, Hf m Rs a → Hf m Rs b → (∀ z, z ∈ g0 ↔ z ∈ a ∨ z ∈ b) → (∀ z, z ∈ a → z ∉ b) → (m : Int) ∈ a → ∃ s, Hf m Rs s ∧ (∀ z, z ∈ g0 ↔ z ∈ s ∨ z = (m : Int)) ∧ (m : Int) ∉ s := fun {a b} ha hb ab dis ma => by
      rcases ha with ha | ⟨p, rfl, _⟩
      · exfalso
        obtain ⟨u, t, eu⟩ := hb.ne L
        have ub : u ∈ b := by rw [eu]; exact List.mem_cons_self
        have q := len_sub (xs := u :: a) (ys := g0) (List.nodup_cons.mpr ⟨fun z => dis u z ub, up_nodup (L.up a ha)⟩) fun z hz => by
          rcases List.mem_cons.mp hz with e | e
          · rw [e]
            exact (ab u).mpr (.inr ub)
          · exact (ab z).mpr (.inl e)
        rw [List.length_cons] at q
        have := low a ha ma
        omega
      · have pm := List.mem_singleton.mp ma
        refine ⟨b, hb, fun z => ?_, dis _ ma⟩
        rw [ab, List.mem_singleton, ← pm]
        exact or_comm
    rcases (ab _).mp mg with z | z
    · exact pick ha hb ab dis z
    · exact pick hb ha (fun z => (ab z).trans or_comm) (fun z h1 h2 => dis z h2 h1) z
  have us := hs.up L
  obtain ⟨hd, tl, esd⟩ := hs.ne L
  have hds : hd ∈ s := by rw [esd]; exact List.mem_cons_self
  have below : ∀ {r : List Int}, r ∈ Rs → ∀ z ∈ r, z ≠ (m : Int) → z < (m : Int) := fun {r} hr z hz n => by
    have := (L.rng r hr z hz).2
    omega
  have lastS : (s ++ [(m : Int)]).Pairwise (· < ·) := List.pairwise_append.mpr ⟨us, List.pairwise_singleton _ _, fun x hx y hy => by
    rw [List.mem_singleton.mp hy]
    have := (hs.rng L x hx).2
    have : x ≠ (m : Int) := fun z => ns (by rw [← z]; exact hx)
    omega⟩
  have g0s : g0 = s ++ [(m : Int)] := up_same ug lastS fun z => by
    rw [sg, List.mem_append, List.mem_singleton]
  have g0l : g0.length = s.length + 1 := by rw [g0s, List.length_append]; rfl
  have ck : ∀ {r : List Int}, (∀ z ∈ r, z ≤ (m : Int)) → ∀ z, z ∈ ckR (m : Int) r ↔ z ∈ r ∧ z ≠ (m : Int) := fun {r} hr z => by
    rw [ck_mem]
    unfold exK
    by_cases c : z < (m : Int)
    · rw [if_pos c]
      exact ⟨fun h => ⟨h, by omega⟩, fun h => h.1⟩
    · rw [if_neg c]
      constructor
      · intro h
        have := hr _ h
        omega
      · intro h
        have := hr z h.1
        omega
  have lim : ∀ {r : List Int}, r ∈ Rs → ∀ z ∈ r, z ≤ (m : Int) := fun {r} hr z hz => (L.rng r hr z hz).2
  have stay : ∀ {r : List Int}, r ∈ Rs → (m : Int) ∉ r → ckR (m : Int) r = r := fun {r} hr n => up_same (ck_up (L.up r hr)) (L.up r hr) fun z => by
    rw [ck (lim hr)]
    exact ⟨fun h => h.1, fun h => ⟨h, fun e => n (by rw [← e]; exact h)⟩⟩
  have fwd : ∀ {r : List Int}, r ∈ Rs → r = g0 ∨ (ckR (m : Int) r ∈ R0 ∧ r = growB (m : Int) s (ckR (m : Int) r)) := fun {r} hr => by
    by_cases mr : (m : Int) ∈ r
    · rcases L.nice r hr g0 hg0 with n | n | n
      · exact absurd mg (n _ mr)
      · refine .inl (up_same (L.up r hr) ug fun z => ⟨n z, sub_back (up_nodup (L.up r hr)) n (low r hr mr) z⟩)
      · rcases Nat.lt_or_ge g0.length r.length with l | l
        · have w := ck (lim hr)
          have el : r.length = (ckR (m : Int) r).length + 1 := by
            have e : r = ckR (m : Int) r ++ [(m : Int)] := by
              refine up_same (L.up r hr) (List.pairwise_append.mpr ⟨ck_up (L.up r hr), List.pairwise_singleton _ _, fun x hx y hy => ?_⟩) fun z => ?_
              · rw [List.mem_singleton.mp hy]
                have q := (w x).mp hx
                exact below hr x q.1 q.2
              · rw [List.mem_append, w, List.mem_singleton]
                constructor
                · intro h
                  by_cases c : z = (m : Int)
                  · exact .inr c
                  · exact .inl ⟨h, c⟩
                · rintro (h | h)
                  · exact h.1
                  · rw [h]
                    exact mr
            have := congrArg List.length e
            rw [List.length_append] at this
            exact this
          have g2 := L.two g0 hg0
          refine .inr ⟨(mem _).mpr ⟨by omega, r, hr, rfl⟩, ?_⟩
          unfold growB inB
          have hin : s.headD 0 ∈ ckR (m : Int) r := by
            rw [hd_is esd]
            exact (w hd).mpr ⟨n _ ((sg hd).mpr (.inl hds)), fun e => ns (by rw [← e]; exact hds)⟩
          rw [decide_eq_true (show s.length < (ckR (m : Int) r).length by omega), decide_eq_true hin]
          show r = ckR (m : Int) r ++ [(m : Int)]
          refine up_same (L.up r hr) (List.pairwise_append.mpr ⟨ck_up (L.up r hr), List.pairwise_singleton _ _, fun x hx y hy => ?_⟩) fun z => ?_
          · rw [List.mem_singleton.mp hy]
            have q := (w x).mp hx
            exact below hr x q.1 q.2
          · rw [List.mem_append, w, List.mem_singleton]
            constructor
            · intro h
              by_cases c : z = (m : Int)
              · exact .inr c
              · exact .inl ⟨h, c⟩
            · rintro (h | h)
              · exact h.1
              · rw [h]
                exact mr
        · exact .inl (up_same (L.up r hr) ug fun z => ⟨sub_back (up_nodup ug) n l z, n z⟩)
    · have e := stay hr mr
      rw [e]
      refine .inr ⟨(mem _).mpr ⟨L.two r hr, r, hr, e.symm⟩, ?_⟩
      have no : inB s r = false := by
        unfold inB
        by_cases c1 : s.length < r.length
        · by_cases c2 : s.headD 0 ∈ r
          · exfalso
            rw [hd_is esd] at c2
            rcases L.nice r hr g0 hg0 with n | n | n
            · exact n _ c2 ((sg hd).mpr (.inl hds))
            · have q := len_sub (up_nodup (L.up r hr)) (ys := s) fun z hz => ((sg z).mp (n z hz)).resolve_right fun e => mr (by rw [← e]; exact hz)
              omega
            · exact mr (n _ mg)
          · rw [decide_eq_false c2, Bool.and_false]
        · rw [decide_eq_false c1, Bool.false_and]
      unfold growB
      rw [no]
      rfl
  have sIn : 2 ≤ s.length → s ∈ Rs := fun l => by
    rcases hs with h | ⟨p, rfl, _⟩
    · exact h
    · exact absurd l (by show ¬ 2 ≤ 1; decide)
  refine ⟨s, ?_, fun r => ⟨fun hr => ?_, fun h => ?_⟩⟩
  · rcases hs with h | ⟨p, rfl, p0, p1⟩
    · exact .inl ((mem _).mpr ⟨L.two s h, s, h, (stay h ns).symm⟩)
    · refine .inr ⟨p, rfl, p0, ?_⟩
      have : p ≠ (m : Int) := fun z => ns (by rw [z]; exact List.mem_cons_self)
      omega
  · rcases fwd hr with h | ⟨h1, h2⟩
    · exact .inl (h.trans g0s)
    · exact .inr ⟨_, h1, h2⟩
  · rcases h with h | ⟨w, hw, h⟩
    · rw [h, ← g0s]
      exact hg0
    · obtain ⟨wl, r0, hr0, ew⟩ := (mem w).mp hw
      rcases fwd hr0 with e | ⟨_, e⟩
      · have ws : w = s := by
          rw [ew, e]
          refine up_same (ck_up ug) us fun z => ?_
          rw [ck (lim hg0), sg]
          constructor
          · rintro ⟨h1 | h1, h2⟩
            · exact h1
            · exact absurd h1 h2
          · exact fun h1 => ⟨.inl h1, fun z => ns (by rw [← z]; exact h1)⟩
        rw [h, ws]
        have no : inB s s = false := by
          unfold inB
          rw [decide_eq_false (Nat.lt_irrefl _), Bool.false_and]
        unfold growB
        rw [no]
        exact sIn (by rw [← ws]; exact wl)
      · rw [h, ew, ← e]
        exact hr0
/-- only the first items count -/
theorem famB_take {is js : List Int} : ∀ n, (∀ j, j < n → is.getD j 0 = js.getD j 0) → famB is n = famB js n
  | 0, _ => rfl
  | n + 1, h => by
    show stepB (famB is n) (is.getD n 0) = stepB (famB js n) (js.getD n 0)
    rw [famB_take n fun j hj => h j (Nat.lt_succ_of_lt hj), h n (Nat.lt_succ_self n)]
/-- such a family comes newcomer by newcomer -/
theorem Lam.is : ∀ {m : Nat} {Rs : List (List Int)}, Lam m Rs → ∃ is : List Int, is.length = m ∧ Bnd is ∧ ∀ r, r ∈ Rs ↔ r ∈ famB is m
  | 0, Rs, L => by
    refine ⟨[], rfl, (fun j x e => by rw [List.getElem?_nil] at e; cases e), fun r => ⟨fun hr => ?_, fun h => nomatch h⟩⟩
    have l := L.two r hr
    have q := len_sub (up_nodup (L.up r hr)) (ys := [0]) fun z hz => by
      have := L.rng r hr z hz
      rw [List.mem_singleton]
      omega
    exact absurd (Nat.le_trans l q) (by decide)
  | m + 1, Rs, L => by
    obtain ⟨R0, e0⟩ : ∃ R0, R0 = (Rs.map (ckR ((m + 1 : Nat) : Int))).filter fun r => decide (2 ≤ r.length) := ⟨_, rfl⟩
    have mem : ∀ r', r' ∈ R0 ↔ 2 ≤ r'.length ∧ ∃ r ∈ Rs, r' = ckR ((m + 1 : Nat) : Int) r := fun r' => by
      rw [e0, List.mem_filter, decide_eq_true_eq, List.mem_map]
      constructor
      · rintro ⟨⟨r, hr, e⟩, l⟩
        exact ⟨l, r, hr, e.symm⟩
      · rintro ⟨l, r, hr, e⟩
        exact ⟨⟨r, hr, e.symm⟩, l⟩
    have L0 : Lam m R0 := L.cut (k := ((m + 1 : Nat) : Int)) (by omega) (Int.le_refl _) (by omega) mem
    obtain ⟨is, il, ib, im⟩ := L0.is
    obtain ⟨s, hs, rows⟩ := L.last (by omega) mem
    have fl := famB_len is m
    obtain ⟨item, i0, i1, eb⟩ : ∃ item : Int, -(m : Int) ≤ item ∧ item ≤ (m : Int) ∧ baseB (famB is m) item = s := by
      rcases hs with h | ⟨p, rfl, p0, p1⟩
      · obtain ⟨j, hj, ej⟩ := List.getElem_of_mem ((im s).mp h)
        rw [fl] at hj
        refine ⟨-(j : Int) - 1, by omega, by omega, ?_⟩
        unfold baseB
        rw [if_neg (by omega), show (0 - (-(j : Int) - 1) - 1).toNat = j by omega, List.getD_eq_getElem?_getD, List.getElem?_eq_getElem (by rw [fl]; exact hj)]
        exact ej
      · refine ⟨p, by omega, by omega, ?_⟩
        unfold baseB
        rw [if_pos p0]
    have same : famB (is ++ [item]) m = famB is m := famB_take m fun j hj => by
      rw [List.getD_eq_getElem?_getD, List.getD_eq_getElem?_getD, List.getElem?_append_left (by omega)]
    have at_m : (is ++ [item]).getD m 0 = item := by
      rw [List.getD_eq_getElem?_getD, List.getElem?_append_right (by omega), il, Nat.sub_self]
      rfl
    refine ⟨is ++ [item], by rw [List.length_append, il]; rfl, ib.add (by rw [il]; exact i0) (by rw [il]; exact i1), fun r => ?_⟩
    show _ ↔ r ∈ stepB (famB (is ++ [item]) m) ((is ++ [item]).getD m 0)
    rw [same, at_m]
    unfold stepB
    rw [eb, fl, List.mem_append, List.mem_map, List.mem_singleton, rows, show ((m + 1 : Nat) : Int) = (m : Int) + 1 from rfl]
    constructor
    · rintro (h | ⟨w, hw, h⟩)
      · exact .inr h
      · exact .inl ⟨w, (im w).mp hw, h.symm⟩
    · rintro (⟨w, hw, h⟩ | h)
      · exact .inr ⟨w, (im w).mpr hw, h.symm⟩
      · exact .inl h
end K46

namespace K46
open PySem PySem.Spec PyProof.Rows L2 SortR LcM
/-! ### the maker of a group is the least person of the part without the least one -/
def PF (rs : List (List Int)) (g A : List Int) : Prop := (A = [g.getD 0 0] ∨ (A ∈ rs ∧ A.getD 0 0 = g.getD 0 0 ∧ A.length < g.length)) ∧ ∀ r ∈ rs, r.getD 0 0 = g.getD 0 0 → r.length < g.length → r.length ≤ A.length
def MkR (rs : List (List Int)) (g : List Int) (q : Int) : Prop := ∃ A, PF rs g A ∧ (g.filter fun x => decide (x ∉ A)).head? = some q
theorem gd_mem {x : List Int} (h : 1 ≤ x.length) : x.getD 0 0 ∈ x := by
  cases x with
  | nil => exact absurd h (by decide)
  | cons z _ => exact List.mem_cons_self
theorem gd_hd (x : List Int) : x.getD 0 0 = x.headD 0 := by cases x <;> rfl
theorem gd_app {x : List Int} {f : Int} (h : 1 ≤ x.length) : (x ++ [f]).getD 0 0 = x.getD 0 0 := by
  cases x with
  | nil => exact absurd h (by decide)
  | cons z _ => rfl
theorem gd_grow {f : Int} {b w : List Int} (h : 1 ≤ w.length) : (growB f b w).getD 0 0 = w.getD 0 0 := by
  unfold growB
  split
  · exact gd_app h
  · rfl
section
variable {rs : List (List Int)} {b : List Int} {item : Int}
/-- two groups that begin alike -/
theorem Fam.alike (F : Fam rs) {r w : List Int} (hr : r ∈ rs) (hw : w ∈ rs) (e : r.getD 0 0 = w.getD 0 0) (l : r.length ≤ w.length) : ∀ z ∈ r, z ∈ w := by
  have r2 := F.two r hr
  have w2 := F.two w hw
  rcases F.two_nice hr hw with n | n | n
  · exact absurd (by rw [e]; exact gd_mem (by omega)) (n _ (gd_mem (x := r) (by omega)))
  · exact n
  · exact sub_back (up_nodup (F.up w hw)) n l
theorem Fam.alike_eq (F : Fam rs) {r w : List Int} (hr : r ∈ rs) (hw : w ∈ rs) (e : r.getD 0 0 = w.getD 0 0) (l : r.length = w.length) : r = w :=
  up_same (F.up r hr) (F.up w hw) fun z => ⟨F.alike hr hw e (by omega) z, F.alike hw hr e.symm (by omega) z⟩
theorem mk_step (F : Fam rs) (B : Bas rs b) (hf : b ∈ rs ∨ ∃ p, b = [p]) (eb : baseB rs item = b) {w : List Int} (hw : w ∈ rs) {q : Int} (h : MkR rs w q) : MkR (stepB rs item) (growB ((rs.length : Int) + 1) b w) q := by
  obtain ⟨A, ⟨hA, mx⟩, hd⟩ := h
  obtain ⟨f, ef⟩ : ∃ f : Int, f = (rs.length : Int) + 1 := ⟨_, rfl⟩
  have w2 := F.two w hw
  have nf : ∀ r ∈ rs, f ∉ r := fun r hr z => by
    have := (F.rng r hr f z).2
    omega
  have mem : ∀ {r' : List Int}, r' ∈ stepB rs item ↔ (∃ r ∈ rs, r' = growB f b r) ∨ r' = b ++ [f] := fun {r'} => by
    unfold stepB
    rw [eb, ← ef, List.mem_append, List.mem_map, List.mem_singleton]
    exact or_congr ⟨fun ⟨r, a, c⟩ => ⟨r, a, c.symm⟩, fun ⟨r, a, c⟩ => ⟨r, a, c.symm⟩⟩ Iff.rfl
  obtain ⟨b0, bt, eb0⟩ := B.ne
  have hb0 : b.headD 0 = b0 := hd_is eb0
  have bh : b0 ∈ b := by rw [eb0]; exact List.mem_cons_self
  have bgd : b.getD 0 0 = b0 := by rw [gd_hd]; exact hb0
  have bl : 1 ≤ b.length := by rw [eb0, List.length_cons]; omega
  have wg : w.getD 0 0 ∈ w := gd_mem (by omega)
  have inT : ∀ {r : List Int}, b.length < r.length → b0 ∈ r → inB b r = true := fun {r} l m => by
    unfold inB
    rw [decide_eq_true l, hb0, decide_eq_true m]
    rfl
  have inF : ∀ {r : List Int}, inB b r = true → b.length < r.length ∧ b0 ∈ r := fun {r} i => by
    unfold inB at i
    rw [Bool.and_eq_true, decide_eq_true_eq, decide_eq_true_eq, hb0] at i
    exact i
  have grT : ∀ {r : List Int}, inB b r = true → growB f b r = r ++ [f] := fun {r} i => by
    unfold growB
    rw [i]
    rfl
  have grF : ∀ {r : List Int}, ¬ inB b r = true → growB f b r = r := fun {r} i => by
    unfold growB
    rw [if_neg i]
  have A1 : 1 ≤ A.length := by
    rcases hA with e | ⟨m, _⟩
    · rw [e]
      exact Nat.le_refl 1
    · have := F.two A m
      omega
  have Aw : ∀ z ∈ A, z ∈ w := by
    rcases hA with e | ⟨m, e, l⟩
    · intro z hz
      rw [e] at hz
      rw [List.mem_singleton.mp hz]
      exact wg
    · exact F.alike m hw e (by omega)
  have Agd : A.getD 0 0 = w.getD 0 0 := by
    rcases hA with e | ⟨_, e, _⟩
    · rw [e]
      rfl
    · exact e
  have lw : A.length < w.length := by
    rcases hA with e | ⟨_, _, l⟩
    · rw [e]
      show 1 < w.length
      omega
    · exact l
  rw [← ef]
  by_cases iw : inB b w = true
  · obtain ⟨i1, i2⟩ := inF iw
    rw [grT iw]
    have wgd : (w ++ [f]).getD 0 0 = w.getD 0 0 := gd_app (by omega)
    have wl : (w ++ [f]).length = w.length + 1 := by rw [List.length_append]; rfl
    have bw : ∀ z ∈ b, z ∈ w := (B.sub F hw iw).1
    -- the candidates of old
    have old : ∀ r ∈ rs, r.getD 0 0 = w.getD 0 0 → (growB f b r).length < w.length + 1 → ¬ inB b r = true → r.length ≤ A.length := fun r hr e l ni => by
      rw [grF ni] at l
      rcases Nat.lt_or_ge r.length w.length with z | z
      · exact mx r hr e z
      · exact absurd (by rw [F.alike_eq hr hw e (by omega)]; exact iw) ni
    have oldT : ∀ r ∈ rs, r.getD 0 0 = w.getD 0 0 → (growB f b r).length < w.length + 1 → inB b r = true → r.length ≤ A.length := fun r hr e l ni => by
      rw [grT ni, List.length_append] at l
      exact mx r hr e (by simp only [List.length_cons, List.length_nil] at l; omega)
    have secA : ((w ++ [f]).filter fun x => decide (x ∉ A ++ [f])) = w.filter fun x => decide (x ∉ A) := by
      rw [List.filter_append]
      have e1 : [f].filter (fun x => decide (x ∉ A ++ [f])) = [] := by
        rw [List.filter_eq_nil_iff]
        intro x hx
        rw [List.mem_singleton.mp hx, decide_eq_true_eq]
        exact fun z => z (List.mem_append.mpr (.inr List.mem_cons_self))
      rw [e1, List.append_nil]
      refine List.filter_congr fun x hx => decide_eq_decide.mpr ⟨fun h z => h (List.mem_append.mpr (.inl z)), fun h z => ?_⟩
      rcases List.mem_append.mp z with y | y
      · exact h y
      · rw [List.mem_singleton.mp y] at hx
        exact nf w hw hx
    by_cases bA : b0 ∈ A
    · rcases Nat.lt_or_ge b.length A.length with l | l
      · have AR : A ∈ rs := by
          rcases hA with e | ⟨m, _⟩
          · rw [e] at l
            exact absurd l (by show ¬ b.length < 1; omega)
          · exact m
        refine ⟨A ++ [f], ⟨.inr ⟨mem.mpr (.inl ⟨A, AR, (grT (inT l bA)).symm⟩), by rw [wgd, gd_app A1, Agd], by rw [wl, List.length_append]; show A.length + 1 < _; omega⟩, fun r' hr' e l' => ?_⟩, by rw [secA]; exact hd⟩
        rw [wgd] at e
        rw [wl] at l'
        rw [List.length_append]
        show r'.length ≤ A.length + 1
        rcases mem.mp hr' with ⟨r, hr, rfl⟩ | rfl
        · have r2 := F.two r hr
          rw [gd_grow (by omega)] at e
          by_cases i : inB b r = true
          · have := oldT r hr e l' i
            rw [grT i, List.length_append]
            show r.length + 1 ≤ _
            omega
          · have := old r hr e l' i
            rw [grF i]
            omega
        · rw [List.length_append]
          show b.length + 1 ≤ _
          omega
      · have bA2 : b = A := by
          have cand : b ∈ rs → b.getD 0 0 = w.getD 0 0 → b.length ≤ A.length := fun m e => mx b m e i1
          rcases hA with e | ⟨m, e, _⟩
          · rw [e] at bA l
            have z := List.mem_singleton.mp bA
            rcases hf with m | ⟨p, rfl⟩
            · have := cand m (by rw [bgd]; exact z)
              have := F.two b m
              have : A.length = 1 := by rw [e]; rfl
              omega
            · rw [e]
              have : p = b0 := (List.cons.inj eb0).1
              rw [this, z]
          · have A2 := F.two A m
            have hbR : b ∈ rs := by
              rcases hf with q | ⟨p, rfl⟩
              · exact q
              · exact absurd l (by show ¬ A.length ≤ 1; omega)
            have bal : ∀ z ∈ A, z ∈ b := by
              rcases F.two_nice m hbR with n | n | n
              · exact absurd bh (n _ bA)
              · exact n
              · exact sub_back (up_nodup (F.up b hbR)) n l
            have wb : w.getD 0 0 ∈ b := bal _ (by rw [← e]; exact gd_mem (by omega))
            have hdle : ∀ {x : List Int} {y : Int}, x.Pairwise (· < ·) → y ∈ x → x.getD 0 0 ≤ y := fun {x y} u hy => hd_le u hy
            have e1 := hdle (F.up b hbR) wb
            have e2 := hdle (F.up w hw) (bw _ (gd_mem (x := b) (by omega)))
            have eg : b.getD 0 0 = w.getD 0 0 := by omega
            exact F.alike_eq hbR m (by rw [eg, e]) (by have := cand hbR eg; omega)
        refine ⟨A ++ [f], ⟨.inr ⟨mem.mpr (.inr (by rw [bA2])), by rw [wgd, gd_app A1, Agd], by rw [wl, List.length_append]; show A.length + 1 < _; omega⟩, fun r' hr' e l' => ?_⟩, by rw [secA]; exact hd⟩
        rw [wgd] at e
        rw [wl] at l'
        rw [List.length_append]
        show r'.length ≤ A.length + 1
        rcases mem.mp hr' with ⟨r, hr, rfl⟩ | rfl
        · have r2 := F.two r hr
          rw [gd_grow (by omega)] at e
          by_cases i : inB b r = true
          · have := oldT r hr e l' i
            rw [grT i, List.length_append]
            show r.length + 1 ≤ _
            omega
          · have := old r hr e l' i
            rw [grF i]
            omega
        · rw [List.length_append, bA2]
          exact Nat.le_refl _
    · have AF : ∀ (m : A ∈ rs), growB f b A = A := fun m => grF fun i => bA (inF i).2
      refine ⟨A, ⟨?_, fun r' hr' e l' => ?_⟩, ?_⟩
      · rcases hA with e | ⟨m, e, l⟩
        · exact .inl (by rw [wgd]; exact e)
        · exact .inr ⟨mem.mpr (.inl ⟨A, m, (AF m).symm⟩), by rw [wgd]; exact e, by omega⟩
      · rw [wgd] at e
        rw [wl] at l'
        rcases mem.mp hr' with ⟨r, hr, rfl⟩ | rfl
        · have r2 := F.two r hr
          rw [gd_grow (by omega)] at e
          by_cases i : inB b r = true
          · exfalso
            have le := oldT r hr e l' i
            rcases hA with z | ⟨m, z, _⟩
            · rw [z] at le
              exact absurd le (by show ¬ r.length ≤ 1; omega)
            · exact bA (F.alike hr m (by rw [e, z]) le _ (inF i).2)
          · have := old r hr e l' i
            rw [grF i]
            exact this
        · exfalso
          rw [gd_app bl, bgd] at e
          refine bA ?_
          rw [e, ← Agd]
          exact gd_mem A1
      · rw [List.filter_append]
        cases z : w.filter (fun x => decide (x ∉ A)) with
        | nil => rw [z] at hd; cases hd
        | cons x t =>
          rw [z] at hd
          exact hd
  · rw [grF iw]
    refine ⟨A, ⟨?_, fun r' hr' e l' => ?_⟩, hd⟩
    · rcases hA with e | ⟨m, e, l⟩
      · exact .inl e
      · refine .inr ⟨mem.mpr (.inl ⟨A, m, (grF fun i => iw ?_).symm⟩), e, l⟩
        obtain ⟨i1, i2⟩ := inF i
        exact inT (by omega) (Aw _ i2)
    · rcases mem.mp hr' with ⟨r, hr, rfl⟩ | rfl
      · have r2 := F.two r hr
        rw [gd_grow (by omega)] at e
        by_cases i : inB b r = true
        · exfalso
          obtain ⟨i1, i2⟩ := inF i
          rw [grT i, List.length_append] at l'
          have l2 : r.length + 1 < w.length := l'
          exact iw (inT (by omega) (F.alike hr hw e (by omega) _ i2))
        · rw [grF i] at l' ⊢
          exact mx r hr e l'
      · exfalso
        rw [gd_app bl, bgd] at e
        rw [List.length_append] at l'
        have l2 : b.length + 1 < w.length := l'
        exact iw (inT (by omega) (by rw [e]; exact wg))
theorem mk_new (F : Fam rs) (B : Bas rs b) (hf : b ∈ rs ∨ ∃ p, b = [p]) (eb : baseB rs item = b) : MkR (stepB rs item) (b ++ [(rs.length : Int) + 1]) ((rs.length : Int) + 1) := by
  obtain ⟨b0, bt, eb0⟩ := B.ne
  have bl : 1 ≤ b.length := by rw [eb0, List.length_cons]; omega
  have nb : (rs.length : Int) + 1 ∉ b := fun z => by
    have := (B.rng _ z).2
    omega
  have no : inB b b = false := by
    unfold inB
    rw [decide_eq_false (Nat.lt_irrefl _), Bool.false_and]
  refine ⟨b, ⟨?_, fun r' _ _ l => ?_⟩, ?_⟩
  · rcases hf with m | ⟨p, rfl⟩
    · refine .inr ⟨?_, (gd_app bl).symm, by rw [List.length_append]; show b.length < b.length + 1; omega⟩
      unfold stepB
      rw [eb]
      refine List.mem_append.mpr (.inl (List.mem_map.mpr ⟨b, m, ?_⟩))
      unfold growB
      rw [no]
      rfl
    · exact .inl rfl
  · rw [List.length_append] at l
    have l : r'.length < b.length + 1 := l
    omega
  · rw [List.filter_append]
    have e1 : b.filter (fun x => decide (x ∉ b)) = [] := by
      rw [List.filter_eq_nil_iff]
      intro x hx
      rw [decide_eq_true_eq]
      exact fun z => z hx
    rw [e1, List.filter_cons, if_pos (decide_eq_true nb)]
    rfl
end
theorem base_is {rs : List (List Int)} {item : Int} (h0 : -(rs.length : Int) ≤ item) : baseB rs item ∈ rs ∨ ∃ p, baseB rs item = [p] := by
  unfold baseB
  by_cases c : 0 ≤ item
  · rw [if_pos c]
    exact .inr ⟨item, rfl⟩
  · rw [if_neg c]
    have lt : (0 - item - 1).toNat < rs.length := by omega
    rw [List.getD_eq_getElem?_getD, List.getElem?_eq_getElem lt]
    exact .inl (List.getElem_mem lt)
theorem mk_fam {is : List Int} (b : Bnd is) : ∀ n, n ≤ is.length → ∀ j, j < n → MkR (famB is n) ((famB is n).getD j []) ((j : Int) + 1)
  | 0, _, j, hj => absurd hj (Nat.not_lt_zero j)
  | n + 1, hn, j, hj => by
    have e : is[n]? = some is[n] := List.getElem?_eq_getElem hn
    have bd := b n _ e
    have eg : is.getD n 0 = is[n] := by rw [List.getD_eq_getElem?_getD, e]; rfl
    have L := famB_len is n
    have F := famB_ok b n (Nat.le_of_succ_le hn)
    obtain ⟨item, ei⟩ : ∃ item, item = is.getD n 0 := ⟨_, rfl⟩
    have i0 : -((famB is n).length : Int) ≤ item := by rw [L, ei, eg]; exact bd.1
    have B : Bas (famB is n) (baseB (famB is n) item) := F.bas i0 (by rw [L, ei, eg]; exact bd.2)
    have hf := base_is i0
    show MkR (stepB (famB is n) (is.getD n 0)) ((stepB (famB is n) (is.getD n 0)).getD j []) _
    rw [← ei]
    rcases Nat.lt_or_ge j n with l | l
    · have ih := mk_fam b n (Nat.le_of_succ_le hn) j l
      have l2 : j < (famB is n).length := by rw [L]; exact l
      have eg2 : (famB is n).getD j [] = (famB is n)[j] := by rw [List.getD_eq_getElem?_getD, List.getElem?_eq_getElem l2]; rfl
      rw [eg2] at ih
      have z := mk_step F B hf rfl (List.getElem_mem l2) ih
      have at_ : (stepB (famB is n) item).getD j [] = growB (((famB is n).length : Int) + 1) (baseB (famB is n) item) (famB is n)[j] := by
        unfold stepB
        rw [List.getD_eq_getElem?_getD, List.getElem?_append_left (by rw [List.length_map]; exact l2), List.getElem?_map, List.getElem?_eq_getElem l2]
        rfl
      rw [at_]
      exact z
    · obtain rfl : j = n := by omega
      have at_ : (stepB (famB is j) item).getD j [] = baseB (famB is j) item ++ [((famB is j).length : Int) + 1] := by
        unfold stepB
        rw [List.getD_eq_getElem?_getD, List.getElem?_append_right (by rw [List.length_map, L]; exact Nat.le_refl _), List.length_map, L, Nat.sub_self]
        rfl
      rw [at_]
      have z := mk_new F B hf rfl
      rw [show ((famB is j).length : Int) + 1 = (j : Int) + 1 by rw [L]] at z ⊢
      exact z
end K46

namespace K46
open PySem PySem.Spec PyProof.Rows L2 SortR LcM
/-! ### lists of rows by their rows -/
theorem perm_nd {α : Type} [DecidableEq α] : ∀ {xs ys : List α}, xs.Nodup → ys.Nodup → (∀ x, x ∈ xs ↔ x ∈ ys) → xs.Perm ys
  | [], ys, _, _, h => by
    cases ys with
    | nil => exact .refl _
    | cons y t => exact nomatch (h y).mpr List.mem_cons_self
  | x :: xs, ys, hx, hy, h => by
    obtain ⟨nx, n⟩ := List.nodup_cons.mp hx
    have m : x ∈ ys := (h x).mp List.mem_cons_self
    refine (List.Perm.cons x (perm_nd n (hy.erase x) fun z => ?_)).trans (List.perm_cons_erase m).symm
    rw [hy.mem_erase_iff]
    constructor
    · exact fun q => ⟨fun e => nx (by rw [← e]; exact q), (h z).mp (List.mem_cons_of_mem _ q)⟩
    · rintro ⟨q1, q2⟩
      exact (List.mem_cons.mp ((h z).mpr q2)).resolve_left q1
theorem sort_same {xs ys : List (List Int)} (nx : xs.Nodup) (ny : ys.Nodup) (h : ∀ r, r ∈ xs ↔ r ∈ ys) : sortB xs = sortB ys :=
  List.Perm.eq_of_pairwise (le := fun a b : List Int => a ≤ b) (fun a b _ _ h1 h2 => List.le_antisymm h1 h2) (sorted_rows xs) (sorted_rows ys) ((List.mergeSort_perm _ _).trans ((perm_nd nx ny h).trans (List.mergeSort_perm _ _).symm))
theorem firsts_has (p : Nat → Bool) (M : Nat → List Int) : ∀ n i, i < n → p i = true → M i ∈ firsts p M n
  | 0, i, h, _ => absurd h (Nat.not_lt_zero i)
  | n + 1, i, h, hp => by
    unfold firsts
    rcases Nat.lt_or_ge i n with l | l
    · have ih := firsts_has p M n i l hp
      split
      · split
        · exact ih
        · exact List.mem_append.mpr (.inl ih)
      · exact ih
    · obtain rfl : i = n := by omega
      rw [if_pos hp]
      split
      · rename_i m
        exact m
      · exact List.mem_append.mpr (.inr List.mem_cons_self)
theorem firsts_nd (p : Nat → Bool) (M : Nat → List Int) : ∀ n, (firsts p M n).Nodup
  | 0 => .nil
  | n + 1 => by
    have ih := firsts_nd p M n
    unfold firsts
    split
    · split
      · exact ih
      · rename_i m
        refine List.nodup_append.mpr ⟨ih, List.pairwise_singleton _ _, fun x hx y hy e => m ?_⟩
        rw [← List.mem_singleton.mp hy, ← e]
        exact hx
    · exact ih
theorem cut_mem {rs : List (List Int)} {ns r' : List Int} : r' ∈ cutR rs ns ↔ 2 ≤ r'.length ∧ ∃ r ∈ rs, r' = meet ns r := by
  refine ⟨cutR_row, fun ⟨l, r, hr, e⟩ => ?_⟩
  unfold cutR
  rw [List.mem_mergeSort]
  obtain ⟨i, hi, ei⟩ := List.getElem_of_mem hr
  have eg : rs.getD i [] = r := by
    rw [List.getD_eq_getElem?_getD, List.getElem?_eq_getElem hi]
    exact ei
  have z := firsts_has (fun i => two (meet ns (rs.getD i []))) (fun i => meet ns (rs.getD i [])) rs.length i hi (by
    show two (meet ns (rs.getD i [])) = true
    rw [eg, ← e]
    unfold two
    exact decide_eq_true (by omega))
  rw [show meet ns (rs.getD i []) = r' by rw [eg, e]] at z
  exact z
/-- a cut that has the rows of a family is it -/
theorem cut_is {rs ss : List (List Int)} {ns : List Int} (nd : ss.Nodup) (h : ∀ r', (2 ≤ r'.length ∧ ∃ r ∈ rs, r' = meet ns r) ↔ r' ∈ ss) : cutR rs ns = sortB ss := by
  refine sort_same (firsts_nd _ _ _) nd fun r => ?_
  rw [← h, ← cut_mem]
  unfold cutR
  rw [List.mem_mergeSort]
/-! ### the places of those who stay -/
theorem plc_some {ns : List Int} {x : Int} {j : Nat} (nd : ns.Nodup) (hj : j < ns.length) (e : ns.getD j 0 = x) : plc ns x = some j := by
  have z : ∀ n, n ≤ ns.length → j < n → plcN ns x n = some j := by
    intro n
    induction n with
    | zero => exact fun _ h => absurd h (Nat.not_lt_zero j)
    | succ n ih =>
      intro hn hj2
      unfold plcN
      by_cases c : ns.getD n 0 = x
      · rw [if_pos c]
        have l : n < ns.length := by omega
        rw [List.getD_eq_getElem?_getD, List.getElem?_eq_getElem l] at c
        rw [List.getD_eq_getElem?_getD, List.getElem?_eq_getElem hj] at e
        have c : ns[n] = x := c
        have e : ns[j] = x := e
        rw [(List.getElem_inj nd).mp (c.trans e.symm)]
      · rw [if_neg c]
        refine ih (by omega) ?_
        have : j ≠ n := fun q => c (by rw [← q]; exact e)
        omega
  exact z ns.length (Nat.le_refl _) hj
theorem plc_none {ns : List Int} {x : Int} (h : x ∉ ns) : plc ns x = none := by
  have z : ∀ n, n ≤ ns.length → plcN ns x n = none := by
    intro n
    induction n with
    | zero => exact fun _ => rfl
    | succ n ih =>
      intro hn
      unfold plcN
      rw [if_neg fun c => h ?_]
      · exact ih (by omega)
      · rw [← c, List.getD_eq_getElem?_getD, List.getElem?_eq_getElem (by omega : n < ns.length)]
        exact List.getElem_mem _
  exact z ns.length (Nat.le_refl _)
theorem meet_eq (ns r : List Int) : meet ns r = (r.filter fun x => (plc ns x).isSome).map fun x => (((plc ns x).getD 0 : Nat) : Int) := by
  unfold meet
  rw [← filt 0 (fun x => (plc ns x).isSome) r, List.map_map]
  rfl
theorem upto_mem {n : Nat} {z : Int} : z ∈ upto n ↔ 0 ≤ z ∧ z < (n : Int) := by
  unfold upto
  rw [List.mem_map]
  constructor
  · rintro ⟨i, hi, rfl⟩
    have := List.mem_range.mp hi
    omega
  · rintro ⟨h0, h1⟩
    exact ⟨z.toNat, List.mem_range.mpr (by omega), by omega⟩
theorem upto_asc (n : Nat) : (upto n).Pairwise (· < ·) := by
  unfold upto
  rw [List.pairwise_map]
  exact List.pairwise_lt_range.imp fun {a b} h => by omega
theorem upto_get {n j : Nat} (h : j < n) : (upto n).getD j 0 = (j : Int) := by
  unfold upto
  rw [List.getD_eq_getElem?_getD, List.getElem?_map, List.getElem?_range h]
  show (0 + (j : Int)) = _
  omega
theorem upto_ln (n : Nat) : (upto n).length = n := by
  unfold upto
  rw [List.length_map, List.length_range]
/-- cut to the first persons -/
theorem meet_upto {k : Nat} {r : List Int} (h : ∀ x ∈ r, 0 ≤ x) : meet (upto (k + 1)) r = r.filter fun x => decide (x ≤ (k : Int)) := by
  have yes : ∀ x : Int, 0 ≤ x → x ≤ (k : Int) → plc (upto (k + 1)) x = some x.toNat := fun x h0 h1 => plc_some (up_nodup (upto_asc _)) (by rw [upto_ln]; omega) (by rw [upto_get (by omega)]; omega)
  have no : ∀ x : Int, ¬ x ≤ (k : Int) → plc (upto (k + 1)) x = none := fun x h1 => plc_none fun z => by
    have := upto_mem.mp z
    omega
  rw [meet_eq]
  have e1 : (r.filter fun x => (plc (upto (k + 1)) x).isSome) = r.filter fun x => decide (x ≤ (k : Int)) := List.filter_congr fun x hx => by
    by_cases c : x ≤ (k : Int)
    · rw [yes x (h x hx) c, decide_eq_true c]
      rfl
    · rw [no x c, decide_eq_false c]
      rfl
  rw [e1]
  have e2 : (r.filter fun x => decide (x ≤ (k : Int))).map (fun x => (((plc (upto (k + 1)) x).getD 0 : Nat) : Int)) = (r.filter fun x => decide (x ≤ (k : Int))).map id := List.map_congr_left fun x hx => by
    obtain ⟨m, c⟩ := List.mem_filter.mp hx
    have c := of_decide_eq_true c
    have x0 := h x m
    rw [yes x x0 c]
    show ((x.toNat : Nat) : Int) = x
    omega
  rw [e2, List.map_id]
/-- all but one -/
def othersR (n p : Int) : List Int := ((List.range n.toNat).map fun i => (0 + (i : Nat) : Int)).filter fun x => decide (x ≠ p)
theorem others_eq {m : Nat} {k : Int} (h0 : 0 ≤ k) (h1 : k ≤ (m : Int)) : othersR ((m : Int) + 1) k = (List.range m).map fun j : Nat => exK k (j : Int) := by
  refine up_same ?_ ?_ fun z => ?_
  · unfold othersR
    refine List.Pairwise.filter _ ?_
    rw [List.pairwise_map]
    exact List.pairwise_lt_range.imp fun {a b} h => by omega
  · rw [List.pairwise_map]
    refine List.pairwise_lt_range.imp fun {a b} h => ?_
    unfold exK
    split <;> split <;> omega
  · unfold othersR
    rw [List.mem_filter, List.mem_map, List.mem_map, decide_eq_true_eq]
    constructor
    · rintro ⟨⟨i, hi, e⟩, n⟩
      have := List.mem_range.mp hi
      refine ⟨(rnK k z).toNat, List.mem_range.mpr ?_, ?_⟩
      · unfold rnK
        split <;> omega
      · unfold rnK exK
        by_cases c : z < k
        · rw [if_pos c, if_pos (by omega)]
          omega
        · rw [if_neg c, if_neg (by omega)]
          omega
    · rintro ⟨j, hj, e⟩
      have := List.mem_range.mp hj
      rw [← e]
      unfold exK
      by_cases c : (j : Int) < k
      · rw [if_pos c]
        exact ⟨⟨j, List.mem_range.mpr (by omega), by omega⟩, by omega⟩
      · rw [if_neg c]
        exact ⟨⟨j + 1, List.mem_range.mpr (by omega), by omega⟩, by omega⟩
theorem meet_others {m : Nat} {k : Int} (h0 : 0 ≤ k) (h1 : k ≤ (m : Int)) {r : List Int} (h : ∀ x ∈ r, 0 ≤ x ∧ x ≤ (m : Int)) : meet (othersR ((m : Int) + 1) k) r = ckR k r := by
  have nd : (othersR ((m : Int) + 1) k).Nodup := by
    unfold othersR
    refine up_nodup (List.Pairwise.filter _ ?_)
    rw [List.pairwise_map]
    exact List.pairwise_lt_range.imp fun {a b} h => by omega
  have ln : (othersR ((m : Int) + 1) k).length = m := by rw [others_eq h0 h1, List.length_map, List.length_range]
  have yes : ∀ x : Int, 0 ≤ x → x ≤ (m : Int) → x ≠ k → plc (othersR ((m : Int) + 1) k) x = some (rnK k x).toNat := fun x x0 x1 n => by
    have r0 : 0 ≤ rnK k x ∧ rnK k x < (m : Int) := by
      unfold rnK
      split <;> omega
    have l : (rnK k x).toNat < m := by omega
    refine plc_some nd (by rw [ln]; exact l) ?_
    rw [others_eq h0 h1, List.getD_eq_getElem?_getD, List.getElem?_map, List.getElem?_range l]
    show exK k ((rnK k x).toNat : Int) = x
    rw [Int.toNat_of_nonneg r0.1]
    unfold rnK exK
    by_cases c : x < k
    · rw [if_pos c, if_pos c]
    · rw [if_neg c, if_neg (by omega)]
      omega
  have no : plc (othersR ((m : Int) + 1) k) k = none := plc_none fun z => by
    unfold othersR at z
    exact of_decide_eq_true (List.mem_filter.mp z).2 rfl
  rw [meet_eq]
  unfold ckR
  have e1 : (r.filter fun x => (plc (othersR ((m : Int) + 1) k) x).isSome) = r.filter fun x => decide (x ≠ k) := List.filter_congr fun x hx => by
    by_cases c : x = k
    · rw [c, no, decide_eq_false fun z => z rfl]
      rfl
    · rw [yes x (h x hx).1 (h x hx).2 c, decide_eq_true c]
      rfl
  rw [e1]
  refine List.map_congr_left fun x hx => ?_
  obtain ⟨q, c⟩ := List.mem_filter.mp hx
  have c := of_decide_eq_true c
  rw [yes x (h x q).1 (h x q).2 c]
  show (((rnK k x).toNat : Nat) : Int) = _
  have := (h x q).1
  unfold rnK
  split <;> omega
/-! ### a family without one of its persons -/
theorem fam_nd {is : List Int} (b : Bnd is) {n : Nat} (hn : n ≤ is.length) : (famB is n).Nodup := (famB_ok b n hn).nice.imp fun {a c} z => z.2
theorem sort_mem {rs : List (List Int)} {r : List Int} : r ∈ sortB rs ↔ r ∈ rs := (List.mergeSort_perm _ _).mem_iff
/-- who leaves leaves a family -/
theorem gone_is {is : List Int} (b : Bnd is) (h1 : 1 ≤ is.length) {k : Int} (k0 : 0 ≤ k) (k1 : k ≤ (is.length : Int)) :
    ∃ js : List Int, js.length = is.length - 1 ∧ Bnd js ∧ cutR (sortB (famB is is.length)) (othersR ((is.length : Int) + 1) k) = sortB (famB js js.length) := by
  have L := lam_fam b (Nat.le_refl is.length)
  obtain ⟨R0, e0⟩ : ∃ R0, R0 = ((famB is is.length).map (ckR k)).filter fun r => decide (2 ≤ r.length) := ⟨_, rfl⟩
  have mem : ∀ r', r' ∈ R0 ↔ 2 ≤ r'.length ∧ ∃ r ∈ famB is is.length, r' = ckR k r := fun r' => by
    rw [e0, List.mem_filter, decide_eq_true_eq, List.mem_map]
    constructor
    · rintro ⟨⟨r, hr, e⟩, l⟩
      exact ⟨l, r, hr, e.symm⟩
    · rintro ⟨l, r, hr, e⟩
      exact ⟨⟨r, hr, e.symm⟩, l⟩
  obtain ⟨js, jl, jb, jm⟩ := (L.cut k0 k1 h1 mem).is
  refine ⟨js, jl, jb, ?_⟩
  refine cut_is (fam_nd jb (Nat.le_refl _)) fun r' => ?_
  rw [jl, ← jm, mem]
  refine and_congr Iff.rfl ⟨fun ⟨r, hr, e⟩ => ?_, fun ⟨r, hr, e⟩ => ?_⟩
  · have hr := sort_mem.mp hr
    exact ⟨r, hr, by rw [e, meet_others k0 k1 fun x hx => L.rng r hr x hx]⟩
  · exact ⟨r, sort_mem.mpr hr, by rw [e, meet_others k0 k1 fun x hx => L.rng r hr x hx]⟩
/-- the first persons of a family -/
theorem fam_pre {is : List Int} (b : Bnd is) {k : Nat} : ∀ n, k ≤ n → n ≤ is.length → ∀ r', (2 ≤ r'.length ∧ ∃ r ∈ famB is n, r' = r.filter fun x => decide (x ≤ (k : Int))) ↔ r' ∈ famB is k := by
  intro n kn hn
  induction n with
  | zero =>
    obtain rfl : k = 0 := by omega
    intro r'
    exact ⟨fun ⟨_, _, h, _⟩ => (nomatch h), fun h => (nomatch h)⟩
  | succ n ih =>
    rcases Nat.lt_or_ge n k with l | l
    · obtain rfl : k = n + 1 := by omega
      have L := lam_fam b hn
      have id_ : ∀ r ∈ famB is (n + 1), (r.filter fun x => decide (x ≤ ((n + 1 : Nat) : Int))) = r := fun r hr => List.filter_eq_self.mpr fun x hx => decide_eq_true (L.rng r hr x hx).2
      intro r'
      constructor
      · rintro ⟨_, r, hr, e⟩
        rw [e, id_ r hr]
        exact hr
      · intro hr
        exact ⟨L.two r' hr, r', hr, (id_ r' hr).symm⟩
    · have ih := ih l (by omega)
      have e : is[n]? = some is[n] := List.getElem?_eq_getElem hn
      have bd := b n _ e
      have eg : is.getD n 0 = is[n] := by rw [List.getD_eq_getElem?_getD, e]; rfl
      have fl := famB_len is n
      obtain ⟨item, ei⟩ : ∃ item, item = is.getD n 0 := ⟨_, rfl⟩
      have i0 : -((famB is n).length : Int) ≤ item := by rw [fl, ei, eg]; exact bd.1
      have hf := base_is i0
      have drop : ∀ x : List Int, (x ++ [((famB is n).length : Int) + 1]).filter (fun x => decide (x ≤ (k : Int))) = x.filter fun x => decide (x ≤ (k : Int)) := fun x => by
        rw [List.filter_append, List.filter_cons, if_neg (by rw [decide_eq_true_eq, fl]; omega)]
        show _ ++ [] = _
        rw [List.append_nil]
      have grow : ∀ (c w : List Int), (growB (((famB is n).length : Int) + 1) c w).filter (fun x => decide (x ≤ (k : Int))) = w.filter fun x => decide (x ≤ (k : Int)) := fun c w => by
        unfold growB
        split
        · exact drop w
        · rfl
      intro r'
      rw [← ih]
      refine and_congr_right fun l2 => ?_
      show (∃ r ∈ stepB (famB is n) (is.getD n 0), _) ↔ _
      rw [← ei]
      unfold stepB
      constructor
      · rintro ⟨r, hr, e⟩
        rcases List.mem_append.mp hr with h | h
        · obtain ⟨w, hw, rfl⟩ := List.mem_map.mp h
          exact ⟨w, hw, by rw [e, grow]⟩
        · rw [List.mem_singleton.mp h, drop] at e
          rcases hf with hf | ⟨p, hp⟩
          · exact ⟨_, hf, e⟩
          · rw [hp] at e
            have := List.length_filter_le (fun x => decide (x ≤ (k : Int))) [p]
            rw [← e] at this
            exact absurd (Nat.le_trans l2 this) (by show ¬ 2 ≤ 1; decide)
      · rintro ⟨w, hw, e⟩
        exact ⟨_, List.mem_append.mpr (.inl (List.mem_map.mpr ⟨w, hw, rfl⟩)), by rw [e, grow]⟩
theorem come_is {is : List Int} (b : Bnd is) {n k : Nat} (hn : n ≤ is.length) (hk : k ≤ n) {rs : List (List Int)} (h : ∀ r, r ∈ rs ↔ r ∈ famB is n) : cutR rs (upto (k + 1)) = sortB (famB is k) := by
  have L := lam_fam b hn
  refine cut_is (fam_nd b (by omega)) fun r' => ?_
  rw [← fam_pre b n hk hn]
  refine and_congr Iff.rfl ⟨fun ⟨r, hr, e⟩ => ?_, fun ⟨r, hr, e⟩ => ?_⟩
  · have hr := (h r).mp hr
    exact ⟨r, hr, by rw [e, meet_upto fun x hx => (L.rng r hr x hx).1]⟩
  · exact ⟨r, (h r).mpr hr, by rw [e, meet_upto fun x hx => (L.rng r hr x hx).1]⟩
end K46

namespace K46
open PySem PySem.Spec PyProof.Rows L2 SortR LcM RepA
/-- the second part of a family's group has its maker ahead -/
theorem sec_mk {is : List Int} (b : Bnd is) {n : Nat} (hn : n ≤ is.length) {rs : List (List Int)} (h : ∀ r, r ∈ rs ↔ r ∈ famB is n) {j : Nat} (hj : j < n) : (secR rs ((famB is n).getD j [])).head? = some ((j : Int) + 1) := by
  have F := famB_ok b n hn
  obtain ⟨A, ⟨hA, mx⟩, hd⟩ := mk_fam b n hn j hj
  have e : firR rs ((famB is n).getD j []) = A := by
    refine firR_eq (fun r hr => F.two r ((h r).mp hr)) (hA.imp id fun ⟨m, x⟩ => ⟨(h A).mpr m, x⟩) fun r hr e1 l => ?_
    have hr := (h r).mp hr
    refine ⟨mx r hr e1 l, fun e2 => ?_⟩
    rcases hA with z | ⟨m, z, _⟩
    · have := F.two r hr
      rw [e2, z] at this
      exact absurd this (by show ¬ 2 ≤ 1; decide)
    · exact F.alike_eq hr m (by rw [e1, z]) e2
  show (((famB is n).getD j []).filter fun x => decide (x ∉ firR rs ((famB is n).getD j []))).head? = _
  rw [e]
  exact hd
/-- the item of a newcomer is read again -/
theorem item_is {is : List Int} (b : Bnd is) {n : Nat} (hn : n ≤ is.length) {rs : List (List Int)} (h : ∀ r, r ∈ rs ↔ r ∈ famB is n) {j : Nat} (hj : j < n) : itemB rs (j + 1) (is.getD j 0) = true := by
  have jl : j < is.length := by omega
  have e : is[j]? = some is[j] := List.getElem?_eq_getElem jl
  have bd := b j _ e
  have eg : is.getD j 0 = is[j] := by rw [List.getD_eq_getElem?_getD, e]; rfl
  have fl := famB_len is j
  have F := famB_ok b j (by omega)
  obtain ⟨item, ei⟩ : ∃ item, item = is.getD j 0 := ⟨_, rfl⟩
  have i0 : -((famB is j).length : Int) ≤ item := by rw [fl, ei, eg]; exact bd.1
  have B : Bas (famB is j) (baseB (famB is j) item) := F.bas i0 (by rw [fl, ei, eg]; exact bd.2)
  have step : famB is (j + 1) = stepB (famB is j) item := by rw [ei]; rfl
  unfold itemB
  rw [come_is b hn (show j + 1 ≤ n by omega) h, ← ei]
  obtain ⟨come, ec⟩ : ∃ come, come = sortB (famB is (j + 1)) := ⟨_, rfl⟩
  have mem : ∀ r, r ∈ come ↔ r ∈ famB is (j + 1) := fun r => by rw [ec]; exact sort_mem
  rw [← ec]
  obtain ⟨q, eq⟩ : ∃ q, q = baseB (famB is j) item := ⟨_, rfl⟩
  have rows : ∀ r, r ∈ come ↔ (∃ w ∈ famB is j, r = growB ((j : Int) + 1) q w) ∨ r = q ++ [(j : Int) + 1] := fun r => by
    rw [mem, step]
    unfold stepB
    rw [← eq, fl, List.mem_append, List.mem_map, List.mem_singleton]
    exact or_congr ⟨fun ⟨r, a, c⟩ => ⟨r, a, c.symm⟩, fun ⟨r, a, c⟩ => ⟨r, a, c.symm⟩⟩ Iff.rfl
  rw [← eq] at B
  have new : q ++ [(j : Int) + 1] ∈ come.filter fun r => decide (((j + 1 : Nat) : Int) ∈ r) := List.mem_filter.mpr ⟨(rows _).mpr (.inr rfl), decide_eq_true (List.mem_append.mpr (.inr List.mem_cons_self))⟩
  have only : ∀ r ∈ come.filter (fun r => decide (((j + 1 : Nat) : Int) ∈ r)), r.length ≤ q.length + 1 → r = q ++ [(j : Int) + 1] := fun r hr l => by
    obtain ⟨h1, h2⟩ := List.mem_filter.mp hr
    have h2 := of_decide_eq_true h2
    rcases (rows r).mp h1 with ⟨w, hw, rfl⟩ | h3
    · exfalso
      have nw : ((j + 1 : Nat) : Int) ∉ w := fun z => by
        have := (F.rng w hw _ z).2
        rw [fl] at this
        omega
      unfold growB at h2 l
      by_cases c : inB q w = true
      · rw [if_pos c, List.length_append] at l
        unfold inB at c
        rw [Bool.and_eq_true, decide_eq_true_eq] at c
        have l : w.length + 1 ≤ q.length + 1 := l
        omega
      · rw [if_neg c] at h2
        exact nw h2
    · exact h3
  unfold itemC
  dsimp only
  obtain ⟨js, ejs⟩ : ∃ js, js = come.filter fun r => decide (((j + 1 : Nat) : Int) ∈ r) := ⟨_, rfl⟩
  rw [← ejs] at new only ⊢
  rw [Bool.and_eq_true]
  refine ⟨?_, List.all_eq_true.mpr fun i hi => ?_⟩
  · cases js with
    | nil => cases new
    | cons _ _ => rfl
  · have il := List.mem_range.mp hi
    have gi : js.getD i [] = js[i] := by rw [List.getD_eq_getElem?_getD, List.getElem?_eq_getElem il]; rfl
    cases c : isMinB js i with
    | false => rfl
    | true =>
      unfold isMinB at c
      obtain ⟨k, hk, ek⟩ := List.getElem_of_mem new
      have ck := List.all_eq_true.mp c k (List.mem_range.mpr hk)
      rw [Bool.and_eq_true, decide_eq_true_eq] at ck
      have gk : js.getD k [] = q ++ [(j : Int) + 1] := by
        rw [List.getD_eq_getElem?_getD, List.getElem?_eq_getElem hk]
        exact ek
      have lk := ck.1
      rw [gk, List.length_append] at lk
      have lk : (js.getD i []).length ≤ q.length + 1 := lk
      have ri : js.getD i [] = q ++ [(j : Int) + 1] := only _ (by rw [gi]; exact List.getElem_mem il) lk
      rw [ri]
      show (false || decide (itemAt come (q ++ [(j : Int) + 1]) = some item)) = true
      rw [Bool.false_or, decide_eq_true_eq]
      unfold itemAt
      rw [List.dropLast_concat]
      by_cases p : 0 ≤ item
      · have q1 : q = [item] := by
          rw [eq]
          unfold baseB
          rw [if_pos p]
        rw [q1]
        rfl
      · have lt : (0 - item - 1).toNat < (famB is j).length := by omega
        have qR : q = (famB is j).getD (0 - item - 1).toNat [] := by
          rw [eq]
          unfold baseB
          rw [if_neg p]
        have qm : q ∈ famB is j := by
          rw [qR, List.getD_eq_getElem?_getD, List.getElem?_eq_getElem lt]
          exact List.getElem_mem lt
        have q2 := F.two q qm
        have at_ : (famB is (j + 1)).getD (0 - item - 1).toNat [] = q := by
          rw [step]
          unfold stepB
          rw [← eq, List.getD_eq_getElem?_getD, List.getElem?_append_left (by rw [List.length_map]; exact lt), List.getElem?_map, List.getElem?_eq_getElem lt]
          have : (famB is j)[(0 - item - 1).toNat] = q := by
            rw [qR, List.getD_eq_getElem?_getD, List.getElem?_eq_getElem lt]
            rfl
          rw [this]
          show growB _ q q = q
          unfold growB inB
          rw [decide_eq_false (Nat.lt_irrefl _), Bool.false_and, if_neg Bool.false_ne_true]
        have sm := sec_mk b (show j + 1 ≤ is.length by omega) mem (j := (0 - item - 1).toNat) (by omega)
        rw [at_] at sm
        rw [if_neg (by omega), if_neg (fun z => by rw [z] at q2; exact absurd q2 (by decide)), sm]
        show some (-(((0 - item - 1).toNat : Int) + 1)) = some item
        congr 1
        omega
end K46

namespace K46
open PySem PySem.Spec PyProof.Rows L2 SortR LcM RepA
abbrev sNeedP : Stmt := top 18
abbrev sNeedPs : Stmt := top 17
abbrev sNeedN : Stmt := top 39
abbrev sFrac : Stmt := top 22
abbrev sWith : Stmt := top 37
abbrev sCW : Stmt := top 38
abbrev sEnt : Stmt := top 40
abbrev sTrc : Stmt := top 41
abbrev sIsT : Stmt := top 42
abbrev sTSh : Stmt := top 43
abbrev sTCo : Stmt := top 44
/-- the defs of leaving, where they stand -/
structure LeaF (K : PySem.W.Frag) (mg : Str → Option Value) where
  (fNP fNPs fNN fFrac fWith fCW fEnt fTrc fIsT fTSh fTCo : Addr)
  (dNP dNPs dNN dFrac dWith dCW dEnt dTrc dIsT dTSh dTCo : FuncData)
  FNP : Fun K "need_person" "need_person" sNeedP fNP dNP
  FNPs : Fun K "need_persons" "need_persons" sNeedPs fNPs dNPs
  FNN : Fun K "need_node" "need_node" sNeedN fNN dNN
  FFrac : Fun K "fraction" "fraction" sFrac fFrac dFrac
  FWith : Fun K "without" "without" sWith fWith dWith
  FCW : Fun K "coming_without" "coming_without" sCW fCW dCW
  FEnt : Fun K "entered" "entered" sEnt fEnt dEnt
  FTrc : Fun K "traceless" "traceless" sTrc fTrc dTrc
  FIsT : Fun K "is_traceless" "is_traceless" sIsT fIsT dIsT
  FTSh : Fun K "traceless_share" "traceless_share" sTSh fTSh dTSh
  FTCo : Fun K "traceless_counts" "traceless_counts" sTCo fTCo dTCo
  gNP : mg "need_person" = some (.ref fNP)
  gNPs : mg "need_persons" = some (.ref fNPs)
  gNN : mg "need_node" = some (.ref fNN)
  gFrac : mg "fraction" = some (.ref fFrac)
  gWith : mg "without" = some (.ref fWith)
  gCW : mg "coming_without" = some (.ref fCW)
  gEnt : mg "entered" = some (.ref fEnt)
  gTrc : mg "traceless" = some (.ref fTrc)
  gIsT : mg "is_traceless" = some (.ref fIsT)
  gTSh : mg "traceless_share" = some (.ref fTSh)
  gTCo : mg "traceless_counts" = some (.ref fTCo)
  bNP : Binds K dNP ["person", "persons"] []
  bNPs : Binds K dNPs ["persons"] []
  bNN : Binds K dNN ["node", "persons"] []
  bFrac : Binds K dFrac ["top", "bottom"] []
  bWith : Binds K dWith ["parting", "person"] []
  bCW : Binds K dCW ["coming", "person"] []
  bEnt : Binds K dEnt ["parting", "node"] []
  bTrc : Binds K dTrc ["parting"] []
  bIsT : Binds K dIsT ["parting", "person"] []
  bTSh : Binds K dTSh ["persons", "person"] []
  bTCo : Binds K dTCo ["persons"] []
  gGcd : mg "gcd" = some (.builtin "math.gcd")
theorem others_kept (n p : Int) : kept (fun i => decide ((0 + (i : Nat) : Int) ≠ p)) (fun i => V.int (0 + (i : Nat))) n.toNat = (othersR n p).map V.int := by
  unfold kept othersR
  rw [List.filter_map, List.map_map]
  rfl
theorem kept_ints (p : Nat → Bool) (f : Nat → Int) (n : Nat) : ∃ js : List Int, kept p (fun i => V.int (f i)) n = js.map V.int := ⟨((List.range n).filter p).map f, by
  unfold kept
  rw [List.map_map]
  rfl⟩
theorem others_len (n p : Int) : (othersR n p).length ≤ n.toNat := by
  unfold othersR
  refine Nat.le_trans (List.length_filter_le _ _) ?_
  rw [List.length_map, List.length_range]
  exact Nat.le_refl _
/-! ### what they answer -/
theorem madeR_fam (is : List Int) : ∀ n, madeR is n = famB is n
  | 0 => rfl
  | n + 1 => by
    have ih := madeR_fam is n
    have fl := famB_len is n
    show comeR (madeR is n) (is.getD n 0) (1 + (n : Nat)) = stepB (famB is n) (is.getD n 0)
    rw [ih]
    unfold comeR stepB
    have ep : placeR (famB is n) (is.getD n 0) = baseB (famB is n) (is.getD n 0) := by
      unfold placeR baseB
      split
      · rfl
      · rw [show (-(is.getD n 0) - 1).toNat = (0 - is.getD n 0 - 1).toNat by omega]
    rw [ep, fl, show (1 + (n : Int)) = (n : Int) + 1 by omega]
    congr 1
    refine List.map_congr_left fun r _ => ?_
    unfold growR growB inB
    rw [gd_hd]
    by_cases c : (baseB (famB is n) (is.getD n 0)).length < r.length
    · by_cases d : (baseB (famB is n) (is.getD n 0)).headD 0 ∈ r
      · rw [if_pos ⟨c, d⟩, decide_eq_true c, decide_eq_true d]
        rfl
      · rw [if_neg fun z => d z.2, decide_eq_false d, Bool.and_false]
        rfl
    · rw [if_neg fun z => c z.1, decide_eq_false c, Bool.false_and]
      rfl
/-- the parting of a coming list -/
def lotR (is : List Int) : List (List Int) := sortB (famB is is.length)
theorem pb_lot (is : List Int) : pbR is = lotR is := by
  unfold pbR lotR
  rw [madeR_fam]
  rfl
theorem lot_len (is : List Int) : (lotR is).length = is.length := by
  unfold lotR
  exact (List.mergeSort_perm _ _).length_eq.trans (famB_len is _)
theorem isC_of {is : List Int} (b : Bnd is) (l : is.length ≤ 19) : isC (.list (is.map .int)) = true := by
  rw [isC_list, Bool.and_eq_true, decide_eq_true_eq, List.length_map]
  refine ⟨by omega, List.all_eq_true.mpr fun i hi => ?_⟩
  have il := List.mem_range.mp hi
  rw [List.getD_eq_getElem?_getD, List.getElem?_map, List.getElem?_eq_getElem il]
  show (decide (-(i : Int) ≤ is[i]) && decide (is[i] ≤ (i : Int))) = true
  have z := b i is[i] (List.getElem?_eq_getElem il)
  rw [decide_eq_true z.1, decide_eq_true z.2]
  rfl
theorem lot_is {is : List Int} (b : Bnd is) (l : is.length ≤ 19) : isP (lotR is) = true := isP_fam (famB_ok b _ (Nat.le_refl _)) (by rw [famB_len]; omega)
theorem lot_mem {is : List Int} {r : List Int} : r ∈ lotR is ↔ r ∈ famB is is.length := sort_mem
theorem lot_row {is : List Int} (b : Bnd is) {r : List Int} (h : r ∈ lotR is) : r.length ≤ is.length + 1 := by
  have L := lam_fam b (Nat.le_refl is.length)
  have h := lot_mem.mp h
  have q := len_sub (up_nodup (L.up r h)) (ys := upto (is.length + 1)) fun z hz => by
    have := L.rng r h z hz
    exact upto_mem.mpr ⟨this.1, by omega⟩
  rwa [upto_ln] at q
theorem lot_sz {is : List Int} (b : Bnd is) (l : is.length ≤ 19) : Sz (lotR is) := ⟨by rw [lot_len]; omega, fun r hr => by have := lot_row b hr; omega⟩
/-- the parting of a coming list, as it stands -/
structure LotA (K : PySem.W.Frag) (H : Hp) (x : V) (is : List Int) : Prop where
  ex : ∃ (a : Addr) (bs : List (Addr × List Int)), x = .ref a ∧ Rw K H a bs ∧ bs.map (·.2) = lotR is
  b : Bnd is
  l : is.length ≤ 19
theorem LotA.keep {K : PySem.W.Frag} {H H' : Hp} {x : V} {is : List Int} (h : LotA K H x is) (g : Grows H H') : LotA K H' x is := by
  obtain ⟨⟨a, bs, e, r, e2⟩, b, l⟩ := h
  exact ⟨⟨a, bs, e, r.keep g, e2⟩, b, l⟩
/-- who leaves no trace -/
def goneM (is : List Int) : List Int := if is = [] then [0] else ((List.range is.length).filter fun i => !(is.any fun x => decide (x.natAbs = i + 1))).map fun i : Nat => 1 + (i : Int)
def low (x y : Int) : Int × Int := (x / ((Nat.gcd x.natAbs y.natAbs : Nat) : Int), y / ((Nat.gcd x.natAbs y.natAbs : Nat) : Int))
def shI (n p : Int) : Int × Int := if p = 0 then (if n = 1 then (1, 1) else (0, 1)) else low (2 * p - 1) (2 * n - 3)
def tcN : Nat → List Int
  | 0 => [1]
  | i + 1 => (List.range ((tcN i).length + 1)).map fun j : Nat => (2 * (1 + (i : Int) - (j : Int)) + 1) * (0 :: tcN i).getD j 0 + 2 * (j : Int) * (tcN i ++ [0]).getD j 0
theorem tcN_len : ∀ i, (tcN i).length = i + 1
  | 0 => rfl
  | i + 1 => by
    show ((List.range ((tcN i).length + 1)).map _).length = _
    rw [List.length_map, List.length_range, tcN_len i]
def tcI (n : Int) : List Int := if n = 1 then [0, 1] else tcN (n - 1).toNat ++ [0]
def spNP : Sp := fun vs H Q _ => ∃ p n : Int, vs = [.int p, .int n] ∧ 0 ≤ p ∧ p < n ∧ ∀ H', Grows H H' → Q .non H'
def spNPs : Sp := fun vs H Q _ => ∃ n : Int, vs = [.int n] ∧ 1 ≤ n ∧ n ≤ 20 ∧ ∀ H', Grows H H' → Q .non H'
def spNN : Sp := fun vs H Q _ => ∃ d n : Int, vs = [.int d, .int n] ∧ 0 ≤ n ∧ n ≤ 100 ∧ -n < d ∧ d < n ∧ ∀ H', Grows H H' → Q .non H'
def spWith (K : PySem.W.Frag) : Sp := fun vs H Q _ => ∃ x is p, vs = [x, .int p] ∧ LotA K H x is ∧ 1 ≤ is.length ∧ 0 ≤ p ∧ p ≤ (is.length : Int) ∧ ∀ (q : Addr) (cs : List (Addr × List Int)) (H' : Hp), cs.map (·.2) = cutR (lotR is) (othersR (is.length + 1) p) → Grows H H' → Rl H' q cs → Q (.ref q) H'
def spCW (K : PySem.W.Frag) : Sp := fun vs H Q _ => ∃ (a : Addr) (is js : List Int) (p : Int), vs = [.ref a, .int p] ∧ SqL K H a (is.map V.int) ∧ Bnd is ∧ is.length ≤ 19 ∧ 1 ≤ is.length ∧ 0 ≤ p ∧ p ≤ (is.length : Int) ∧ Bnd js ∧ js.length ≤ 19 ∧ cutR (lotR is) (othersR (is.length + 1) p) = lotR js ∧
  ∀ (q : Addr) (H' : Hp), Grows H H' → H' q = some (.lst (js.map V.int)) → Q (.ref q) H'
def spEnt (K : PySem.W.Frag) : Sp := fun vs H Q _ => ∃ x is d, vs = [x, .int d] ∧ LotA K H x is ∧ is.length ≤ 18 ∧ -(is.length : Int) ≤ d ∧ d ≤ (is.length : Int) ∧ ∀ (q : Addr) (cs : List (Addr × List Int)) (H' : Hp), cs.map (·.2) = lotR (is ++ [d]) → Grows H H' → Rl H' q cs → Q (.ref q) H'
def spTrc (K : PySem.W.Frag) : Sp := fun vs H Q _ => ∃ x is, vs = [x] ∧ LotA K H x is ∧ ∀ (q : Addr) (H' : Hp), Grows H H' → H' q = some (.lst ((goneM is).map V.int)) → Q (.ref q) H'
def spIsT (K : PySem.W.Frag) : Sp := fun vs H Q _ => ∃ x is p, vs = [x, .int p] ∧ LotA K H x is ∧ 0 ≤ p ∧ p ≤ (is.length : Int) ∧ ∀ H', Grows H H' → Q (.bl (decide (p ∈ goneM is))) H'
def spFrac : Sp := fun vs H Q _ => ∃ x y : Int, vs = [.int x, .int y] ∧ 0 ≤ x ∧ x ≤ 1000 ∧ 1 ≤ y ∧ y ≤ 1000 ∧ ∀ t H', Grows H H' → H' t = some (.tup [.int (low x y).1, .int (low x y).2]) → Q (.ref t) H'
def spTSh : Sp := fun vs H Q _ => ∃ n p : Int, vs = [.int n, .int p] ∧ 1 ≤ n ∧ n ≤ 20 ∧ 0 ≤ p ∧ p < n ∧ ∀ t H', Grows H H' → H' t = some (.tup [.int (shI n p).1, .int (shI n p).2]) → Q (.ref t) H'
def spTCo : Sp := fun vs H Q _ => ∃ n : Int, vs = [.int n] ∧ 1 ≤ n ∧ n ≤ 20 ∧ ∀ D H', Grows H H' → H' D = some (.lst ((tcI n).map V.int)) → Q (.ref D) H'
theorem laid_some (K : Nat → L2.Key) (F : Nat → V) (k : L2.Key) : ∀ n, (valV (laid (fun _ => true) K F n) k).isSome = (List.range n).any fun i => decide (K i = k)
  | 0 => rfl
  | n + 1 => by
    have ih := laid_some K F k n
    unfold laid
    rw [if_pos rfl, valV_put, List.range_succ, List.any_append, ← ih]
    by_cases e : k = K n
    · rw [if_pos e, List.any_cons, decide_eq_true e.symm]
      simp
    · rw [if_neg e, List.any_cons, decide_eq_false fun z => e z.symm]
      simp
section
variable {P : Program} {w : World} {K : PySem.W.Frag} {mg : Str → Option Value} {base : Heap}
theorem scNP : FnScope ["person", "persons"] ["person", "persons"] (defScope sNeedP) := ⟨rfl, rfl, rfl, by decide +kernel, rfl, by decide +kernel, by decide +kernel⟩
theorem scNPs : FnScope ["persons"] ["persons"] (defScope sNeedPs) := ⟨rfl, rfl, rfl, by decide +kernel, rfl, by decide +kernel, by decide +kernel⟩
theorem scNN : FnScope ["node", "persons"] ["node", "persons"] (defScope sNeedN) := ⟨rfl, rfl, rfl, by decide +kernel, rfl, by decide +kernel, by decide +kernel⟩
theorem scWith : FnScope ["parting", "person", "persons", "other"] ["parting", "person"] (defScope sWith) := ⟨rfl, rfl, rfl, by decide +kernel, rfl, by decide +kernel, by decide +kernel⟩
theorem scCW : FnScope ["coming", "person"] ["coming", "person"] (defScope sCW) := ⟨rfl, rfl, rfl, by decide +kernel, rfl, by decide +kernel, by decide +kernel⟩
theorem scEnt : FnScope ["parting", "node", "persons"] ["parting", "node"] (defScope sEnt) := ⟨rfl, rfl, rfl, by decide +kernel, rfl, by decide +kernel, by decide +kernel⟩
theorem scTrc : FnScope ["parting", "coming", "traced", "item", "person"] ["parting"] (defScope sTrc) := ⟨rfl, rfl, rfl, by decide +kernel, rfl, by decide +kernel, by decide +kernel⟩
theorem scIsT : FnScope ["parting", "person"] ["parting", "person"] (defScope sIsT) := ⟨rfl, rfl, rfl, by decide +kernel, rfl, by decide +kernel, by decide +kernel⟩
theorem scTSh : FnScope ["persons", "person"] ["persons", "person"] (defScope sTSh) := ⟨rfl, rfl, rfl, by decide +kernel, rfl, by decide +kernel, by decide +kernel⟩
theorem scTCo : FnScope ["persons", "counts", "come", "free", "fewer", "alike"] ["persons"] (defScope sTCo) := ⟨rfl, rfl, rfl, by decide +kernel, rfl, by decide +kernel, by decide +kernel⟩
theorem scFrac : FnScope ["top", "bottom", "divisor"] ["top", "bottom"] (defScope sFrac) := ⟨rfl, rfl, rfl, by decide +kernel, rfl, by decide +kernel, by decide +kernel⟩
end
end K46

namespace K46
open PySem PySem.Spec PyProof.Rows L2 SortR LcM RepA
section
variable {P : Program} {w : World} {K : PySem.W.Frag} {mg : Str → Option Value} {base : Heap}
theorem ok_np (Z : ProgF K mg) (T : TxtP mg) (U : LeaF K mg) : FnOk P w K mg base CX0 3 U.fNP U.dNP ["person", "persons"] spNP := by
  have GPer : FnOk P w K mg base CX0 2 Z.fPer Z.dPer ["thing", "persons"] (spPerson K) := ok_person Z T
  refine U.FNP.ok scNP (fun vs H Q E h => ?_) (fun cdv A outer s H vs Q E hr h => ?_)
  · obtain ⟨p, n, rfl, _⟩ := h
    rfl
  · obtain ⟨p, n, rfl, p0, p1, k⟩ := h
    refine ⟨_, (pss_one (ps_if (pt_not (pt_val (pe_call GPer (hr.mono (by decide)) rfl Z.gPer Z.FPer.kp Z.bPer .nil pass0 (pa_cons (pv 0) (pa_cons (pv 1) pa_nil))))) (pss_one ps_never) pss_nil)), ?_⟩
    refine ⟨_, rfl, _, rfl, .int p, "int", n, rfl, .base (.int p), by simp [kinds], fun _ => ⟨p, rfl, _, rfl, ?_⟩, fun z => absurd rfl z⟩
    rw [decide_eq_true p0, decide_eq_true p1]
    exact iteF (k H .refl)
theorem ok_nps (Z : ProgF K mg) (T : TxtP mg) (U : LeaF K mg) : FnOk P w K mg base CX0 2 U.fNPs U.dNPs ["persons"] spNPs := by
  have GNum : FnOk P w K mg base CX0 1 Z.fNum Z.dNum ["thing"] (spNumber K) := ok_number Z.FNum T
  refine U.FNPs.ok scNPs (fun vs H Q E h => ?_) (fun cdv A outer s H vs Q E hr h => ?_)
  · obtain ⟨n, rfl, _⟩ := h
    rfl
  · obtain ⟨n, rfl, h1, h2, k⟩ := h
    refine ⟨_, (pss_one (ps_if (PW.pt (pw_or (pt_not (pt_val (pe_call GNum (hr.mono (by decide)) rfl Z.gNum Z.FNum.kp Z.bNum .nil pass0 (pa_cons (pv 0) pa_nil)))) (pw_or1 (pt_not (pt_chain op_le op_le pe_int (pv 0) (pe_glob (v := .int 20) rfl Z.gMost ⟨_, rfl⟩)))))) (pss_one ps_never) pss_nil)), ?_⟩
    refine ⟨_, rfl, .int n, "int", rfl, .base (.int n), by simp [kinds], _, rfl, iteF ⟨_, rfl, _, _, rfl, rfl, _, rfl, ?_⟩⟩
    rw [if_pos (decide_eq_true h1)]
    refine ⟨_, _, rfl, rfl, _, rfl, ?_⟩
    rw [decide_eq_true h2]
    exact iteF (k H .refl)
theorem ok_nn (Z : ProgF K mg) (T : TxtP mg) (U : LeaF K mg) : FnOk P w K mg base CX0 2 U.fNN U.dNN ["node", "persons"] spNN := by
  have GNum : FnOk P w K mg base CX0 1 Z.fNum Z.dNum ["thing"] (spNumber K) := ok_number Z.FNum T
  refine U.FNN.ok scNN (fun vs H Q E h => ?_) (fun cdv A outer s H vs Q E hr h => ?_)
  · obtain ⟨d, n, rfl, _⟩ := h
    rfl
  · obtain ⟨d, n, rfl, n0, n1, h1, h2, k⟩ := h
    refine ⟨_, (pss_one (ps_if (PW.pt (pw_or (pt_not (pt_val (pe_call GNum (hr.mono (by decide)) rfl Z.gNum Z.FNum.kp Z.bNum .nil pass0 (pa_cons (pv 0) pa_nil)))) (pw_or1 (pt_not (pt_chain op_lt op_lt (pe_un un_neg (pv 1)) (pv 0) (pv 1)))))) (pss_one ps_never) pss_nil)), ?_⟩
    refine ⟨_, rfl, .int d, "int", rfl, .base (.int d), by simp [kinds], _, rfl, iteF ⟨_, rfl, _, rfl, _, rfl, _, _, rfl, rfl, _, rfl, ?_⟩⟩
    rw [if_pos (decide_eq_true h1)]
    refine ⟨_, rfl, _, _, rfl, rfl, _, rfl, ?_⟩
    rw [decide_eq_true h2]
    exact iteF (k H .refl)
theorem ok_fracL (U : LeaF K mg) : FnOk P w K mg base CX0 1 U.fFrac U.dFrac ["top", "bottom"] spFrac := by
  refine U.FFrac.ok scFrac (fun vs H Q E h => ?_) (fun cdv A outer s H vs Q E hr h => ?_)
  · obtain ⟨x, y, rfl, _⟩ := h
    rfl
  · obtain ⟨x, y, rfl, x0, xb, y1, yb, k⟩ := h
    refine ⟨_, (pss_cons (ps_set (i := 2) scFrac.nd rfl (.inl rfl) (pe_callBfun (id := "math.gcd") cr_gcd rfl U.gGcd (pa_cons (pv 0) (pa_cons (pv 1) pa_nil))))
      (pss_one (ps_ret (pe_tup (pa_cons (pe_op op_fdivW (pv 0) (pv 2)) (pa_cons (pe_op op_fdivW (pv 1) (pv 2)) pa_nil)))))), ?_⟩
    have gpos : 0 < Nat.gcd x.natAbs y.natAbs := Nat.gcd_pos_of_pos_right _ (by omega)
    have gle : Nat.gcd x.natAbs y.natAbs ≤ y.natAbs := Nat.gcd_le_right _ (by omega)
    have gi : (0 : Int) < ((Nat.gcd x.natAbs y.natAbs : Nat) : Int) := by omega
    have gb : (((Nat.gcd x.natAbs y.natAbs : Nat) : Int)).natAbs < 2 ^ 320 := Nat.lt_of_le_of_lt gle (Nat.lt_of_le_of_lt (show y.natAbs ≤ 2000 by omega) (by decide))
    exact ⟨_, rfl, _, rfl, _, _, rfl, _, rfl, _, rfl, _, _, rfl, rfl, wide_div gi gb (by decide) (by decide), _, rfl, _, rfl, _, _, rfl, rfl, wide_div gi gb (by decide) (by decide), (by show 2 ≤ sizeLine; decide), fun t ht => k _ _ (Grows.new ht) upd_same⟩
theorem ok_tsh (Z : ProgF K mg) (T : TxtP mg) (U : LeaF K mg) : FnOk P w K mg base CX0 4 U.fTSh U.dTSh ["persons", "person"] spTSh := by
  have GNPs := ok_nps (P := P) (w := w) (base := base) Z T U
  have GNP := ok_np (P := P) (w := w) (base := base) Z T U
  have GFrac : FnOk P w K mg base CX0 1 U.fFrac U.dFrac ["top", "bottom"] spFrac := ok_fracL U
  refine U.FTSh.ok scTSh (fun vs H Q E h => ?_) (fun cdv A outer s H vs Q E hr h => ?_)
  · obtain ⟨n, p, rfl, _⟩ := h
    rfl
  · obtain ⟨n, p, rfl, n1, n2, p0, p1, k⟩ := h
    refine ⟨_, (pss_cons (ps_expr (pe_call GNPs (hr.mono (by decide)) rfl U.gNPs U.FNPs.kp U.bNPs .nil pass0 (pa_cons (pv 0) pa_nil)))
      (pss_cons (ps_expr (pe_call GNP (hr.mono (by decide)) rfl U.gNP U.FNP.kp U.bNP .nil pass0 (pa_cons (pv 1) (pa_cons (pv 0) pa_nil))))
      (pss_cons (ps_if (pt_cmpR op_eq (pv 1) pe_int (nomark _)) (pss_one (ps_ret (pe_ifExp (pt_cmpR op_eq (pv 0) pe_int (nomark _)) (pe_tup (pa_cons pe_int (pa_cons pe_int pa_nil))) (pe_tup (pa_cons pe_int (pa_cons pe_int pa_nil)))))) pss_nil)
      (pss_one (ps_ret (pe_call GFrac (hr.mono (by decide)) rfl U.gFrac U.FFrac.kp U.bFrac .nil pass0 (pa_cons (pe_op op_sub (pe_op op_mul pe_int (pv 1)) pe_int) (pa_cons (pe_op op_sub (pe_op op_mul pe_int (pv 0)) pe_int) pa_nil)))))))), ?_⟩
    refine ⟨_, rfl, n, rfl, n1, n2, fun H1 g1 => ⟨_, rfl, _, rfl, p, n, rfl, p0, p1, fun H2 g2 => ⟨_, rfl, rfl, _, rfl, ?_⟩⟩⟩
    have g12 := g1.trans g2
    have sh : ∀ z, shI n p = z → ∀ t H', Grows H H' → H' t = some (.tup [.int z.1, .int z.2]) → Q (.ref t) H' := fun z e => by subst e; exact k
    unfold shI at sh
    by_cases e : p = 0
    · rw [decide_eq_true (show L2.V.int p = L2.V.int 0 by rw [e])]
      refine iteT ⟨_, rfl, rfl, _, rfl, ?_⟩
      rw [if_pos e] at sh
      by_cases e1 : n = 1
      · rw [decide_eq_true (show L2.V.int n = L2.V.int 1 by rw [e1])]
        rw [if_pos e1] at sh
        exact iteT ⟨(by show 2 ≤ sizeLine; decide), fun t ht => sh _ rfl t _ (g12.trans (Grows.new ht)) upd_same⟩
      · rw [decide_eq_false (show ¬ L2.V.int n = L2.V.int 1 from fun z => e1 (L2.V.int.inj z))]
        rw [if_neg e1] at sh
        exact iteF ⟨(by show 2 ≤ sizeLine; decide), fun t ht => sh _ rfl t _ (g12.trans (Grows.new ht)) upd_same⟩
    · rw [decide_eq_false (show ¬ L2.V.int p = L2.V.int 0 from fun z => e (L2.V.int.inj z))]
      rw [if_neg e] at sh
      exact iteF ⟨_, rfl, _, _, rfl, rfl, .inl ⟨by decide, by decide⟩, _, _, rfl, rfl, _, rfl, _, _, rfl, rfl, .inl ⟨by decide, by decide⟩, _, _, rfl, rfl, _, _, rfl, by omega, by omega, by omega, by omega, fun t H' g e => sh _ rfl t H' (g12.trans g) e⟩
theorem ok_tco (Z : ProgF K mg) (T : TxtP mg) (U : LeaF K mg) : FnOk P w K mg base CX0 3 U.fTCo U.dTCo ["persons"] spTCo := by
  have GNPs := ok_nps (P := P) (w := w) (base := base) Z T U
  refine U.FTCo.ok scTCo (fun vs H Q E h => ?_) (fun cdv A outer s H vs Q E hr h => ?_)
  · obtain ⟨n, rfl, _⟩ := h
    rfl
  · obtain ⟨n, rfl, n1, n2, k⟩ := h
    refine ⟨_, (pss_cons (ps_expr (pe_call GNPs (hr.mono (by decide)) rfl U.gNPs U.FNPs.kp U.bNPs .nil pass0 (pa_cons (pv 0) pa_nil)))
      (pss_cons (ps_if (pt_cmpR op_eq (pv 0) pe_int (nomark _)) (pss_one (ps_ret (pe_lst (pa_cons pe_int (pa_cons pe_int pa_nil))))) pss_nil)
      (pss_cons (ps_set (i := 1) scTCo.nd rfl (.inl rfl) (pe_lst (pa_cons pe_int pa_nil)))
      (pss_cons (ps_for PassesOwn.never rfl (pi_range2 (by rfl) T.range (pa_cons pe_int (pa_cons (pv 0) pa_nil))) (pg_name (i := 2) scTCo.nd rfl (.inr rfl))
      (pss_one (ps_setLc (i := 1) (own := [("free", 3), ("fewer", 4), ("alike", 5)]) (g := gTup K 2 (gCons (gName 3) (gCons (gTup K 2 (gCons (gName 4) (gCons (gName 5) gNil))) gNil))) (tt := tYes) rfl scTCo.nd rfl rfl (sw_true rfl rfl rfl (by decide +kernel)) (EnZ.pi_enZ (by rfl) T.enumerate (EnZ.ev_zip (by rfl) T.zip (pa_cons (pe_op op_cat (pe_lst (pa_cons pe_int pa_nil)) (pv 1)) (pa_cons (pe_op op_cat (pv 1) (pe_lst (pa_cons pe_int pa_nil))) pa_nil)))) (blkOk_by (own := [("free", 3), ("fewer", 4), ("alike", 5)]) (N := ["persons", "counts", "come", "free", "fewer", "alike"]) (sc := defScope sTCo) (by decide +kernel)) (fun _ _ _ _ _ => pg_tup rfl (pgs_cons (pg_name (i := 3) scTCo.nd rfl (Or.inl rfl)) (pgs_cons (pg_tup rfl (pgs_cons (pg_name (i := 4) scTCo.nd rfl (Or.inl rfl)) (pgs_cons (pg_name (i := 5) scTCo.nd rfl (Or.inl rfl)) pgs_nil))) pgs_nil))) (fun _ _ _ _ _ => pts_nil) (fun _ _ _ _ _ => (pe_op op_add (pe_op op_mul (pe_op op_add (pe_op op_mul pe_int (pe_op op_sub (pv 2) (pv 3))) pe_int) (pv 4)) (pe_op op_mul (pe_op op_mul pe_int (pv 3)) (pv 5)))))))
      (pss_one (ps_ret (pe_op op_cat (pv 1) (pe_lst (pa_cons pe_int pa_nil))))))))), ?_⟩
    refine ⟨_, rfl, n, rfl, n1, n2, fun H1 g1 => ⟨_, rfl, rfl, _, rfl, ?_⟩⟩
    unfold tcI at k
    by_cases e : n = 1
    · rw [decide_eq_true (show L2.V.int n = L2.V.int 1 by rw [e])]
      rw [if_pos e] at k
      exact iteT ⟨(by show 2 ≤ sizeLine; decide), fun z hz => k _ _ (g1.trans (Grows.new hz)) upd_same⟩
    · rw [decide_eq_false (show ¬ L2.V.int n = L2.V.int 1 from fun z => e (L2.V.int.inj z))]
      rw [if_neg e] at k
      refine iteF ⟨(by show 1 ≤ sizeLine; decide), fun z hz => ?_⟩
      have g2 := g1.trans (Grows.new (o := .lst [L2.V.int 1]) hz)
      refine ⟨_, rfl, _, _, rfl, by omega, for_range (n := (n - 1).toNat) (fun i σ H' => ∃ (a : Addr) (o2 o3 o4 o5 : Option L2.V), σ = [some (.int n), some (.ref a), o2, o3, o4, o5] ∧ Grows H H' ∧ H' a = some (.lst ((tcN i).map L2.V.int)))
        ⟨z, none, none, none, none, rfl, g2, upd_same⟩ (fun i σ H' il ⟨a, o2, o3, o4, o5, e, g, ea⟩ => ?_) fun σ H' ⟨a, o2, o3, o4, o5, e, g, ea⟩ => ?_⟩
      · subst e
        have el := tcN_len i
        generalize ec : tcN i = cs at *
        have gz : ∀ {H2 : Hp} {z : Addr} {o : HO}, H2 z = none → Grows H2 (upd H2 z o) := fun h => Grows.new h
        refine ⟨(by show 1 ≤ sizeLine; decide), fun z0 hz0 => ⟨_, rfl, z0, a, _, _, rfl, rfl, upd_same, gz hz0 _ _ ea, ?_, fun y0 hy0 => ?_⟩⟩
        · rw [List.length_map, el]
          show 1 + (i + 1) ≤ sizeLine
          exact Nat.le_trans (show 1 + (i + 1) ≤ 100 by omega) (by decide)
        have ga := (gz (o := .lst [L2.V.int 0]) hz0).trans (gz (o := .lst ([L2.V.int 0] ++ cs.map L2.V.int)) hy0)
        refine ⟨_, rfl, (by show 1 ≤ sizeLine; decide), fun z1 hz1 => ⟨a, z1, _, _, rfl, rfl, (ga.trans (gz hz1)) _ _ ea, upd_same, ?_, fun y1 hy1 => ?_⟩⟩
        · rw [List.length_map, el]
          show i + 1 + 1 ≤ sizeLine
          exact Nat.le_trans (show i + 1 + 1 ≤ 100 by omega) (by decide)
        have gb := (gz (o := .lst [L2.V.int 0]) hz1).trans (gz (o := .lst (cs.map L2.V.int ++ [L2.V.int 0])) hy1)
        refine ⟨y0, y1, (0 :: cs).map L2.V.int, (cs ++ [0]).map L2.V.int, rfl, SqL.of (gb _ _ upd_same), SqL.of (by rw [upd_same, List.map_append]; rfl), fun D hD => EnZ.lc_enZM (K := K) (fun j => L2.V.int ((2 * (1 + (i : Int) - (j : Int)) + 1) * (0 :: cs).getD j 0 + 2 * (j : Int) * (cs ++ [0]).getD j 0)) hD (xs := (0 :: cs).map L2.V.int) (ys := (cs ++ [0]).map L2.V.int) (SqL.of (gb _ _ upd_same)) (SqL.of (by rw [upd_same, List.map_append]; rfl)) (by rw [List.length_map, List.length_cons]; omega) (fun j x y S T H4 R hx hy g4 hS hT ne kR => ?_) fun H5 g5 e5 => ?_⟩
        · have jl := (List.getElem?_eq_some_iff.mp hx).1
          rw [List.length_map, List.length_cons] at jl
          obtain rfl := at_map (d := 0) hx
          obtain rfl := at_map (d := 0) hy
          refine ⟨T, _, rfl, SqT.of upd_same, rfl, _, _, rfl, _, _, rfl, S, _, rfl, SqT.of (by rw [upd_ne ne]; exact upd_same), rfl, _, _, rfl, _, _, rfl, rfl, rfl, rfl, _, rfl, _, rfl, _, _, rfl, rfl, _, _, rfl, rfl, .inl ⟨by decide, by decide⟩, _, _, rfl, rfl, _, rfl, _, _, rfl, rfl, .inl ⟨by omega, by omega⟩, _, rfl, _, _, rfl, rfl, .inl ⟨by decide, by decide⟩, _, rfl, _, _, rfl, rfl, .inl ⟨by omega, by omega⟩, _, _, rfl, rfl, kR _ .refl⟩
        · refine ⟨D, _, _, _, _, rfl, ((g.trans ga).trans gb).trans g5, ?_⟩
          rw [e5, List.length_map, List.length_map, List.length_cons, List.length_append, List.length_singleton, Nat.min_self]
          show _ = some (HO.lst (((List.range ((tcN i).length + 1)).map fun j : Nat => (2 * (1 + (i : Int) - (j : Int)) + 1) * (0 :: tcN i).getD j 0 + 2 * (j : Int) * (tcN i ++ [0]).getD j 0).map L2.V.int))
          rw [ec, List.map_map]
          rfl
      · subst e
        refine ⟨_, rfl, (by show 1 ≤ sizeLine; decide), fun z0 hz0 => ⟨a, z0, _, _, rfl, rfl, Grows.new hz0 _ _ ea, upd_same, ?_, fun y0 hy0 => k _ _ (g.trans ((Grows.new hz0).trans (Grows.new hy0))) (by rw [upd_same, List.map_append]; rfl)⟩⟩
        rw [List.length_map, tcN_len]
        show (n - 1).toNat + 1 + 1 ≤ sizeLine
        exact Nat.le_trans (show (n - 1).toNat + 1 + 1 ≤ 100 by omega) (by decide)
end
end K46

namespace K46
open PySem PySem.Spec PyProof.Rows L2 SortR LcM RepA
section
variable {P : Program} {w : World} {K : PySem.W.Frag} {mg : Str → Option Value} {base : Heap}
theorem it_lot {is : List Int} (b : Bnd is) {j : Nat} (hj : j < is.length) : itemB (lotR is) (j + 1) (is.getD j 0) = true := item_is b (Nat.le_refl _) (fun _ => lot_mem) hj
theorem ok_with (Z : ProgF K mg) (T : TxtP mg) (Y : ComF K mg) (U : LeaF K mg) : FnOk P w K mg base CX0 7 U.fWith U.dWith ["parting", "person"] (spWith K) := by
  have GPs : FnOk P w K mg base CX0 6 Z.fPs Z.dPs ["parting"] (spPs K) := ok_persons Z T
  have GNP := ok_np (P := P) (w := w) (base := base) Z T U
  have GCut : FnOk P w K mg base CX0 1 Y.fCut Y.dCut ["parting", "some"] (spCut K) := ok_cut Y.FCut T
  refine U.FWith.ok scWith (fun vs H Q E h => ?_) (fun cdv A outer s H vs Q E hr h => ?_)
  · obtain ⟨x, is, p, rfl, _⟩ := h
    rfl
  · obtain ⟨x, is, p, rfl, ⟨⟨a, bs, rfl, r, e⟩, b, l⟩, pos, p0, p1, k⟩ := h
    refine ⟨_, (pss_cons (ps_set (i := 2) scWith.nd rfl (.inl rfl) (pe_call GPs (hr.mono (by decide)) rfl Z.gPs Z.FPs.kp Z.bPs .nil pass0 (pa_cons (pv 0) pa_nil)))
      (pss_cons (ps_expr (pe_call GNP (hr.mono (by decide)) rfl U.gNP U.FNP.kp U.bNP .nil pass0 (pa_cons (pv 1) (pa_cons (pv 2) pa_nil))))
      (pss_cons (ps_if (pt_cmpR op_eq (pv 2) pe_int (nomark _)) (pss_one ps_never) pss_nil)
      (pss_one (ps_ret (pe_call GCut (hr.mono (by decide)) rfl Y.gCut Y.FCut.kp Y.bCut .nil pass0 (pa_cons (pv 0) (pa_cons (pe_lc (own := [("other", 3)]) (g := gName 3)  rfl scWith.nd (pi_range1 (by rfl) T.range (pa_cons (pv 2) pa_nil)) (blkOk_by (own := [("other", 3)]) (N := ["parting", "person", "persons", "other"]) (sc := defScope sWith) (by decide +kernel)) (fun _ _ _ _ _ => pg_name (i := 3) scWith.nd rfl (Or.inl rfl)) (fun _ _ _ _ _ => (pts_one (pt_cmpR op_ne (pv 3) (pv 1) (nomark _)))) (fun _ _ _ _ _ => (pv 3))) pa_nil)))))))), ?_⟩
    have bl : bs.length = is.length := by rw [← lot_len is, ← e, List.length_map]
    have sz := lot_sz b l
    have ip := lot_is b l
    rw [← e] at sz ip
    refine ⟨_, rfl, a, bs, rfl, r, sz, ip, fun H1 g1 => ⟨_, rfl, _, rfl, p, _, rfl, by omega, by omega, fun H2 g2 => ⟨_, rfl, rfl, _, rfl, ?_⟩⟩⟩
    rw [decide_eq_false (show ¬ L2.V.int (bs.length + 1) = L2.V.int 1 from fun z => by have := L2.V.int.inj z; omega)]
    refine iteF ⟨_, rfl, _, rfl, _, rfl, by omega, by omega, fun D hD => lc_rangeT (lo := 0) (n := ((bs.length : Int) + 1).toNat) (fun i => decide ((0 + (i : Nat) : Int) ≠ p)) (fun i => L2.V.int (0 + (i : Nat))) hD (by omega) (fun i H' Ry Rn il g ky kn => ?_) fun H3 g3 eD => ?_⟩
    · refine ⟨rfl, _, rfl, _, rfl, rfl, _, rfl, ?_⟩
      by_cases e3 : (0 + (i : Nat) : Int) = p
      · rw [decide_eq_true (show L2.V.int (0 + (i : Nat)) = L2.V.int p by rw [e3])]
        exact iteF (kn (decide_eq_false fun z => z e3) _ .refl)
      · rw [decide_eq_false (show ¬ L2.V.int (0 + (i : Nat)) = L2.V.int p from fun z => e3 (L2.V.int.inj z))]
        exact iteT ⟨_, rfl, ky (decide_eq_true e3) _ .refl⟩
    · have g13 := (g1.trans g2).trans g3
      rw [others_kept] at eD
      refine ⟨a, D, bs, _, rfl, r.keep g13, sz, SqL.of eD, by have := others_len ((bs.length : Int) + 1) p; omega, fun q cs H4 ec g4 _ nw _ top => ?_⟩
      exact k q cs H4 (by rw [ec, e, bl]) (g13.trans g4) ⟨top, fun z hz => nw.lists z hz⟩
theorem ok_cw (Z : ProgF K mg) (T : TxtP mg) (TC : Txt0 mg) (Y : ComF K mg) (U : LeaF K mg) : FnOk P w K mg base CX0 8 U.fCW U.dCW ["coming", "person"] (spCW K) := by
  have GPB : FnOk P w K mg base CX0 3 Y.fPB Y.dPB ["coming"] (spPB K) := ok_pb Z T Y
  have GWith := ok_with (P := P) (w := w) (base := base) Z T Y U
  have GComOf : FnOk P w K mg base CX0 7 Y.fComOf Y.dComOf ["parting"] (spComOf K) := ok_comOf Z T TC Y
  refine U.FCW.ok scCW (fun vs H Q E h => ?_) (fun cdv A outer s H vs Q E hr h => ?_)
  · obtain ⟨a, is, js, p, rfl, _⟩ := h
    rfl
  · obtain ⟨a, is, js, p, rfl, hS, b, l, pos, p0, p1, bj, lj, ecut, k⟩ := h
    refine ⟨_, (pss_one (ps_ret (pe_call GComOf (hr.mono (by decide)) rfl Y.gComOf Y.FComOf.kp Y.bComOf .nil pass0 (pa_cons (pe_call GWith (hr.mono (by decide)) rfl U.gWith U.FWith.kp U.bWith .nil pass0 (pa_cons (pe_call GPB (hr.mono (by decide)) rfl Y.gPB Y.FPB.kp Y.bPB .nil pass0 (pa_cons (pv 0) pa_nil)) (pa_cons (pv 1) pa_nil))) pa_nil)))), ?_⟩
    refine ⟨_, rfl, a, is, rfl, hS, isC_of b l, fun q cs H1 ec g1 _ rl _ => ⟨_, rfl, ?_⟩⟩
    rw [pb_lot] at ec
    refine ⟨.ref q, is, p, rfl, ⟨⟨q, cs, rfl, rl.rw, ec⟩, b, l⟩, pos, p0, p1, fun q2 cs2 H2 ec2 g2 rw2 => ?_⟩
    rw [ecut] at ec2
    have sz := lot_sz bj lj
    have ip := lot_is bj lj
    have bl : cs2.length = js.length := by rw [← lot_len js, ← ec2, List.length_map]
    rw [← ec2] at sz ip
    exact ⟨q2, cs2, js, rfl, rw2.rw, sz, ip, bl.symm, fun j hj => by rw [ec2]; exact it_lot bj hj, fun p3 H3 g3 _ e3 => k p3 _ ((g1.trans g2).trans g3) e3⟩
theorem ok_ent (Z : ProgF K mg) (T : TxtP mg) (TC : Txt0 mg) (Y : ComF K mg) (U : LeaF K mg) : FnOk P w K mg base CX0 8 U.fEnt U.dEnt ["parting", "node"] (spEnt K) := by
  have GPs : FnOk P w K mg base CX0 6 Z.fPs Z.dPs ["parting"] (spPs K) := ok_persons Z T
  have GNN := ok_nn (P := P) (w := w) (base := base) Z T U
  have GPB : FnOk P w K mg base CX0 3 Y.fPB Y.dPB ["coming"] (spPB K) := ok_pb Z T Y
  have GComOf : FnOk P w K mg base CX0 7 Y.fComOf Y.dComOf ["parting"] (spComOf K) := ok_comOf Z T TC Y
  refine U.FEnt.ok scEnt (fun vs H Q E h => ?_) (fun cdv A outer s H vs Q E hr h => ?_)
  · obtain ⟨x, is, d, rfl, _⟩ := h
    rfl
  · obtain ⟨x, is, d, rfl, ⟨⟨a, bs, rfl, r, e⟩, b, l⟩, l18, d0, d1, k⟩ := h
    refine ⟨_, (pss_cons (ps_set (i := 2) scEnt.nd rfl (.inl rfl) (pe_call GPs (hr.mono (by decide)) rfl Z.gPs Z.FPs.kp Z.bPs .nil pass0 (pa_cons (pv 0) pa_nil)))
      (pss_cons (ps_if (pt_cmpR op_eq (pv 2) (pe_glob (v := .int 20) rfl Z.gMost ⟨_, rfl⟩) (nomark _)) (pss_one ps_never) pss_nil)
      (pss_cons (ps_expr (pe_call GNN (hr.mono (by decide)) rfl U.gNN U.FNN.kp U.bNN .nil pass0 (pa_cons (pv 1) (pa_cons (pv 2) pa_nil))))
      (pss_one (ps_ret (pe_call GPB (hr.mono (by decide)) rfl Y.gPB Y.FPB.kp Y.bPB .nil pass0 (pa_cons (pe_op op_cat (pe_call GComOf (hr.mono (by decide)) rfl Y.gComOf Y.FComOf.kp Y.bComOf .nil pass0 (pa_cons (pv 0) pa_nil)) (pe_lst (pa_cons (pv 1) pa_nil))) pa_nil))))))), ?_⟩
    have bl : bs.length = is.length := by rw [← lot_len is, ← e, List.length_map]
    have sz := lot_sz b l
    have ip := lot_is b l
    rw [← e] at sz ip
    refine ⟨_, rfl, a, bs, rfl, r, sz, ip, fun H1 g1 => ⟨_, rfl, rfl, _, rfl, ?_⟩⟩
    rw [decide_eq_false (show ¬ L2.V.int (bs.length + 1) = L2.V.int 20 from fun z => by have := L2.V.int.inj z; omega)]
    refine iteF ⟨_, rfl, _, rfl, d, _, rfl, by omega, by omega, by omega, by omega, fun H2 g2 => ⟨_, rfl, a, bs, is, rfl, r.keep (g1.trans g2), sz, ip, bl.symm, fun j hj => by rw [e]; exact it_lot b hj, fun q H3 g3 _ e3 => ?_⟩⟩
    refine ⟨_, rfl, (by show 1 ≤ sizeLine; decide), fun z hz => ⟨q, z, _, _, rfl, rfl, Grows.new hz _ _ e3, upd_same, ?_, fun y hy => ?_⟩⟩
    · rw [List.length_map]
      show is.length + 1 ≤ sizeLine
      exact Nat.le_trans (show is.length + 1 ≤ 100 by omega) (by decide)
    · have gz : Grows H3 (upd H3 z (.lst [L2.V.int d])) := Grows.new hz
      have g4 := ((g1.trans g2).trans g3).trans (gz.trans (Grows.new (o := .lst (is.map L2.V.int ++ [L2.V.int d])) hy))
      have b2 : Bnd (is ++ [d]) := b.add d0 d1
      refine ⟨y, is ++ [d], rfl, SqL.of (by rw [upd_same, List.map_append]; rfl), isC_of b2 (by rw [List.length_append]; simp; omega), fun q5 cs H5 ec5 g5 _ rl _ => k _ _ _ (by rw [ec5, pb_lot]) (g4.trans g5) rl⟩
/-- the traced numbers, told -/
theorem gone_filter (is : List Int) (i : Nat) : (!(valV (laid (fun _ => true) (fun i => (Sum.inl (if is.getD i 0 < 0 then -(is.getD i 0) else is.getD i 0) : L2.Key)) (fun i => L2.V.bl true) is.length) (Sum.inl (1 + (i : Nat)))).isSome) = !(is.any fun x => decide (x.natAbs = i + 1)) := by
  rw [laid_some]
  congr 1
  rw [Bool.eq_iff_iff, List.any_eq_true, List.any_eq_true]
  constructor
  · rintro ⟨j, hj, h⟩
    have jl := List.mem_range.mp hj
    refine ⟨is[j], List.getElem_mem jl, ?_⟩
    have h := Sum.inl.inj (of_decide_eq_true h)
    rw [List.getD_eq_getElem?_getD, List.getElem?_eq_getElem jl] at h
    simp only [Option.getD_some] at h
    refine decide_eq_true ?_
    split at h <;> omega
  · rintro ⟨x, hx, h⟩
    obtain ⟨j, jl, rfl⟩ := List.getElem_of_mem hx
    refine ⟨j, List.mem_range.mpr jl, decide_eq_true ?_⟩
    have h := of_decide_eq_true h
    rw [List.getD_eq_getElem?_getD, List.getElem?_eq_getElem jl]
    simp only [Option.getD_some]
    congr 1
    split <;> omega
theorem ok_trc (Z : ProgF K mg) (T : TxtP mg) (TC : Txt0 mg) (Y : ComF K mg) (U : LeaF K mg) : FnOk P w K mg base CX0 8 U.fTrc U.dTrc ["parting"] (spTrc K) := by
  have GComOf : FnOk P w K mg base CX0 7 Y.fComOf Y.dComOf ["parting"] (spComOf K) := ok_comOf Z T TC Y
  refine U.FTrc.ok scTrc (fun vs H Q E h => ?_) (fun cdv A outer s H vs Q E hr h => ?_)
  · obtain ⟨x, is, rfl, _⟩ := h
    rfl
  · obtain ⟨x, is, rfl, ⟨⟨a, bs, rfl, r, e⟩, b, l⟩, k⟩ := h
    refine ⟨_, (pss_cons (ps_set (i := 1) scTrc.nd rfl (.inl rfl) (pe_call GComOf (hr.mono (by decide)) rfl Y.gComOf Y.FComOf.kp Y.bComOf .nil pass0 (pa_cons (pv 0) pa_nil)))
      (pss_cons (ps_if (pt_cmpR (op_eqD hr.units) (pv 1) (pe_lst pa_nil) (nomark _)) (pss_one (ps_ret (pe_lst (pa_cons pe_int pa_nil)))) pss_nil)
      (pss_cons (ps_set (i := 2) scTrc.nd rfl (.inr rfl) (pe_dc (own := [("item", 3)]) (g := gName 3) (tt := tYes) rfl scTrc.nd (pi_list (pv 1)) (blkOk_by (own := [("item", 3)]) (N := ["parting", "coming", "traced", "item", "person"]) (sc := defScope sTrc) (by decide +kernel)) (fun _ _ _ _ _ => pg_name (i := 3) scTrc.nd rfl (Or.inl rfl)) (fun _ _ _ _ _ => pts_nil) (fun _ _ _ _ _ => pe_callB call_abs (by rfl) TC.abs (by decide +kernel) (pa_cons (pv 3) pa_nil)) (fun _ _ _ _ _ => pe_bl)))
      (pss_one (ps_ret (pe_lc (own := [("person", 4)]) (g := gName 4)  rfl scTrc.nd (pi_range2 (by rfl) T.range (pa_cons pe_int (pa_cons (pe_op op_add (pe_callB call_len_seq (by rfl) T.len (by decide +kernel) (pa_cons (pv 1) pa_nil)) pe_int) pa_nil))) (blkOk_by (own := [("person", 4)]) (N := ["parting", "coming", "traced", "item", "person"]) (sc := defScope sTrc) (by decide +kernel)) (fun _ _ _ _ _ => pg_name (i := 4) scTrc.nd rfl (Or.inl rfl)) (fun _ _ _ _ _ => (pts_one (pt_cmp (pc_dnotin (hu_of hr) (pv 4) (pv 2))))) (fun _ _ _ _ _ => (pv 4)))))))), ?_⟩
    have bl : bs.length = is.length := by rw [← lot_len is, ← e, List.length_map]
    have sz := lot_sz b l
    have ip := lot_is b l
    rw [← e] at sz ip
    refine ⟨_, rfl, a, bs, is, rfl, r, sz, ip, bl.symm, fun j hj => by rw [e]; exact it_lot b hj, fun q H1 g1 _ e1 => ⟨_, rfl, (by show 0 ≤ sizeLine; decide), fun z hz => ?_⟩⟩
    have g2 : Grows H1 (upd H1 z (.lst [])) := Grows.new hz
    refine ⟨.list (is.map .int), .list [], .lst (SqL.of (g2 _ _ e1)) (rows_dp is), .lst (SqL.of upd_same) .nil, shaped_ints is, shaped_ints [], _, rfl, ?_⟩
    rw [show PyData.eqv (.list (is.map .int)) (.list []) = decide (is = []) from eqv_ints is []]
    have e2 := g2 _ _ e1
    have g12 := g1.trans g2
    unfold goneM at k
    by_cases em : is = []
    · rw [decide_eq_true em]
      rw [if_pos em] at k
      exact iteT ⟨(by show 1 ≤ sizeLine; decide), fun y hy => k y _ (g12.trans (Grows.new hy)) upd_same⟩
    · rw [decide_eq_false em]
      rw [if_neg em] at k
      refine iteF ⟨_, rfl, q, rfl, ⟨_, SqL.of e2⟩, fun D hD => dc_listM (K := K) (fun i => Sum.inl (if is.getD i 0 < 0 then -(is.getD i 0) else is.getD i 0)) (fun i => L2.V.bl true) hD (SqL.of e2) (by rw [List.length_map]; omega) (fun i x H' R hx sm kR => ?_) fun H3 g3 eP => ?_⟩
      · obtain rfl := at_map (d := 0) hx
        exact ⟨rfl, _, rfl, _, rfl, kR _ _ .refl .refl⟩
      · have e3 := g3 _ _ e2
        rw [List.length_map] at eP
        refine ⟨_, rfl, q, _, rfl, .inl (SqL.of e3), _, _, rfl, rfl, _, _, rfl, by rw [List.length_map]; omega, fun D2 hD2 => lc_rangeT (lo := 1) (fun i => !(valV (laid (fun _ => true) (fun i => (Sum.inl (if is.getD i 0 < 0 then -(is.getD i 0) else is.getD i 0) : L2.Key)) (fun i => L2.V.bl true) is.length) (Sum.inl (1 + (i : Nat)))).isSome) (fun i => L2.V.int (1 + (i : Nat))) hD2 (by rw [List.length_map]; omega) (fun i H' Ry Rn il sm ky kn => ?_) fun H4 g4 e4 => ?_⟩
        · refine ⟨rfl, _, rfl, _, rfl, D, _, rfl, DGet.k (k := Sum.inl (1 + (i : Nat))) (sm _ _ eP), _, rfl, ?_⟩
          cases eb : (valV (laid (fun _ => true) (fun i => (Sum.inl (if is.getD i 0 < 0 then -(is.getD i 0) else is.getD i 0) : L2.Key)) (fun i => L2.V.bl true) is.length) (Sum.inl (1 + (i : Nat)))).isSome with
          | true => exact iteF (kn (by rw [eb]; rfl) _ .refl)
          | false => exact iteT ⟨_, rfl, ky (by rw [eb]; rfl) _ .refl⟩
        · refine k D2 H4 ((g12.trans g3).trans g4) ?_
          rw [e4, List.length_map, show ((is.length : Int) + 1 - 1).toNat = is.length by omega]
          unfold kept
          rw [List.map_map]
          congr 3
          exact List.filter_congr fun i _ => gone_filter is i
theorem ok_isT (Z : ProgF K mg) (T : TxtP mg) (TC : Txt0 mg) (Y : ComF K mg) (U : LeaF K mg) : FnOk P w K mg base CX0 9 U.fIsT U.dIsT ["parting", "person"] (spIsT K) := by
  have GPs : FnOk P w K mg base CX0 6 Z.fPs Z.dPs ["parting"] (spPs K) := ok_persons Z T
  have GNP := ok_np (P := P) (w := w) (base := base) Z T U
  have GTrc := ok_trc (P := P) (w := w) (base := base) Z T TC Y U
  refine U.FIsT.ok scIsT (fun vs H Q E h => ?_) (fun cdv A outer s H vs Q E hr h => ?_)
  · obtain ⟨x, is, p, rfl, _⟩ := h
    rfl
  · obtain ⟨x, is, p, rfl, hP, p0, p1, k⟩ := h
    have hP0 := hP
    obtain ⟨⟨a, bs, rfl, r, e⟩, b, l⟩ := hP
    refine ⟨_, (pss_cons (ps_expr (pe_call GNP (hr.mono (by decide)) rfl U.gNP U.FNP.kp U.bNP .nil pass0 (pa_cons (pv 1) (pa_cons (pe_call GPs (hr.mono (by decide)) rfl Z.gPs Z.FPs.kp Z.bPs .nil pass0 (pa_cons (pv 0) pa_nil)) pa_nil))))
      (pss_one (ps_ret (pe_cmpR op_in_seq (pv 1) (pe_call GTrc (hr.mono (by decide)) rfl U.gTrc U.FTrc.kp U.bTrc .nil pass0 (pa_cons (pv 0) pa_nil)) (by rfl))))), ?_⟩
    have bl : bs.length = is.length := by rw [← lot_len is, ← e, List.length_map]
    have sz := lot_sz b l
    have ip := lot_is b l
    rw [← e] at sz ip
    refine ⟨_, rfl, _, rfl, a, bs, rfl, r, sz, ip, fun H1 g1 => ⟨p, _, rfl, by omega, by omega, fun H2 g2 => ⟨_, rfl, _, rfl, _, is, rfl, hP0.keep (g1.trans g2), fun q H3 g3 e3 => ?_⟩⟩⟩
    refine ⟨q, _, rfl, .inl (SqL.of e3), rfl, flat_ints _, ?_⟩
    have z : inV (V.int p) ((goneM is).map V.int) = decide (p ∈ goneM is) := by
      generalize goneM is = js
      show (js.map V.int).any _ = _
      rw [Bool.eq_iff_iff, List.any_map, List.any_eq_true, decide_eq_true_eq]
      constructor
      · rintro ⟨y, hy, e⟩
        have e := of_decide_eq_true e
        rw [← e]
        exact hy
      · exact fun hy => ⟨p, hy, decide_eq_true rfl⟩
    show Q (V.bl (inV (V.int p) ((goneM is).map V.int))) H3
    rw [z]
    exact k _ ((g1.trans g2).trans g3)
end
end K46

namespace K46
open PySem PySem.Spec PyProof.Rows L2 SortR LcM RepA
abbrev sRowL : Stmt := top 50
abbrev sByL : Stmt := top 51
abbrev sCutL : Stmt := top 52
abbrev sMakerL : Stmt := top 53
abbrev sComingL : Stmt := top 54
abbrev sLowL : Stmt := top 55
abbrev sGoneL : Stmt := top 56
abbrev sRightL : Stmt := top 57
abbrev sCountsL : Stmt := top 58
abbrev sLaw : Stmt := top 59
/-- the law's own defs, where they stand -/
structure LawG (K : PySem.W.Frag) (mg : Str → Option Value) where
  (fBag fStir fDraw fAlike fRow fBy fCutL fMaker fComing fLow fGone fRight fCounts : Addr)
  (dBag dStir dDraw dAlike dRow dBy dCutL dMaker dComing dLow dGone dRight dCounts : FuncData)
  FBag : Fun K "_law_bag" "_law_bag" sBag fBag dBag
  FStir : Fun K "_law_stirred" "_law_stirred" sStir fStir dStir
  FDraw : Fun K "_law_draw" "_law_draw" sDraw fDraw dDraw
  FAlike : Fun K "_law_alike" "_law_alike" sAlike fAlike dAlike
  FRow : Fun K "_law_row" "_law_row" sRowL fRow dRow
  FBy : Fun K "_law_by" "_law_by" sByL fBy dBy
  FCutL : Fun K "_law_cut" "_law_cut" sCutL fCutL dCutL
  FMaker : Fun K "_law_maker" "_law_maker" sMakerL fMaker dMaker
  FComing : Fun K "_law_coming" "_law_coming" sComingL fComing dComing
  FLow : Fun K "_law_lowest" "_law_lowest" sLowL fLow dLow
  FGone : Fun K "_law_gone" "_law_gone" sGoneL fGone dGone
  FRight : Fun K "_law_right" "_law_right" sRightL fRight dRight
  FCounts : Fun K "_law_counts" "_law_counts" sCountsL fCounts dCounts
  gBag : mg "_law_bag" = some (.ref fBag)
  gStir : mg "_law_stirred" = some (.ref fStir)
  gDraw : mg "_law_draw" = some (.ref fDraw)
  gAlike : mg "_law_alike" = some (.ref fAlike)
  gRow : mg "_law_row" = some (.ref fRow)
  gBy : mg "_law_by" = some (.ref fBy)
  gCutL : mg "_law_cut" = some (.ref fCutL)
  gMaker : mg "_law_maker" = some (.ref fMaker)
  gComing : mg "_law_coming" = some (.ref fComing)
  gLow : mg "_law_lowest" = some (.ref fLow)
  gGone : mg "_law_gone" = some (.ref fGone)
  gRight : mg "_law_right" = some (.ref fRight)
  gCounts : mg "_law_counts" = some (.ref fCounts)
  bBag : Binds K dBag ["script"] []
  bStir : Binds K dStir ["bag", "wide"] []
  bDraw : Binds K dDraw ["bag", "wide"] []
  bAlike : Binds K dAlike ["found", "due"] []
  bRow : Binds K dRow ["bag", "wide"] []
  bBy : Binds K dBy ["row"] []
  bCutL : Binds K dCutL ["lot", "kept"] []
  bMaker : Binds K dMaker ["lot", "one"] []
  bComing : Binds K dComing ["lot"] []
  bLow : Binds K dLow ["top", "bottom"] []
  bGone : Binds K dGone ["row"] []
  bRight : Binds K dRight ["bag", "wide", "low"] []
  bCounts : Binds K dCounts ["wide"] []
section
variable {P : Program} {w : World} {K : PySem.W.Frag} {mg : Str → Option Value} {base : Heap}
theorem LawG.draw (W : LawG K mg) (T0 : Txt0 mg) : FnOk P w K mg base CX0 2 W.fDraw W.dDraw ["bag", "wide"] spStir := ok_draw W.FDraw ⟨T0, W.gStir⟩ W.FStir W.bStir
end
end K46

namespace K46
open PySem PySem.Spec PyProof.Rows L2 LcM
/-- the bag, with the place of its cells -/
structure BagB (H : Hp) (a b : Addr) : Prop where
  ex : ∃ (i : Nat) (t s k : Int) (cs : List Int), H a = some (bagL b i t s k) ∧ H b = some (.lst (cs.map V.int)) ∧ b ≠ a ∧ i ≤ cs.length ∧ cs.length ≤ 63 ∧ 0 ≤ t ∧ 0 ≤ s ∧ s < 2147483647 ∧ ∀ c ∈ cs, 0 ≤ c
theorem Bag.b {H : Hp} {a : Addr} (h : Bag H a) : ∃ b, BagB H a b := by
  obtain ⟨b, r⟩ := h.ex
  exact ⟨b, ⟨r⟩⟩
theorem BagB.keepG {H H' : Hp} {a b : Addr} (h : BagB H a b) (g : Grows H H') : BagB H' a b := by
  obtain ⟨i, t, s, k, cs, h1, h2, r⟩ := h
  exact ⟨i, t, s, k, cs, g _ _ h1, g _ _ h2, r⟩
theorem BagB.at {H : Hp} {a b z : Addr} {o : HO} (h : BagB H a b) (na : z ≠ a) (nb : z ≠ b) : BagB (upd H z o) a b := by
  obtain ⟨i, t, s, k, cs, h1, h2, r⟩ := h
  exact ⟨i, t, s, k, cs, by rw [upd_ne na.symm]; exact h1, by rw [upd_ne nb.symm]; exact h2, r⟩
theorem BagB.na {H : Hp} {a b z : Addr} (h : BagB H a b) (hz : H z = none) : z ≠ a ∧ z ≠ b := by
  obtain ⟨i, t, s, k, cs, h1, h2, r⟩ := h
  exact ⟨fun e => (by rw [e, h1] at hz; cases hz), fun e => (by rw [e, h2] at hz; cases hz)⟩
def spStirB : Sp := fun vs H Q _ => ∃ (a b : Addr) (w : Int), vs = [.ref a, .int w] ∧ BagB H a b ∧ 0 < w ∧ w.natAbs.log2 < 200 ∧
  ∀ (v : Int) (H' : Hp), 0 ≤ v → v < w → BagB H' a b → But a H H' → Q (.int v) H'
section
variable {P : Program} {w : World} {K : PySem.W.Frag} {mg : Str → Option Value} {base : Heap}
theorem ok_stirB {f : Addr} {fd : FuncData} (F : Fun K "_law_stirred" "_law_stirred" sStir f fd) (T : Txt0 mg) : FnOk P w K mg base CX0 1 f fd ["bag", "wide"] spStirB := by
  refine F.ok scStir (fun vs H Q E h => ?_) (fun cdv A outer s H vs Q E hr h => ?_)
  · obtain ⟨a, b, w, rfl, _⟩ := h
    rfl
  · obtain ⟨a, b, w, rfl, hB, hw, hw2, k⟩ := h
    refine ⟨_, pss_cons (ps_set (i := 2) scStir.nd rfl (.inl rfl) pe_int)
      (pss_cons (ps_for PassesOwn.never rfl (pi_range1 (by rfl) T.range (pa_cons (pe_op op_add pe_int (pe_op op_fdiv (pe_bits (pv 1)) pe_int)) pa_nil))
          (pg_name (i := 3) scStir.nd rfl (.inl rfl))
        (pss_cons (ps_asg (pe_op op_add (pe_ix ix_list (pv 0) pe_int (fun _ _ => rfl)) pe_int) (pg_sub (pv 0) pe_int set_list))
        (pss_cons (ps_set (i := 4) scStir.nd rfl (.inl rfl)
          (pe_op op_add (pe_op op_add (pe_op op_add (pe_op op_powW (pe_ix ix_list (pv 0) pe_int (fun _ _ => rfl)) pe_int) (pe_op op_mul pe_int (pe_ix ix_list (pv 0) pe_int (fun _ _ => rfl)))) (pe_op op_mul pe_int (pe_ix ix_list (pv 0) pe_int (fun _ _ => rfl)))) pe_int))
        (pss_cons (ps_asg (pe_op op_mod (pe_callTy call_int1 (by rfl) T.int boot_int (pa_cons (pv 4) pa_nil)) pe_int) (pg_sub (pv 0) pe_int set_list))
        (pss_one (ps_set (i := 2) scStir.nd rfl (.inl rfl) (pe_op op_add (pe_op op_mul (pv 2) pe_int) (pe_op op_fdiv (pe_ix ix_list (pv 0) pe_int (fun _ _ => rfl)) pe_int))))))))
      (pss_one (ps_ret (pe_op op_mod (pe_callTy call_int1 (by rfl) T.int boot_int (pa_cons (pv 2) pa_nil)) (pv 1))))), ?_⟩
    have hbw : Builtin.Int.intBits w ≤ 200 := by
      unfold Builtin.Int.intBits
      split <;> omega
    refine ⟨_, rfl, w, rfl, _, _, rfl, rfl, ⟨by decide, by decide⟩, _, _, rfl, rfl, _, rfl, by omega, by omega,
      for_range (fun i σ H' => ∃ (fnd : Int) (kk mm : Option V), σ = [some (.ref a), some (.int w), some (.int fnd), kk, mm] ∧ 0 ≤ fnd ∧ BagB H' a b ∧ But a H H')
      ⟨0, none, none, rfl, Int.le_refl _, hB, .refl⟩ ?_ ?_⟩
    · rintro i σ H' _ ⟨fnd, kk, mm, rfl, hf, ⟨ix, t, sd, kn, cs, h1, h2, nb, hi, hc, ht, hs, hs2, hcs⟩, hbut⟩
      have sz : (Builtin.Int.intBits sd : Int) * 3 ≤ 2 ^ 27 := by
        have := intBits_le_64 (k := sd) (by omega) (by omega)
        omega
      -- bag[4] = bag[4] + 1
      refine ⟨_, rfl, a, _, _, _, rfl, rfl, SqL.of h1, rfl, _, _, rfl, rfl, _, rfl, a, _, _, 4, rfl, rfl, h1, rfl, ?_⟩
      -- mixed
      refine ⟨_, rfl, a, _, _, _, rfl, rfl, SqL.of upd_same, rfl, _, _, rfl, rfl, ⟨by decide, sz⟩, ?_⟩
      refine ⟨_, rfl, a, _, _, _, rfl, rfl, SqL.of upd_same, rfl, _, _, rfl, rfl, .inl ⟨by decide, by decide⟩, _, _, rfl, rfl, ?_⟩
      refine ⟨_, rfl, a, _, _, _, rfl, rfl, SqL.of upd_same, rfl, _, _, rfl, rfl, .inl ⟨by decide, by decide⟩, _, _, rfl, rfl, _, _, rfl, rfl, ?_⟩
      obtain ⟨m, hm⟩ : ∃ m : Int, m = sd ^ (3 : Int).toNat + 69621 * sd + 1031 * (kn + 1) + 1 := ⟨_, rfl⟩
      -- bag[3] = int(mixed) % 2147483647
      refine ⟨_, rfl, .inl ⟨_, rfl, _, _, rfl, rfl, (by decide : (0 : Int) < 2147483647), _, rfl, a, _, _, 3, rfl, rfl, upd_same, rfl, ?_⟩⟩
      -- found
      refine ⟨_, rfl, _, _, rfl, rfl, .inr ⟨by decide, by decide⟩, _, rfl, a, _, _, _, rfl, rfl, SqL.of upd_same, rfl, _, _, rfl, rfl, ⟨by decide, by decide⟩, _, _, rfl, rfl, ?_⟩
      have g0 : 0 ≤ m % 2147483647 := Int.emod_nonneg _ (by decide)
      have g1 : m % 2147483647 < 2147483647 := Int.emod_lt_of_pos _ (by decide)
      refine ⟨fnd * 134217728 + m % 2147483647 / 16, _, _, (by rw [hm]; rfl), by omega, ⟨ix, t, m % 2147483647, kn + 1, cs, (by rw [hm]; exact upd_same), ?_, nb, hi, hc, ht, g0, g1, hcs⟩, hbut.trans (But.upd.trans But.upd)⟩
      rw [upd_ne nb, upd_ne nb]
      exact h2
    · rintro σ H' ⟨fnd, kk, mm, rfl, hf, hB', hbut⟩
      refine ⟨_, rfl, .inl ⟨_, rfl, _, rfl, _, _, rfl, rfl, hw, ?_⟩⟩
      exact k _ _ (Int.emod_nonneg _ (by omega)) (Int.emod_lt_of_pos _ hw) hB' hbut
theorem ok_drawB {f fS : Addr} {fd fdS : FuncData} (F : Fun K "_law_draw" "_law_draw" sDraw f fd) (T : Txt1 K mg fS) (FS : Fun K "_law_stirred" "_law_stirred" sStir fS fdS) (bS : Binds K fdS ["bag", "wide"] []) : FnOk P w K mg base CX0 2 f fd ["bag", "wide"] spStirB := by
  have GS : FnOk P w K mg base CX0 1 fS fdS ["bag", "wide"] spStirB := ok_stirB FS T.toTxt0
  refine F.ok scDraw (fun vs H Q E h => ?_) (fun cdv A outer s H vs Q E hr h => ?_)
  · obtain ⟨a, b, w, rfl, _⟩ := h
    rfl
  · obtain ⟨a, b, w, rfl, hB, hw, hw2, k⟩ := h
    refine ⟨_, pss_cons (ps_if (PW.pt (pw_and (pt_cmpR op_eq (pe_ix ix_list (pv 0) pe_int (fun _ _ => rfl)) pe_int (nomark _)) (pw_and1 (pt_cmpR op_lt (pe_ix ix_list (pv 0) pe_int (fun _ _ => rfl)) (pe_callB call_len_seq (by rfl) T.len boot_len (pa_cons (pe_ix ix_list (pv 0) pe_int (fun _ _ => rfl)) pa_nil)) (nomark _)))))
        (pss_cons (ps_asg (pe_ix ix_list (pe_ix ix_list (pv 0) pe_int (fun _ _ => rfl)) (pe_ix ix_list (pv 0) pe_int (fun _ _ => rfl)) (fun _ _ => rfl)) (pg_sub (pv 0) pe_int set_list))
          (pss_one (ps_asg (pe_op op_add (pe_ix ix_list (pv 0) pe_int (fun _ _ => rfl)) pe_int) (pg_sub (pv 0) pe_int set_list))))
        (pss_one (ps_if (pt_cmpR op_eq (pe_ix ix_list (pv 0) pe_int (fun _ _ => rfl)) pe_int (nomark _))
          (pss_one (ps_ret (pe_call GS hr rfl T.gS FS.kp bS .nil pass0 (pa_cons (pv 0) (pa_cons (pv 1) pa_nil)))))
          pss_nil)))
      (pss_cons (ps_set (i := 2) scDraw.nd rfl (.inl rfl) (pe_op op_mod (pe_callTy call_int1 (by rfl) T.int boot_int (pa_cons (pe_ix ix_list (pv 0) pe_int (fun _ _ => rfl)) pa_nil)) (pv 1)))
      (pss_cons (ps_asg (pe_op op_fdivW (pe_ix ix_list (pv 0) pe_int (fun _ _ => rfl)) (pv 1)) (pg_sub (pv 0) pe_int set_list))
      (pss_one (ps_ret (pv 2))))), ?_⟩
    obtain ⟨ix, t, sd, kn, cs, h1, h2, nb, hi, hc, ht, hs, hs2, hcs⟩ := id hB
    -- the last three statements, from any bag
    have last : ∀ (H' : Hp) (ix : Nat) (t kn : Int), H' a = some (bagL b ix t sd kn) → H' b = some (.lst (cs.map V.int)) → ix ≤ cs.length → 0 ≤ t → But a H H' →
        ∃ v : Int, ∃ H2 : Hp, v = t % w ∧ H2 = upd H' a (bagL b ix (t / w) sd kn) ∧ Q (.int v) H2 := fun H' ix t kn g1 g2 hi ht hb =>
      ⟨_, _, rfl, rfl, k _ _ (Int.emod_nonneg _ (by omega)) (Int.emod_lt_of_pos _ hw)
        ⟨ix, t / w, sd, kn, cs, upd_same, (by rw [upd_ne nb]; exact g2), nb, hi, hc, Int.ediv_nonneg ht (by omega), hs, hs2, hcs⟩ (hb.trans But.upd)⟩
    have fin : ∀ (H' : Hp) (ix : Nat) (t kn : Int), H' a = some (bagL b ix t sd kn) → H' b = some (.lst (cs.map V.int)) → ix ≤ cs.length → 0 ≤ t → But a H H' →
        tSeq (tAsg (tOp (rI (fun _ j => 0 < j) fun i j => V.int (i % j)) (tCB (fun xs H Q => (∃ i, xs = [V.int i] ∧ Q (.int i) H) ∨ ∃ k, xs = [V.bl k] ∧ Q (.int (if k then 1 else 0)) H) (tCons (tOp (rIxL K) (tVar 0) (tC (.int 2))) tNil)) (tVar 1)) (gName 2))
          (tSeq (tAsg (tOp (rI CDivW fun i j => V.int (i / j)) (tOp (rIxL K) (tVar 0) (tC (.int 2))) (tVar 1)) (gSub (tVar 0) (tC (.int 2)) rSetL)) (tRet (tVar 2)))
          { nx := fun _ H' => Q .non H', rt := Q } [some (.ref a), some (.int w), none] H' := fun H' ix t kn g1 g2 hi ht hb => by
      refine ⟨_, rfl, a, _, _, _, rfl, rfl, SqL.of g1, rfl, .inl ⟨_, rfl, _, rfl, _, _, rfl, rfl, hw, ?_⟩⟩
      refine ⟨_, rfl, a, _, _, _, rfl, rfl, SqL.of g1, rfl, _, rfl, _, _, rfl, rfl, ⟨hw, by omega⟩, _, rfl, a, _, _, 2, rfl, rfl, g1, rfl, _, rfl, ?_⟩
      obtain ⟨v, H2, rfl, rfl, q⟩ := last H' ix t kn g1 g2 hi ht hb
      exact q
    refine ⟨_, rfl, a, _, _, _, rfl, rfl, SqL.of h1, rfl, rfl, _, rfl, ?_⟩
    refine ite2 (fun e0 => ?_) (fun e0 => ?_)
    · obtain rfl := dec_of e0
      refine ⟨_, rfl, a, _, _, _, rfl, rfl, SqL.of h1, rfl, _, rfl, a, _, _, _, rfl, rfl, SqL.of h1, rfl, b, _, rfl, .inl (SqL.of h2), _, _, rfl, rfl, _, rfl, ?_⟩
      refine ite2 (fun e1 => ?_) (fun e1 => ?_)
      · have lt : ix < cs.length := by
          have := of_decide_eq_true e1
          rw [List.length_map] at this
          omega
        have g : (cs.map V.int)[ix]? = some (.int cs[ix]) := by
          rw [List.getElem?_map, List.getElem?_eq_getElem lt]
          rfl
        refine ⟨_, rfl, a, _, _, _, rfl, rfl, SqL.of h1, rfl, _, rfl, a, _, _, _, rfl, rfl, SqL.of h1, rfl, b, _, _, _, rfl, rfl, SqL.of h2, atI_nat g, _, rfl, a, _, _, 2, rfl, rfl, h1, rfl, ?_⟩
        refine ⟨_, rfl, a, _, _, _, rfl, rfl, SqL.of upd_same, rfl, _, _, rfl, rfl, _, rfl, a, _, _, 1, rfl, rfl, upd_same, rfl, ?_⟩
        refine fin _ (ix + 1) cs[ix] kn upd_same (by rw [upd_ne nb, upd_ne nb]; exact h2) (by omega) (hcs _ (List.getElem_mem lt)) (But.upd.trans But.upd)
      · refine ⟨_, rfl, a, _, _, _, rfl, rfl, SqL.of h1, rfl, rfl, _, rfl, iteT ?_⟩
        exact ⟨_, rfl, _, rfl, a, b, w, rfl, hB, hw, hw2, k⟩
    · refine iteF ?_
      refine ⟨_, rfl, a, _, _, _, rfl, rfl, SqL.of h1, rfl, rfl, _, rfl, ?_⟩
      refine ite2 (fun e1 => absurd e1 e0) (fun _ => ?_)
      exact fin H ix t kn h1 h2 hi ht .refl
theorem LawG.draw2 (W : LawG K mg) (T0 : Txt0 mg) : FnOk P w K mg base CX0 2 W.fDraw W.dDraw ["bag", "wide"] spStirB := ok_drawB W.FDraw ⟨T0, W.gStir⟩ W.FStir W.bStir
end
end K46

namespace K46
open PySem PySem.Spec PyProof.Rows L2 LcM
/-- an int or a bool -/
def Sc (x : L2.V) : Prop := (∃ i : Int, x = .int i) ∨ ∃ b : Bool, x = .bl b
theorem Sc.scal {x : L2.V} (h : Sc x) : scal x x = true := by
  rcases h with ⟨i, rfl⟩ | ⟨b, rfl⟩ <;> rfl
def scT : L2.V → Value
  | .int _ => .type "int"
  | _ => .type "bool"
def isB : L2.V → Bool
  | .bl _ => true
  | _ => false
theorem Sc.ty {K : PySem.W.Frag} {H : Hp} {x : L2.V} (h : Sc x) : TyX K H x (scT x) := by
  rcases h with ⟨i, rfl⟩ | ⟨b, rfl⟩
  · exact .base (.int i)
  · exact .base (.bl b)
theorem Sc.kSeq {K : PySem.W.Frag} {x : L2.V} (h : Sc x) : PySem.W.kitAny K (scT x) [.type "list", .type "tuple"] = some false := by
  rcases h with ⟨i, rfl⟩ | ⟨b, rfl⟩
  · exact kitAny_cons (b := false) (kit_ty (by decide +kernel)) (fun _ => kitAny_cons (b := false) (kit_ty (by decide +kernel)) (fun _ => kitAny_nil) (fun z => nomatch z)) (fun z => nomatch z)
  · exact kitAny_cons (b := false) (kit_ty (by decide +kernel)) (fun _ => kitAny_cons (b := false) (kit_ty (by decide +kernel)) (fun _ => kitAny_nil) (fun z => nomatch z)) (fun z => nomatch z)
theorem kList {K : PySem.W.Frag} : PySem.W.kitAny K (.type "list") [.type "list", .type "tuple"] = some true := kitAny_cons (b := true) (kit_ty (by decide +kernel)) (fun z => nomatch z) (fun _ => rfl)
theorem kTup {K : PySem.W.Frag} : PySem.W.kitAny K (.type "tuple") [.type "list", .type "tuple"] = some true := kitAny_cons (b := false) (kit_ty (by decide +kernel)) (fun _ => kitAny_cons (b := true) (kit_ty (by decide +kernel)) (fun z => nomatch z) (fun _ => rfl)) (fun z => nomatch z)
theorem Sc.kB {K : PySem.W.Frag} {x : L2.V} (h : Sc x) : PySem.W.kitOne K (scT x) (.type "bool") = some (isB x) := by
  rcases h with ⟨i, rfl⟩ | ⟨b, rfl⟩
  · exact kit_ty (show kitB "int" "bool" = some false by decide +kernel)
  · exact kit_ty (show kitB "bool" "bool" = some true by decide +kernel)
theorem Sc.kI {K : PySem.W.Frag} {x : L2.V} (h : Sc x) : PySem.W.kitOne K (scT x) (.type "int") = some true := by
  rcases h with ⟨i, rfl⟩ | ⟨b, rfl⟩
  · exact kit_ty (show kitB "int" "int" = some true by decide +kernel)
  · exact kit_ty (show kitB "bool" "int" = some true by decide +kernel)
theorem Sc.kS {K : PySem.W.Frag} {x : L2.V} (h : Sc x) : PySem.W.kitOne K (scT x) (.type "str") = some false := by
  rcases h with ⟨i, rfl⟩ | ⟨b, rfl⟩
  · exact kit_ty (show kitB "int" "str" = some false by decide +kernel)
  · exact kit_ty (show kitB "bool" "str" = some false by decide +kernel)
/-- a[i] of a list or a tuple -/
def rIxB (K : PySem.W.Frag) : R2 := fun x y H Q => rIxL K x y H Q ∨ rIxT K x y H Q
theorem ix_both {X : Cx} : IxR X (rIxB X.K) := fun value slice pins s σ H x y v u Q I rx ry h hs => h.elim (fun h => ix_list value slice pins s σ H x y v u Q I rx ry h hs) fun h => ix_tup value slice pins s σ H x y v u Q I rx ry h hs
/-- the same data, to a depth -/
def Alk (H : Hp) : Nat → V → V → Prop
  | 0, x, y => Sc x ∧ x = y
  | n + 1, x, y => (Sc x ∧ x = y) ∨ ∃ (a b : Addr) (xs ys : List V), x = .ref a ∧ y = .ref b ∧ ((H a = some (.lst xs) ∧ H b = some (.lst ys)) ∨ (H a = some (.tup xs) ∧ H b = some (.tup ys))) ∧ ys.length = xs.length ∧ xs.length ≤ 100 ∧
      ∀ (i : Nat) (x y : V), xs[i]? = some x → ys[i]? = some y → Alk H n x y
theorem Alk.keep {H H' : Hp} (g : Grows H H') : ∀ {n : Nat} {x y : V}, Alk H n x y → Alk H' n x y
  | 0, _, _, h => h
  | n + 1, x, y, .inl h => .inl h
  | n + 1, x, y, .inr ⟨a, b, xs, ys, ex, ey, h, l, l2, k⟩ => .inr ⟨a, b, xs, ys, ex, ey, h.imp (fun z => ⟨g _ _ z.1, g _ _ z.2⟩) fun z => ⟨g _ _ z.1, g _ _ z.2⟩, l, l2, fun i x y h1 h2 => Alk.keep g (k i x y h1 h2)⟩
def spAlk (n : Nat) : Sp := fun vs H Q _ => ∃ x y : V, vs = [x, y] ∧ Alk H n x y ∧ ∀ H', Grows H H' → Q (.bl true) H'
theorem sameU {H : Hp} {p : Addr} {o : HO} (h : H p = none) : Grows H (upd H p o) := fun b x e => by
  rw [upd_ne (ne_of_none e h)]
  exact e
theorem iteP {c A B : Prop} [Decidable c] (hc : c) (h : A) : if (decide c) = true then A else B := by
  rw [decide_eq_true hc]
  exact iteT h
structure TxtA (mg : Str → Option Value) (fA : Addr) : Prop extends Txt0 mg where
  isi : mg "isinstance" = none
  lst : mg "list" = none
  tup : mg "tuple" = none
  all : mg "all" = none
  bool : mg "bool" = none
  str : mg "str" = none
  gA : mg "_law_alike" = some (.ref fA)
section
variable {P : Program} {w : World} {K : PySem.W.Frag} {mg : Str → Option Value} {base : Heap}
theorem scAlike : FnScope ["found", "due", "k"] ["found", "due"] (defScope sAlike) := ⟨rfl, rfl, rfl, by decide +kernel, rfl, by decide +kernel, by decide +kernel⟩
theorem alike_body {f : Addr} {fd : FuncData} {n : Nat} {sp0 sp : Sp} (F : Fun K "_law_alike" "_law_alike" sAlike f fd) (T : TxtA mg f) (bA : Binds K fd ["found", "due"] []) (G : FnOk P w K mg base CX0 n f fd ["found", "due"] sp0)
    (len : ∀ vs H Q E, sp vs H Q E → vs.length = 2) (hsp : ∀ vs H Q E, sp vs H Q E → (∃ x : V, vs = [x, x] ∧ Sc x ∧ ∀ H', Grows H H' → Q (.bl true) H') ∨
      ∃ (a b : Addr) (xs ys : List V), vs = [.ref a, .ref b] ∧ ((H a = some (.lst xs) ∧ H b = some (.lst ys)) ∨ (H a = some (.tup xs) ∧ H b = some (.tup ys))) ∧ ys.length = xs.length ∧ xs.length ≤ 100 ∧ (∀ H', Grows H H' → Q (.bl true) H') ∧
        ∀ (i : Nat) (x y : V) (H' : Hp) (Q' : VK), xs[i]? = some x → ys[i]? = some y → Grows H H' → (∀ H2, Grows H' H2 → Q' (.bl true) H2) → sp0 [x, y] H' Q' E0) :
    FnOk P w K mg base CX0 (n + 1) f fd ["found", "due"] sp := by
  refine F.ok scAlike len (fun cdv A outer s H vs Q E hr h => ?_)
  refine ⟨_, (pss_cons (ps_if (pt_val (pe_callB call_isiT (by rfl) T.isi (by decide +kernel) (pa_cons (pv 1) (pa_cons (pe_tup (pa_cons (pe_bltn (v := .ty "list") (u := .type "list") (by rfl) T.lst (by decide +kernel) rfl) (pa_cons (pe_bltn (v := .ty "tuple") (u := .type "tuple") (by rfl) T.tup (by decide +kernel) rfl) pa_nil))) pa_nil))))
      (pss_cons (ps_if (PW.pt (pw_or (pt_not (pt_val (pe_callB call_isiT (by rfl) T.isi (by decide +kernel) (pa_cons (pv 0) (pa_cons (pe_tup (pa_cons (pe_bltn (v := .ty "list") (u := .type "list") (by rfl) T.lst (by decide +kernel) rfl) (pa_cons (pe_bltn (v := .ty "tuple") (u := .type "tuple") (by rfl) T.tup (by decide +kernel) rfl) pa_nil))) pa_nil))))) (pw_or1 (pt_cmpR op_ne (pe_callB call_isi (by rfl) T.isi (by decide +kernel) (pa_cons (pv 0) (pa_cons (pe_bltn (v := .ty "list") (u := .type "list") (by rfl) T.lst (by decide +kernel) rfl) pa_nil))) (pe_callB call_isi (by rfl) T.isi (by decide +kernel) (pa_cons (pv 1) (pa_cons (pe_bltn (v := .ty "list") (u := .type "list") (by rfl) T.lst (by decide +kernel) rfl) pa_nil))) (nomark _))))) (pss_one (ps_ret pe_bl)) pss_nil)
      (pss_cons (ps_if (pt_cmpR op_ne (pe_callB call_len_seq (by rfl) T.len boot_len (pa_cons (pv 0) pa_nil)) (pe_callB call_len_seq (by rfl) T.len boot_len (pa_cons (pv 1) pa_nil)) (nomark _)) (pss_one (ps_ret pe_bl)) pss_nil)
      (pss_one (ps_ret (pe_callB (cr_all rfl) (by rfl) T.all (by decide +kernel) (pa_cons (pe_lc (own := [("k", 2)]) (g := gName 2) (tt := tYes) rfl scAlike.nd (pi_range1 (by rfl) T.range (pa_cons (pe_callB call_len_seq (by rfl) T.len boot_len (pa_cons (pv 1) pa_nil)) pa_nil)) (blkOk_by (N := ["found", "due", "k"]) (sc := defScope sAlike) (by decide +kernel)) (fun _ _ _ _ _ => pg_name (i := 2) scAlike.nd rfl (Or.inl rfl)) (fun _ _ _ _ _ => pts_nil) (fun _ _ _ _ _ => pe_call G hr rfl T.gA F.kp bA .nil pass0 (pa_cons (pe_ix (r := rIxB K) (by exact ix_both) (pv 0) (pv 2) (fun _ _ => rfl)) (pa_cons (pe_ix (r := rIxB K) (by exact ix_both) (pv 1) (pv 2) (fun _ _ => rfl)) pa_nil)))) pa_nil))))))
      pss_nil)
      (pss_cons (ps_if (PW.pt (pw_or (pt_cmpR op_ne (pe_callB call_isi (by rfl) T.isi (by decide +kernel) (pa_cons (pv 0) (pa_cons (pe_bltn (v := .ty "bool") (u := .type "bool") (by rfl) T.bool (by decide +kernel) rfl) pa_nil))) (pe_callB call_isi (by rfl) T.isi (by decide +kernel) (pa_cons (pv 1) (pa_cons (pe_bltn (v := .ty "bool") (u := .type "bool") (by rfl) T.bool (by decide +kernel) rfl) pa_nil))) (nomark _)) (pw_or1 (pt_cmpR op_ne (pe_callB call_isi (by rfl) T.isi (by decide +kernel) (pa_cons (pv 0) (pa_cons (pe_bltn (v := .ty "int") (u := .type "int") (by rfl) T.int (by decide +kernel) rfl) pa_nil))) (pe_callB call_isi (by rfl) T.isi (by decide +kernel) (pa_cons (pv 1) (pa_cons (pe_bltn (v := .ty "int") (u := .type "int") (by rfl) T.int (by decide +kernel) rfl) pa_nil))) (nomark _))))) (pss_one (ps_ret pe_bl)) pss_nil)
      (pss_one (ps_ret (pe_and (pe_cmpR op_eq (pe_callB call_isi (by rfl) T.isi (by decide +kernel) (pa_cons (pv 0) (pa_cons (pe_bltn (v := .ty "str") (u := .type "str") (by rfl) T.str (by decide +kernel) rfl) pa_nil))) (pe_callB call_isi (by rfl) T.isi (by decide +kernel) (pa_cons (pv 1) (pa_cons (pe_bltn (v := .ty "str") (u := .type "str") (by rfl) T.str (by decide +kernel) rfl) pa_nil))) (nomark _)) (pe_one (pe_cmpR op_eq (pv 0) (pv 1) (nomark _)))))))), ?_⟩
  have pr : Paired ClsV [V.ty "list", V.ty "tuple"] [Value.type "list", Value.type "tuple"] := Paired.cons (ClsV.ty _) (Paired.cons (ClsV.ty _) Paired.nil)
  rcases hsp _ _ _ _ h with ⟨x, rfl, hx, k⟩ | ⟨a, b, xs, ys, rfl, hab, hly, hl, k, k0⟩
  · refine ⟨_, rfl, (by show 2 ≤ sizeLine; decide), fun t nt => ⟨x, t, _, _, _, false, rfl, upd_same, pr, hx.ty, hx.kSeq, _, rfl, iteF ?_⟩⟩
    refine ⟨_, rfl, x, .ty "bool", _, _, isB x, rfl, .ty _, hx.ty, hx.kB, _, rfl, x, .ty "bool", _, _, isB x, rfl, .ty _, hx.ty, hx.kB, rfl, _, rfl, iteNS rfl ?_⟩
    refine ⟨_, rfl, x, .ty "int", _, _, true, rfl, .ty _, hx.ty, hx.kI, _, rfl, x, .ty "int", _, _, true, rfl, .ty _, hx.ty, hx.kI, rfl, _, rfl, iteNS rfl ?_⟩
    refine ⟨_, rfl, x, .ty "str", _, _, false, rfl, .ty _, hx.ty, hx.kS, _, rfl, x, .ty "str", _, _, false, rfl, .ty _, hx.ty, hx.kS, rfl, _, rfl, iteP rfl ?_⟩
    refine ⟨_, rfl, _, rfl, hx.scal, ?_⟩
    have e : decide (x = x) = true := decide_eq_true rfl
    show Q (.bl (decide (x = x))) _
    rw [e]
    exact k _ (sameU nt)
  · obtain ⟨ta, ka, kl, tya, tyb, sa, sb, ia, ib⟩ : ∃ ta : String, PySem.W.kitAny K (.type ta) [.type "list", .type "tuple"] = some true ∧ PySem.W.kitOne K (.type ta) (.type "list") = some (decide (ta = "list")) ∧ (∀ H', Grows H H' → TyX K H' (.ref a) (.type ta)) ∧ (∀ H', Grows H H' → TyX K H' (.ref b) (.type ta)) ∧
        (∀ H', Grows H H' → SqL K H' a xs ∨ SqT K H' a xs) ∧ (∀ H', Grows H H' → SqL K H' b ys ∨ SqT K H' b ys) ∧
        (∀ (i : Int) (v : V) (H' : Hp) (R : VK), Grows H H' → atI xs i = some v → R v H' → rIxB K (.ref a) (.int i) H' R) ∧ (∀ (i : Int) (v : V) (H' : Hp) (R : VK), Grows H H' → atI ys i = some v → R v H' → rIxB K (.ref b) (.int i) H' R) := by
      rcases hab with ⟨ha, hb⟩ | ⟨ha, hb⟩
      · exact ⟨"list", kList, kit_ty (by decide +kernel), fun H' g => .base (.lst (g _ _ ha)), fun H' g => .base (.lst (g _ _ hb)), fun H' g => .inl (SqL.of (g _ _ ha)), fun H' g => .inl (SqL.of (g _ _ hb)),
          fun i v H' R g e r => .inl ⟨a, xs, i, v, rfl, rfl, SqL.of (g _ _ ha), e, r⟩, fun i v H' R g e r => .inl ⟨b, ys, i, v, rfl, rfl, SqL.of (g _ _ hb), e, r⟩⟩
      · exact ⟨"tuple", kTup, kit_ty (by decide +kernel), fun H' g => .base (.tup (g _ _ ha)), fun H' g => .base (.tup (g _ _ hb)), fun H' g => .inr (SqT.of (g _ _ ha)), fun H' g => .inr (SqT.of (g _ _ hb)),
          fun i v H' R g e r => .inr ⟨a, xs, i, v, rfl, rfl, SqT.of (g _ _ ha), e, r⟩, fun i v H' R g e r => .inr ⟨b, ys, i, v, rfl, rfl, SqT.of (g _ _ hb), e, r⟩⟩
    refine ⟨_, rfl, (by show 2 ≤ sizeLine; decide), fun t nt => ⟨.ref b, t, _, _, _, true, rfl, upd_same, pr, tyb _ (sameU nt), ka, _, rfl, iteT ?_⟩⟩
    have s1 : Grows H (upd H t (.tup [V.ty "list", V.ty "tuple"])) := sameU nt
    refine ⟨_, rfl, (by show 2 ≤ sizeLine; decide), fun u nu => ⟨.ref a, u, _, _, _, true, rfl, upd_same, pr, tya _ (s1.trans (sameU nu)), ka, _, rfl, iteF ?_⟩⟩
    have s2 := s1.trans (sameU (o := .tup [V.ty "list", V.ty "tuple"]) nu)
    refine ⟨_, rfl, .ref a, .ty "list", _, _, decide (ta = "list"), rfl, .ty _, tya _ s2, kl, _, rfl, .ref b, .ty "list", _, _, decide (ta = "list"), rfl, .ty _, tyb _ s2, kl, rfl, _, rfl, iteNS rfl ?_⟩
    refine ⟨_, rfl, a, xs, rfl, sa _ s2, _, rfl, b, ys, rfl, sb _ s2, rfl, _, rfl, iteNS (by rw [hly]) ?_⟩
    refine ⟨_, rfl, b, ys, rfl, sb _ s2, _, rfl, by omega, by omega, fun D hD => ?_⟩
    have s3 := s2.trans (sameU (o := .lst []) hD)
    refine lc_range (n := ys.length) (fun i H2 => Grows H H2 ∧ H2 D = some (.lst ((List.replicate i true).map V.bl))) ⟨s3, upd_same⟩ ?_ ?_
    · rintro i H2 hi ⟨sm, eD⟩
      have g : xs[i]? = some xs[i] := List.getElem?_eq_getElem (by omega)
      have gy : ys[i]? = some ys[i] := List.getElem?_eq_getElem hi
      refine ⟨rfl, ?_⟩
      unfold tYes
      dsimp only
      rw [if_pos rfl]
      refine ⟨_, rfl, _, rfl, ia _ _ _ _ sm (by rw [Int.zero_add]; exact atI_nat g) ⟨_, rfl, _, rfl, ib _ _ _ _ sm (by rw [Int.zero_add]; exact atI_nat gy) ?_⟩⟩
      refine k0 i _ _ _ _ g gy sm fun H3 sm3 => ⟨_, sm3 _ _ eD, ?_, ?_, ?_⟩
      · rw [List.length_map, List.length_replicate]
        exact small1000 (by omega)
      · intro q o e
        have nq : q ≠ D := ne_of_none e (none_back s2 hD)
        rw [upd_ne nq]
        exact sm3 _ _ (sm _ _ e)
      · rw [upd_same, List.replicate_succ', List.map_append]
        rfl
    · rintro H2 ⟨sm, eD⟩
      refine ⟨D, _, rfl, SqL.of eD, ?_⟩
      rw [show (List.replicate ys.length true).all id = true by simp]
      exact k _ sm
theorem ok_alk {f : Addr} {fd : FuncData} (F : Fun K "_law_alike" "_law_alike" sAlike f fd) (T : TxtA mg f) (bA : Binds K fd ["found", "due"] []) : ∀ n, FnOk P w K mg base CX0 (n + 1) f fd ["found", "due"] (spAlk n)
  | 0 => by
    refine alike_body F T bA (sp0 := fun _ _ _ _ => False) (n := 0) ⟨fun _ _ _ _ h => h.elim, fun _ _ _ _ _ _ _ _ _ _ _ _ _ h => h.elim⟩ (fun vs H Q E h => ?_) (fun vs H Q E h => .inl ?_)
    · obtain ⟨x, y, rfl, _⟩ := h
      rfl
    · obtain ⟨x, y, rfl, ⟨hx, rfl⟩, k⟩ := h
      exact ⟨x, rfl, hx, k⟩
  | n + 1 => by
    refine alike_body F T bA (ok_alk F T bA n) (fun vs H Q E h => ?_) (fun vs H Q E h => ?_)
    · obtain ⟨x, y, rfl, _⟩ := h
      rfl
    · obtain ⟨x, y, rfl, hx, k⟩ := h
      rcases hx with ⟨hx, rfl⟩ | ⟨a, b, xs, ys, rfl, rfl, h, l, l2, kk⟩
      · exact .inl ⟨x, rfl, hx, k⟩
      · exact .inr ⟨a, b, xs, ys, rfl, h, l, l2, k, fun i x y H' Q' h1 h2 g k2 => ⟨x, y, rfl, (kk i x y h1 h2).keep g, k2⟩⟩
end
end K46

namespace K46
open PySem PySem.Spec PyProof.Rows L2 SortR LcM RepA
/-- the int in the fourth slot -/
def lastI (σ : L2.St) : Nat := match σ[3]? with
  | some (some (L2.V.int r)) => r.toNat
  | _ => 0
def spLow : Sp := fun vs H Q _ => ∃ x y : Int, vs = [.int x, .int y] ∧ 0 ≤ x ∧ 1 ≤ y ∧ x < 2 ^ 180 ∧ y < 2 ^ 180 ∧ ∀ t, H t = none → Q (.ref t) (upd H t (.tup [.int (low x y).1, .int (low x y).2]))
def spGone (K : PySem.W.Frag) : Sp := fun vs H Q _ => ∃ (a : Addr) (is : List Int), vs = [.ref a] ∧ SqL K H a (is.map V.int) ∧ Bnd is ∧ is.length ≤ 19 ∧ ∀ (q : Addr) (H' : Hp), Grows H H' → H' q = some (.lst ((goneM is).map V.int)) → Q (.ref q) H'
theorem gone_at {is : List Int} (b : Bnd is) (i : Nat) : ((is.drop (i + 1)).any fun x => decide (x.natAbs = i + 1)) = is.any fun x => decide (x.natAbs = i + 1) := by
  rw [Bool.eq_iff_iff, List.any_eq_true, List.any_eq_true]
  constructor
  · rintro ⟨x, hx, h⟩
    exact ⟨x, List.mem_of_mem_drop hx, h⟩
  · rintro ⟨x, hx, h⟩
    obtain ⟨j, jl, rfl⟩ := List.getElem_of_mem hx
    have h2 := of_decide_eq_true h
    have z := b j is[j] (List.getElem?_eq_getElem jl)
    refine ⟨is[j], ?_, h⟩
    rw [List.mem_iff_getElem]
    exact ⟨j - (i + 1), by rw [List.length_drop]; omega, by rw [List.getElem_drop]; congr 1; omega⟩
theorem filtA {α : Type} (d : α) (p : α → Bool) (cs : List α) : ((List.range cs.length).filter fun i => p (cs.getD i d)).map (fun i => cs.getD i d) = cs.filter p := by
  have e : (fun i => p (cs.getD i d)) = p ∘ (fun i => cs.getD i d) := rfl
  rw [e, ← List.filter_map]
  congr 1
  refine List.ext_getElem (by rw [List.length_map, List.length_range]) fun i h1 h2 => ?_
  rw [List.getElem_map, List.getElem_range, List.getD_eq_getElem?_getD, List.getElem?_eq_getElem h2]
  rfl
theorem ints_filter (p : Int → Bool) (xs : List Int) : kept (fun i => p (xs.getD i 0)) (fun i => V.int (xs.getD i 0)) xs.length = (xs.filter p).map V.int := by
  rw [← filtA 0 p xs, List.map_map]
  rfl
theorem cut_from (is : List Int) {i : Nat} (h : i < is.length) : cutV (is.map V.int) (some (1 + (i : Int))) none = (is.drop (i + 1)).map V.int := by
  unfold cutV
  have e1 : HT.sIx (is.map V.int).length 0 (some (1 + (i : Int))) = i + 1 := by
    rw [List.length_map]
    unfold HT.sIx
    simp only
    first | omega | (split <;> omega) | (split <;> split <;> omega)
  have e2 : HT.sIx (is.map V.int).length (is.map V.int).length none = is.length := by
    rw [List.length_map]
    rfl
  rw [e1, e2, List.map_drop, List.take_of_length_le]
  rw [List.length_drop, List.length_map]
  exact Nat.le_refl _
theorem filter_nil {α : Type} (p : α → Bool) (xs : List α) : decide (xs.filter p = []) = !xs.any p := by
  rw [Bool.eq_iff_iff, decide_eq_true_eq, List.filter_eq_nil_iff, Bool.not_eq_true', List.any_eq_false]
section
variable {P : Program} {w : World} {K : PySem.W.Frag} {mg : Str → Option Value} {base : Heap}
theorem scLowL : FnScope ["top", "bottom", "a", "b"] ["top", "bottom"] (defScope sLowL) := ⟨rfl, rfl, rfl, by decide +kernel, rfl, by decide +kernel, by decide +kernel⟩
theorem scGoneL : FnScope ["row", "k", "c"] ["row"] (defScope sGoneL) := ⟨rfl, rfl, rfl, by decide +kernel, rfl, by decide +kernel, by decide +kernel⟩
theorem ok_low {f : Addr} {fd : FuncData} (F : Fun K "_law_lowest" "_law_lowest" sLowL f fd) (T : TxtP mg) : FnOk P w K mg base CX0 1 f fd ["top", "bottom"] spLow := by
  refine F.ok scLowL (fun vs H Q E h => ?_) (fun cdv A outer s H vs Q E hr h => ?_)
  · obtain ⟨x, y, rfl, _⟩ := h
    rfl
  · obtain ⟨x, y, rfl, x0, y0, x1, y1, k⟩ := h
    refine ⟨_, (pss_cons (ps_par (i := 2) (j := 3) (by rfl) scLowL.nd rfl rfl (by decide) rfl rfl (pa_cons (pv 0) (pa_cons (pv 1) pa_nil)) (by rfl))
      (pss_cons (ps_while PassesOwn.never (pt_cmpR op_ne (pv 3) pe_int (nomark _))
      (pss_one (ps_par (i := 2) (j := 3) (by rfl) scLowL.nd rfl rfl (by decide) rfl rfl (pa_cons (pv 3) (pa_cons (pe_op op_mod (pe_callTy call_int1 (by rfl) T.int (by decide +kernel) (pa_cons (pv 2) pa_nil)) (pv 3)) pa_nil)) (by rfl))))
      (pss_one (ps_ret (pe_tup (pa_cons (pe_op op_fdivW (pv 0) (pv 2)) (pa_cons (pe_op op_fdivW (pv 1) (pv 2)) pa_nil))))))), ?_⟩
    obtain ⟨a, rfl⟩ := Int.eq_ofNat_of_zero_le x0
    obtain ⟨b, rfl⟩ := Int.eq_ofNat_of_zero_le (show 0 ≤ y by omega)
    have b0 : 0 < b := by omega
    have g0 : 0 < Nat.gcd a b := Nat.gcd_pos_of_pos_right _ b0
    have g1 : Nat.gcd a b ≤ b := Nat.le_of_dvd b0 (Nat.gcd_dvd_right _ _)
    refine ⟨_, rfl, _, rfl, _, _, rfl, ?_⟩
    refine while_by (fun σ G => ∃ l r : Nat, σ = [some (.int (a : Int)), some (.int (b : Int)), some (.int (l : Int)), some (.int (r : Int))] ∧ G = H ∧ Nat.gcd l r = Nat.gcd a b) (fun σ _ => lastI σ)
      ⟨a, b, rfl, rfl, rfl⟩ (fun σ G ⟨l, r, e, eg, q⟩ => ?_) (fun σ G Q1 Q2 m ⟨v, e, x1, b2, e2, q⟩ => ⟨v, e, x1, b2, e2, m _ _ q⟩)
    subst e
    subst eg
    refine ⟨_, rfl, rfl, _, rfl, ?_⟩
    by_cases r0 : r = 0
    · rw [decide_eq_true (show L2.V.int (r : Int) = L2.V.int 0 by rw [r0]; rfl)]
      refine iteF ?_
      rw [r0, Nat.gcd_zero_right] at q
      rw [r0, q]
      have c : ∀ z : Int, CDivW z ((Nat.gcd a b : Nat) : Int) := fun z => wide_div (b := 180) (by omega) (by rw [Int.natAbs_natCast]; omega) (by decide) (by decide)
      exact ⟨_, rfl, _, rfl, _, _, rfl, rfl, c _, _, rfl, _, rfl, _, _, rfl, rfl, c _, (by show 2 ≤ sizeLine; decide), fun t ht => k t ht⟩
    · rw [decide_eq_false (show ¬ L2.V.int (r : Int) = L2.V.int 0 from fun z => by have := L2.V.int.inj z; omega)]
      refine iteT ?_
      refine ⟨_, rfl, _, rfl, .inl ⟨_, rfl, _, rfl, _, _, rfl, rfl, by omega, _, _, rfl, ⟨r, l % r, rfl, rfl, ?_⟩, ?_⟩⟩
      · rw [← q, Nat.gcd_comm l r, Nat.gcd_comm r (l % r), ← Nat.gcd_rec]
      · show ((l % r : Nat) : Int).toNat < (r : Int).toNat
        rw [Int.toNat_natCast, Int.toNat_natCast]
        exact Nat.mod_lt _ (by omega)
theorem ok_gone {f : Addr} {fd : FuncData} (F : Fun K "_law_gone" "_law_gone" sGoneL f fd) (T : TxtP mg) (T0 : Txt0 mg) : FnOk P w K mg base CX0 1 f fd ["row"] (spGone K) := by
  refine F.ok scGoneL (fun vs H Q E h => ?_) (fun cdv A outer s H vs Q E hr h => ?_)
  · obtain ⟨a, is, rfl, _⟩ := h
    rfl
  · obtain ⟨a, is, rfl, hS, b, l, k⟩ := h
    refine ⟨_, (pss_cons (ps_if (pt_cmpR (op_eqD hr.units) (pv 0) (pe_lst pa_nil) (nomark _)) (pss_one (ps_ret (pe_lst (pa_cons pe_int pa_nil)))) pss_nil)
      (pss_one (ps_ret (pe_lc (own := [("k", 1)]) (g := gName 1) rfl scGoneL.nd (pi_range2 (by rfl) T.range (pa_cons pe_int (pa_cons (pe_op op_add (pe_callB call_len_seq (by rfl) T.len (by decide +kernel) (pa_cons (pv 0) pa_nil)) pe_int) pa_nil))) (blkOk_by (own := [("k", 1)]) (N := ["row", "k", "c"]) (sc := defScope sGoneL) (by decide +kernel)) (fun _ _ _ _ _ => pg_name (i := 1) scGoneL.nd rfl (Or.inr rfl)) (fun _ _ _ _ _ => (pts_one (pt_cmpR (r := rEqD K) (by exact op_eqD hr.units) (pe_lc (wi := iList K (tSl (rSlL K) (tVar 0) (tPart (tVar 1)) tNoPart)) (te := tVar 2) (own := [("c", 2)]) (g := gName 2) rfl scGoneL.nd (pi_list (pe_slice (r := rSlL K) (by exact sl_list) (pv 0) (po_some (pv 1)) po_none)) (blkOk_by (own := [("c", 2)]) (N := ["row", "k", "c"]) (sc := { kind := .function, names := [(".0", .local), ("k", .cell), ("row", .cell)], isGenerator := false, isCoroutine := false }) (by decide +kernel)) (fun _ _ _ _ _ => pg_name (i := 2) scGoneL.nd rfl (Or.inl rfl)) (fun _ _ _ _ _ => (pts_one (pt_cmpR op_eq (pe_callB call_abs (by rfl) T0.abs (by decide +kernel) (pa_cons (pv 2) pa_nil)) (pv 1) (nomark _)))) (fun _ _ _ _ _ => (pv 2))) (pe_lst pa_nil) (nomark _)))) (fun _ _ _ _ _ => (pv 1)))))), ?_⟩
    refine ⟨_, rfl, (by show 0 ≤ sizeLine; decide), fun z hz => ?_⟩
    have g1 : Grows H (upd H z (.lst [])) := Grows.new hz
    refine ⟨.list (is.map .int), .list [], .lst (g1.seq hS) (rows_dp is), .lst (SqL.of upd_same) .nil, shaped_ints is, shaped_ints [], _, rfl, ?_⟩
    rw [show PyData.eqv (.list (is.map .int)) (.list []) = decide (is = []) from eqv_ints is []]
    unfold goneM at k
    by_cases em : is = []
    · rw [decide_eq_true em]
      rw [if_pos em] at k
      exact iteT ⟨(by show 1 ≤ sizeLine; decide), fun y hy => k y _ (g1.trans (Grows.new hy)) upd_same⟩
    · rw [decide_eq_false em]
      rw [if_neg em] at k
      refine iteF ⟨_, rfl, a, _, rfl, .inl (g1.seq hS), _, _, rfl, rfl, _, _, rfl, by rw [List.length_map]; omega, fun D hD => lc_rangeT (lo := 1) (fun i => !(is.any fun x => decide (x.natAbs = i + 1))) (fun i => L2.V.int (1 + (i : Nat))) hD (by rw [List.length_map]; omega) (fun i H' Ry Rn il sm ky kn => ?_) fun H2 g2 e2 => ?_⟩
      · rw [List.length_map] at il
        have hS2 := (g1.trans (sm)).seq hS
        have cf := cut_from is (i := i) (by omega)
        refine ⟨rfl, _, rfl, _, rfl, 1 + (i : Int), rfl, a, _, rfl, hS2, fun c nc => ⟨c, rfl, ⟨_, SqL.of upd_same⟩, fun D2 hD2 => ?_⟩⟩
        have ec : upd H' c (.lst (cutV (is.map V.int) (some (1 + (i : Int))) none)) c = some (.lst ((is.drop (i + 1)).map V.int)) := by rw [upd_same, cf]
        have gc : Grows H' (upd H' c (.lst (cutV (is.map V.int) (some (1 + (i : Int))) none))) := Grows.new nc
        have ln : (is.drop (i + 1)).length ≤ 19 := by rw [List.length_drop]; omega
        have ga := gone_at b i
        generalize is.drop (i + 1) = ys at ec ln ga
        refine lc_listT (K := K) (fun j => decide ((ys.getD j 0).natAbs = i + 1)) (fun j => V.int (ys.getD j 0)) hD2 (SqL.of ec) (by rw [List.length_map]; omega) (fun j y H2 Ry2 Rn2 hy sm2 ky2 kn2 => ?_) fun H2 g2 e2 => ?_
        · obtain rfl := at_map (d := 0) hy
          refine ⟨rfl, _, rfl, _, rfl, _, rfl, rfl, _, rfl, ?_⟩
          by_cases e3 : (ys.getD j 0).natAbs = i + 1
          · rw [decide_eq_true (show V.int (if ys.getD j 0 < 0 then -ys.getD j 0 else ys.getD j 0) = V.int (1 + (i : Nat)) by congr 1; split <;> omega)]
            exact iteT ⟨_, rfl, ky2 (decide_eq_true e3) _ .refl⟩
          · rw [decide_eq_false (show ¬ V.int (if ys.getD j 0 < 0 then -ys.getD j 0 else ys.getD j 0) = V.int (1 + (i : Nat)) from fun z => by have := L2.V.int.inj z; split at this <;> omega)]
            exact iteF (kn2 (decide_eq_false e3) _ .refl)
        · rw [List.length_map, ints_filter (fun x => decide (x.natAbs = i + 1))] at e2
          refine ⟨(by show 0 ≤ sizeLine; decide), fun z0 hz0 => ?_⟩
          have g3 : Grows H2 (upd H2 z0 (.lst [])) := Grows.new hz0
          refine ⟨.list ((ys.filter fun x => decide (x.natAbs = i + 1)).map .int), .list [], .lst (SqL.of (g3 _ _ e2)) (rows_dp _), .lst (SqL.of upd_same) .nil, shaped_ints _, shaped_ints [], _, rfl, ?_⟩
          rw [show PyData.eqv (.list ((ys.filter fun x => decide (x.natAbs = i + 1)).map .int)) (.list []) = decide ((ys.filter fun x => decide (x.natAbs = i + 1)) = []) from eqv_ints _ [], filter_nil, ga]
          have g4 := (gc.trans g2).trans g3
          cases eb : is.any fun x => decide (x.natAbs = i + 1) with
          | true => exact iteF (kn (by rw [eb]; rfl) _ g4)
          | false => exact iteT ⟨_, rfl, ky (by rw [eb]; rfl) _ g4⟩
      · refine k D H2 (g1.trans g2) ?_
        rw [e2, List.length_map, show ((is.length : Int) + 1 - 1).toNat = is.length by omega]
        unfold kept
        rw [List.map_map]
        rfl
end
end K46

namespace K46
open PySem PySem.Spec PyProof.Rows L2 SortR LcM RepA
def spRow : Sp := fun vs H Q _ => ∃ (a c : Addr) (n : Int), vs = [.ref a, .int n] ∧ BagB H a c ∧ 1 ≤ n ∧ n ≤ 20 ∧
  ∀ (q : Addr) (is : List Int) (H' : Hp), is.length = (n - 1).toNat → Bnd is → BagB H' a c → Gr a H H' → H' q = some (.lst (is.map V.int)) → H q = none → Q (.ref q) H'
section
variable {P : Program} {w : World} {K : PySem.W.Frag} {mg : Str → Option Value} {base : Heap}
theorem scRowL : FnScope ["bag", "wide", "bent", "row", "k", "any_here"] ["bag", "wide"] (defScope sRowL) := ⟨rfl, rfl, rfl, by decide +kernel, rfl, by decide +kernel, by decide +kernel⟩
theorem But.gr {a : Addr} {H H' : Hp} (h : But a H H') : Gr a H H' := fun b o n e => by rw [h b n]; exact e
theorem ok_row (W : LawG K mg) (T : TxtP mg) (T0 : Txt0 mg) : FnOk P w K mg base CX0 3 W.fRow W.dRow ["bag", "wide"] spRow := by
  have GDraw := W.draw2 (P := P) (w := w) (base := base) T0
  refine W.FRow.ok scRowL (fun vs H Q E h => ?_) (fun cdv A outer s H vs Q E hr h => ?_)
  · obtain ⟨a, c, n, rfl, _⟩ := h
    rfl
  · obtain ⟨a, c, n, rfl, hB, n1, n2, k⟩ := h
    refine ⟨_, (pss_cons (ps_par (i := 2) (j := 3) (by rfl) scRowL.nd rfl rfl (by decide) rfl rfl (pa_cons (pe_call GDraw (hr.mono (by decide)) rfl W.gDraw W.FDraw.kp W.bDraw .nil pass0 (pa_cons (pv 0) (pa_cons pe_int pa_nil))) (pa_cons (pe_lst pa_nil) pa_nil)) (by rfl))
      (pss_cons (ps_for PassesOwn.never rfl (pi_range1 (by rfl) T.range (pa_cons (pe_op op_sub (pv 1) pe_int) pa_nil)) (pg_name (i := 4) scRowL.nd rfl (.inl rfl))
      (pss_cons (ps_set (i := 5) scRowL.nd rfl (.inl rfl) (pe_op op_sub (pe_call GDraw (hr.mono (by decide)) rfl W.gDraw W.FDraw.kp W.bDraw .nil pass0 (pa_cons (pv 0) (pa_cons (pe_op op_add (pe_op op_mul pe_int (pv 4)) pe_int) pa_nil))) (pv 4)))
      (pss_one (ps_expr (pe_bm PySem.F.plainAttrs_list PySem.F.slot_list_append PySem.F.type_list_append mt_append (pv 3) (pa_cons (pe_ix (r := rIxL K) ix_list (pe_lst (pa_cons (pv 5) (pa_cons (pe_op op_sub pe_int (pv 4)) (pa_cons (pv 4) (pa_cons pe_int (pa_cons (pe_ix (r := rIxL K) ix_list (pe_lst (pa_cons (pe_op op_sub pe_int (pv 4)) (pa_cons (pv 5) pa_nil))) (pe_call GDraw (hr.mono (by decide)) rfl W.gDraw W.FDraw.kp W.bDraw .nil pass0 (pa_cons (pv 0) (pa_cons pe_int pa_nil))) (fun _ _ => rfl)) pa_nil)))))) (pv 2) (fun _ _ => rfl)) pa_nil))))))
      (pss_one (ps_ret (pv 3))))), ?_⟩
    refine ⟨_, rfl, a, c, _, rfl, hB, by decide, by decide, fun v H1 v0 v1 hB1 bu1 => ?_⟩
    refine ⟨(by show 0 ≤ sizeLine; decide), fun z hz => ?_⟩
    obtain ⟨nza, nzc⟩ := hB1.na hz
    have hz0 : H z = none := by rw [← bu1 z nza]; exact hz
    refine ⟨_, _, rfl, _, rfl, _, _, rfl, rfl, _, rfl, by omega, by omega, for_range (fun i σ H' => ∃ (is : List Int) (o4 o5 : Option V), σ = [some (.ref a), some (.int n), some (.int v), some (.ref z), o4, o5] ∧ is.length = i ∧ Bnd is ∧ BagB H' a c ∧ Gr a H H' ∧ H' z = some (.lst (is.map V.int)))
      ⟨[], none, none, rfl, rfl, fun j x e => absurd e (by simp), hB1.keepG (Grows.new hz), bu1.gr.trans (Gr.new hz), upd_same⟩ (fun i σ H' il ⟨is, o4, o5, e, el, b, hB', g, ez⟩ => ?_) fun σ H' ⟨is, o4, o5, e, el, b, hB', g, ez⟩ => ?_⟩
    · subst e
      have lg : ∀ w : Int, 0 ≤ w → w ≤ 1000 → w.natAbs.log2 < 200 := fun w h0 h1 => PySem.Flt.log2_lt_of (by decide) (Nat.lt_of_lt_of_le (show w.natAbs < 1024 by omega) (by decide))
      refine ⟨_, rfl, _, rfl, _, _, rfl, rfl, .inl ⟨by decide, by decide⟩, _, _, rfl, rfl, a, c, _, rfl, hB', by omega, lg _ (by omega) (by omega), fun u H2 u0 u1 hB2 bu2 => ⟨_, rfl, _, _, rfl, rfl, ?_⟩⟩
      have ezi : H2 z = some (.lst (is.map V.int)) := bu2.gr _ _ nza ez
      refine ⟨_, rfl, .inl ⟨rfl, _, SqL.of ezi⟩, _, rfl, _, rfl, _, _, rfl, rfl, _, rfl, _, rfl, _, _, rfl, rfl, _, rfl, (by show 2 ≤ sizeLine; decide), fun z1 hz1 => ?_⟩
      have hB3 := hB2.keepG (Grows.new (o := .lst [V.int (0 - (0 + (i : Nat))), V.int (u - (0 + (i : Nat)))]) hz1)
      refine ⟨_, rfl, a, c, _, rfl, hB3, by decide, by decide, fun t H3 t0 t1 hB4 bu3 => ?_⟩
      have ezi : H2 z = some (.lst (is.map V.int)) := bu2.gr _ _ nza ez
      have n1a : z1 ≠ a := (hB2.na hz1).1
      have e1 : H3 z1 = some (.lst [V.int (0 - (0 + (i : Nat))), V.int (u - (0 + (i : Nat)))]) := bu3.gr _ _ n1a upd_same
      obtain ⟨y, hy, ey⟩ := at_in (xs := [V.int (0 - (0 + (i : Nat))), V.int (u - (0 + (i : Nat)))]) t0 t1
      have gy : ∃ q : Int, y = .int q ∧ -(i : Int) ≤ q ∧ q ≤ (i : Int) := by
        simp only [List.mem_cons, List.not_mem_nil, or_false] at hy
        rcases hy with rfl | rfl
        · exact ⟨_, rfl, by omega, by omega⟩
        · exact ⟨_, rfl, by omega, by omega⟩
      obtain ⟨q, rfl, q0, q1⟩ := gy
      refine ⟨z1, _, _, _, rfl, rfl, SqL.of e1, ey, (by show 5 ≤ sizeLine; decide), fun z2 hz2 => ?_⟩
      obtain ⟨y2, hy2, ey2⟩ := at_in (xs := [V.int (u - (0 + (i : Nat))), V.int (0 - (0 + (i : Nat))), V.int (0 + (i : Nat)), V.int 0, V.int q]) v0 v1
      have gy2 : ∃ q : Int, y2 = .int q ∧ -(i : Int) ≤ q ∧ q ≤ (i : Int) := by
        simp only [List.mem_cons, List.not_mem_nil, or_false] at hy2
        rcases hy2 with rfl | rfl | rfl | rfl | rfl
        all_goals exact ⟨_, rfl, by omega, by omega⟩
      obtain ⟨q2, rfl, r0, r1⟩ := gy2
      have g2 : Gr a H2 H3 := (Gr.new hz1).trans bu3.gr
      have ez3 : upd H3 z2 (.lst [V.int (u - (0 + (i : Nat))), V.int (0 - (0 + (i : Nat))), V.int (0 + (i : Nat)), V.int 0, V.int q]) z = some (.lst (is.map V.int)) := Gr.new hz2 _ _ nza (g2 _ _ nza ezi)
      have hB5 := hB4.keepG (Grows.new (o := .lst [V.int (u - (0 + (i : Nat))), V.int (0 - (0 + (i : Nat))), V.int (0 + (i : Nat)), V.int 0, V.int q]) hz2)
      refine ⟨_, rfl, z2, _, _, _, rfl, rfl, SqL.of upd_same, ey2, ?_⟩
      refine ⟨z, _, _, rfl, rfl, ez3, ?_, is ++ [q2], _, _, rfl, by rw [List.length_append, el]; rfl, b.add (by omega) (by omega), ?_, ?_, ?_⟩
      · rw [List.length_map]
        exact Nat.lt_of_lt_of_le (show is.length < 100 by omega) (by decide)
      · exact hB5.at nza nzc
      · intro b o n e
        rw [upd_ne (ne_of_none e hz0)]
        exact ((g.trans bu2.gr).trans g2).trans (Gr.new hz2) b o n e
      · rw [upd_same, List.map_append]
        rfl
    · subst e
      exact ⟨_, rfl, k z is H' el b hB' g ez hz0⟩
end
end K46

namespace K46
open PySem PySem.Spec PyProof.Rows L2 SortR LcM RepA
def spByL (K : PySem.W.Frag) : Sp := fun vs H Q _ => ∃ (a : Addr) (is : List Int), vs = [.ref a] ∧ SqL K H a (is.map V.int) ∧ Bnd is ∧ is.length ≤ 19 ∧
  ∀ (q : Addr) (cs : List (Addr × List Int)) (H' : Hp), cs.map (·.2) = lotR is → Grows H H' → Rl H' q cs → Q (.ref q) H'
theorem fam_row {is : List Int} (b : Bnd is) {n : Nat} (hn : n ≤ is.length) {r : List Int} (h : r ∈ famB is n) : 2 ≤ r.length ∧ r.length ≤ n + 1 := by
  have L := lam_fam b hn
  refine ⟨L.two r h, ?_⟩
  have q := len_sub (up_nodup (L.up r h)) (ys := upto (n + 1)) fun z hz => by
    have := L.rng r h z hz
    exact upto_mem.mpr ⟨this.1, by omega⟩
  rwa [upto_ln] at q
theorem and_goal {tb : TE} {σ : L2.St} {H : Hp} {Q : VK} {c d : Bool} (h : Q (.bl (c && d)) H) (k : ∀ Q' : VK, Q' (.bl d) H → tb σ H Q') : if c = true then tb σ H Q else Q (.bl false) H := by
  cases c with
  | false => exact iteF h
  | true => exact iteT (k Q h)
theorem if_goal {ta tb : TE} {σ : L2.St} {H : Hp} {Q : VK} {b : Bool} (R : V → Hp → Prop) (h : ∀ v H', R v H' → Q v H') (k : ∀ Q' : VK, (∀ v H', R v H' → Q' v H') → if b = true then ta σ H Q' else tb σ H Q') : if b = true then ta σ H Q else tb σ H Q := k Q h
section
variable {P : Program} {w : World} {K : PySem.W.Frag} {mg : Str → Option Value} {base : Heap}
theorem scByL : FnScope ["row", "made", "k", "goal", "later", "one", "is_around"] ["row"] (defScope sByL) := ⟨rfl, rfl, rfl, by decide +kernel, rfl, by decide +kernel, by decide +kernel⟩
theorem ok_by (W : LawG K mg) (T : TxtP mg) (T0 : Txt0 mg) : FnOk P w K mg base CX0 1 W.fBy W.dBy ["row"] (spByL K) := by
  refine W.FBy.ok scByL (fun vs H Q E h => ?_) (fun cdv A outer s H vs Q E hr h => ?_)
  · obtain ⟨a, is, rfl, _⟩ := h
    rfl
  · obtain ⟨a, is, rfl, hS, b, l, k⟩ := h
    refine ⟨_, (pss_cons (ps_set (i := 1) scByL.nd rfl (.inl rfl) (pe_lst pa_nil))
      (pss_cons (ps_for PassesOwn.never rfl (pi_range1 (by rfl) T.range (pa_cons (pe_callB call_len_seq (by rfl) T.len (by decide +kernel) (pa_cons (pv 0) pa_nil)) pa_nil)) (pg_name (i := 2) scByL.nd rfl (.inl rfl))
      (pss_cons (ps_set (i := 3) scByL.nd rfl (.inl rfl) (pe_ifExp (pt_cmpR op_ge (pe_ix (r := rIxL K) ix_list (pv 0) (pv 2) (fun _ _ => rfl)) pe_int (nomark _)) (pe_lst (pa_cons (pe_ix (r := rIxL K) ix_list (pv 0) (pv 2) (fun _ _ => rfl)) pa_nil)) (pe_ix (r := rIxL K) ix_list (pv 1) (pe_op op_sub (pe_op op_sub pe_int (pe_ix (r := rIxL K) ix_list (pv 0) (pv 2) (fun _ _ => rfl))) pe_int) (fun _ _ => rfl))))
      (pss_cons (ps_set (i := 4) scByL.nd rfl (.inl rfl) (pe_lst pa_nil))
      (pss_cons (ps_for PassesOwn.never rfl (pi_list (pv 1)) (pg_name (i := 5) scByL.nd rfl (.inl rfl))
      (pss_cons (ps_set (i := 6) scByL.nd rfl (.inl rfl) (pe_and (pe_cmpR (r := rIn K false) (by exact op_in_seq) (pe_ix (r := rIxL K) ix_list (pv 3) pe_int (fun _ _ => rfl)) (pv 5) (by rfl)) (pe_one (pe_cmpR op_gt (pe_callB call_len_seq (by rfl) T.len (by decide +kernel) (pa_cons (pv 5) pa_nil)) (pe_callB call_len_seq (by rfl) T.len (by decide +kernel) (pa_cons (pv 3) pa_nil)) (nomark _)))))
      (pss_one (ps_expr (pe_bm PySem.F.plainAttrs_list PySem.F.slot_list_append PySem.F.type_list_append mt_append (pv 4) (pa_cons (pe_ifExp (pt_val (pv 6)) (pe_op op_cat (pv 5) (pe_lst (pa_cons (pe_op op_add (pv 2) pe_int) pa_nil))) (pv 5)) pa_nil))))))
      (pss_one (ps_set (i := 1) scByL.nd rfl (.inl rfl) (pe_op op_cat (pv 4) (pe_lst (pa_cons (pe_op op_cat (pv 3) (pe_lst (pa_cons (pe_op op_add (pv 2) pe_int) pa_nil))) pa_nil)))))))))
      (pss_one (ps_ret (pe_callB (call_sortedR hr.units) (by rfl) T.sorted (by decide +kernel) (pa_cons (pv 1) pa_nil)))))), ?_⟩
    refine ⟨(by show 0 ≤ sizeLine; decide), fun m0 hm0 => ?_⟩
    have g0 : Grows H (upd H m0 (.lst [])) := Grows.new hm0
    refine ⟨_, rfl, a, _, rfl, .inl (g0.seq hS), _, rfl, by omega, by rw [List.length_map]; omega, for_range (fun i σ G => ∃ (m : Addr) (cs : List (Addr × List Int)) (o2 o3 o4 o5 o6 : Option V), σ = [some (.ref a), some (.ref m), o2, o3, o4, o5, o6] ∧ Grows H G ∧ Rl G m cs ∧ cs.map (·.2) = famB is i)
      ⟨m0, [], none, none, none, none, none, rfl, g0, ⟨upd_same, fun _ h => nomatch h⟩, rfl⟩ (fun i σ G il ⟨m, cs, o2, o3, o4, o5, o6, e, g, rl, ec⟩ => ?_) fun σ G ⟨m, cs, o2, o3, o4, o5, o6, e, g, rl, ec⟩ => ?_⟩
    · subst e
      rw [List.length_map] at il
      have il : i < is.length := by omega
      have fl := famB_len is i
      have cl : cs.length = i := by
        have := congrArg List.length ec
        rw [List.length_map, fl] at this
        exact this
      have e : is[i]? = some is[i] := List.getElem?_eq_getElem il
      have bd := b i _ e
      have eg : is.getD i 0 = is[i] := by rw [List.getD_eq_getElem?_getD, e]; rfl
      rw [← eg] at bd
      have ai : atI (is.map V.int) (0 + (i : Int)) = some (V.int (is.getD i 0)) := by
        rw [Int.zero_add, eg]
        exact atI_nat (by rw [List.getElem?_map, e]; rfl)
      obtain ⟨item, ei⟩ : ∃ item, item = is.getD i 0 := ⟨_, rfl⟩
      rw [← ei] at bd ai
      have step : famB is (i + 1) = stepB (famB is i) item := by rw [ei]; rfl
      have bases : 1 ≤ (baseB (famB is i) item).length ∧ (baseB (famB is i) item).length ≤ 100 := by
        rcases base_is (rs := famB is i) (item := item) (by rw [fl]; exact bd.1) with z | ⟨p, z⟩
        · have := fam_row b (Nat.le_of_lt il) z
          omega
        · rw [z]
          exact ⟨by simp, by simp⟩
      refine ⟨_, rfl, _, rfl, a, _, _, _, rfl, rfl, g.seq hS, ai, _, _, rfl, rfl, _, rfl, ?_⟩
      refine if_goal (R := fun v G1 => ∃ ga, v = .ref ga ∧ Grows G G1 ∧ G1 ga = some (.lst ((baseB (famB is i) item).map V.int))) (fun v G1 ⟨ga, ev, g1, eb⟩ => ?_) fun Q' hq => ?_
      · subst ev
        generalize ebb : baseB (famB is i) item = base at eb bases
        have rl1 := rl.keep g1
        refine ⟨(by show 0 ≤ sizeLine; decide), fun z hz => ?_⟩
        have g2 : Grows G1 (upd G1 z (.lst [])) := Grows.new hz
        refine ⟨_, rfl, m, rfl, ⟨_, SqL.of (g2 _ _ rl1.top)⟩, for_list (K := K) (xs := cs.map fun c => V.ref c.1) (fun j σ' G' => ∃ (ls : List (Addr × List Int)) (o5 o6 : Option V), σ' = [some (.ref a), some (.ref m), some (.int (0 + (i : Nat))), some (.ref ga), some (.ref z), o5, o6] ∧ Grows G1 G' ∧ Rl G' z ls ∧ (∀ c ∈ ls, c.1 ≠ z) ∧ ls.map (·.2) = ((cs.map (·.2)).take j).map (growB ((i : Int) + 1) base))
          ⟨[], _, _, rfl, g2, ⟨upd_same, fun _ h => nomatch h⟩, (fun _ h => nomatch h), rfl⟩ (fun j σ' G' _ ⟨_, _, _, _, g3, _⟩ => SqL.of (g3 _ _ rl1.top)) (fun j x σ' G' hx ⟨ls, o5, o6, e, g3, rz, nz, el⟩ => ?_) fun σ' G' ⟨ls, o5, o6, e, g3, rz, nz, el⟩ => ?_⟩
        · subst e
          have jl := (List.getElem?_eq_some_iff.mp hx).1
          rw [List.length_map] at jl
          obtain rfl := at_map (d := (0, [])) hx
          have er : (cs.map (·.2)).getD j [] = (cs.getD j (0, [])).2 := snd_at cs j
          have eg1 := rl1.at jl
          have ej := g3 _ _ eg1
          have mj : (cs.getD j (0, [])).2 ∈ famB is i := by rw [← ec]; exact mem_at jl
          have nj : (cs.getD j (0, [])).1 ≠ z := fun h => by
            rw [h, hz] at eg1
            cases eg1
          have lj := fam_row b (Nat.le_of_lt il) mj
          have tk : ((cs.map (·.2)).take (j + 1)).map (growB ((i : Int) + 1) base) = ((cs.map (·.2)).take j).map (growB ((i : Int) + 1) base) ++ [growB ((i : Int) + 1) base (cs.getD j (0, [])).2] := by
            rw [← er, List.take_succ, List.map_append, List.getD_eq_getElem?_getD, List.getElem?_eq_getElem (by rw [List.length_map]; exact jl)]
            rfl
          have lsl : ls.length ≤ 100 := by
            have := congrArg List.length el
            rw [List.length_map, List.length_map, List.length_take, List.length_map] at this
            omega
          generalize (cs.getD j (0, [])).2 = r at ej lj tk
          generalize (cs.getD j (0, [])).1 = ra at ej nj
          have ab : atI (base.map V.int) 0 = some (V.int (base.headD 0)) := by
            cases base with
            | nil => exact absurd bases.1 (by decide)
            | cons x _ => exact atI_nat (j := 0) rfl
          have ebg := g3 _ _ eb
          refine ⟨_, rfl, ga, _, _, _, rfl, rfl, SqL.of ebg, ab, _, rfl, ra, _, rfl, .inl (SqL.of ej), rfl, flat_ints _, ?_⟩
          refine ⟨_, rfl, ?_⟩
          show if inV (.int (base.headD 0)) (r.map V.int) = true then _ else _
          rw [inV_ints]
          refine and_goal (d := decide (base.length < r.length)) ?_ fun Q' q => ⟨_, rfl, ra, _, rfl, .inl (SqL.of ej), _, rfl, ga, _, rfl, .inl (SqL.of ebg), _, _, rfl, rfl, ?_⟩
          · rw [show (decide (base.headD 0 ∈ r) && decide (base.length < r.length)) = inB base r from Bool.and_comm _ _]
            refine ⟨_, rfl, .inl ⟨rfl, _, SqL.of rz.top⟩, _, rfl, _, rfl, ?_⟩
            refine if_goal (R := fun v G4 => ∃ rb, v = .ref rb ∧ Grows G' G4 ∧ G4 rb = some (.lst ((growB ((i : Int) + 1) base r).map V.int)) ∧ rb ≠ z) (fun v G4 ⟨rb, ev, g4, e4, nb⟩ => ?_) fun Q' hq => ?_
            · subst ev
              have z4 := g4 _ _ rz.top
              refine ⟨z, _, _, rfl, rfl, z4, ?_, ls ++ [(rb, growB ((i : Int) + 1) base r)], _, _, rfl, fun b o e => ?_, ⟨?_, fun c hc => ?_⟩, fun c hc => ?_, ?_⟩
              · rw [List.length_map]
                exact Nat.lt_of_le_of_lt lsl (by decide)
              · rw [upd_ne (ne_of_none e hz)]
                exact g4 _ _ (g3 _ _ e)
              · rw [upd_same, List.map_append]
                rfl
              · rcases List.mem_append.mp hc with h | h
                · rw [upd_ne (nz c h)]
                  exact g4 _ _ (rz.each c h)
                · rw [List.mem_singleton.mp h, upd_ne nb]
                  exact e4
              · rcases List.mem_append.mp hc with h | h
                · exact nz c h
                · rw [List.mem_singleton.mp h]
                  exact nb
              · rw [List.map_append, el, tk]
                rfl
            · unfold growB at hq
              cases c : inB base r with
              | false =>
                rw [c] at hq
                exact iteF ⟨_, rfl, hq _ _ ⟨ra, rfl, .refl, ej, nj⟩⟩
              | true =>
                rw [c] at hq
                refine iteT ⟨_, rfl, _, rfl, _, _, rfl, rfl, (by show 1 ≤ sizeLine; decide), fun z1 hz1 => ⟨ra, z1, _, _, rfl, rfl, Grows.new hz1 _ _ ej, upd_same, ?_, fun z2 hz2 => hq _ _ ⟨z2, rfl, (Grows.new hz1).trans (Grows.new hz2), ?_, ?_⟩⟩⟩
                · rw [List.length_map]
                  show r.length + 1 ≤ sizeLine
                  exact Nat.le_trans (show r.length + 1 ≤ 100 by omega) (by decide)
                · rw [upd_same, if_pos rfl, List.map_append, Int.zero_add]
                  rfl
                · exact fun h => by
                    rw [h] at hz2
                    rw [Grows.new hz1 _ _ rz.top] at hz2
                    cases hz2
          · rw [List.length_map, List.length_map]
            have : decide ((base.length : Int) < (r.length : Int)) = decide (base.length < r.length) := decide_eq_decide.mpr (by omega)
            show Q' (.bl (decide ((base.length : Int) < (r.length : Int)))) G'
            rw [this]
            exact q
        · subst e
          rw [List.length_map] at el
          rw [show (cs.map (·.2)).take cs.length = cs.map (·.2) from List.take_of_length_le (by rw [List.length_map]; exact Nat.le_refl _), ec] at el
          have ebg := g3 _ _ eb
          have lsl : ls.length = i := by
            have := congrArg List.length el
            rw [List.length_map, List.length_map, fl] at this
            exact this
          refine ⟨_, rfl, _, rfl, _, rfl, _, _, rfl, rfl, (by show 1 ≤ sizeLine; decide), fun z1 hz1 => ⟨ga, z1, _, _, rfl, rfl, Grows.new hz1 _ _ ebg, upd_same, ?_, fun z2 hz2 => ⟨(by show 1 ≤ sizeLine; decide), fun z3 hz3 => ⟨z, z3, ls.map (fun c => V.ref c.1), _, rfl, rfl, ?_, upd_same, ?_, fun z4 hz4 => ?_⟩⟩⟩⟩
          · rw [List.length_map]
            show base.length + 1 ≤ sizeLine
            exact Nat.le_trans (show base.length + 1 ≤ 101 by omega) (by decide)
          · exact (((Grows.new hz1).trans (Grows.new hz2)).trans (Grows.new hz3)) _ _ rz.top
          · rw [List.length_map]
            show ls.length + 1 ≤ sizeLine
            exact Nat.le_trans (show ls.length + 1 ≤ 101 by omega) (by decide)
          · have t2 := (Grows.new (o := .lst [V.ref z2]) hz3).trans (Grows.new (o := .lst (ls.map (fun c => V.ref c.1) ++ [V.ref z2])) hz4)
            have t1 := ((Grows.new (o := .lst [V.int (0 + (i : Nat) + 1)]) hz1).trans (Grows.new (o := .lst (base.map V.int ++ [V.int (0 + (i : Nat) + 1)])) hz2)).trans t2
            refine ⟨z4, ls ++ [(z2, base ++ [(i : Int) + 1])], _, _, _, _, _, rfl, ((g.trans g1).trans g3).trans t1, ⟨?_, fun c hc => ?_⟩, ?_⟩
            · rw [upd_same, List.map_append]
              rfl
            · rcases List.mem_append.mp hc with h | h
              · exact t1 _ _ (rz.each c h)
              · rw [List.mem_singleton.mp h]
                refine t2 _ _ ?_
                rw [upd_same, List.map_append, Int.zero_add]
                rfl
            · rw [List.map_append, el, step]
              unfold stepB
              rw [fl, ebb]
              rfl
      · unfold baseB at hq
        by_cases c : 0 ≤ item
        · rw [decide_eq_true c]
          rw [if_pos c] at hq
          refine iteT ⟨_, rfl, _, rfl, a, _, _, _, rfl, rfl, g.seq hS, ai, (by show 1 ≤ sizeLine; decide), fun z hz => hq _ _ ⟨z, rfl, Grows.new hz, upd_same⟩⟩
        · rw [decide_eq_false c]
          rw [if_neg c] at hq
          have lt : (0 - item - 1).toNat < cs.length := by omega
          refine iteF ⟨_, rfl, _, rfl, _, rfl, a, _, _, _, rfl, rfl, g.seq hS, ai, _, _, rfl, rfl, _, _, rfl, rfl, m, _, _, V.ref (cs.getD (0 - item - 1).toNat (0, [])).1, rfl, rfl, SqL.of rl.top, ?_, hq _ _ ⟨_, rfl, .refl, ?_⟩⟩
          · rw [show (0 - item - 1) = (((0 - item - 1).toNat : Nat) : Int) by omega]
            refine atI_nat ?_
            rw [Int.toNat_natCast, List.getElem?_map, List.getElem?_eq_getElem lt, List.getD_eq_getElem?_getD, List.getElem?_eq_getElem lt]
            rfl
          · rw [rl.at lt, ← ec]
            congr 3
            rw [List.getD_eq_getElem?_getD, List.getD_eq_getElem?_getD, List.getElem?_map, List.getElem?_eq_getElem lt]
            rfl
    · subst e
      rw [List.length_map] at ec
      refine ⟨_, rfl, m, cs, rfl, SqL.of rl.top, fun b hb => SqL.of (rl.each b hb), fun p hp => ?_⟩
      refine k p (cs.mergeSort rowLe) _ ?_ (g.trans (Grows.new hp)) ⟨upd_same, fun c hc => Grows.new hp _ _ (rl.each c (List.mem_mergeSort.mp hc))⟩
      rw [sort_rows, ec]
      rfl
end
end K46

namespace K46
open PySem PySem.Spec PyProof.Rows L2 SortR LcM RepA
def spCutLL (K : PySem.W.Frag) : Sp := fun vs H Q _ => ∃ (a c : Addr) (bs : List (Addr × List Int)) (ns : List Int), vs = [.ref a, .ref c] ∧ Rw K H a bs ∧ bs.length ≤ 100 ∧ (∀ r ∈ bs.map (·.2), r.length ≤ 100) ∧ SqL K H c (ns.map V.int) ∧ ns.Nodup ∧ ns.length ≤ 100 ∧
  ∀ (q : Addr) (cs : List (Addr × List Int)) (H' : Hp), cs.map (·.2) = cutR (bs.map (·.2)) ns → Grows H H' → Rl H' q cs → Q (.ref q) H'
def CutInv (H : Hp) (a c m : Addr) (bs : List (Addr × List Int)) (ns : List Int) (i : Nat) (σ : L2.St) (G : Hp) : Prop := ∃ (fs : List (Addr × List Int)) (o3 o4 o5 : Option V), σ = [some (.ref a), some (.ref c), some (.ref m), o3, o4, o5] ∧ Grows H G ∧ Rl G m fs ∧ (∀ f ∈ fs, f.1 ≠ m) ∧ (fs.map (·.2)).Nodup ∧ fs.length ≤ i ∧ ∀ r', r' ∈ fs.map (·.2) ↔ 2 ≤ r'.length ∧ ∃ j, j < i ∧ r' = meet ns (bs.getD j (0, [])).2
theorem rows_dps {K : PySem.W.Frag} {H : Hp} : ∀ {cs : List (Addr × List Int)}, (∀ c ∈ cs, H c.1 = some (.lst (c.2.map L2.V.int))) → DpAll K H (cs.map fun c => L2.V.ref c.1) (cs.map fun c => .list (c.2.map .int))
  | [], _ => .nil
  | c :: cs, h => .cons (.lst (SqL.of (h c List.mem_cons_self)) (rows_dp c.2)) (rows_dps fun d hd => h d (List.mem_cons_of_mem _ hd))
theorem any_rows (fs : List (Addr × List Int)) (part : List Int) : ((fs.map fun f => PyData.list (f.2.map .int)).any fun z => PyData.eqv z (.list (part.map .int))) = decide (part ∈ fs.map (·.2)) := by
  rw [Bool.eq_iff_iff, List.any_map, List.any_eq_true, decide_eq_true_eq, List.mem_map]
  constructor
  · rintro ⟨f, hf, e⟩
    rw [Function.comp, eqv_ints] at e
    exact ⟨f, hf, of_decide_eq_true e⟩
  · rintro ⟨f, hf, e⟩
    refine ⟨f, hf, ?_⟩
    rw [Function.comp, eqv_ints]
    exact decide_eq_true e
theorem hu65 {k : Nat} {A : Around} (r : Room k A) : A.units + 65 < cLine := by have := r.un; omega
section
variable {P : Program} {w : World} {K : PySem.W.Frag} {mg : Str → Option Value} {base : Heap}
theorem scCutL : FnScope ["lot", "kept", "found", "one", "x", "part"] ["lot", "kept"] (defScope sCutL) := ⟨rfl, rfl, rfl, by decide +kernel, rfl, by decide +kernel, by decide +kernel⟩
theorem ok_cutL (W : LawG K mg) (T : TxtP mg) (T0 : Txt0 mg) : FnOk P w K mg base CX0 1 W.fCutL W.dCutL ["lot", "kept"] (spCutLL K) := by
  refine W.FCutL.ok scCutL (fun vs H Q E h => ?_) (fun cdv A outer s H vs Q E hr h => ?_)
  · obtain ⟨a, c, bs, ns, rfl, _⟩ := h
    rfl
  · obtain ⟨a, c, bs, ns, rfl, hB, z1, z2, hS, nd, z3, k⟩ := h
    refine ⟨_, (pss_cons (ps_set (i := 2) scCutL.nd rfl (.inl rfl) (pe_lst pa_nil))
      (pss_cons (ps_for PassesOwn.never rfl (pi_list (pv 0)) (pg_name (i := 3) scCutL.nd rfl (.inl rfl))
      (pss_cons (ps_setLc (i := 5) (te := tBM K "list" (rIndex K) (tVar 1) (tCons (tVar 4) tNil)) (own := [("x", 4)]) (g := gName 4) rfl scCutL.nd rfl rfl (sw_true rfl rfl rfl (by decide +kernel)) (pi_list (pv 3)) (blkOk_by (own := [("x", 4)]) (N := ["lot", "kept", "found", "one", "x", "part"]) (sc := defScope sCutL) (by decide +kernel)) (fun _ _ _ _ _ => pg_name (i := 4) scCutL.nd rfl (Or.inl rfl)) (fun _ _ _ _ _ => (pts_one (pt_cmpR (r := rIn K false) (by exact op_in_seq) (pv 4) (pv 1) (by rfl)))) (fun _ _ _ _ _ => (pe_bm (r := rIndex K) PySem.F.plainAttrs_list PySem.F.slot_list_index PySem.F.type_list_index (by exact mt_index) (pv 1) (pa_cons (pv 4) pa_nil))))
      (pss_one (ps_if (PW.pt (pw_and (pt_cmpR op_gt (pe_callB call_len_seq (by rfl) T.len (by decide +kernel) (pa_cons (pv 5) pa_nil)) pe_int (nomark _)) (pw_and1 (pt_cmpR (r := rNotInD K) (by exact op_notInD (hu65 hr)) (pv 5) (pv 2) (by rfl))))) (pss_one (ps_expr (pe_bm PySem.F.plainAttrs_list PySem.F.slot_list_append PySem.F.type_list_append mt_append (pv 2) (pa_cons (pv 5) pa_nil)))) pss_nil))))
      (pss_one (ps_ret (pe_callB (call_sortedR hr.units) (by rfl) T.sorted (by decide +kernel) (pa_cons (pv 2) pa_nil)))))), ?_⟩
    refine ⟨(by show 0 ≤ sizeLine; decide), fun m hm => ?_⟩
    have g0 : Grows H (upd H m (.lst [])) := Grows.new hm
    refine ⟨_, rfl, a, rfl, ⟨_, (hB.keep g0).top⟩, for_list (K := K) (xs := bs.map fun b => V.ref b.1) (CutInv H a c m bs ns)
      ⟨[], none, none, none, rfl, g0, ⟨upd_same, fun _ h => nomatch h⟩, (fun _ h => nomatch h), List.nodup_nil, Nat.le_refl _, fun r' => ⟨(fun h => nomatch h), fun ⟨_, j, hj, _⟩ => absurd hj (Nat.not_lt_zero j)⟩⟩ (fun i σ G _ ⟨_, _, _, _, _, g, _⟩ => (hB.keep g).top) (fun i x σ G hx ⟨fs, o3, o4, o5, e, g, rl, nm, fnd, fle, mem⟩ => ?_) fun σ G ⟨fs, o3, o4, o5, e, g, rl, nm, fnd, fle, mem⟩ => ?_⟩
    · subst e
      have il := (List.getElem?_eq_some_iff.mp hx).1
      rw [List.length_map] at il
      obtain rfl := at_map (d := (0, [])) hx
      have hB1 := hB.keep g
      have hr1 := hB1.at il
      have hrl := z2 _ (mem_at il)
      have nn : m ≠ (bs.getD i (0, [])).1 ∨ True := .inr trivial
      refine ⟨_, rfl, _, rfl, ⟨_, hr1⟩, fun D hD => lc_listT (K := K) (fun j => (plc ns ((bs.getD i (0, [])).2.getD j 0)).isSome) (fun j => V.int (((plc ns ((bs.getD i (0, [])).2.getD j 0)).getD 0 : Nat) : Int)) hD hr1 (by rw [List.length_map]; omega) (fun j y H2 Ry Rn hy sm ky kn => ?_) fun H2 g2 e2 => ?_⟩
      · have hS2 := (g.trans sm).seq hS
        obtain rfl := at_map (d := 0) hy
        generalize (bs.getD i (0, [])).2.getD j 0 = x at ky kn
        refine ⟨rfl, _, rfl, _, rfl, c, _, rfl, .inl hS2, rfl, flat_ints _, _, rfl, ?_⟩
        show if inV (.int x) (ns.map V.int) = true then _ else _
        rw [inV_ints]
        by_cases h : x ∈ ns
        · rw [decide_eq_true h]
          obtain ⟨j', jl, e⟩ := List.getElem_of_mem h
          have ps := plc_some (x := x) nd jl (by rw [List.getD_eq_getElem?_getD, List.getElem?_eq_getElem jl]; exact e)
          rw [ps] at ky
          refine iteT ⟨_, rfl, .inl ⟨rfl, _, hS2⟩, _, rfl, c, _, V.int x, j', V.int x, rfl, rfl, hS2, rfl, flat_ints _, by rw [List.getElem?_map, List.getElem?_eq_getElem jl, e]; rfl, beq_self_eq_true _, fun m z' mj hz => ?_, ky rfl _ .refl⟩
          have ml : m < ns.length := by omega
          rw [List.getElem?_map, List.getElem?_eq_getElem ml] at hz
          obtain rfl := Option.some.inj hz
          show (ns[m] == x) = false
          rw [beq_eq_false_iff_ne, ← e]
          exact List.pairwise_iff_getElem.mp nd m j' ml jl mj
        · rw [decide_eq_false h]
          rw [plc_none h] at kn
          exact iteF (kn rfl _ .refl)
      · have e2 : H2 D = some (.lst ((meet ns (bs.getD i (0, [])).2).map V.int)) := by
          rw [e2, List.length_map]
          unfold kept meet
          rw [List.map_map]
          rfl
        have ml : (meet ns (bs.getD i (0, [])).2).length ≤ 100 := Nat.le_trans (meet_le _ _) hrl
        generalize em : meet ns (bs.getD i (0, [])).2 = part at e2 ml
        have rl2 := rl.keep g2
        have nD : D ≠ m := fun h => by
          rw [h, rl.top] at hD
          cases hD
        refine ⟨_, rfl, D, _, rfl, .inl (SqL.of e2), _, _, rfl, rfl, _, rfl, ?_⟩
        have stay : ¬ (1 < part.length ∧ part ∉ fs.map (·.2)) → CutInv H a c m bs ns (i + 1) [some (.ref a), some (.ref c), some (.ref m), some (.ref (bs.getD i (0, [])).1), o4, some (.ref D)] H2 := fun no => by
          refine ⟨fs, _, _, _, rfl, g.trans g2, rl2, nm, fnd, by omega, fun r' => ?_⟩
          rw [mem]
          refine and_congr_right fun l2 => ⟨fun ⟨j, jl, e⟩ => ⟨j, by omega, e⟩, fun ⟨j, jl, e⟩ => ?_⟩
          rcases Nat.lt_or_ge j i with lt | ge
          · exact ⟨j, lt, e⟩
          · obtain rfl : j = i := by omega
            rw [em] at e
            subst e
            have z : r' ∈ fs.map (·.2) := Classical.byContradiction fun z => no ⟨by omega, z⟩
            exact ((mem r').mp z).2
        show if decide ((1 : Int) < ((part.map V.int).length : Int)) = true then _ else _
        by_cases h1 : (1 : Int) < ((part.map V.int).length : Int)
        · rw [if_pos (decide_eq_true h1)]
          rw [List.length_map] at h1
          have sh : SeqAt.shaped (.list (fs.map fun f => .list (f.2.map .int))) = true := by
            have := shaped_rows (fs.map (·.2))
            rw [List.map_map] at this
            exact this
          refine ⟨_, rfl, _, rfl, .list (part.map .int), fs.map (fun f => .list (f.2.map .int)), .lst (SqL.of e2) (rows_dp part), .lst (SqL.of rl2.top) (rows_dps rl2.each), shaped_ints _, sh, _, rfl, ?_⟩
          rw [any_rows]
          by_cases h2 : part ∈ fs.map (·.2)
          · rw [decide_eq_true h2]
            exact iteF (stay fun z => z.2 h2)
          · rw [decide_eq_false h2]
            refine iteT ⟨_, rfl, .inl ⟨rfl, _, SqL.of rl2.top⟩, _, rfl, m, _, _, rfl, rfl, rl2.top, ?_, ?_⟩
            · rw [List.length_map]
              exact Nat.lt_of_le_of_lt (show fs.length ≤ 100 by omega) (by decide)
            · show CutInv H a c m bs ns (i + 1) _ _
              refine ⟨fs ++ [(D, part)], _, _, _, rfl, fun b o e => ?_, ⟨?_, fun f hf => ?_⟩, fun f hf => ?_, ?_, ?_, fun r' => ?_⟩
              · rw [upd_ne (ne_of_none e hm)]
                exact g2 _ _ (g _ _ e)
              · rw [upd_same, List.map_append]
                rfl
              · rcases List.mem_append.mp hf with h | h
                · rw [upd_ne (nm f h)]
                  exact rl2.each f h
                · rw [List.mem_singleton.mp h, upd_ne nD]
                  exact e2
              · rcases List.mem_append.mp hf with h | h
                · exact nm f h
                · rw [List.mem_singleton.mp h]
                  exact nD
              · rw [List.map_append]
                exact List.nodup_append.mpr ⟨fnd, by simp, fun x hx y hy e => by
                  have z : y = part := List.mem_singleton.mp hy
                  exact h2 (by rw [← z, ← e]; exact hx)⟩
              · rw [List.length_append]
                show fs.length + 1 ≤ i + 1
                omega
              · rw [List.map_append, List.mem_append, mem]
                constructor
                · rintro (⟨l2, j, jl, e⟩ | h)
                  · exact ⟨l2, j, by omega, e⟩
                  · have z : r' = part := List.mem_singleton.mp h
                    exact ⟨by rw [z]; omega, i, by omega, by rw [z, em]⟩
                · rintro ⟨l2, j, jl, e⟩
                  rcases Nat.lt_or_ge j i with lt | ge
                  · exact .inl ⟨l2, j, lt, e⟩
                  · obtain rfl : j = i := by omega
                    rw [em] at e
                    exact .inr (List.mem_singleton.mpr e)
        · rw [if_neg (fun z => h1 (of_decide_eq_true z))]
          rw [List.length_map] at h1
          exact stay fun z => by omega
    · subst e
      refine ⟨_, rfl, m, fs, rfl, SqL.of rl.top, fun b hb => SqL.of (rl.each b hb), fun p hp => ?_⟩
      refine k p (fs.mergeSort rowLe) _ ?_ (g.trans (Grows.new hp)) ⟨upd_same, fun c hc => Grows.new hp _ _ (rl.each c (List.mem_mergeSort.mp hc))⟩
      rw [sort_rows]
      refine (cut_is fnd fun r' => ?_).symm
      rw [mem]
      refine and_congr Iff.rfl ⟨fun ⟨r, hr, e⟩ => ?_, fun ⟨j, hj, e⟩ => ?_⟩
      · obtain ⟨j, jl, rfl⟩ := List.getElem_of_mem hr
        rw [List.length_map] at jl
        exact ⟨j, by rw [List.length_map]; exact jl, by rw [e, List.getElem_map, List.getD_eq_getElem?_getD, List.getElem?_eq_getElem jl]; rfl⟩
      · rw [List.length_map] at hj
        exact ⟨_, mem_at hj, e⟩
end
end K46

namespace K46
open PySem PySem.Spec PyProof.Rows L2 SortR LcM RepA
def PFL (rs : List (List Int)) (g A : List Int) : Prop := A = [g.getD 0 0] ∨ (A ∈ rs ∧ g.getD 0 0 ∈ A ∧ A.length < g.length)
def spMaker (K : PySem.W.Frag) : Sp := fun vs H Q _ => ∃ (a c : Addr) (bs : List (Addr × List Int)) (g : List Int) (q : Int), vs = [.ref a, .ref c] ∧ Rw K H a bs ∧ bs.length ≤ 100 ∧ (∀ r ∈ bs.map (·.2), r.length ≤ 100) ∧ SqL K H c (g.map V.int) ∧ 1 ≤ g.length ∧ g.length ≤ 100 ∧
  (∀ A, PFL (bs.map (·.2)) g A → (∀ r ∈ bs.map (·.2), g.getD 0 0 ∈ r → r.length < g.length → r.length ≤ A.length) → ∃ rest, (g.filter fun x => decide (x ∉ A)) = q :: rest ∧ ∀ y ∈ rest, q ≤ y) ∧
  ∀ H', Grows H H' → Q (.int q) H'
def MkInv (K : PySem.W.Frag) (H : Hp) (a c : Addr) (bs : List (Addr × List Int)) (g : List Int) (i : Nat) (σ : L2.St) (G : Hp) : Prop := ∃ (fa : Addr) (F : List Int) (o3 o4 : Option V), σ = [some (.ref a), some (.ref c), some (.ref fa), o3, o4] ∧ Grows H G ∧ SqL K G fa (F.map V.int) ∧ PFL (bs.map (·.2)) g F ∧
  ∀ j, j < i → g.getD 0 0 ∈ (bs.getD j (0, [])).2 → (bs.getD j (0, [])).2.length < g.length → (bs.getD j (0, [])).2.length ≤ F.length
theorem filtB {α : Type} (d : α) (p : α → Bool) (cs : List α) : ((List.range cs.length).filter fun i => p (cs.getD i d)).map (fun i => cs.getD i d) = cs.filter p := by
  have e : (fun i => p (cs.getD i d)) = p ∘ (fun i => cs.getD i d) := rfl
  rw [e, ← List.filter_map]
  congr 1
  refine List.ext_getElem (by rw [List.length_map, List.length_range]) fun i h1 h2 => ?_
  rw [List.getElem_map, List.getElem_range, List.getD_eq_getElem?_getD, List.getElem?_eq_getElem h2]
  rfl
theorem ints_filterB (p : Int → Bool) (xs : List Int) : kept (fun i => p (xs.getD i 0)) (fun i => V.int (xs.getD i 0)) xs.length = (xs.filter p).map V.int := by
  rw [← filtB 0 p xs, List.map_map]
  rfl
section
variable {P : Program} {w : World} {K : PySem.W.Frag} {mg : Str → Option Value} {base : Heap}
theorem scMakerL : FnScope ["lot", "one", "first", "other", "x"] ["lot", "one"] (defScope sMakerL) := ⟨rfl, rfl, rfl, by decide +kernel, rfl, by decide +kernel, by decide +kernel⟩
theorem ok_maker (W : LawG K mg) (T : TxtP mg) (T0 : Txt0 mg) : FnOk P w K mg base CX0 1 W.fMaker W.dMaker ["lot", "one"] (spMaker K) := by
  refine W.FMaker.ok scMakerL (fun vs H Q E h => ?_) (fun cdv A outer s H vs Q E hr h => ?_)
  · obtain ⟨a, c, bs, g, q, rfl, _⟩ := h
    rfl
  · obtain ⟨a, c, bs, g, q, rfl, hB, z1, z2, hS, y1, y2, ok, k⟩ := h
    refine ⟨_, (pss_cons (ps_set (i := 2) scMakerL.nd rfl (.inr rfl) (pe_lst (pa_cons (pe_ix (r := rIxL K) ix_list (pv 1) pe_int (fun _ _ => rfl)) pa_nil)))
      (pss_cons (ps_for PassesOwn.never rfl (pi_list (pv 0)) (pg_name (i := 3) scMakerL.nd rfl (.inl rfl))
      (pss_one (ps_if (PW.pt (pw_and (pt_cmpR (r := rIn K false) (by exact op_in_seq) (pe_ix (r := rIxL K) ix_list (pv 1) pe_int (fun _ _ => rfl)) (pv 3) (by rfl)) (pw_and1 (pt_chain op_lt op_lt (pe_callB call_len_seq (by rfl) T.len (by decide +kernel) (pa_cons (pv 2) pa_nil)) (pe_callB call_len_seq (by rfl) T.len (by decide +kernel) (pa_cons (pv 3) pa_nil)) (pe_callB call_len_seq (by rfl) T.len (by decide +kernel) (pa_cons (pv 1) pa_nil)))))) (pss_one (ps_set (i := 2) scMakerL.nd rfl (.inr rfl) (pv 3))) pss_nil)))
      (pss_one (ps_ret (pe_callB (cr_min rfl) (by rfl) T0.min (by decide +kernel) (pa_cons (pe_lc (own := [("x", 4)]) (g := gName 4) rfl scMakerL.nd (pi_list (pv 1)) (blkOk_by (own := [("x", 4)]) (N := ["lot", "one", "first", "other", "x"]) (sc := defScope sMakerL) (by decide +kernel)) (fun _ _ _ _ _ => pg_name (i := 4) scMakerL.nd rfl (Or.inl rfl)) (fun _ _ _ _ _ => (pts_one (pt_cmpR (r := rIn K true) (by exact op_notIn_seq) (pv 4) (pv 2) (by rfl)))) (fun _ _ _ _ _ => (pv 4))) pa_nil)))))), ?_⟩
    have a0 : atI (g.map V.int) 0 = some (V.int (g.getD 0 0)) := by
      cases g with
      | nil => exact absurd y1 (by decide)
      | cons x _ => exact atI_nat (j := 0) rfl
    refine ⟨_, rfl, c, _, _, _, rfl, rfl, hS, a0, (by show 1 ≤ sizeLine; decide), fun f0 hf0 => ?_⟩
    have g0 : Grows H (upd H f0 (.lst [V.int (g.getD 0 0)])) := Grows.new hf0
    refine ⟨_, rfl, a, rfl, ⟨_, (hB.keep g0).top⟩, for_list (K := K) (xs := bs.map fun b => V.ref b.1) (MkInv K H a c bs g)
      ⟨f0, [g.getD 0 0], none, none, rfl, g0, SqL.of upd_same, .inl rfl, fun j hj => absurd hj (Nat.not_lt_zero j)⟩ (fun i σ G _ ⟨_, _, _, _, _, g, _⟩ => (hB.keep g).top) (fun i x σ G hx ⟨fa, F, o3, o4, e, gG, hF, pf, mx⟩ => ?_) fun σ G ⟨fa, F, o3, o4, e, gG, hF, pf, mx⟩ => ?_⟩
    · subst e
      have il := (List.getElem?_eq_some_iff.mp hx).1
      rw [List.length_map] at il
      obtain rfl := at_map (d := (0, [])) hx
      have hr1 := (hB.keep gG).at il
      have hm := mem_at il
      have stay : (g.getD 0 0 ∈ (bs.getD i (0, [])).2 → (bs.getD i (0, [])).2.length < g.length → (bs.getD i (0, [])).2.length ≤ F.length) → MkInv K H a c bs g (i + 1) [some (.ref a), some (.ref c), some (.ref fa), some (.ref (bs.getD i (0, [])).1), o4] G := fun no => by
        refine ⟨fa, F, _, _, rfl, gG, hF, pf, fun j hj h1 h2 => ?_⟩
        rcases Nat.lt_or_ge j i with lt | ge
        · exact mx j lt h1 h2
        · obtain rfl : j = i := by omega
          exact no h1 h2
      have hg := gG.seq hS
      refine ⟨_, rfl, c, _, _, _, rfl, rfl, hg, a0, _, rfl, (bs.getD i (0, [])).1, _, rfl, .inl hr1, rfl, flat_ints _, _, rfl, ?_⟩
      show if inV (.int (g.getD 0 0)) ((bs.getD i (0, [])).2.map V.int) = true then _ else _
      rw [inV_ints]
      by_cases h1 : g.getD 0 0 ∈ (bs.getD i (0, [])).2
      · rw [decide_eq_true h1]
        refine iteT ⟨_, rfl, fa, _, rfl, .inl hF, _, rfl, (bs.getD i (0, [])).1, _, rfl, .inl hr1, _, _, rfl, rfl, _, rfl, ?_⟩
        by_cases h2 : ((F.map V.int).length : Int) < (((bs.getD i (0, [])).2.map V.int).length : Int)
        · rw [if_pos (decide_eq_true h2)]
          refine ⟨_, rfl, c, _, rfl, .inl hg, _, _, rfl, rfl, _, rfl, ?_⟩
          rw [List.length_map, List.length_map] at h2
          show if decide ((((bs.getD i (0, [])).2.map V.int).length : Int) < ((g.map V.int).length : Int)) = true then _ else _
          rw [List.length_map, List.length_map]
          by_cases h3 : ((bs.getD i (0, [])).2.length : Int) < (g.length : Int)
          · rw [decide_eq_true h3]
            refine iteT ⟨_, rfl, ?_⟩
            show MkInv K H a c bs g (i + 1) _ _
            refine ⟨(bs.getD i (0, [])).1, (bs.getD i (0, [])).2, _, _, rfl, gG, hr1, .inr ⟨hm, h1, by omega⟩, fun j hj h4 h5 => ?_⟩
            rcases Nat.lt_or_ge j i with lt | ge
            · have := mx j lt h4 h5
              omega
            · obtain rfl : j = i := by omega
              exact Nat.le_refl _
          · rw [decide_eq_false h3]
            exact iteF (stay fun _ h => by omega)
        · rw [if_neg (fun z => h2 (of_decide_eq_true z))]
          rw [List.length_map, List.length_map] at h2
          exact ⟨_, rfl, iteF (stay fun _ _ => by omega)⟩
      · rw [decide_eq_false h1]
        exact iteF (stay fun h => absurd h h1)
    · subst e
      rw [List.length_map] at mx
      have hg := gG.seq hS
      obtain ⟨rest, ef, lo⟩ := ok F pf fun r hr h1 h2 => by
        obtain ⟨b, hb, rfl⟩ := List.mem_map.mp hr
        obtain ⟨j, jl, rfl⟩ := List.getElem_of_mem hb
        have eb : bs.getD j (0, []) = bs[j] := by rw [List.getD_eq_getElem?_getD, List.getElem?_eq_getElem jl]; rfl
        have := mx j jl
        rw [eb] at this
        exact this h1 h2
      refine ⟨_, rfl, c, rfl, ⟨_, hg⟩, fun D hD => lc_listT (K := K) (fun j => decide (g.getD j 0 ∉ F)) (fun j => V.int (g.getD j 0)) hD hg (by rw [List.length_map]; omega) (fun j y H2 Ry Rn hy sm ky kn => ?_) fun H2 g2 e2 => ?_⟩
      · obtain rfl := at_map (d := 0) hy
        refine ⟨rfl, _, rfl, _, rfl, fa, _, rfl, .inl (sm.seq hF), rfl, flat_ints _, _, rfl, ?_⟩
        show if (!inV (.int (g.getD j 0)) (F.map V.int)) = true then _ else _
        rw [inV_ints]
        by_cases h : g.getD j 0 ∈ F
        · rw [decide_eq_true h]
          exact iteF (kn (decide_eq_false fun z => z h) _ .refl)
        · rw [decide_eq_false h]
          exact iteT ⟨_, rfl, ky (decide_eq_true h) _ .refl⟩
      · rw [List.length_map, ints_filterB (fun x => decide (x ∉ F)), ef] at e2
        refine ⟨D, q :: rest, rfl, SqL.of e2, by simp, fun m hm hl => ?_⟩
        have z : m = q := by
          have z1 := hl q List.mem_cons_self
          rcases List.mem_cons.mp hm with z | z
          · exact z
          · have := lo m z
            omega
        rw [z]
        exact k _ (gG.trans g2)
end
end K46

namespace K46
open PySem PySem.Spec PyProof.Rows L2 SortR LcM RepA
section
variable {is : List Int} {j : Nat} {rs : List (List Int)}
theorem come_rows (b : Bnd is) (hj : j < is.length) (h : ∀ r, r ∈ rs ↔ r ∈ famB is (j + 1)) (r : List Int) : r ∈ rs ↔ (∃ w ∈ famB is j, r = growB ((j : Int) + 1) (baseB (famB is j) (is.getD j 0)) w) ∨ r = baseB (famB is j) (is.getD j 0) ++ [(j : Int) + 1] := by
  rw [h]
  show r ∈ stepB (famB is j) (is.getD j 0) ↔ _
  unfold stepB
  rw [famB_len, List.mem_append, List.mem_map, List.mem_singleton]
  exact or_congr ⟨fun ⟨r, a, c⟩ => ⟨r, a, c.symm⟩, fun ⟨r, a, c⟩ => ⟨r, a, c.symm⟩⟩ Iff.rfl
theorem base_bas (b : Bnd is) (hj : j < is.length) : Bas (famB is j) (baseB (famB is j) (is.getD j 0)) := by
  have e : is[j]? = some is[j] := List.getElem?_eq_getElem hj
  have bd := b j _ e
  have eg : is.getD j 0 = is[j] := by rw [List.getD_eq_getElem?_getD, e]; rfl
  have fl := famB_len is j
  exact (famB_ok b j (by omega)).bas (by rw [fl, eg]; exact bd.1) (by rw [fl, eg]; exact bd.2)
theorem item_rng (b : Bnd is) (hj : j < is.length) : -(j : Int) ≤ is.getD j 0 ∧ is.getD j 0 ≤ (j : Int) := by
  have e : is[j]? = some is[j] := List.getElem?_eq_getElem hj
  have bd := b j _ e
  have eg : is.getD j 0 = is[j] := by rw [List.getD_eq_getElem?_getD, e]; rfl
  rw [eg]
  exact bd
theorem base_pos {is : List Int} {j : Nat} (c : 0 ≤ is.getD j 0) : baseB (famB is j) (is.getD j 0) = [is.getD j 0] := by
  unfold baseB
  rw [if_pos c]
theorem base_neg (b : Bnd is) (hj : j < is.length) (c : ¬ 0 ≤ is.getD j 0) : (0 - is.getD j 0 - 1).toNat < j ∧ baseB (famB is j) (is.getD j 0) = (famB is j).getD (0 - is.getD j 0 - 1).toNat [] ∧ baseB (famB is j) (is.getD j 0) ∈ famB is j := by
  have bd := item_rng b hj
  have fl := famB_len is j
  have lt : (0 - is.getD j 0 - 1).toNat < j := by omega
  have e : baseB (famB is j) (is.getD j 0) = (famB is j).getD (0 - is.getD j 0 - 1).toNat [] := by
    unfold baseB
    rw [if_neg c]
  refine ⟨lt, e, ?_⟩
  rw [e, List.getD_eq_getElem?_getD, List.getElem?_eq_getElem (by rw [fl]; exact lt)]
  exact List.getElem_mem _
/-- what is beside or under the last person: ascending, of those who came before -/
theorem base_up (b : Bnd is) (hj : j < is.length) : (baseB (famB is j) (is.getD j 0)).Pairwise (· < ·) ∧ 1 ≤ (baseB (famB is j) (is.getD j 0)).length ∧ ∀ x ∈ baseB (famB is j) (is.getD j 0), 0 ≤ x ∧ x ≤ (j : Int) := by
  have bd := item_rng b hj
  have F := famB_ok b j (by omega)
  by_cases c : 0 ≤ is.getD j 0
  · rw [base_pos c]
    refine ⟨List.pairwise_singleton _ _, Nat.le_refl _, fun x hx => ?_⟩
    rw [List.mem_singleton.mp hx]
    omega
  · obtain ⟨_, _, m⟩ := base_neg b hj c
    refine ⟨F.up _ m, by have := F.two _ m; omega, fun x hx => ?_⟩
    have := F.rng _ m x hx
    rw [famB_len] at this
    exact this
theorem least_is (b : Bnd is) (hj : j < is.length) (h : ∀ r, r ∈ rs ↔ r ∈ famB is (j + 1)) {L : List Int} (hL : L = upto (j + 2) ∨ (L ∈ rs ∧ (j : Int) + 1 ∈ L)) (mx : ∀ r ∈ rs, (j : Int) + 1 ∈ r → L.length ≤ r.length) : L = baseB (famB is j) (is.getD j 0) ++ [(j : Int) + 1] := by
  have rows := come_rows b hj h
  obtain ⟨up, l1, rg⟩ := base_up b hj
  have F := famB_ok b j (by omega)
  generalize baseB (famB is j) (is.getD j 0) = q at rows up l1 rg
  have new : q ++ [(j : Int) + 1] ∈ rs := (rows _).mpr (.inr rfl)
  have l := mx _ new (List.mem_append.mpr (.inr List.mem_cons_self))
  rw [List.length_append] at l
  have l : L.length ≤ q.length + 1 := l
  rcases hL with e | ⟨h1, h2⟩
  · rw [e, upto_ln] at l
    have up2 : (q ++ [(j : Int) + 1]).Pairwise (· < ·) := by
      refine List.pairwise_append.mpr ⟨up, List.pairwise_singleton _ _, fun x hx y hy => ?_⟩
      rw [List.mem_singleton.mp hy]
      have := rg x hx
      omega
    have sub : ∀ z ∈ q ++ [(j : Int) + 1], z ∈ upto (j + 2) := fun z hz => by
      rw [upto_mem]
      rcases List.mem_append.mp hz with z1 | z1
      · have := rg z z1
        omega
      · rw [List.mem_singleton.mp z1]
        omega
    rw [e]
    refine up_same (upto_asc _) up2 fun z => ⟨sub_back (up_nodup up2) sub (by rw [upto_ln, List.length_append]; exact l) z, sub z⟩
  · rcases (rows L).mp h1 with ⟨w, hw, rfl⟩ | h3
    · exfalso
      have nw : (j : Int) + 1 ∉ w := fun z => by
        have := (F.rng w hw _ z).2
        rw [famB_len] at this
        omega
      unfold growB at h2 l
      by_cases c : inB q w = true
      · rw [if_pos c, List.length_append] at l
        unfold inB at c
        rw [Bool.and_eq_true, decide_eq_true_eq] at c
        have l : w.length + 1 ≤ q.length + 1 := l
        omega
      · rw [if_neg c] at h2
        exact nw h2
    · exact h3
theorem sister_is (b : Bnd is) (hj : j < is.length) : (baseB (famB is j) (is.getD j 0) ++ [(j : Int) + 1]).filter (fun x => decide (x ≠ (j : Int) + 1)) = baseB (famB is j) (is.getD j 0) := by
  obtain ⟨up, l1, rg⟩ := base_up b hj
  rw [List.filter_append, List.filter_eq_self.mpr fun x hx => decide_eq_true (by have := rg x hx; omega)]
  have : [(j : Int) + 1].filter (fun x => decide (x ≠ (j : Int) + 1)) = [] := by
    rw [List.filter_eq_nil_iff]
    intro x hx
    rw [List.mem_singleton.mp hx]
    simp
  rw [this, List.append_nil]
theorem maker_is (b : Bnd is) (hj : j < is.length) (h : ∀ r, r ∈ rs ↔ r ∈ famB is (j + 1)) (c : ¬ 0 ≤ is.getD j 0) {A : List Int} (hA : PFL rs (baseB (famB is j) (is.getD j 0)) A)
    (mx : ∀ r ∈ rs, (baseB (famB is j) (is.getD j 0)).getD 0 0 ∈ r → r.length < (baseB (famB is j) (is.getD j 0)).length → r.length ≤ A.length) :
    ∃ rest, ((baseB (famB is j) (is.getD j 0)).filter fun x => decide (x ∉ A)) = -(is.getD j 0) :: rest ∧ ∀ y ∈ rest, -(is.getD j 0) ≤ y := by
  have rows := come_rows b hj h
  obtain ⟨up, l1, rg⟩ := base_up b hj
  obtain ⟨lt, eq, qm⟩ := base_neg b hj c
  have F := famB_ok b j (by omega)
  have mk := mk_fam b j (by omega) _ lt
  rw [← eq] at mk
  have v : (((0 - is.getD j 0 - 1).toNat : Nat) : Int) + 1 = -(is.getD j 0) := by omega
  rw [v] at mk
  generalize -(is.getD j 0) = val at mk ⊢
  generalize baseB (famB is j) (is.getD j 0) = q at rows up l1 rg eq qm mk hA mx ⊢
  have back : ∀ r ∈ rs, r.length < q.length → r ∈ famB is j := fun r hr l => by
    rcases (rows r).mp hr with ⟨w, hw, e⟩ | e
    · unfold growB at e
      by_cases d : inB q w = true
      · rw [if_pos d] at e
        unfold inB at d
        rw [Bool.and_eq_true, decide_eq_true_eq] at d
        rw [e, List.length_append] at l
        omega
      · rw [if_neg d] at e
        rw [e]
        exact hw
    · rw [e, List.length_append] at l
      omega
  have forth : ∀ w ∈ famB is j, w.length < q.length → w ∈ rs := fun w hw l => by
    refine (rows w).mpr (.inl ⟨w, hw, ?_⟩)
    unfold growB
    rw [if_neg]
    unfold inB
    rw [Bool.and_eq_true, decide_eq_true_eq]
    exact fun z => by omega
  have q0m : q.getD 0 0 ∈ q := gd_mem l1
  have first : ∀ r ∈ famB is j, q.getD 0 0 ∈ r → r.length < q.length → r.getD 0 0 = q.getD 0 0 := fun r hr hq l => by
    have r1 : 1 ≤ r.length := by have := F.two r hr; omega
    have r0m : r.getD 0 0 ∈ r := gd_mem r1
    have least : ∀ {x : List Int}, x.Pairwise (· < ·) → ∀ z ∈ x, x.getD 0 0 ≤ z := fun {x} ux z hz => by
      cases x with
      | nil => cases hz
      | cons y ys =>
        rcases List.mem_cons.mp hz with e | e
        · rw [e]; exact Int.le_refl _
        · have := (List.pairwise_cons.mp ux).1 z e
          show y ≤ z
          omega
    rcases F.two_nice hr qm with n | n | n
    · exact absurd q0m (n _ hq)
    · have z1 := least up _ (n _ r0m)
      have z2 := least (F.up r hr) _ hq
      omega
    · have := len_sub (up_nodup up) n
      omega
  have fin : ∀ A' : List Int, (q.filter fun x => decide (x ∉ A')).head? = some val → ∃ rest, (q.filter fun x => decide (x ∉ A')) = val :: rest ∧ ∀ y ∈ rest, val ≤ y := fun A' hd => by
    have u2 : (q.filter fun x => decide (x ∉ A')).Pairwise (· < ·) := List.Pairwise.sublist List.filter_sublist up
    generalize (q.filter fun x => decide (x ∉ A')) = xs at hd u2
    cases xs with
    | nil => cases hd
    | cons x ys =>
      obtain rfl := Option.some.inj hd
      exact ⟨ys, rfl, fun y hy => by have := (List.pairwise_cons.mp u2).1 y hy; omega⟩
  obtain ⟨A', ⟨hA', mx'⟩, hd⟩ := mk
  have e : A = A' := by
    rcases hA with e1 | ⟨m1, q1, s1⟩
    · rcases hA' with e2 | ⟨m2, q2, s2⟩
      · rw [e1, e2]
      · exfalso
        have t2 := F.two _ m2
        have q3 : q.getD 0 0 ∈ A' := by rw [← q2]; exact gd_mem (by omega)
        have := mx A' (forth _ m2 s2) q3 s2
        rw [e1] at this
        have : A'.length ≤ 1 := this
        omega
    · have m3 := back _ m1 s1
      have t1 := F.two _ m3
      have f1 := first _ m3 q1 s1
      have l2 := mx' A m3 f1 s1
      rcases hA' with e2 | ⟨m2, q2, s2⟩
      · exfalso
        rw [e2] at l2
        have : A.length ≤ 1 := l2
        omega
      · have t2 := F.two _ m2
        have q3 : q.getD 0 0 ∈ A' := by rw [← q2]; exact gd_mem (by omega)
        have l3 := mx A' (forth _ m2 s2) q3 s2
        exact F.alike_eq m3 m2 (by rw [f1, q2]) (by omega)
  rw [e]
  exact fin A' hd
end
end K46

namespace K46
open PySem PySem.Spec PyProof.Rows L2 SortR LcM RepA
def spComL (K : PySem.W.Frag) : Sp := fun vs H Q _ => ∃ (a : Addr) (bs : List (Addr × List Int)) (is : List Int), vs = [.ref a] ∧ Rw K H a bs ∧ bs.map (·.2) = lotR is ∧ Bnd is ∧ is.length ≤ 19 ∧
  ∀ (q : Addr) (H' : Hp), Grows H H' → H' q = some (.lst (is.map V.int)) → Q (.ref q) H'
def ComInv (K : PySem.W.Frag) (H : Hp) (a : Addr) (is : List Int) (i : Nat) (σ : L2.St) (G : Hp) : Prop := ∃ (ra ha : Addr) (bs : List (Addr × List Int)) (o3 o4 o5 o6 o7 : Option V), σ = [some (.ref a), some (.ref ra), some (.ref ha), o3, o4, o5, o6, o7] ∧ Grows H G ∧ G ra = some (.lst ((is.drop (is.length - i)).map V.int)) ∧ Rw K G ha bs ∧ bs.map (·.2) = sortB (famB is (is.length - i))
def LeInv (K : PySem.W.Frag) (G : Hp) (a ra ha : Addr) (k : Int) (bs : List (Addr × List Int)) (up : List Int) (i : Nat) (σ : L2.St) (G' : Hp) : Prop := ∃ (la : Addr) (L : List Int) (o5 o6 o7 : Option V), σ = [some (.ref a), some (.ref ra), some (.ref ha), some (.int k), some (.ref la), o5, o6, o7] ∧ Grows G G' ∧ SqL K G' la (L.map V.int) ∧ L.length ≤ 100 ∧ (L = up ∨ (L ∈ bs.map (·.2) ∧ k ∈ L)) ∧
  ∀ j, j < i → k ∈ (bs.getD j (0, [])).2 → L.length ≤ (bs.getD j (0, [])).2.length
section
variable {P : Program} {w : World} {K : PySem.W.Frag} {mg : Str → Option Value} {base : Heap}
theorem scComingL : FnScope ["lot", "row", "here", "k", "least", "one", "x", "sister"] ["lot"] (defScope sComingL) := ⟨rfl, rfl, rfl, by decide +kernel, rfl, by decide +kernel, by decide +kernel⟩
theorem ok_comingL (W : LawG K mg) (T : TxtP mg) (T0 : Txt0 mg) : FnOk P w K mg base CX0 2 W.fComing W.dComing ["lot"] (spComL K) := by
  have GMaker : FnOk P w K mg base CX0 1 W.fMaker W.dMaker ["lot", "one"] (spMaker K) := ok_maker W T T0
  have GCutL : FnOk P w K mg base CX0 1 W.fCutL W.dCutL ["lot", "kept"] (spCutLL K) := ok_cutL W T T0
  refine W.FComing.ok scComingL (fun vs H Q E h => ?_) (fun cdv A outer s H vs Q E hr h => ?_)
  · obtain ⟨a, bs, is, rfl, _⟩ := h
    rfl
  · obtain ⟨a, bs, is, rfl, hB, eb, b, l, k⟩ := h
    refine ⟨_, (pss_cons (ps_par (i := 1) (j := 2) (by rfl) scComingL.nd rfl rfl (by decide) rfl rfl (pa_cons (pe_lst pa_nil) (pa_cons (pv 0) pa_nil)) (by rfl))
      (pss_cons (ps_for PassesOwn.never rfl (pi_range3 (by rfl) T.range (pa_cons (pe_callB call_len_seq (by rfl) T.len (by decide +kernel) (pa_cons (pv 0) pa_nil)) (pa_cons pe_int (pa_cons (pe_un un_neg pe_int) pa_nil)))) (pg_name (i := 3) scComingL.nd rfl (.inr rfl))
      (pss_cons (ps_set (i := 4) scComingL.nd rfl (.inl rfl) (pe_listRg rfl (by rfl) T.list (prg_1 (by rfl) T.range (pe_op op_add (pv 3) pe_int))))
      (pss_cons (ps_for PassesOwn.never rfl (pi_list (pv 2)) (pg_name (i := 5) scComingL.nd rfl (.inl rfl))
      (pss_one (ps_set (i := 4) scComingL.nd rfl (.inl rfl) (pe_ifExp (PW.pt (pw_and (pt_cmpR (r := rIn K false) (by exact op_in_seq) (pv 3) (pv 5) (by rfl)) (pw_and1 (pt_cmpR op_lt (pe_callB call_len_seq (by rfl) T.len (by decide +kernel) (pa_cons (pv 5) pa_nil)) (pe_callB call_len_seq (by rfl) T.len (by decide +kernel) (pa_cons (pv 4) pa_nil)) (nomark _))))) (pv 5) (pv 4)))))
      (pss_cons (ps_setLc (i := 7) (own := [("x", 6)]) (g := gName 6) rfl scComingL.nd rfl rfl (sw_true rfl rfl rfl (by decide +kernel)) (pi_list (pv 4)) (blkOk_by (own := [("x", 6)]) (N := ["lot", "row", "here", "k", "least", "one", "x", "sister"]) (sc := defScope sComingL) (by decide +kernel)) (fun _ _ _ _ _ => pg_name (i := 6) scComingL.nd rfl (Or.inl rfl)) (fun _ _ _ _ _ => (pts_one (pt_cmpR op_ne (pv 6) (pv 3) (nomark _)))) (fun _ _ _ _ _ => (pv 6)))
      (pss_cons (ps_set (i := 1) scComingL.nd rfl (.inl rfl) (pe_op op_cat (pe_lst (pa_cons (pe_ifExp (pt_cmpR op_eq (pe_callB call_len_seq (by rfl) T.len (by decide +kernel) (pa_cons (pv 7) pa_nil)) pe_int (nomark _)) (pe_ix (r := rIxL K) ix_list (pv 7) pe_int (fun _ _ => rfl)) (pe_op op_sub pe_int (pe_call GMaker (hr.mono (by decide)) rfl W.gMaker W.FMaker.kp W.bMaker .nil pass0 (pa_cons (pv 2) (pa_cons (pv 7) pa_nil))))) pa_nil)) (pv 1)))
      (pss_one (ps_set (i := 2) scComingL.nd rfl (.inl rfl) (pe_call GCutL (hr.mono (by decide)) rfl W.gCutL W.FCutL.kp W.bCutL .nil pass0 (pa_cons (pv 2) (pa_cons (pe_listRg rfl (by rfl) T.list (prg_1 (by rfl) T.range (pv 3))) pa_nil))))))))))
      (pss_one (ps_ret (pv 1))))), ?_⟩
    have bl : bs.length = is.length := by rw [← lot_len is, ← eb, List.length_map]
    refine ⟨(by show 0 ≤ sizeLine; decide), fun r0 hr0 => ?_⟩
    have g0 : Grows H (upd H r0 (.lst [])) := Grows.new hr0
    refine ⟨_, rfl, _, _, rfl, _, rfl, a, _, rfl, .inl (hB.keep g0).top, _, rfl, _, _, _, is.length, rfl, ?_, for_rangeC (n := is.length) (ComInv K H a is)
      ⟨r0, a, bs, none, none, none, none, none, rfl, g0, by rw [upd_same, Nat.sub_zero, List.drop_length]; rfl, hB.keep g0, by rw [eb, Nat.sub_zero]; rfl⟩ (fun i σ G il ⟨ra, ha, cs, o3, o4, o5, o6, o7, e, g, er, rw', ec⟩ => ?_) fun σ G ⟨ra, ha, cs, o3, o4, o5, o6, o7, e, g, er, rw', ec⟩ => ?_⟩
    · rw [List.length_map, bl]
      have := RgC.neg (i := (is.length : Int)) (j := 0) (by omega) (by omega) (by omega) (by omega)
      rwa [show ((is.length : Int) - 0).toNat = is.length by omega] at this
    · subst e
      obtain ⟨j, hj, ej⟩ : ∃ j, j < is.length ∧ is.length - i = j + 1 := ⟨is.length - i - 1, by omega, by omega⟩
      rw [List.length_map, show (bs.length : Int) + (i : Nat) * -1 = (j : Int) + 1 by omega]
      rw [ej] at er ec
      have hrs : ∀ r, r ∈ cs.map (·.2) ↔ r ∈ famB is (j + 1) := fun r => by rw [ec]; exact sort_mem
      have fr : ∀ r ∈ cs.map (·.2), 2 ≤ r.length ∧ r.length ≤ 21 := fun r hr => by
        have := fam_row b (show j + 1 ≤ is.length by omega) ((hrs r).mp hr)
        omega
      have cl : cs.length ≤ 20 := by
        have := congrArg List.length ec
        rw [List.length_map] at this
        rw [this]
        have := (List.mergeSort_perm (famB is (j + 1)) fun p q => decide (p ≤ q)).length_eq
        have z := famB_len is (j + 1)
        unfold sortB
        omega
      have ru : ∀ n : Nat, rgV 0 (n : Int) = (upto n).map V.int := fun n => by
        have := upto_V n
        rwa [Int.zero_add] at this
      refine ⟨_, rfl, _, _, rfl, rfl, _, rfl, RgOk.of_le (by decide) (by omega) (by decide) (by omega), fun q0 hq0 => ?_⟩
      have gq : Grows G (upd G q0 (.lst (rgV 0 ((j : Int) + 1 + 1)))) := Grows.new hq0
      have eq0 : upd G q0 (.lst (rgV 0 ((j : Int) + 1 + 1))) q0 = some (.lst ((upto (j + 2)).map V.int)) := by
        rw [upd_same, show (j : Int) + 1 + 1 = ((j + 2 : Nat) : Int) by omega, ru]
      generalize upd G q0 (.lst (rgV 0 ((j : Int) + 1 + 1))) = G1 at gq eq0
      have rw1 := rw'.keep gq
      refine ⟨_, rfl, ha, rfl, ⟨_, rw1.top⟩, for_list (K := K) (xs := cs.map fun c => V.ref c.1) (LeInv K G1 a ra ha ((j : Int) + 1) cs (upto (j + 2)))
        ⟨q0, upto (j + 2), _, _, _, rfl, .refl, SqL.of eq0, by rw [upto_ln]; omega, .inl rfl, fun t ht => absurd ht (Nat.not_lt_zero t)⟩ (fun t σ G' _ ⟨_, _, _, _, _, _, g', _⟩ => (rw1.keep g').top) (fun t x σ G' hx ⟨la, L, o5, o6, o7, e, g', hL, ll, src, mx⟩ => ?_) fun σ G' ⟨la, L, o5, o6, o7, e, g', hL, ll, src, mx⟩ => ?_⟩
      · subst e
        have tl := (List.getElem?_eq_some_iff.mp hx).1
        rw [List.length_map] at tl
        obtain rfl := at_map (d := (0, [])) hx
        have hr1 := (rw1.keep g').at tl
        have hm := mem_at tl
        have stay : ((j : Int) + 1 ∈ (cs.getD t (0, [])).2 → L.length ≤ (cs.getD t (0, [])).2.length) → LeInv K G1 a ra ha ((j : Int) + 1) cs (upto (j + 2)) (t + 1) [some (.ref a), some (.ref ra), some (.ref ha), some (.int ((j : Int) + 1)), some (.ref la), some (.ref (cs.getD t (0, [])).1), o6, o7] G' := fun no => by
          refine ⟨la, L, _, _, _, rfl, g', hL, ll, src, fun u hu h1 => ?_⟩
          rcases Nat.lt_or_ge u t with lt | ge
          · exact mx u lt h1
          · obtain rfl : u = t := by omega
            exact no h1
        refine ⟨_, rfl, _, rfl, (cs.getD t (0, [])).1, _, rfl, .inl hr1, rfl, flat_ints _, _, rfl, ?_⟩
        show if inV (.int ((j : Int) + 1)) ((cs.getD t (0, [])).2.map V.int) = true then _ else _
        rw [inV_ints]
        by_cases h1 : (j : Int) + 1 ∈ (cs.getD t (0, [])).2
        · rw [decide_eq_true h1]
          refine iteT ⟨_, rfl, (cs.getD t (0, [])).1, _, rfl, .inl hr1, _, rfl, la, _, rfl, .inl hL, _, _, rfl, rfl, _, rfl, ?_⟩
          show if decide ((((cs.getD t (0, [])).2.map V.int).length : Int) < ((L.map V.int).length : Int)) = true then _ else _
          rw [List.length_map, List.length_map]
          by_cases h2 : ((cs.getD t (0, [])).2.length : Int) < (L.length : Int)
          · rw [decide_eq_true h2]
            refine iteT ⟨_, rfl, ?_⟩
            show LeInv K G1 a ra ha ((j : Int) + 1) cs (upto (j + 2)) (t + 1) _ _
            refine ⟨(cs.getD t (0, [])).1, (cs.getD t (0, [])).2, _, _, _, rfl, g', hr1, by have := fr _ hm; omega, .inr ⟨hm, h1⟩, fun u hu h3 => ?_⟩
            rcases Nat.lt_or_ge u t with lt | ge
            · have := mx u lt h3
              omega
            · obtain rfl : u = t := by omega
              exact Nat.le_refl _
          · rw [decide_eq_false h2]
            exact iteF ⟨_, rfl, stay fun _ => by omega⟩
        · rw [decide_eq_false h1]
          exact iteF ⟨_, rfl, stay fun h => absurd h h1⟩
      · subst e
        rw [List.length_map] at mx
        have eL : L = baseB (famB is j) (is.getD j 0) ++ [(j : Int) + 1] := least_is b hj hrs src fun r hr h1 => by
          obtain ⟨c, hc, rfl⟩ := List.mem_map.mp hr
          obtain ⟨t, tl, rfl⟩ := List.getElem_of_mem hc
          have e : cs.getD t (0, []) = cs[t] := by rw [List.getD_eq_getElem?_getD, List.getElem?_eq_getElem tl]; rfl
          have := mx t tl
          rw [e] at this
          exact this h1
        refine ⟨_, rfl, la, rfl, ⟨_, hL⟩, fun D hD => lc_listT (K := K) (fun t => decide (L.getD t 0 ≠ (j : Int) + 1)) (fun t => V.int (L.getD t 0)) hD hL (by rw [List.length_map]; omega) (fun t y H2 Ry Rn hy sm ky kn => ?_) fun H2 g2 e2 => ?_⟩
        · obtain rfl := at_map (d := 0) hy
          refine ⟨rfl, _, rfl, _, rfl, rfl, _, rfl, ?_⟩
          by_cases e3 : L.getD t 0 = (j : Int) + 1
          · rw [decide_eq_true (show L2.V.int (L.getD t 0) = L2.V.int ((j : Int) + 1) by rw [e3])]
            exact iteF (kn (decide_eq_false fun z => z e3) _ .refl)
          · rw [decide_eq_false (show ¬ L2.V.int (L.getD t 0) = L2.V.int ((j : Int) + 1) from fun z => e3 (L2.V.int.inj z))]
            exact iteT ⟨_, rfl, ky (decide_eq_true e3) _ .refl⟩
        · rw [List.length_map, ints_filterB (fun x => decide (x ≠ (j : Int) + 1)), eL, sister_is b hj] at e2
          obtain ⟨up, l1, rg⟩ := base_up b hj
          have l2 : (baseB (famB is j) (is.getD j 0)).length ≤ 100 := by
            rw [eL, List.length_append] at ll
            omega
          have g12 := gq.trans (g'.trans g2)
          have rw2 := rw1.keep (g'.trans g2)
          have er2 := g12 _ _ er
          refine ⟨_, rfl, D, _, rfl, .inl (SqL.of e2), rfl, _, rfl, ?_⟩
          refine if_goal (R := fun v G4 => v = .int (is.getD j 0) ∧ Grows H2 G4) (fun v G4 ⟨ev, g4⟩ => ?_) fun Q' hq => ?_
          · subst ev
            refine ⟨(by show 1 ≤ sizeLine; decide), fun z1 hz1 => ⟨_, rfl, z1, ra, _, _, rfl, rfl, upd_same, Grows.new hz1 _ _ (g4 _ _ er2), ?_, fun z2 hz2 => ?_⟩⟩
            · rw [List.length_map, List.length_drop]
              show 1 + _ ≤ sizeLine
              exact Nat.le_trans (show 1 + (is.length - (j + 1)) ≤ 100 by omega) (by decide)
            have g5 : Grows H2 (upd (upd G4 z1 (.lst [V.int (is.getD j 0)])) z2 (.lst ([V.int (is.getD j 0)] ++ (is.drop (j + 1)).map V.int))) := g4.trans ((Grows.new hz1).trans (Grows.new hz2))
            refine ⟨_, rfl, _, rfl, _, rfl, RgOk.of_le (by decide) (by omega) (by decide) (by omega), fun q1 hq1 => ?_⟩
            have g6 := g5.trans (Grows.new (o := .lst (rgV 0 ((j : Int) + 1))) hq1)
            have eq1 : upd (upd (upd G4 z1 (.lst [V.int (is.getD j 0)])) z2 (.lst ([V.int (is.getD j 0)] ++ (is.drop (j + 1)).map V.int))) q1 (.lst (rgV 0 ((j : Int) + 1))) q1 = some (.lst ((upto (j + 1)).map V.int)) := by
              rw [upd_same, show (j : Int) + 1 = ((j + 1 : Nat) : Int) by omega, ru]
            have ez2 : upd (upd (upd G4 z1 (.lst [V.int (is.getD j 0)])) z2 (.lst ([V.int (is.getD j 0)] ++ (is.drop (j + 1)).map V.int))) q1 (.lst (rgV 0 ((j : Int) + 1))) z2 = some (.lst ((is.drop j).map V.int)) := by
              refine Grows.new hq1 _ _ ?_
              rw [upd_same, List.drop_eq_getElem_cons hj, List.getD_eq_getElem?_getD, List.getElem?_eq_getElem hj]
              rfl
            refine ⟨ha, q1, cs, upto (j + 1), rfl, rw2.keep g6, by omega, fun r hr => by have := fr r hr; omega, SqL.of eq1, up_nodup (upto_asc _), by rw [upto_ln]; omega, fun q3 cs3 H5 ec3 g7 rl3 => ?_⟩
            show ComInv K H a is (i + 1) _ _
            refine ⟨z2, q3, cs3, _, _, _, _, _, rfl, (g.trans g12).trans (g6.trans g7), ?_, rl3.rw, ?_⟩
            · rw [show is.length - (i + 1) = j by omega]
              exact g7 _ _ ez2
            · rw [ec3, show is.length - (i + 1) = j by omega]
              exact come_is b (show j + 1 ≤ is.length by omega) (Nat.le_succ j) hrs
          · by_cases c : 0 ≤ is.getD j 0
            · have e := base_pos c
              rw [e] at e2
              rw [e, decide_eq_true (show V.int ((([is.getD j 0].map V.int).length : Nat) : Int) = V.int 1 from rfl)]
              refine iteT ⟨_, rfl, D, _, _, _, rfl, rfl, SqL.of e2, atI_nat (j := 0) rfl, hq _ _ ⟨rfl, .refl⟩⟩
            · obtain ⟨lt, eq, qm⟩ := base_neg b hj c
              have two := (fam_row b (Nat.le_of_lt hj) qm).1
              rw [decide_eq_false (fun z => by
                have := L2.V.int.inj z
                rw [List.length_map] at this
                omega)]
              refine iteF ⟨_, rfl, _, rfl, ha, D, cs, baseB (famB is j) (is.getD j 0), -(is.getD j 0), rfl, rw2, by omega, fun r hr => by have := fr r hr; omega, SqL.of e2, l1, l2, fun A hA mx2 => maker_is b hj hrs c hA mx2, fun H3 g3 => ⟨_, _, rfl, rfl, hq _ _ ⟨?_, g3⟩⟩⟩
              show V.int (0 - -(is.getD j 0)) = _
              rw [show 0 - -(is.getD j 0) = is.getD j 0 by omega]
    · subst e
      rw [Nat.sub_self] at er
      exact ⟨_, rfl, k ra G g er⟩
end
end K46

namespace K46
open PySem PySem.Spec PyProof.Rows L2 SortR LcM RepA
def putI (l : List (Int × Int)) (a b : Int) : List (Int × Int) := if (l.any fun p => decide (p.1 = a)) = true then l.map (fun p => if p.1 = a then (p.1, b) else p) else l ++ [(a, b)]
def getO (l : List (Int × Int)) (a : Int) : Option Int := (l.find? fun p => decide (p.1 = a)).map (·.2)
def getI (l : List (Int × Int)) (a : Int) : Int := (getO l a).getD 0
def kvI (l : List (Int × Int)) : List (L2.Key × V) := l.map fun p => (Sum.inl p.1, V.int p.2)
def cs1 (k : Int) (later : List (Int × Int)) (p : Int × Int) : List (Int × Int) := putI (putI later p.1 (getI later p.1 + p.2 * 2 * p.1)) (p.1 + 1) (getI (putI later p.1 (getI later p.1 + p.2 * 2 * p.1)) (p.1 + 1) + p.2 * (2 * k - 1 - 2 * p.1))
def cF : Nat → List (Int × Int)
  | 0 => [(1, 1)]
  | i + 1 => (cF i).foldl (cs1 (2 + (i : Int))) []
def cntI (n : Int) : List Int := (List.range (n + 1).toNat).map fun s : Nat => getI (cF (n - 2).toNat) (s : Int)
theorem putK_kv (l : List (Int × Int)) (a b : Int) : putK (kvI l) (Sum.inl a) (V.int b) = kvI (putI l a b) := by
  have e : ((kvI l).any fun kv => decide (kv.1 = Sum.inl a)) = l.any fun p => decide (p.1 = a) := by
    unfold kvI
    rw [List.any_map]
    congr 1
    funext p
    exact decide_eq_decide.mpr ⟨fun z => Sum.inl.inj z, fun z => congrArg Sum.inl z⟩
  unfold putK putI
  rw [e]
  by_cases c : (l.any fun p => decide (p.1 = a)) = true
  · rw [if_pos c, if_pos c]
    unfold kvI
    rw [List.map_map, List.map_map]
    refine List.map_congr_left fun p _ => ?_
    show (if (Sum.inl p.1 : L2.Key) = Sum.inl a then ((Sum.inl p.1 : L2.Key), V.int b) else (Sum.inl p.1, V.int p.2)) = _
    by_cases d : p.1 = a
    · rw [if_pos (by rw [d])]
      show _ = (fun p : Int × Int => ((Sum.inl p.1 : L2.Key), V.int p.2)) (if p.1 = a then (p.1, b) else p)
      rw [if_pos d]
    · rw [if_neg fun z => d (Sum.inl.inj z)]
      show _ = (fun p : Int × Int => ((Sum.inl p.1 : L2.Key), V.int p.2)) (if p.1 = a then (p.1, b) else p)
      rw [if_neg d]
  · rw [if_neg c, if_neg c]
    unfold kvI
    rw [List.map_append]
    rfl
theorem val_kv (l : List (Int × Int)) (a : Int) : valV (kvI l) (Sum.inl a) = (getO l a).map V.int := by
  unfold valV getO kvI
  rw [List.find?_map]
  have e : ((fun kv : L2.Key × V => decide (kv.1 = Sum.inl a)) ∘ fun p : Int × Int => ((Sum.inl p.1 : L2.Key), V.int p.2)) = fun p => decide (p.1 = a) := by
    funext p
    exact decide_eq_decide.mpr ⟨fun z => Sum.inl.inj z, fun z => congrArg Sum.inl z⟩
  rw [e]
  cases l.find? fun p => decide (p.1 = a) <;> rfl
theorem getD_kv (l : List (Int × Int)) (a : Int) : (valV (kvI l) (Sum.inl a)).getD (V.int 0) = V.int (getI l a) := by
  rw [val_kv]
  unfold getI
  cases getO l a <;> rfl
theorem putI_len (l : List (Int × Int)) (a b : Int) : (putI l a b).length ≤ l.length + 1 := by
  unfold putI
  split
  · rw [List.length_map]
    omega
  · rw [List.length_append]
    exact Nat.le_refl _
theorem fold_len (k : Int) : ∀ (ps l : List (Int × Int)), (ps.foldl (cs1 k) l).length ≤ l.length + 2 * ps.length
  | [], l => by simp
  | p :: ps, l => by
    have h := fold_len k ps (cs1 k l p)
    have h2 : (cs1 k l p).length ≤ l.length + 2 := by
      unfold cs1
      exact Nat.le_trans (putI_len _ _ _) (Nat.add_le_add_right (putI_len _ _ _) 1)
    rw [List.foldl_cons, List.length_cons]
    omega
theorem cF_ok : ∀ i, i < 19 → (cF i).length ≤ 20 ∧ ∀ p ∈ cF i, getO (cF i) p.1 = some p.2 ∧ 0 ≤ p.1 ∧ p.1 ≤ 100 := by decide +kernel
theorem cnt_tc : ∀ n : Nat, 1 ≤ n → n < 21 → cntI (n : Int) = tcI (n : Int) := by
  intro n h1 h2
  have z : ∀ m : Fin 21, 1 ≤ m.val → cntI (m.val : Int) = tcI (m.val : Int) := by decide +kernel
  exact z ⟨n, h2⟩ h1
/-- a loop over the keys of a locked dict -/
theorem for_keysK {d : Addr} {o : Obj} {kvs : List (L2.Key × V)} {g : TG} {σ : L2.St} {H0 : Hp} {tb : TS} {Dn : Ends} (Pv : Nat → L2.St → Hp → Prop) (h0 : Pv 0 σ H0) (hl : ∀ i σ H, Pv i σ H → H d = some (.frz o (.dK kvs)))
    (hs : ∀ (i : Nat) (k : L2.Key) (v : V) (σ : L2.St) (H : Hp), kvs[i]? = some (k, v) → Pv i σ H → g (kV k) σ H fun σ2 H2 => tb { Dn with nx := Pv (i + 1), ct := Pv (i + 1), bk := Dn.nx } σ2 H2) (hd : ∀ σ H, Pv kvs.length σ H → Dn.nx σ H) :
    ∃ W : Nat → Nat → L2.St → Hp → Prop, (∃ m, W 0 m σ H0) ∧ ∀ i m σ H, W i m σ H →
      ((Itk d o kvs).stop i H ∧ Dn.nx σ H) ∨ ((Itk d o kvs).go i H ∧ ∃ N : L2.St → Hp → Prop, (∀ σ' H', N σ' H' → ∃ m', m' < m ∧ W (i + 1) m' σ' H') ∧ ∀ v H', (Itk d o kvs).yld i H v H' → g v σ H' fun σ2 H2 => tb { Dn with nx := N, ct := N, bk := Dn.nx } σ2 H2) := by
  refine ⟨fun i m σ H => m = kvs.length - i ∧ i ≤ kvs.length ∧ Pv i σ H, ⟨_, rfl, Nat.zero_le _, h0⟩, ?_⟩
  rintro i m σ H ⟨rfl, hi, pv⟩
  have qx := hl i σ H pv
  rcases Nat.lt_or_ge i kvs.length with lt | ge
  · refine .inr ⟨⟨qx, lt⟩, Pv (i + 1), fun σ' H' p' => ⟨kvs.length - (i + 1), by omega, rfl, lt, p'⟩, fun v H' y => ?_⟩
    obtain ⟨rfl, k, u, ek, rfl⟩ := y
    exact hs i k u σ H' ek pv
  · have e : i = kvs.length := by omega
    subst e
    exact .inl ⟨⟨qx, Nat.le_refl _⟩, hd σ H pv⟩
def spCountsL : Sp := fun vs H Q _ => ∃ n : Int, vs = [.int n] ∧ 1 ≤ n ∧ n ≤ 20 ∧ ∀ D H', Grows H H' → H' D = some (.lst ((tcI n).map V.int)) → Q (.ref D) H'
section
variable {P : Program} {w : World} {K : PySem.W.Frag} {mg : Str → Option Value} {base : Heap}
theorem scCountsL : FnScope ["wide", "found", "k", "later", "size"] ["wide"] (defScope sCountsL) := ⟨rfl, rfl, rfl, by decide +kernel, rfl, by decide +kernel, by decide +kernel⟩
theorem ok_countsL (W : LawG K mg) (T : TxtP mg) (T0 : Txt0 mg) : FnOk P w K mg base CX0 1 W.fCounts W.dCounts ["wide"] spCountsL := by
  refine W.FCounts.ok scCountsL (fun vs H Q E h => ?_) (fun cdv A outer s H vs Q E hr h => ?_)
  · obtain ⟨n, rfl, _⟩ := h
    rfl
  · obtain ⟨n, rfl, n1, n2, k⟩ := h
    refine ⟨_, (pss_cons (ps_set (i := 1) scCountsL.nd rfl (.inr rfl) (pe_disp (pps_cons pe_int pe_int pps_nil) (by rfl) (by rfl) (fun z => by cases z) (by decide)))
      (pss_cons (ps_for PassesOwn.never rfl (pi_range2 (by rfl) T.range (pa_cons pe_int (pa_cons (pv 0) pa_nil))) (pg_name (i := 2) scCountsL.nd rfl (.inl rfl))
      (pss_cons (ps_set (i := 3) scCountsL.nd rfl (.inl rfl) pe_dnewK)
      (pss_cons (ps_lock (ps_for PassesOwn.never rfl (pi_keys (pv 1)) (pg_name (i := 4) scCountsL.nd rfl (.inl rfl))
      (pss_cons (ps_dput (hu_of hr) (pv 3) (pv 4) (pe_op op_add (pe_dget2 (hu_of hr) (pv 3) (pv 4) pe_int ⟨rfl, rfl, rfl, rfl⟩) (pe_op op_mul (pe_op op_mul (pe_dget (hu_of hr) (pv 1) (pv 4) (fun _ _ => rfl)) pe_int) (pv 4))) rfl)
      (pss_one (ps_dput (hu_of hr) (pv 3) (pe_op op_add (pv 4) pe_int) (pe_op op_add (pe_dget2 (hu_of hr) (pv 3) (pe_op op_add (pv 4) pe_int) pe_int ⟨rfl, rfl, rfl, rfl⟩) (pe_op op_mul (pe_dget (hu_of hr) (pv 1) (pv 4) (fun _ _ => rfl)) (pe_op op_sub (pe_op op_sub (pe_op op_mul pe_int (pv 2)) pe_int) (pe_op op_mul pe_int (pv 4))))) rfl)))))
      (pss_one (ps_set (i := 1) scCountsL.nd rfl (.inr rfl) (pv 3))))))
      (pss_one (ps_ret (pe_lc (own := [("size", 4)]) (g := gName 4) (tt := tYes) rfl scCountsL.nd (pi_range1 (by rfl) T.range (pa_cons (pe_op op_add (pv 0) pe_int) pa_nil)) (blkOk_by (own := [("size", 4)]) (N := ["wide", "found", "k", "later", "size"]) (sc := defScope sCountsL) (by decide +kernel)) (fun _ _ _ _ _ => pg_name (i := 4) scCountsL.nd rfl (Or.inl rfl)) (fun _ _ _ _ _ => pts_nil) (fun _ _ _ _ _ => (pe_dget2 (hu_of hr) (pv 1) (pv 4) pe_int ⟨rfl, rfl, rfl, rfl⟩))))))), ?_⟩
    refine fun d0 hd0 => ⟨upd_same, [(Sum.inl 1, V.int 1)], rfl, by decide, ?_⟩
    have g0 : Grows H (upd (upd H d0 (.dK [])) d0 (.dK (kvI (cF 0)))) := fun b o e => by
      rw [upd_ne (ne_of_none e hd0), upd_ne (ne_of_none e hd0)]
      exact e
    refine ⟨_, rfl, _, _, rfl, by omega, for_range (lo := 2) (n := (n - 2).toNat) (fun i σ G => ∃ (d : Addr) (o2 o3 o4 : Option V), σ = [some (.int n), some (.ref d), o2, o3, o4] ∧ Grows H G ∧ H d = none ∧ G d = some (.dK (kvI (cF i))))
      ⟨d0, none, none, none, rfl, g0, hd0, upd_same⟩ (fun i σ G il ⟨d, o2, o3, o4, e, g, hd, ed⟩ => ?_) fun σ G ⟨d, o2, o3, o4, e, g, hd, ed⟩ => ?_⟩
    · subst e
      have Fk := cF_ok i (by omega)
      refine fun z hz => ⟨d, .dK (kvI (cF i)), Grows.new hz _ _ ed, trivial, fun od => ?_⟩
      have nz : z ≠ d := fun h => by
        rw [h, ed] at hz
        cases hz
      have hz0 : H z = none := none_back g hz
      refine ⟨_, rfl, d, od, rfl, .inl ⟨_, upd_same, for_keysK (fun j σ' G' => ∃ o4 : Option V, σ' = [some (.int n), some (.ref d), some (.int (2 + (i : Nat))), some (.ref z), o4] ∧ Grows H G' ∧ G' d = some (.frz od (.dK (kvI (cF i)))) ∧ G' z = some (.dK (kvI (((cF i).take j).foldl (cs1 (2 + (i : Int))) []))))
        ⟨o4, rfl, fun b o e => ?_, upd_same, ?_⟩ (fun j σ' G' ⟨_, _, _, e, _⟩ => e) (fun j key v σ' G' hk ⟨o4, e, g', ed', ez⟩ => ?_) fun σ' G' ⟨o4, e, g', ed', ez⟩ => ?_⟩⟩
      · rw [upd_ne (ne_of_none e hd), upd_ne (ne_of_none e hz0)]
        exact g _ _ e
      · rw [upd_ne nz, upd_same]
        rfl
      · subst e
        unfold kvI at hk
        rw [List.getElem?_map] at hk
        obtain ⟨p, hp, e⟩ := Option.map_eq_some_iff.mp hk
        obtain ⟨rfl, rfl⟩ := Prod.mk.inj e
        have jl := (List.getElem?_eq_some_iff.mp hp).1
        have pm : p ∈ cF i := List.mem_of_getElem? hp
        obtain ⟨fo, p0, p1⟩ := Fk.2 p pm
        have tk : ((cF i).take (j + 1)).foldl (cs1 (2 + (i : Int))) [] = cs1 (2 + (i : Int)) (((cF i).take j).foldl (cs1 (2 + (i : Int))) []) p := by
          rw [List.take_succ, hp, List.foldl_append]
          rfl
        have ll := fold_len (2 + (i : Int)) ((cF i).take j) []
        have tl : ((cF i).take j).length ≤ 20 := by rw [List.length_take]; omega
        generalize ((cF i).take j).foldl (cs1 (2 + (i : Int))) [] = l at tk ll ez
        have ll : l.length ≤ 40 := by
          have : ([] : List (Int × Int)).length = 0 := rfl
          omega
        have kl : ∀ m : List (Int × Int), (kvI m).length = m.length := fun m => List.length_map ..
        have gf : ∀ G2 : Hp, G2 d = some (.frz od (.dK (kvI (cF i)))) → DGet G2 d (.int p.1) (some (.int p.2)) := fun G2 e => .inl ⟨_, Sum.inl p.1, .inr ⟨od, e⟩, rfl, by rw [val_kv, fo]; rfl⟩
        refine ⟨_, rfl, z, rfl, .inl ⟨_, .inl ez⟩, _, rfl, _, DGet.k (k := Sum.inl p.1) ez, _, rfl, _, rfl, d, .int p.2, rfl, gf _ ed', _, _, rfl, rfl, .inr ⟨by decide, by decide⟩, _, rfl, _, _, rfl, rfl, .inr ⟨by omega, by omega⟩, getI l p.1, _, getD_kv l p.1, rfl, _, rfl, _, rfl, z, _, rfl, DPut.k (k := Sum.inl p.1) ez (by rw [kl]; exact Nat.lt_of_le_of_lt ll (by decide)), ?_⟩
        rw [putK_kv]
        obtain ⟨l1, el1⟩ : ∃ l1, l1 = putI l p.1 (getI l p.1 + p.2 * 2 * p.1) := ⟨_, rfl⟩
        have ll1 : l1.length ≤ 41 := by
          have := putI_len l p.1 (getI l p.1 + p.2 * 2 * p.1)
          rw [el1]
          omega
        have ez1 : upd G' z (.dK (kvI (putI l p.1 (getI l p.1 + p.2 * 2 * p.1)))) z = some (.dK (kvI l1)) := by rw [upd_same, el1]
        have ed1 : upd G' z (.dK (kvI (putI l p.1 (getI l p.1 + p.2 * 2 * p.1)))) d = some (.frz od (.dK (kvI (cF i)))) := by rw [upd_ne nz.symm]; exact ed'
        have g1 : Grows H (upd G' z (.dK (kvI (putI l p.1 (getI l p.1 + p.2 * 2 * p.1))))) := fun b o e => by
          rw [upd_ne (ne_of_none e hz0)]
          exact g' _ _ e
        generalize upd G' z (.dK (kvI (putI l p.1 (getI l p.1 + p.2 * 2 * p.1)))) = G1 at ez1 ed1 g1
        refine ⟨_, rfl, z, rfl, .inl ⟨_, .inl ez1⟩, _, rfl, _, _, rfl, rfl, _, DGet.k (k := Sum.inl (p.1 + 1)) ez1, _, rfl, _, rfl, d, .int p.2, rfl, gf _ ed1, _, rfl, _, _, rfl, rfl, .inl ⟨by decide, by decide⟩, _, _, rfl, rfl, _, rfl, _, _, rfl, rfl, .inl ⟨by decide, by decide⟩, _, _, rfl, rfl, _, _, rfl, rfl, .inr ⟨by omega, by omega⟩, getI l1 (p.1 + 1), _, getD_kv l1 (p.1 + 1), rfl, _, rfl, _, rfl, _, _, rfl, rfl, z, _, rfl, DPut.k (k := Sum.inl (p.1 + 1)) ez1 (by rw [kl]; exact Nat.lt_of_le_of_lt ll1 (by decide)), ?_⟩
        rw [putK_kv]
        refine ⟨_, rfl, fun b o e => ?_, ?_, ?_⟩
        · rw [upd_ne (ne_of_none e hz0)]
          exact g1 _ _ e
        · rw [upd_ne nz.symm]
          exact ed1
        · rw [upd_same, tk]
          unfold cs1
          rw [← el1]
      · subst e
        refine ⟨ed', ?_⟩
        refine ⟨_, rfl, z, _, _, _, rfl, fun b o e => ?_, hz0, ?_⟩
        · rw [upd_ne (ne_of_none e hd)]
          exact g' _ _ e
        · rw [upd_ne nz, ez]
          rw [show (kvI (cF i)).length = (cF i).length from List.length_map .., List.take_of_length_le (Nat.le_refl _)]
          rfl
    · subst e
      refine ⟨_, rfl, _, _, rfl, rfl, _, rfl, by omega, by omega, fun D hD => ?_⟩
      refine lc_range (n := (n + 1).toNat) (fun i H2 => Grows G H2 ∧ H2 D = some (.lst ((List.range i).map fun s : Nat => V.int (getI (cF (n - 2).toNat) (s : Int))))) ⟨Grows.new hD, upd_same⟩ ?_ ?_
      · rintro i H2 hi ⟨sm, eD⟩
        refine ⟨rfl, ?_⟩
        unfold tYes
        dsimp only
        rw [if_pos rfl]
        refine ⟨_, rfl, d, rfl, .inl ⟨_, .inl (sm _ _ ed)⟩, _, rfl, _, DGet.k (k := Sum.inl (0 + (i : Int))) (sm _ _ ed), ?_⟩
        rw [getD_kv]
        refine ⟨_, eD, ?_, fun b o e => ?_, ?_⟩
        · rw [List.length_map, List.length_range]
          exact small1000 (by omega)
        · rw [upd_ne (ne_of_none e hD)]
          exact sm _ _ e
        · rw [upd_same, List.range_succ, List.map_append, Int.zero_add]
          rfl
      · rintro H2 ⟨sm, eD⟩
        refine k D H2 (g.trans sm) ?_
        obtain ⟨m, rfl⟩ := Int.eq_ofNat_of_zero_le (show 0 ≤ n by omega)
        rw [← cnt_tc m (by omega) (by omega), eD]
        unfold cntI
        rw [List.map_map]
        rfl
end
end K46

namespace K46
open PySem PySem.Spec PyProof.Rows L2 SortR LcM RepA
theorem Alk.up {H : Hp} : ∀ {n : Nat} {x y : V}, Alk H n x y → Alk H (n + 1) x y
  | 0, _, _, h => .inl h
  | n + 1, x, y, .inl h => .inl h
  | n + 1, x, y, .inr ⟨a, b, xs, ys, ex, ey, h, l, l2, k⟩ => .inr ⟨a, b, xs, ys, ex, ey, h, l, l2, fun i x y h1 h2 => Alk.up (k i x y h1 h2)⟩
theorem alk_ints {H : Hp} {a b : Addr} {xs : List Int} (ha : H a = some (.lst (xs.map V.int))) (hb : H b = some (.lst (xs.map V.int))) (l : xs.length ≤ 100) : Alk H 1 (.ref a) (.ref b) :=
  .inr ⟨a, b, _, _, rfl, rfl, .inl ⟨ha, hb⟩, rfl, by rw [List.length_map]; exact l, fun i x y h1 h2 => by
    rw [h1] at h2
    obtain rfl := Option.some.inj h2
    obtain rfl := at_map (d := 0) h1
    exact ⟨.inl ⟨_, rfl⟩, rfl⟩⟩
theorem alk_tups {H : Hp} {a b : Addr} {xs : List Int} (ha : H a = some (.tup (xs.map V.int))) (hb : H b = some (.tup (xs.map V.int))) (l : xs.length ≤ 100) : Alk H 1 (.ref a) (.ref b) :=
  .inr ⟨a, b, _, _, rfl, rfl, .inr ⟨ha, hb⟩, rfl, by rw [List.length_map]; exact l, fun i x y h1 h2 => by
    rw [h1] at h2
    obtain rfl := Option.some.inj h2
    obtain rfl := at_map (d := 0) h1
    exact ⟨.inl ⟨_, rfl⟩, rfl⟩⟩
theorem alk_rows {H : Hp} {a b : Addr} {cs ds : List (Addr × List Int)} (ha : Rl H a cs) (hb : Rl H b ds) (e : cs.map (·.2) = ds.map (·.2)) (l : cs.length ≤ 100) (l2 : ∀ r ∈ cs.map (·.2), r.length ≤ 100) : Alk H 2 (.ref a) (.ref b) := by
  have el : ds.length = cs.length := by
    have := congrArg List.length e
    rw [List.length_map, List.length_map] at this
    exact this.symm
  refine .inr ⟨a, b, _, _, rfl, rfl, .inl ⟨ha.top, hb.top⟩, by rw [List.length_map, List.length_map, el], by rw [List.length_map]; exact l, fun i x y h1 h2 => ?_⟩
  have il := (List.getElem?_eq_some_iff.mp h1).1
  rw [List.length_map] at il
  obtain rfl := at_map (d := (0, [])) h1
  obtain rfl := at_map (d := (0, [])) h2
  have e1 := ha.at il
  have e2 := hb.at (i := i) (by omega)
  have e3 : (cs.getD i (0, [])).2 = (ds.getD i (0, [])).2 := by
    rw [← snd_at cs i, ← snd_at ds i, e]
  rw [← e3] at e2
  exact alk_ints e1 e2 (l2 _ (mem_at il))
theorem alk_two {H : Hp} {n : Nat} {a b : Addr} {x1 x2 y1 y2 : V} (ha : H a = some (.lst [x1, x2])) (hb : H b = some (.lst [y1, y2])) (h1 : Alk H n x1 y1) (h2 : Alk H n x2 y2) : Alk H (n + 1) (.ref a) (.ref b) :=
  .inr ⟨a, b, _, _, rfl, rfl, .inl ⟨ha, hb⟩, rfl, by simp, fun i x y e1 e2 => by
    match i, e1, e2 with
    | 0, e1, e2 =>
      obtain rfl := Option.some.inj e1
      obtain rfl := Option.some.inj e2
      exact h1
    | 1, e1, e2 =>
      obtain rfl := Option.some.inj e1
      obtain rfl := Option.some.inj e2
      exact h2
    | n + 2, e1, _ => cases e1⟩
theorem BagB.ints {H H' : Hp} {a c q : Addr} {is : List Int} (h : BagB H a c) (bu : But a H H') (e : H q = some (.lst (is.map V.int))) : H' q = some (.lst (is.map V.int)) := by
  rw [bu q fun z => by
    obtain ⟨i, t, s, k, cs, h1, _⟩ := h
    rw [z, h1] at e
    cases is <;> cases e]
  exact e
theorem BagB.rl {H H' : Hp} {a c q : Addr} {cs : List (Addr × List Int)} (h : BagB H a c) (bu : But a H H') (e : Rl H q cs) : Rl H' q cs := by
  refine ⟨?_, fun d hd => h.ints bu (e.each d hd)⟩
  have e := e.top
  rw [bu q fun z => by
    obtain ⟨i, t, s, k, ds, h1, _⟩ := h
    rw [z, h1] at e
    have e := HO.lst.inj (Option.some.inj e)
    rcases cs with _ | ⟨x, _ | ⟨y, cs⟩⟩ <;> simp [bagL] at e <;> cases e.2.1]
  exact e
theorem others_nd (n p : Int) : (othersR n p).Nodup := by
  unfold othersR
  refine List.Pairwise.filter _ ?_
  have : ((List.range n.toNat).map fun i => (0 + (i : Nat) : Int)) = upto n.toNat := rfl
  rw [this]
  exact up_nodup (upto_asc _)
def rowLen (σ : L2.St) (G : Hp) : Nat := match σ[3]? with
  | some (some (V.ref q)) => match G q with
    | some (.lst xs) => xs.length
    | _ => 0
  | _ => 0
theorem rowLen_at {x0 x1 x2 : Option V} {rest : List (Option V)} {q : Addr} {G : Hp} {is : List Int} (e : G q = some (.lst (is.map V.int))) : rowLen (x0 :: x1 :: x2 :: some (.ref q) :: rest) G = is.length := by
  show (match G q with
    | some (HO.lst xs) => xs.length
    | _ => 0) = _
  rw [e]
  exact List.length_map ..
def spRight : Sp := fun vs H Q _ => ∃ (a c : Addr) (n m : Int), vs = [.ref a, .int n, .int m] ∧ BagB H a c ∧ 1 ≤ n ∧ n ≤ 20 ∧ 0 ≤ m ∧ m ≤ n - 1 ∧ ∀ H', BagB H' a c → Q (.bl true) H'
def RtInv (a c : Addr) (n m : Int) (σ : L2.St) (G : Hp) : Prop := ∃ (q p : Addr) (is : List Int) (cs : List (Addr × List Int)) (o5 o6 o7 o8 o9 : Option V), σ = [some (.ref a), some (.int n), some (.int m), some (.ref q), some (.ref p), o5, o6, o7, o8, o9] ∧ BagB G a c ∧ G q = some (.lst (is.map V.int)) ∧ Rl G p cs ∧ cs.map (·.2) = lotR is ∧ Bnd is ∧ is.length ≤ 19 ∧ m ≤ (is.length : Int)
section
variable {P : Program} {w : World} {K : PySem.W.Frag} {mg : Str → Option Value} {base : Heap}
theorem scRightL : FnScope ["bag", "wide", "low", "row", "lot", "k", "gone", "x", "due", "c"] ["bag", "wide", "low"] (defScope sRightL) := ⟨rfl, rfl, rfl, by decide +kernel, rfl, by decide +kernel, by decide +kernel⟩
theorem ok_right (Z : ProgF K mg) (Y : ComF K mg) (U : LeaF K mg) (W : LawG K mg) (T : TxtP mg) (T0 : Txt0 mg) (TA : TxtA mg W.fAlike) : FnOk P w K mg base CX0 10 W.fRight W.dRight ["bag", "wide", "low"] spRight := by
  have GDraw := W.draw2 (P := P) (w := w) (base := base) T0
  have GRow : FnOk P w K mg base CX0 3 W.fRow W.dRow ["bag", "wide"] spRow := ok_row W T T0
  have GBy : FnOk P w K mg base CX0 1 W.fBy W.dBy ["row"] (spByL K) := ok_by W T T0
  have GGone : FnOk P w K mg base CX0 1 W.fGone W.dGone ["row"] (spGone K) := ok_gone W.FGone T T0
  have GCutL : FnOk P w K mg base CX0 1 W.fCutL W.dCutL ["lot", "kept"] (spCutLL K) := ok_cutL W T T0
  have GComing : FnOk P w K mg base CX0 2 W.fComing W.dComing ["lot"] (spComL K) := ok_comingL W T T0
  have GAlike : FnOk P w K mg base CX0 3 W.fAlike W.dAlike ["found", "due"] (spAlk 2) := ok_alk W.FAlike TA W.bAlike 2
  have GTrc : FnOk P w K mg base CX0 8 U.fTrc U.dTrc ["parting"] (spTrc K) := ok_trc Z T T0 Y U
  have GIsT : FnOk P w K mg base CX0 9 U.fIsT U.dIsT ["parting", "person"] (spIsT K) := ok_isT Z T T0 Y U
  have GCW : FnOk P w K mg base CX0 8 U.fCW U.dCW ["coming", "person"] (spCW K) := ok_cw Z T T0 Y U
  have GWith : FnOk P w K mg base CX0 7 U.fWith U.dWith ["parting", "person"] (spWith K) := ok_with Z T Y U
  have GEnt : FnOk P w K mg base CX0 8 U.fEnt U.dEnt ["parting", "node"] (spEnt K) := ok_ent Z T T0 Y U
  refine W.FRight.ok scRightL (fun vs H Q E h => ?_) (fun cdv A outer s H vs Q E hr h => ?_)
  · obtain ⟨a, c, n, m, rfl, _⟩ := h
    rfl
  · obtain ⟨a, c, n, m, rfl, hB, n1, n2, m0, m1, k⟩ := h
    refine ⟨_, (pss_cons (ps_set (i := 3) scRightL.nd rfl (.inl rfl) (pe_call GRow (hr.mono (by decide)) rfl W.gRow W.FRow.kp W.bRow .nil pass0 (pa_cons (pv 0) (pa_cons (pv 1) pa_nil))))
      (pss_cons (ps_set (i := 4) scRightL.nd rfl (.inl rfl) (pe_call GBy (hr.mono (by decide)) rfl W.gBy W.FBy.kp W.bBy .nil pass0 (pa_cons (pv 3) pa_nil)))
      (pss_cons (ps_while PassesOwn.never (pt_cmpR op_gt (pe_callB call_len_seq (by rfl) T.len (by decide +kernel) (pa_cons (pv 3) pa_nil)) (pv 2) (nomark _))
      (pss_cons (ps_asg (pe_tup (pa_cons (pe_call GDraw (hr.mono (by decide)) rfl W.gDraw W.FDraw.kp W.bDraw .nil pass0 (pa_cons (pv 0) (pa_cons (pe_op op_add (pe_callB call_len_seq (by rfl) T.len (by decide +kernel) (pa_cons (pv 3) pa_nil)) pe_int) pa_nil))) (pa_cons (pe_call GGone (hr.mono (by decide)) rfl W.gGone W.FGone.kp W.bGone .nil pass0 (pa_cons (pv 3) pa_nil)) pa_nil))) (pg_tup (by rfl) (pgs_cons (pg_name (i := 5) scRightL.nd rfl (.inr rfl)) (pgs_cons (pg_name (i := 6) scRightL.nd rfl (.inl rfl)) pgs_nil))))
      (pss_cons (ps_if (pt_not (pt_val (pe_call GAlike (hr.mono (by decide)) rfl W.gAlike W.FAlike.kp W.bAlike .nil pass0 (pa_cons (pe_lst (pa_cons (pe_call GTrc (hr.mono (by decide)) rfl U.gTrc U.FTrc.kp U.bTrc .nil pass0 (pa_cons (pv 4) pa_nil)) (pa_cons (pe_call GIsT (hr.mono (by decide)) rfl U.gIsT U.FIsT.kp U.bIsT .nil pass0 (pa_cons (pv 4) (pa_cons (pv 5) pa_nil))) pa_nil))) (pa_cons (pe_lst (pa_cons (pv 6) (pa_cons (pe_cmpR (r := rIn K false) (by exact op_in_seq) (pv 5) (pv 6) (by rfl)) pa_nil))) pa_nil))))) (pss_one (ps_ret pe_bl)) pss_nil)
      (pss_cons (ps_set (i := 4) scRightL.nd rfl (.inl rfl) (pe_call GCutL (hr.mono (by decide)) rfl W.gCutL W.FCutL.kp W.bCutL .nil pass0 (pa_cons (pv 4) (pa_cons (pe_lc (own := [("x", 7)]) (g := gName 7) rfl scRightL.nd (pi_range1 (by rfl) T.range (pa_cons (pe_op op_add (pe_callB call_len_seq (by rfl) T.len (by decide +kernel) (pa_cons (pv 3) pa_nil)) pe_int) pa_nil)) (blkOk_by (own := [("x", 7)]) (N := ["bag", "wide", "low", "row", "lot", "k", "gone", "x", "due", "c"]) (sc := defScope sRightL) (by decide +kernel)) (fun _ _ _ _ _ => pg_name (i := 7) scRightL.nd rfl (Or.inl rfl)) (fun _ _ _ _ _ => (pts_one (pt_cmpR op_ne (pv 7) (pv 5) (nomark _)))) (fun _ _ _ _ _ => (pv 7))) pa_nil))))
      (pss_cons (ps_set (i := 8) scRightL.nd rfl (.inl rfl) (pe_call GComing (hr.mono (by decide)) rfl W.gComing W.FComing.kp W.bComing .nil pass0 (pa_cons (pv 4) pa_nil)))
      (pss_cons (ps_if (pt_not (pt_val (pe_call GAlike (hr.mono (by decide)) rfl W.gAlike W.FAlike.kp W.bAlike .nil pass0 (pa_cons (pe_call GCW (hr.mono (by decide)) rfl U.gCW U.FCW.kp U.bCW .nil pass0 (pa_cons (pv 3) (pa_cons (pv 5) pa_nil))) (pa_cons (pv 8) pa_nil))))) (pss_one (ps_ret pe_bl)) pss_nil)
      (pss_cons (ps_if (pt_not (pt_val (pe_call GAlike (hr.mono (by decide)) rfl W.gAlike W.FAlike.kp W.bAlike .nil pass0 (pa_cons (pe_call GWith (hr.mono (by decide)) rfl U.gWith U.FWith.kp U.bWith .nil pass0 (pa_cons (pe_call GBy (hr.mono (by decide)) rfl W.gBy W.FBy.kp W.bBy .nil pass0 (pa_cons (pv 3) pa_nil)) (pa_cons (pv 5) pa_nil))) (pa_cons (pv 4) pa_nil))))) (pss_one (ps_ret pe_bl)) pss_nil)
      (pss_cons (ps_set (i := 3) scRightL.nd rfl (.inl rfl) (pv 8))
      (pss_cons (ps_set (i := 9) scRightL.nd rfl (.inl rfl) (pe_op op_sub (pe_call GDraw (hr.mono (by decide)) rfl W.gDraw W.FDraw.kp W.bDraw .nil pass0 (pa_cons (pv 0) (pa_cons (pe_op op_add (pe_op op_mul pe_int (pe_callB call_len_seq (by rfl) T.len (by decide +kernel) (pa_cons (pv 3) pa_nil))) pe_int) pa_nil))) (pe_callB call_len_seq (by rfl) T.len (by decide +kernel) (pa_cons (pv 3) pa_nil))))
      (pss_one (ps_if (pt_not (pt_val (pe_call GAlike (hr.mono (by decide)) rfl W.gAlike W.FAlike.kp W.bAlike .nil pass0 (pa_cons (pe_call GEnt (hr.mono (by decide)) rfl U.gEnt U.FEnt.kp U.bEnt .nil pass0 (pa_cons (pv 4) (pa_cons (pv 9) pa_nil))) (pa_cons (pe_call GBy (hr.mono (by decide)) rfl W.gBy W.FBy.kp W.bBy .nil pass0 (pa_cons (pe_op op_cat (pv 3) (pe_lst (pa_cons (pv 9) pa_nil))) pa_nil)) pa_nil))))) (pss_one (ps_ret pe_bl)) pss_nil)))))))))))
      (pss_one (ps_ret (pe_and (pe_cmpR op_eq (pe_callB call_len_seq (by rfl) T.len (by decide +kernel) (pa_cons (pv 4) pa_nil)) (pv 2) (nomark _)) (pe_one (pe_cmpR (op_eqD hr.units) (pe_call GTrc (hr.mono (by decide)) rfl U.gTrc U.FTrc.kp U.bTrc .nil pass0 (pa_cons (pe_lst pa_nil) pa_nil)) (pe_lst (pa_cons pe_int pa_nil)) (nomark _))))))))), ?_⟩
    refine ⟨_, rfl, _, rfl, a, c, n, rfl, hB, n1, n2, fun q is H1 il b hB1 g1 eq hq0 => ?_⟩
    refine ⟨_, rfl, q, is, rfl, SqL.of eq, b, by omega, fun p cs H2 ec g2 rl => ?_⟩
    refine while_by (RtInv a c n m) rowLen ⟨q, p, is, cs, _, _, _, _, _, rfl, hB1.keepG g2, g2 _ _ eq, rl, ec, b, by omega, by omega⟩ (fun σ G ⟨q, p, is, cs, o5, o6, o7, o8, o9, e, hB3, eq, rl, ec, b, l, ml⟩ => ?_)
      (fun σ G Q1 Q2 mm ⟨v, e, p, ys, e1, sq, v2, e2, i, j, e3, e4, b, e5, q⟩ => ⟨v, e, p, ys, e1, sq, v2, e2, i, j, e3, e4, b, e5, mm _ _ q⟩)
    subst e
    have mu0 := rowLen_at (x0 := some (V.ref a)) (x1 := some (V.int n)) (x2 := some (V.int m)) (rest := [some (V.ref p), o5, o6, o7, o8, o9]) eq
    refine ⟨_, rfl, q, _, rfl, .inl (SqL.of eq), _, rfl, _, _, rfl, rfl, _, rfl, ?_⟩
    show if decide (m < ((is.map V.int).length : Int)) = true then _ else _
    rw [List.length_map]
    by_cases c1 : m < (is.length : Int)
    · rw [decide_eq_true c1]
      refine iteT ?_
      have lg : ∀ w : Int, 0 ≤ w → w ≤ 1000 → w.natAbs.log2 < 200 := fun w h0 h1 => PySem.Flt.log2_lt_of (by decide) (Nat.lt_of_lt_of_le (show w.natAbs < 1024 by omega) (by decide))
      have cl : cs.length = is.length := by rw [← lot_len is, ← ec, List.length_map]
      have pos : 1 ≤ is.length := by omega
      refine ⟨_, rfl, _, rfl, q, _, rfl, .inl (SqL.of eq), _, _, rfl, rfl, a, c, _, rfl, hB3, by rw [List.length_map]; omega, lg _ (by rw [List.length_map]; omega) (by rw [List.length_map]; omega), fun kk H1 k0 k1 hB4 bu4 => ?_⟩
      rw [List.length_map] at k1
      have eq := hB3.ints bu4 eq
      have rl := hB3.rl bu4 rl
      refine ⟨_, rfl, q, is, rfl, SqL.of eq, b, l, fun gq H2 g2 eg2 => ⟨(by show 2 ≤ sizeLine; decide), fun t ht => ⟨t, _, rfl, SqT.of upd_same, rfl, _, _, rfl, _, _, rfl, rfl, ?_⟩⟩⟩
      have g3 := g2.trans (Grows.new (o := .tup [V.int kk, V.ref gq]) ht)
      have eg3 := Grows.new (o := .tup [V.int kk, V.ref gq]) ht _ _ eg2
      have hB5 := hB4.keepG g3
      have eq := g3 _ _ eq
      have rl := rl.keep g3
      generalize upd H2 t (.tup [V.int kk, V.ref gq]) = H3 at eg3 hB5 eq rl
      clear hB3 hB4 bu4 g2 g3 ht eg2
      have la : LotA K H3 (.ref p) is := ⟨⟨p, cs, rfl, rl.rw, ec⟩, b, l⟩
      have gl : (goneM is).length ≤ 100 := by
        unfold goneM
        split
        · simp
        · rw [List.length_map]
          exact Nat.le_trans (List.length_filter_le _ _) (by rw [List.length_range]; omega)
      -- the traceless
      refine ⟨_, rfl, _, is, rfl, la, fun q1 H4 g4 e4 => ⟨_, rfl, _, rfl, _, is, kk, rfl, la.keep g4, k0, by omega, fun H5 g5 => ⟨(by show 2 ≤ sizeLine; decide), fun z1 hz1 => ?_⟩⟩⟩
      have g6 := (g4.trans g5).trans (Grows.new (o := .lst [V.ref q1, V.bl (decide (kk ∈ goneM is))]) hz1)
      have e6 := (g5.trans (Grows.new (o := .lst [V.ref q1, V.bl (decide (kk ∈ goneM is))]) hz1)) _ _ e4
      have ez1 := upd_same (H := H5) (a := z1) (o := .lst [V.ref q1, V.bl (decide (kk ∈ goneM is))])
      generalize upd H5 z1 (.lst [V.ref q1, V.bl (decide (kk ∈ goneM is))]) = H6 at g6 e6 ez1
      refine ⟨_, rfl, _, rfl, _, rfl, gq, _, rfl, .inl (SqL.of (g6 _ _ eg3)), rfl, flat_ints _, (by show 2 ≤ sizeLine; decide), fun z2 hz2 => ?_⟩
      have iv : inV (V.int kk) ((goneM is).map V.int) = decide (kk ∈ goneM is) := inV_ints _ _
      have g7 : Grows H6 (upd H6 z2 (.lst [V.ref gq, V.bl (inV (V.int kk) ((goneM is).map V.int))])) := Grows.new hz2
      have ez2 : upd H6 z2 (.lst [V.ref gq, V.bl (inV (V.int kk) ((goneM is).map V.int))]) z2 = some (.lst [V.ref gq, V.bl (decide (kk ∈ goneM is))]) := by rw [upd_same, iv]
      refine ⟨_, _, rfl, alk_two (n := 1) (g7 _ _ ez1) ez2 (alk_ints (g7 _ _ e6) (g7 _ _ (g6 _ _ eg3)) gl) (.inl ⟨.inr ⟨_, rfl⟩, rfl⟩), fun H8 g8 => ⟨_, rfl, iteF ?_⟩⟩
      have g9 := g6.trans (g7.trans g8)
      have hB8 := hB5.keepG g9
      have eq8 := g9 _ _ eq
      have rl8 := rl.keep g9
      clear g6 e6 ez1 hz2 iv g7 ez2 g8 g9 eg3 hB5 eq rl la
      obtain ⟨js, jl, bj, ej⟩ := gone_is b pos k0 (by omega)
      have ecut : cutR (lotR is) (othersR ((is.length : Int) + 1) kk) = lotR js := ej
      have rsz : ∀ (ks : List Int), Bnd ks → ks.length ≤ 19 → ∀ r ∈ lotR ks, r.length ≤ 100 := fun ks bk lk r hr => by
        have := lot_row bk hr
        omega
      -- the lot, cut
      refine ⟨_, rfl, _, rfl, q, _, rfl, .inl (SqL.of eq8), _, _, rfl, rfl, _, rfl, by rw [List.length_map]; omega, by rw [List.length_map]; omega, fun D hD => lc_rangeT (lo := 0) (n := (((is.map V.int).length : Int) + 1).toNat) (fun i => decide ((0 + (i : Nat) : Int) ≠ kk)) (fun i => L2.V.int (0 + (i : Nat))) hD (by rw [List.length_map]; omega) (fun i H' Ry Rn il g ky kn => ?_) fun H9 g9 eD => ?_⟩
      · refine ⟨rfl, _, rfl, _, rfl, rfl, _, rfl, ?_⟩
        by_cases e3 : (0 + (i : Nat) : Int) = kk
        · rw [decide_eq_true (show L2.V.int (0 + (i : Nat)) = L2.V.int kk by rw [e3])]
          exact iteF (kn (decide_eq_false fun z => z e3) _ .refl)
        · rw [decide_eq_false (show ¬ L2.V.int (0 + (i : Nat)) = L2.V.int kk from fun z => e3 (L2.V.int.inj z))]
          exact iteT ⟨_, rfl, ky (decide_eq_true e3) _ .refl⟩
      rw [List.length_map, others_kept] at eD
      refine ⟨p, D, cs, _, rfl, (rl8.keep g9).rw, by omega, by rw [ec]; exact rsz is b l, SqL.of eD, others_nd _ _, by have := others_len ((is.length : Int) + 1) kk; omega, fun p2 cs2 H10 ec2 g10 rl2 => ?_⟩
      rw [ec, ecut] at ec2
      have g11 := g9.trans g10
      have hB10 := hB8.keepG g11
      have eq10 := g11 _ _ eq8
      clear hB8 eq8 rl8 g9 g10 g11 eD rl
      have cl2 : cs2.length = js.length := by rw [← lot_len js, ← ec2, List.length_map]
      -- its coming list
      refine ⟨_, rfl, p2, cs2, js, rfl, rl2.rw, ec2, bj, by omega, fun d H11 g11 ed => ?_⟩
      have hB11 := hB10.keepG g11
      have eq11 := g11 _ _ eq10
      have rl11 := rl2.keep g11
      clear hB10 eq10 rl2 g11
      -- coming_without
      refine ⟨_, rfl, _, rfl, q, is, js, kk, rfl, SqL.of eq11, b, l, pos, k0, by omega, bj, by omega, ecut, fun q2 H12 g12 e12 => ⟨_, rfl, _, _, rfl, (alk_ints e12 (g12 _ _ ed) (by omega)).up, fun H13 g13 => ⟨_, rfl, iteF ?_⟩⟩⟩
      have g14 := g12.trans g13
      have hB13 := hB11.keepG g14
      have eq13 := g14 _ _ eq11
      have rl13 := rl11.keep g14
      have ed13 := g14 _ _ ed
      clear hB11 eq11 rl11 ed g14 g12 g13 e12
      -- without
      refine ⟨_, rfl, q, is, rfl, SqL.of eq13, b, l, fun p4 cs4 H14 ec4 g14 rl4 => ⟨_, rfl, _, is, kk, rfl, ⟨⟨p4, cs4, rfl, rl4.rw, ec4⟩, b, l⟩, pos, k0, by omega, fun p5 cs5 H15 ec5 g15 rl5 => ⟨_, rfl, _, _, rfl, ?_, fun H16 g16 => ⟨_, rfl, iteF ?_⟩⟩⟩⟩
      · rw [ecut] at ec5
        have cl5 : cs5.length = js.length := by rw [← lot_len js, ← ec5, List.length_map]
        exact alk_rows rl5 (rl13.keep (g14.trans g15)) (by rw [ec5, ec2]) (by omega) (by rw [ec5]; exact rsz js bj (by omega))
      have g17 := (g14.trans g15).trans g16
      have hB16 := hB13.keepG g17
      have rl16 := rl13.keep g17
      have ed16 := g17 _ _ ed13
      clear hB13 eq13 rl13 ed13 g17 g14 g15 g16 rl4 rl5 ec4 ec5
      -- another comes
      refine ⟨_, rfl, _, rfl, _, rfl, d, _, rfl, .inl (SqL.of ed16), _, _, rfl, rfl, .inl ⟨by decide, by decide⟩, _, _, rfl, rfl, a, c, _, rfl, hB16, by rw [List.length_map]; omega, lg _ (by rw [List.length_map]; omega) (by rw [List.length_map]; omega), fun u H17 u0 u1 hB17 bu17 => ?_⟩
      rw [List.length_map] at u1
      have ed17 := hB16.ints bu17 ed16
      have rl17 := hB16.rl bu17 rl16
      clear hB16 bu17 ed16 rl16
      have ux : -(js.length : Int) ≤ u - (js.length : Int) ∧ u - (js.length : Int) ≤ (js.length : Int) := by omega
      have b2 : Bnd (js ++ [u - (js.length : Int)]) := bj.add ux.1 ux.2
      have l2 : (js ++ [u - (js.length : Int)]).length ≤ 19 := by
        rw [List.length_append]
        show js.length + 1 ≤ 19
        omega
      refine ⟨_, rfl, d, _, rfl, .inl (SqL.of ed17), _, _, rfl, rfl, ?_⟩
      rw [List.length_map]
      refine ⟨_, rfl, _, rfl, _, js, _, rfl, ⟨⟨p2, cs2, rfl, rl17.rw, ec2⟩, bj, by omega⟩, by omega, ux.1, ux.2, fun q6 cs6 H18 ec6 g18 rl6 => ?_⟩
      refine ⟨_, rfl, _, rfl, (by show 1 ≤ sizeLine; decide), fun z3 hz3 => ⟨d, z3, _, _, rfl, rfl, Grows.new hz3 _ _ (g18 _ _ ed17), upd_same, ?_, fun z4 hz4 => ?_⟩⟩
      · rw [List.length_map]
        show js.length + 1 ≤ sizeLine
        exact Nat.le_trans (show js.length + 1 ≤ 100 by omega) (by decide)
      have g19 := (Grows.new (o := .lst [V.int (u - (js.length : Int))]) hz3).trans (Grows.new (o := .lst (js.map V.int ++ [V.int (u - (js.length : Int))])) hz4)
      refine ⟨z4, js ++ [u - (js.length : Int)], rfl, SqL.of (by rw [upd_same, List.map_append]; rfl), b2, l2, fun p7 cs7 H19 ec7 g20 rl7 => ⟨_, _, rfl, ?_, fun H20 g21 => ⟨_, rfl, iteF ?_⟩⟩⟩
      · have cl6 : cs6.length = (js ++ [u - (js.length : Int)]).length := by rw [← lot_len, ← ec6, List.length_map]
        exact alk_rows (rl6.keep (g19.trans g20)) rl7 (by rw [ec6, ec7]) (by omega) (by rw [ec6]; exact rsz _ b2 l2)
      · have g22 := (g18.trans (g19.trans g20)).trans g21
        refine ⟨⟨d, p2, js, cs2, _, _, _, _, _, rfl, hB17.keepG g22, g22 _ _ ed17, rl17.keep g22, ec2, bj, by omega, by omega⟩, ?_⟩
        have e1 := rowLen_at (x0 := some (V.ref a)) (x1 := some (V.int n)) (x2 := some (V.int m)) (rest := [some (V.ref p2), some (V.int kk), some (V.ref gq), o7, some (V.ref d), some (V.int (u - (js.length : Int)))]) (g22 _ _ ed17)
        have lt : js.length < is.length := by omega
        rw [← mu0, ← e1] at lt
        exact lt
    · rw [decide_eq_false c1]
      refine iteF ?_
      have em : (is.length : Int) = m := by omega
      have cl : cs.length = is.length := by rw [← lot_len is, ← ec, List.length_map]
      refine ⟨_, rfl, p, _, rfl, .inl (SqL.of rl.top), _, rfl, rfl, ?_⟩
      refine ⟨_, rfl, ?_⟩
      show if decide (V.int ((cs.map fun c => V.ref c.1).length : Nat) = V.int m) = true then _ else _
      rw [List.length_map, cl, em, decide_eq_true rfl]
      refine iteT ⟨(by show 0 ≤ sizeLine; decide), fun z1 hz1 => ?_⟩
      have hB4 := hB3.keepG (Grows.new (o := .lst []) hz1)
      have la : LotA K (upd G z1 (.lst [])) (.ref z1) [] := ⟨⟨z1, [], rfl, ⟨SqL.of upd_same, fun _ h => nomatch h⟩, by
        unfold lotR sortB famB
        rw [List.map_nil]
        exact List.mergeSort_nil.symm⟩, fun j x e => (by cases j <;> cases e), by decide⟩
      refine ⟨_, [], rfl, la, fun q5 H5 g5 e5 => ⟨(by show 1 ≤ sizeLine; decide), fun z2 hz2 => ?_⟩⟩
      have g6 : Grows H5 (upd H5 z2 (.lst [V.int 0])) := Grows.new hz2
      refine ⟨.list ([0].map .int), .list ([0].map .int), .lst (SqL.of (g6 _ _ e5)) (rows_dp [0]), .lst (SqL.of upd_same) (rows_dp [0]), shaped_ints [0], shaped_ints [0], ?_⟩
      rw [show PyData.eqv (.list ([0].map .int)) (.list ([0].map .int)) = decide (([0] : List Int) = [0]) from eqv_ints [0] [0], decide_eq_true rfl]
      exact k _ (hB4.keepG (g5.trans g6))
end
end K46

namespace K46
open PySem PySem.Spec PyProof.Rows L2 SortR LcM RepA
def wh : Nat → Int
  | 0 => 1
  | i + 1 => wh i * (2 * (2 + (i : Int)) - 1)
def sm (n : Int) : Int := ((List.range (n + 1).toNat).map fun s : Nat => (s : Int) * (tcI n).getD s 0).sum
def mnT (n : Int) (p : Int × Int) (i : Nat) : Int := p.1 * (shI n (i : Int)).2 + (shI n (i : Int)).1 * p.2
def mnB (n : Int) (p : Int × Int) (i : Nat) : Int := p.2 * (shI n (i : Int)).2
def mn (n : Int) : Nat → Int × Int
  | 0 => (0, 1)
  | i + 1 => low (mnT n (mn n i) i) (mnB n (mn n i) i)
def okK (n : Int) (k : Nat) : Bool := decide (0 ≤ mnT n (mn n k) k) && decide (mnT n (mn n k) k < 2 ^ 180) && decide (1 ≤ mnB n (mn n k) k) && decide (mnB n (mn n k) k < 2 ^ 180) && decide (0 ≤ (shI n (k : Int)).1) && decide ((shI n (k : Int)).1 < 2 ^ 60) && decide (0 ≤ (shI n (k : Int)).2) && decide ((shI n (k : Int)).2 < 2 ^ 60)
def okN (m : Nat) : Bool := decide ((tcI (m : Int)).length = m + 1) && decide ((tcI (m : Int)).sum = wh (m - 2)) && decide (mn (m : Int) m = low (sm (m : Int)) (wh (m - 2))) && decide (0 ≤ sm (m : Int)) && decide (sm (m : Int) < 2 ^ 180) && decide (1 ≤ wh (m - 2)) && decide (wh (m - 2) < 2 ^ 180) && decide (m = 1 ∨ low 0 (2 * (m : Int) - 3) = (0, 1)) && (List.range m).all fun k => okK (m : Int) k
theorem tab_all : ((List.range 20).all fun i => okN (i + 1)) = true := by decide +kernel
structure Tab (m : Nat) : Prop where
  len : (tcI (m : Int)).length = m + 1
  sum : (tcI (m : Int)).sum = wh (m - 2)
  mean : mn (m : Int) m = low (sm (m : Int)) (wh (m - 2))
  s0 : 0 ≤ sm (m : Int)
  s1 : sm (m : Int) < 2 ^ 180
  w0 : 1 ≤ wh (m - 2)
  w1 : wh (m - 2) < 2 ^ 180
  zero : m = 1 ∨ low 0 (2 * (m : Int) - 3) = (0, 1)
  t0 : ∀ k, k < m → 0 ≤ mnT m (mn m k) k
  t1 : ∀ k, k < m → mnT m (mn m k) k < 2 ^ 180
  b0 : ∀ k, k < m → 1 ≤ mnB m (mn m k) k
  b1 : ∀ k, k < m → mnB m (mn m k) k < 2 ^ 180
  p0 : ∀ k : Nat, k < m → 0 ≤ (shI m (k : Int)).1 ∧ (shI m (k : Int)).1 < 2 ^ 60
  q0 : ∀ k : Nat, k < m → 0 ≤ (shI m (k : Int)).2 ∧ (shI m (k : Int)).2 < 2 ^ 60
theorem tab {m : Nat} (h0 : 1 ≤ m) (h1 : m ≤ 20) : Tab m := by
  have h := List.all_eq_true.mp tab_all (m - 1) (List.mem_range.mpr (by omega))
  rw [show m - 1 + 1 = m by omega] at h
  unfold okN at h
  simp only [Bool.and_eq_true, decide_eq_true_eq] at h
  obtain ⟨⟨⟨⟨⟨⟨⟨⟨a1, a2⟩, a3⟩, a4⟩, a5⟩, a6⟩, a7⟩, a8⟩, a9⟩ := h
  have k : ∀ k, k < m → okK (m : Int) k = true := fun k hk => List.all_eq_true.mp a9 k (List.mem_range.mpr hk)
  unfold okK at k
  simp only [Bool.and_eq_true, decide_eq_true_eq] at k
  exact ⟨a1, a2, a3, a4, a5, a6, a7, a8, fun i hi => (k i hi).1.1.1.1.1.1.1, fun i hi => (k i hi).1.1.1.1.1.1.2, fun i hi => (k i hi).1.1.1.1.1.2, fun i hi => (k i hi).1.1.1.1.2, fun i hi => ⟨(k i hi).1.1.1.2, (k i hi).1.1.2⟩, fun i hi => ⟨(k i hi).1.2, (k i hi).2⟩⟩
end K46

namespace K46
open PySem PySem.Spec PyProof.Rows L2 SortR LcM RepA
def spLaw (K : PySem.W.Frag) : Sp := fun vs H Q _ => ∃ (a : Addr) (ns : List Int), vs = [.ref a] ∧ SqL K H a (ns.map L2.V.int) ∧ ns.length ≤ 63 ∧ ∀ H', Q (.bl true) H'
theorem eqv_pair (a b : Int) : PyData.eqv (.tuple [.int a, .int b]) (.tuple [.int a, .int b]) = true := by simp [PyData.eqv, PyData.eqvAll]
theorem shaped_pair (a b : Int) : SeqAt.shaped (.tuple [.int a, .int b]) = true := by simp [SeqAt.shaped, PyData.canLay0, PyData.canLayAll0, PyData.depth, PyData.depthAll]
theorem due_is {m k : Nat} (tb : Tab m) (hk : k < m) (h1 : m ≠ 1) : low (if (0 : Int) < 2 * (0 + (k : Int)) - 1 then 2 * (0 + (k : Int)) - 1 else 0) (2 * (m : Int) - 3) = shI m (0 + (k : Int)) := by
  unfold shI
  by_cases c : k = 0
  · subst c
    rw [if_neg (show ¬ (0 : Int) < 2 * (0 + ((0 : Nat) : Int)) - 1 by decide), if_pos (show (0 : Int) + ((0 : Nat) : Int) = 0 by decide), if_neg (show ¬ (m : Int) = 1 by omega)]
    rcases tb.zero with z | z
    · exact absurd z h1
    · exact z
  · rw [if_pos (by omega), if_neg (by omega)]
section
variable {P : Program} {w : World} {K : PySem.W.Frag} {mg : Str → Option Value} {base : Heap}
theorem scLaw : FnScope ["script", "bag", "turn", "wide", "told", "whole", "mean", "k", "share", "due", "top", "bottom", "size"] ["script"] (defScope sLaw) := ⟨rfl, rfl, rfl, by decide +kernel, rfl, by decide +kernel, by decide +kernel⟩
theorem ok_law {f : Addr} {fd : FuncData} (F : Fun K "law" "law" sLaw f fd) (Z : ProgF K mg) (Y : ComF K mg) (U : LeaF K mg) (W : LawG K mg) (T : TxtP mg) (T0 : Txt0 mg) (TA : TxtA mg W.fAlike) : FnOk P w K mg base CX0 12 f fd ["script"] (spLaw K) := by
  have GBag : FnOk P w K mg base CX0 1 W.fBag W.dBag ["script"] (spBag K) := ok_bag W.FBag T0
  have GDraw := W.draw2 (P := P) (w := w) (base := base) T0
  have GRight := ok_right (P := P) (w := w) (base := base) Z Y U W T T0 TA
  have GAlike : FnOk P w K mg base CX0 3 W.fAlike W.dAlike ["found", "due"] (spAlk 2) := ok_alk W.FAlike TA W.bAlike 2
  have GLow : FnOk P w K mg base CX0 1 W.fLow W.dLow ["top", "bottom"] spLow := ok_low W.FLow T
  have GCounts : FnOk P w K mg base CX0 1 W.fCounts W.dCounts ["wide"] spCountsL := ok_countsL W T T0
  have GTSh := ok_tsh (P := P) (w := w) (base := base) Z T U
  have GTCo := ok_tco (P := P) (w := w) (base := base) Z T U
  refine F.ok scLaw (fun vs H Q E h => ?_) (fun cdv A outer s H vs Q E hr h => ?_)
  · obtain ⟨a, ns, rfl, _⟩ := h
    rfl
  · obtain ⟨sa, ns, rfl, hS, hl, kq⟩ := h
    refine ⟨_, (pss_cons (ps_set (i := 1) scLaw.nd rfl (.inl rfl) (pe_call GBag (hr.mono (by decide)) rfl W.gBag W.FBag.kp W.bBag .nil pass0 (pa_cons (pv 0) pa_nil)))
      (pss_cons (ps_for PassesOwn.never rfl (pi_range1 (by rfl) T.range (pa_cons pe_int pa_nil)) (pg_name (i := 2) scLaw.nd rfl (.inl rfl))
      (pss_one (ps_if (pt_not (pt_val (pe_call GRight (hr.mono (by decide)) rfl W.gRight W.FRight.kp W.bRight .nil pass0 (pa_cons (pv 1) (pa_cons (pe_op op_add pe_int (pe_call GDraw (hr.mono (by decide)) rfl W.gDraw W.FDraw.kp W.bDraw .nil pass0 (pa_cons (pv 1) (pa_cons pe_int pa_nil)))) (pa_cons pe_int pa_nil)))))) (pss_one (ps_ret pe_bl)) pss_nil)))
      (pss_cons (ps_if (pt_not (pt_val (pe_call GRight (hr.mono (by decide)) rfl W.gRight W.FRight.kp W.bRight .nil pass0 (pa_cons (pv 1) (pa_cons pe_int (pa_cons pe_int pa_nil)))))) (pss_one (ps_ret pe_bl)) pss_nil)
      (pss_cons (ps_for PassesOwn.never rfl (pi_tup (pe_tup (pa_cons pe_int (pa_cons (pe_op op_add pe_int (pe_call GDraw (hr.mono (by decide)) rfl W.gDraw W.FDraw.kp W.bDraw .nil pass0 (pa_cons (pv 1) (pa_cons pe_int pa_nil)))) (pa_cons pe_int (pa_cons pe_int (pa_cons pe_int pa_nil))))))) (pg_name (i := 3) scLaw.nd rfl (.inl rfl))
      (pss_cons (ps_asg (pe_tup (pa_cons (pe_call GTCo (hr.mono (by decide)) rfl U.gTCo U.FTCo.kp U.bTCo .nil pass0 (pa_cons (pv 3) pa_nil)) (pa_cons pe_int (pa_cons (pe_tup (pa_cons pe_int (pa_cons pe_int pa_nil))) pa_nil)))) (pg_tup (by rfl) (pgs_cons (pg_name (i := 4) scLaw.nd rfl (.inr rfl)) (pgs_cons (pg_name (i := 5) scLaw.nd rfl (.inl rfl)) (pgs_cons (pg_name (i := 6) scLaw.nd rfl (.inl rfl)) pgs_nil)))))
      (pss_cons (ps_for PassesOwn.never rfl (pi_range2 (by rfl) T.range (pa_cons pe_int (pa_cons (pv 3) pa_nil))) (pg_name (i := 7) scLaw.nd rfl (.inl rfl))
      (pss_one (ps_set (i := 5) scLaw.nd rfl (.inl rfl) (pe_op op_mul (pv 5) (pe_op op_sub (pe_op op_mul pe_int (pv 7)) pe_int)))))
      (pss_cons (ps_if (PW.pt (pw_or (pt_not (pt_val (pe_call GAlike (hr.mono (by decide)) rfl W.gAlike W.FAlike.kp W.bAlike .nil pass0 (pa_cons (pv 4) (pa_cons (pe_call GCounts (hr.mono (by decide)) rfl W.gCounts W.FCounts.kp W.bCounts .nil pass0 (pa_cons (pv 3) pa_nil)) pa_nil))))) (pw_or1 (pt_cmpR op_ne (pe_callB (cr_sum rfl) (by rfl) T.sum (by decide +kernel) (pa_cons (pv 4) pa_nil)) (pv 5) (nomark _))))) (pss_one (ps_ret pe_bl)) pss_nil)
      (pss_cons (ps_for PassesOwn.never rfl (pi_range1 (by rfl) T.range (pa_cons (pv 3) pa_nil)) (pg_name (i := 7) scLaw.nd rfl (.inl rfl))
      (pss_cons (ps_set (i := 8) scLaw.nd rfl (.inl rfl) (pe_call GTSh (hr.mono (by decide)) rfl U.gTSh U.FTSh.kp U.bTSh .nil pass0 (pa_cons (pv 3) (pa_cons (pv 7) pa_nil))))
      (pss_cons (ps_set (i := 9) scLaw.nd rfl (.inl rfl) (pe_ifExp (pt_cmpR op_eq (pv 3) pe_int (nomark _)) (pe_tup (pa_cons pe_int (pa_cons pe_int pa_nil))) (pe_call GLow (hr.mono (by decide)) rfl W.gLow W.FLow.kp W.bLow .nil pass0 (pa_cons (pe_callB (call_max2 rfl) (by rfl) T0.max (by decide +kernel) (pa_cons pe_int (pa_cons (pe_op op_sub (pe_op op_mul pe_int (pv 7)) pe_int) pa_nil))) (pa_cons (pe_op op_sub (pe_op op_mul pe_int (pv 3)) pe_int) pa_nil)))))
      (pss_cons (ps_if (pt_not (pt_val (pe_call GAlike (hr.mono (by decide)) rfl W.gAlike W.FAlike.kp W.bAlike .nil pass0 (pa_cons (pv 8) (pa_cons (pv 9) pa_nil))))) (pss_one (ps_ret pe_bl)) pss_nil)
      (pss_cons (ps_asg (pv 8) (pg_tup (by rfl) (pgs_cons (pg_name (i := 10) scLaw.nd rfl (.inl rfl)) (pgs_cons (pg_name (i := 11) scLaw.nd rfl (.inl rfl)) pgs_nil))))
      (pss_one (ps_set (i := 6) scLaw.nd rfl (.inl rfl) (pe_call GLow (hr.mono (by decide)) rfl W.gLow W.FLow.kp W.bLow .nil pass0 (pa_cons (pe_op op_add (pe_op op_mul (pe_ix (r := rIxT K) ix_tup (pv 6) pe_int (fun _ _ => rfl)) (pv 11)) (pe_op op_mul (pv 10) (pe_ix (r := rIxT K) ix_tup (pv 6) pe_int (fun _ _ => rfl)))) (pa_cons (pe_op op_mul (pe_ix (r := rIxT K) ix_tup (pv 6) pe_int (fun _ _ => rfl)) (pv 11)) pa_nil))))))))))
      (pss_one (ps_if (pt_cmpR (op_neD hr.units) (pv 6) (pe_call GLow (hr.mono (by decide)) rfl W.gLow W.FLow.kp W.bLow .nil pass0 (pa_cons (pe_callB (cr_sum rfl) (by rfl) T.sum (by decide +kernel) (pa_cons (pe_lc (te := tOp (rI CMul fun i j => V.int (i * j)) (tVar 12) (tOp (rIxL K) (tVar 4) (tVar 12))) (own := [("size", 12)]) (g := gName 12) (tt := tYes) rfl scLaw.nd (pi_range1 (by rfl) T.range (pa_cons (pe_op op_add (pv 3) pe_int) pa_nil)) (blkOk_by (own := [("size", 12)]) (N := ["script", "bag", "turn", "wide", "told", "whole", "mean", "k", "share", "due", "top", "bottom", "size"]) (sc := defScope sLaw) (by decide +kernel)) (fun _ _ _ _ _ => pg_name (i := 12) scLaw.nd rfl (Or.inl rfl)) (fun _ _ _ _ _ => pts_nil) (fun _ _ _ _ _ => (pe_op op_mul (pv 12) (pe_ix (r := rIxL K) ix_list (pv 4) (pv 12) (fun _ _ => rfl))))) pa_nil)) (pa_cons (pv 5) pa_nil))) (nomark _)) (pss_one (ps_ret pe_bl)) pss_nil)))))))
      (pss_one (ps_ret pe_bl)))))), ?_⟩
    refine ⟨_, rfl, sa, ns, rfl, hS, hl, fun H1 p _ _ hBag => ?_⟩
    obtain ⟨c, hB⟩ := hBag.b
    refine ⟨_, rfl, by decide, by decide, for_range (n := 2) (fun i σ G => ∃ o2 : Option V, σ = [some (.ref sa), some (.ref p), o2, none, none, none, none, none, none, none, none, none, none] ∧ BagB G p c) ⟨none, rfl, hB⟩ (fun i σ G il ⟨o2, e, hB⟩ => ?_) fun σ G ⟨o2, e, hB⟩ => ?_⟩
    · subst e
      refine ⟨_, rfl, _, rfl, p, c, _, rfl, hB, by decide, by decide, fun v H2 v0 v1 hB2 bu2 => ⟨_, _, rfl, rfl, p, c, _, _, rfl, hB2, by omega, by omega, by decide, by omega, fun H3 hB3 => ⟨_, rfl, iteF ⟨_, rfl, hB3⟩⟩⟩⟩
    · subst e
      refine ⟨_, rfl, p, c, _, _, rfl, hB, by decide, by decide, by decide, by decide, fun H3 hB3 => ⟨_, rfl, iteF ?_⟩⟩
      refine ⟨_, rfl, p, c, _, rfl, hB3, by decide, by decide, fun v H4 v0 v1 hB4 bu4 => ⟨_, _, rfl, rfl, (by show 5 ≤ sizeLine; decide), fun t ht => ⟨t, rfl, ⟨_, SqT.of upd_same⟩, ?_⟩⟩⟩
      have et := upd_same (H := H4) (a := t) (o := .tup [V.int 20, V.int (1 + v), V.int 1, V.int 2, V.int 3])
      generalize upd H4 t (.tup [V.int 20, V.int (1 + v), V.int 1, V.int 2, V.int 3]) = H5 at et
      refine for_tup (K := K) (xs := [V.int 20, V.int (1 + v), V.int 1, V.int 2, V.int 3]) (fun j σ G => ∃ o3 o4 o5 o6 o7 o8 o9 o10 o11 o12 : Option V, σ = [some (.ref sa), some (.ref p), o2, o3, o4, o5, o6, o7, o8, o9, o10, o11, o12] ∧ Grows H5 G) ⟨_, _, _, _, _, _, _, _, _, _, rfl, .refl⟩ (fun j σ G _ ⟨_, _, _, _, _, _, _, _, _, _, _, g⟩ => SqT.of (g _ _ et)) (fun j x σ G hx ⟨o3, o4, o5, o6, o7, o8, o9, o10, o11, o12, e, g⟩ => ?_) fun σ G ⟨o3, o4, o5, o6, o7, o8, o9, o10, o11, o12, e, g⟩ => ?_
      · subst e
        obtain ⟨m, rfl, m1, m2⟩ : ∃ m : Nat, x = L2.V.int (m : Int) ∧ 1 ≤ m ∧ m ≤ 20 := by
          have hm := List.mem_of_getElem? hx
          simp only [List.mem_cons, List.not_mem_nil, or_false] at hm
          rcases hm with rfl | rfl | rfl | rfl | rfl
          · exact ⟨20, rfl, by omega, by omega⟩
          · exact ⟨(1 + v).toNat, by congr 1; omega, by omega, by omega⟩
          · exact ⟨1, rfl, by omega, by omega⟩
          · exact ⟨2, rfl, by omega, by omega⟩
          · exact ⟨3, rfl, by omega, by omega⟩
        have tb := tab m1 m2
        refine ⟨_, rfl, _, rfl, by omega, by omega, fun D H6 g6 eD => ⟨(by show 2 ≤ sizeLine; decide), fun mt hmt => ⟨(by show 3 ≤ sizeLine; decide), fun t2 ht2 => ⟨t2, _, rfl, SqT.of upd_same, rfl, _, _, rfl, _, _, rfl, _, _, rfl, rfl, ?_⟩⟩⟩⟩
        have ga := Grows.new (o := .tup [V.int 0, V.int 1]) hmt
        have gb := Grows.new (o := .tup [V.ref D, V.int 1, V.ref mt]) ht2
        have eD := gb _ _ (ga _ _ eD)
        have em := gb _ _ (upd_same (H := H6) (a := mt) (o := .tup [V.int 0, V.int 1]))
        have g7 := g.trans (g6.trans (ga.trans gb))
        generalize upd (upd H6 mt (.tup [V.int 0, V.int 1])) t2 (.tup [V.ref D, V.int 1, V.ref mt]) = H7 at eD em g7
        clear ga gb g6 hmt ht2 g
        refine ⟨_, rfl, _, _, rfl, by omega, for_range (lo := 2) (n := ((m : Int) - 2).toNat) (fun i σ G' => ∃ o7 : Option V, σ = [some (.ref sa), some (.ref p), o2, some (.int (m : Int)), some (.ref D), some (.int (wh i)), some (.ref mt), o7, o8, o9, o10, o11, o12] ∧ G' = H7) ⟨_, rfl, rfl⟩ (fun i σ G' il ⟨o7, e, eg⟩ => ?_) fun σ G' ⟨o7, e, eg⟩ => ?_⟩
        · subst e
          subst eg
          exact ⟨_, rfl, _, rfl, _, _, rfl, rfl, .inl ⟨by decide, by decide⟩, _, _, rfl, rfl, _, _, rfl, rfl, .inr ⟨by omega, by omega⟩, _, rfl, rfl⟩
        · subst e
          subst eg
          rw [show ((m : Int) - 2).toNat = m - 2 by omega]
          refine ⟨_, rfl, _, rfl, _, rfl, by omega, by omega, fun D2 H8 g8 e8 => ⟨_, _, rfl, (alk_ints (g8 _ _ eD) e8 (by rw [tb.len]; omega)).up, fun H9 g9 => ⟨_, rfl, ?_⟩⟩⟩
          refine iteF ⟨_, rfl, D, _, rfl, SqL.of ((g8.trans g9) _ _ eD), _, rfl, rfl, _, rfl, ?_⟩
          rw [decide_eq_true (show V.int (tcI (m : Int)).sum = V.int (wh (m - 2)) by rw [tb.sum])]
          refine iteF ?_
          have g10 := g8.trans g9
          have eD9 := g10 _ _ eD
          have em9 := g10 _ _ em
          have g79 := g7.trans g10
          clear eD em g7 g10 g8 g9 e8
          refine ⟨_, rfl, _, rfl, by omega, by omega, for_range (n := (m : Int).toNat) (fun i σ G' => ∃ (ma : Addr) (o7 o8 o9 o10 o11 : Option V), σ = [some (.ref sa), some (.ref p), o2, some (.int (m : Int)), some (.ref D), some (.int (wh (m - 2))), some (.ref ma), o7, o8, o9, o10, o11, o12] ∧ Grows H9 G' ∧ G' ma = some (.tup [V.int (mn (m : Int) i).1, V.int (mn (m : Int) i).2]))
            ⟨mt, _, _, _, _, _, rfl, .refl, em9⟩ (fun i σ G' il ⟨ma, o7, o8, o9, o10, o11, e, gG, ema⟩ => ?_) fun σ σH ⟨ma, o7, o8, o9, o10, o11, e, gG, ema⟩ => ?_⟩
          · subst e
            have il : i < m := by omega
            refine ⟨_, rfl, _, rfl, _, _, rfl, by omega, by omega, by omega, by omega, fun t3 H10 g10 e10 => ?_⟩
            refine ⟨_, rfl, rfl, _, rfl, ?_⟩
            refine if_goal (R := fun v G4 => ∃ t4, v = .ref t4 ∧ Grows H10 G4 ∧ G4 t4 = some (.tup [V.int (shI (m : Int) (0 + (i : Int))).1, V.int (shI (m : Int) (0 + (i : Int))).2])) (fun v G4 ⟨t4, ev, g4, e4⟩ => ?_) fun Q' hq => ?_
            · subst ev
              rw [Int.zero_add] at e10 e4
              refine ⟨_, rfl, _, rfl, _, _, rfl, (alk_tups (xs := [(shI (m : Int) (i : Int)).1, (shI (m : Int) (i : Int)).2]) (g4 _ _ e10) e4 (by simp)).up, fun H11 g11 => ⟨_, rfl, iteF ?_⟩⟩
              have g12 := g4.trans g11
              have e11 := g12 _ _ e10
              have em11 := (g10.trans g12) _ _ ema
              have gGf := gG.trans (g10.trans g12)
              have P0 := tb.p0 i il
              have Q0 := tb.q0 i il
              clear gG g10 g12 g4 g11 e4 e10 ema
              have a0 : atI [V.int (mn (m : Int) i).1, V.int (mn (m : Int) i).2] 0 = some (V.int (mn (m : Int) i).1) := atI_nat (j := 0) rfl
              have a1 : atI [V.int (mn (m : Int) i).1, V.int (mn (m : Int) i).2] 1 = some (V.int (mn (m : Int) i).2) := atI_nat (j := 1) rfl
              refine ⟨_, rfl, t3, _, rfl, SqT.of e11, rfl, _, _, rfl, _, _, rfl, rfl, ?_⟩
              refine ⟨_, rfl, ma, _, _, _, rfl, rfl, SqT.of em11, a0, _, rfl, _, _, rfl, rfl, .inr ⟨by omega, by omega⟩, _, rfl, _, rfl, ma, _, _, _, rfl, rfl, SqT.of em11, a1, _, _, rfl, rfl, .inl ⟨by omega, by omega⟩, _, _, rfl, rfl, _, rfl, ma, _, _, _, rfl, rfl, SqT.of em11, a1, _, rfl, _, _, rfl, rfl, .inr ⟨by omega, by omega⟩, _, _, rfl, tb.t0 i il, tb.b0 i il, tb.t1 i il, tb.b1 i il, fun t5 ht5 => ⟨t5, _, _, _, _, _, rfl, gGf.trans (Grows.new ht5), upd_same⟩⟩
            · by_cases c1 : m = 1
              · rw [decide_eq_true (show V.int (m : Int) = V.int 1 by rw [c1]; rfl)]
                have i0 : i = 0 := by omega
                subst i0
                subst c1
                exact iteT ⟨(by show 2 ≤ sizeLine; decide), fun t4 ht4 => hq _ _ ⟨t4, rfl, Grows.new ht4, upd_same⟩⟩
              · rw [decide_eq_false (show ¬ V.int (m : Int) = V.int 1 from fun z => c1 (by have := L2.V.int.inj z; omega))]
                have du := due_is tb il c1
                refine iteF ⟨_, rfl, _, _, rfl, rfl, .inl ⟨by decide, by decide⟩, _, _, rfl, rfl, _, _, rfl, _, rfl, _, _, rfl, rfl, .inl ⟨by decide, by decide⟩, _, _, rfl, rfl, _, _, rfl, ?_, by omega, ?_, by omega, fun t4 ht4 => hq _ _ ⟨t4, rfl, Grows.new ht4, ?_⟩⟩
                · split <;> omega
                · split <;> omega
                · rw [upd_same]
                  show some (HO.tup [V.int (low (if (0 : Int) < 2 * (0 + (i : Int)) - 1 then 2 * (0 + (i : Int)) - 1 else 0) (2 * (m : Int) - 3)).1, V.int (low (if (0 : Int) < 2 * (0 + (i : Int)) - 1 then 2 * (0 + (i : Int)) - 1 else 0) (2 * (m : Int) - 3)).2]) = _
                  rw [du]
          · subst e
            rw [Int.toNat_natCast, tb.mean] at ema
            refine ⟨_, rfl, _, rfl, _, _, rfl, rfl, _, rfl, by omega, by omega, fun D3 hD3 => ?_⟩
            refine lc_range (n := ((m : Int) + 1).toNat) (fun i H2 => Grows σH H2 ∧ H2 D3 = some (.lst ((List.range i).map fun s : Nat => V.int ((s : Int) * (tcI (m : Int)).getD s 0)))) ⟨Grows.new hD3, upd_same⟩ ?_ ?_
            · rintro i H2 hi ⟨s2, e2⟩
              refine ⟨rfl, ?_⟩
              unfold tYes
              dsimp only
              rw [if_pos rfl]
              have il : i < (tcI (m : Int)).length := by rw [tb.len]; omega
              have at_ : atI ((tcI (m : Int)).map V.int) (0 + (i : Int)) = some (V.int ((tcI (m : Int)).getD i 0)) := by
                rw [Int.zero_add]
                refine atI_nat ?_
                rw [List.getElem?_map, List.getElem?_eq_getElem il, List.getD_eq_getElem?_getD, List.getElem?_eq_getElem il]
                rfl
              refine ⟨_, rfl, _, rfl, _, rfl, D, _, _, _, rfl, rfl, SqL.of (s2 _ _ (gG _ _ eD9)), at_, _, _, rfl, rfl, .inl ⟨by omega, by omega⟩, _, e2, ?_, fun b o e => ?_, ?_⟩
              · rw [List.length_map, List.length_range]
                exact small1000 (by omega)
              · rw [upd_ne (ne_of_none e hD3)]
                exact s2 _ _ e
              · rw [upd_same, List.range_succ, List.map_append, Int.zero_add]
                rfl
            · rintro H2 ⟨s2, e2⟩
              have e2 : H2 D3 = some (.lst (((List.range ((m : Int) + 1).toNat).map fun s : Nat => (s : Int) * (tcI (m : Int)).getD s 0).map V.int)) := by
                rw [e2, List.map_map]
                rfl
              refine ⟨D3, _, rfl, SqL.of e2, _, rfl, _, _, rfl, tb.s0, tb.w0, tb.s1, tb.w1, fun t6 ht6 => ?_⟩
              have g6 := Grows.new (o := .tup [V.int (low (sm (m : Int)) (wh (m - 2))).1, V.int (low (sm (m : Int)) (wh (m - 2))).2]) ht6
              refine ⟨.tuple [.int (low (sm (m : Int)) (wh (m - 2))).1, .int (low (sm (m : Int)) (wh (m - 2))).2], .tuple [.int (low (sm (m : Int)) (wh (m - 2))).1, .int (low (sm (m : Int)) (wh (m - 2))).2], .tup (SqT.of (g6 _ _ (s2 _ _ ema))) (.cons (.int _) (.cons (.int _) .nil)), .tup (SqT.of upd_same) (.cons (.int _) (.cons (.int _) .nil)), shaped_pair _ _, shaped_pair _ _, _, rfl, ?_⟩
              rw [eqv_pair]
              exact iteF ⟨_, _, _, _, _, _, _, _, _, _, rfl, g79.trans (gG.trans (s2.trans g6))⟩
      · subst e
        exact kq _
end
end K46

namespace K46
open PySem PySem.Spec PyProof.Rows L2 SortR LcM RepA
theorem all_mk {l : PySem.W.OpenLaw} {w : World} {K : PySem.W.Frag} {h : Heap} {mg : Str → Option Value} {fa fNum fPer fAsc fPL fGr fMask fCross fAny fIs fPs fCut fComing fBoth fItem fComOf fGrown fPlace fCome fPB fNP fNPs fNN fFrac fWith fCW fEnt fTrc fIsT fTSh fTCo fwBag fwStir fwDraw fwAlike fwRow fwBy fwCutL fwMaker fwComing fwLow fwGone fwRight fwCounts fL : Addr} (X : K.In h) (G : h.Ns mainGlobals mg) (hfa : mg "law" = some (.ref fa))
    {odNum anNum odPer anPer odAsc anAsc odPL anPL odGr anGr odMask anMask odCross anCross odAny anAny odIs anIs odPs anPs odCut anCut odComing anComing odBoth anBoth odItem anItem odComOf anComOf odGrown anGrown odPlace anPlace odCome anCome odPB anPB odNP anNP odNPs anNPs odNN anNN odFrac anFrac odWith anWith odCW anCW odEnt anEnt odTrc anTrc odIsT anIsT odTSh anTSh odTCo anTCo odwBag anwBag odwStir anwStir odwDraw anwDraw odwAlike anwAlike odwRow anwRow odwBy anwBy odwCutL anwCutL odwMaker anwMaker odwComing anwComing odwLow anwLow odwGone anwGone odwRight anwRight odwCounts anwCounts odL anL : Option Addr} {slNum slPer slAsc slPL slGr slMask slCross slAny slIs slPs slCut slComing slBoth slItem slComOf slGrown slPlace slCome slPB slNP slNPs slNN slFrac slWith slCW slEnt slTrc slIsT slTSh slTCo slwBag slwStir slwDraw slwAlike slwRow slwBy slwCutL slwMaker slwComing slwLow slwGone slwRight slwCounts slL : Array (Option Value)} {ocNum kVNum dcNum pmNum cvNum ctNum ocPer kVPer dcPer pmPer cvPer ctPer ocAsc kVAsc dcAsc pmAsc cvAsc ctAsc ocPL kVPL dcPL pmPL cvPL ctPL ocGr kVGr dcGr pmGr cvGr ctGr ocMask kVMask dcMask pmMask cvMask ctMask ocCross kVCross dcCross pmCross cvCross ctCross ocAny kVAny dcAny pmAny cvAny ctAny ocIs kVIs dcIs pmIs cvIs ctIs ocPs kVPs dcPs pmPs cvPs ctPs ocCut kVCut dcCut pmCut cvCut ctCut ocComing kVComing dcComing pmComing cvComing ctComing ocBoth kVBoth dcBoth pmBoth cvBoth ctBoth ocItem kVItem dcItem pmItem cvItem ctItem ocComOf kVComOf dcComOf pmComOf cvComOf ctComOf ocGrown kVGrown dcGrown pmGrown cvGrown ctGrown ocPlace kVPlace dcPlace pmPlace cvPlace ctPlace ocCome kVCome dcCome pmCome cvCome ctCome ocPB kVPB dcPB pmPB cvPB ctPB ocNP kVNP dcNP pmNP cvNP ctNP ocNPs kVNPs dcNPs pmNPs cvNPs ctNPs ocNN kVNN dcNN pmNN cvNN ctNN ocFrac kVFrac dcFrac pmFrac cvFrac ctFrac ocWith kVWith dcWith pmWith cvWith ctWith ocCW kVCW dcCW pmCW cvCW ctCW ocEnt kVEnt dcEnt pmEnt cvEnt ctEnt ocTrc kVTrc dcTrc pmTrc cvTrc ctTrc ocIsT kVIsT dcIsT pmIsT cvIsT ctIsT ocTSh kVTSh dcTSh pmTSh cvTSh ctTSh ocTCo kVTCo dcTCo pmTCo cvTCo ctTCo ocwBag kVwBag dcwBag pmwBag cvwBag ctwBag ocwStir kVwStir dcwStir pmwStir cvwStir ctwStir ocwDraw kVwDraw dcwDraw pmwDraw cvwDraw ctwDraw ocwAlike kVwAlike dcwAlike pmwAlike cvwAlike ctwAlike ocwRow kVwRow dcwRow pmwRow cvwRow ctwRow ocwBy kVwBy dcwBy pmwBy cvwBy ctwBy ocwCutL kVwCutL dcwCutL pmwCutL cvwCutL ctwCutL ocwMaker kVwMaker dcwMaker pmwMaker cvwMaker ctwMaker ocwComing kVwComing dcwComing pmwComing cvwComing ctwComing ocwLow kVwLow dcwLow pmwLow cvwLow ctwLow ocwGone kVwGone dcwGone pmwGone cvwGone ctwGone ocwRight kVwRight dcwRight pmwRight cvwRight ctwRight ocwCounts kVwCounts dcwCounts pmwCounts cvwCounts ctwCounts ocL kVL dcL pmL cvL ctL : Value} {mtok : Tok}
    (aNum : PySem.W.nsIn K mainGlobals "is_number" = some (some (.ref fNum))) (lNum : K.lookup fNum = some ⟨ocNum, odNum, .func (PySem.W.fnOf "is_number" "is_number" (defArgs sNumber) (defBody sNumber) (defScope sNumber) .none kVNum dcNum pmNum anNum cvNum ctNum), slNum⟩) (xNum : PySem.W.codeIn K cvNum "is_number" = true) (kNum : PySem.W.keepIn K (.ref fNum) = true)
    (aPer : PySem.W.nsIn K mainGlobals "is_person" = some (some (.ref fPer))) (lPer : K.lookup fPer = some ⟨ocPer, odPer, .func (PySem.W.fnOf "is_person" "is_person" (defArgs sPerson) (defBody sPerson) (defScope sPerson) .none kVPer dcPer pmPer anPer cvPer ctPer), slPer⟩) (xPer : PySem.W.codeIn K cvPer "is_person" = true) (kPer : PySem.W.keepIn K (.ref fPer) = true)
    (aAsc : PySem.W.nsIn K mainGlobals "is_ascending" = some (some (.ref fAsc))) (lAsc : K.lookup fAsc = some ⟨ocAsc, odAsc, .func (PySem.W.fnOf "is_ascending" "is_ascending" (defArgs sAsc) (defBody sAsc) (defScope sAsc) .none kVAsc dcAsc pmAsc anAsc cvAsc ctAsc), slAsc⟩) (xAsc : PySem.W.codeIn K cvAsc "is_ascending" = true) (kAsc : PySem.W.keepIn K (.ref fAsc) = true)
    (aPL : PySem.W.nsIn K mainGlobals "is_person_list" = some (some (.ref fPL))) (lPL : K.lookup fPL = some ⟨ocPL, odPL, .func (PySem.W.fnOf "is_person_list" "is_person_list" (defArgs sPList) (defBody sPList) (defScope sPList) .none kVPL dcPL pmPL anPL cvPL ctPL), slPL⟩) (xPL : PySem.W.codeIn K cvPL "is_person_list" = true) (kPL : PySem.W.keepIn K (.ref fPL) = true)
    (aGr : PySem.W.nsIn K mainGlobals "is_group" = some (some (.ref fGr))) (lGr : K.lookup fGr = some ⟨ocGr, odGr, .func (PySem.W.fnOf "is_group" "is_group" (defArgs sGroup) (defBody sGroup) (defScope sGroup) .none kVGr dcGr pmGr anGr cvGr ctGr), slGr⟩) (xGr : PySem.W.codeIn K cvGr "is_group" = true) (kGr : PySem.W.keepIn K (.ref fGr) = true)
    (aMask : PySem.W.nsIn K mainGlobals "mask_of" = some (some (.ref fMask))) (lMask : K.lookup fMask = some ⟨ocMask, odMask, .func (PySem.W.fnOf "mask_of" "mask_of" (defArgs sMask) (defBody sMask) (defScope sMask) .none kVMask dcMask pmMask anMask cvMask ctMask), slMask⟩) (xMask : PySem.W.codeIn K cvMask "mask_of" = true) (kMask : PySem.W.keepIn K (.ref fMask) = true)
    (aCross : PySem.W.nsIn K mainGlobals "masks_cross" = some (some (.ref fCross))) (lCross : K.lookup fCross = some ⟨ocCross, odCross, .func (PySem.W.fnOf "masks_cross" "masks_cross" (defArgs sCross) (defBody sCross) (defScope sCross) .none kVCross dcCross pmCross anCross cvCross ctCross), slCross⟩) (xCross : PySem.W.codeIn K cvCross "masks_cross" = true) (kCross : PySem.W.keepIn K (.ref fCross) = true)
    (aAny : PySem.W.nsIn K mainGlobals "any_cross" = some (some (.ref fAny))) (lAny : K.lookup fAny = some ⟨ocAny, odAny, .func (PySem.W.fnOf "any_cross" "any_cross" (defArgs sAny) (defBody sAny) (defScope sAny) .none kVAny dcAny pmAny anAny cvAny ctAny), slAny⟩) (xAny : PySem.W.codeIn K cvAny "any_cross" = true) (kAny : PySem.W.keepIn K (.ref fAny) = true)
    (aIs : PySem.W.nsIn K mainGlobals "is_parting" = some (some (.ref fIs))) (lIs : K.lookup fIs = some ⟨ocIs, odIs, .func (PySem.W.fnOf "is_parting" "is_parting" (defArgs sParting) (defBody sParting) (defScope sParting) .none kVIs dcIs pmIs anIs cvIs ctIs), slIs⟩) (xIs : PySem.W.codeIn K cvIs "is_parting" = true) (kIs : PySem.W.keepIn K (.ref fIs) = true)
    (aPs : PySem.W.nsIn K mainGlobals "persons_of" = some (some (.ref fPs))) (lPs : K.lookup fPs = some ⟨ocPs, odPs, .func (PySem.W.fnOf "persons_of" "persons_of" (defArgs sPersons) (defBody sPersons) (defScope sPersons) .none kVPs dcPs pmPs anPs cvPs ctPs), slPs⟩) (xPs : PySem.W.codeIn K cvPs "persons_of" = true) (kPs : PySem.W.keepIn K (.ref fPs) = true)
    (aCut : PySem.W.nsIn K mainGlobals "cut" = some (some (.ref fCut))) (lCut : K.lookup fCut = some ⟨ocCut, odCut, .func (PySem.W.fnOf "cut" "cut" (defArgs sCut) (defBody sCut) (defScope sCut) .none kVCut dcCut pmCut anCut cvCut ctCut), slCut⟩) (xCut : PySem.W.codeIn K cvCut "cut" = true) (kCut : PySem.W.keepIn K (.ref fCut) = true)
    (aComing : PySem.W.nsIn K mainGlobals "is_coming" = some (some (.ref fComing))) (lComing : K.lookup fComing = some ⟨ocComing, odComing, .func (PySem.W.fnOf "is_coming" "is_coming" (defArgs sComing) (defBody sComing) (defScope sComing) .none kVComing dcComing pmComing anComing cvComing ctComing), slComing⟩) (xComing : PySem.W.codeIn K cvComing "is_coming" = true) (kComing : PySem.W.keepIn K (.ref fComing) = true)
    (aBoth : PySem.W.nsIn K mainGlobals "both_parts" = some (some (.ref fBoth))) (lBoth : K.lookup fBoth = some ⟨ocBoth, odBoth, .func (PySem.W.fnOf "both_parts" "both_parts" (defArgs sBoth) (defBody sBoth) (defScope sBoth) .none kVBoth dcBoth pmBoth anBoth cvBoth ctBoth), slBoth⟩) (xBoth : PySem.W.codeIn K cvBoth "both_parts" = true) (kBoth : PySem.W.keepIn K (.ref fBoth) = true)
    (aItem : PySem.W.nsIn K mainGlobals "item_of" = some (some (.ref fItem))) (lItem : K.lookup fItem = some ⟨ocItem, odItem, .func (PySem.W.fnOf "item_of" "item_of" (defArgs sItem) (defBody sItem) (defScope sItem) .none kVItem dcItem pmItem anItem cvItem ctItem), slItem⟩) (xItem : PySem.W.codeIn K cvItem "item_of" = true) (kItem : PySem.W.keepIn K (.ref fItem) = true)
    (aComOf : PySem.W.nsIn K mainGlobals "coming_of" = some (some (.ref fComOf))) (lComOf : K.lookup fComOf = some ⟨ocComOf, odComOf, .func (PySem.W.fnOf "coming_of" "coming_of" (defArgs sComOf) (defBody sComOf) (defScope sComOf) .none kVComOf dcComOf pmComOf anComOf cvComOf ctComOf), slComOf⟩) (xComOf : PySem.W.codeIn K cvComOf "coming_of" = true) (kComOf : PySem.W.keepIn K (.ref fComOf) = true)
    (aGrown : PySem.W.nsIn K mainGlobals "grown" = some (some (.ref fGrown))) (lGrown : K.lookup fGrown = some ⟨ocGrown, odGrown, .func (PySem.W.fnOf "grown" "grown" (defArgs sGrown) (defBody sGrown) (defScope sGrown) .none kVGrown dcGrown pmGrown anGrown cvGrown ctGrown), slGrown⟩) (xGrown : PySem.W.codeIn K cvGrown "grown" = true) (kGrown : PySem.W.keepIn K (.ref fGrown) = true)
    (aPlace : PySem.W.nsIn K mainGlobals "place_of" = some (some (.ref fPlace))) (lPlace : K.lookup fPlace = some ⟨ocPlace, odPlace, .func (PySem.W.fnOf "place_of" "place_of" (defArgs sPlace) (defBody sPlace) (defScope sPlace) .none kVPlace dcPlace pmPlace anPlace cvPlace ctPlace), slPlace⟩) (xPlace : PySem.W.codeIn K cvPlace "place_of" = true) (kPlace : PySem.W.keepIn K (.ref fPlace) = true)
    (aCome : PySem.W.nsIn K mainGlobals "come_into" = some (some (.ref fCome))) (lCome : K.lookup fCome = some ⟨ocCome, odCome, .func (PySem.W.fnOf "come_into" "come_into" (defArgs sCome) (defBody sCome) (defScope sCome) .none kVCome dcCome pmCome anCome cvCome ctCome), slCome⟩) (xCome : PySem.W.codeIn K cvCome "come_into" = true) (kCome : PySem.W.keepIn K (.ref fCome) = true)
    (aPB : PySem.W.nsIn K mainGlobals "parting_by" = some (some (.ref fPB))) (lPB : K.lookup fPB = some ⟨ocPB, odPB, .func (PySem.W.fnOf "parting_by" "parting_by" (defArgs sPB) (defBody sPB) (defScope sPB) .none kVPB dcPB pmPB anPB cvPB ctPB), slPB⟩) (xPB : PySem.W.codeIn K cvPB "parting_by" = true) (kPB : PySem.W.keepIn K (.ref fPB) = true)
    (aNP : PySem.W.nsIn K mainGlobals "need_person" = some (some (.ref fNP))) (lNP : K.lookup fNP = some ⟨ocNP, odNP, .func (PySem.W.fnOf "need_person" "need_person" (defArgs sNeedP) (defBody sNeedP) (defScope sNeedP) .none kVNP dcNP pmNP anNP cvNP ctNP), slNP⟩) (xNP : PySem.W.codeIn K cvNP "need_person" = true) (kNP : PySem.W.keepIn K (.ref fNP) = true)
    (aNPs : PySem.W.nsIn K mainGlobals "need_persons" = some (some (.ref fNPs))) (lNPs : K.lookup fNPs = some ⟨ocNPs, odNPs, .func (PySem.W.fnOf "need_persons" "need_persons" (defArgs sNeedPs) (defBody sNeedPs) (defScope sNeedPs) .none kVNPs dcNPs pmNPs anNPs cvNPs ctNPs), slNPs⟩) (xNPs : PySem.W.codeIn K cvNPs "need_persons" = true) (kNPs : PySem.W.keepIn K (.ref fNPs) = true)
    (aNN : PySem.W.nsIn K mainGlobals "need_node" = some (some (.ref fNN))) (lNN : K.lookup fNN = some ⟨ocNN, odNN, .func (PySem.W.fnOf "need_node" "need_node" (defArgs sNeedN) (defBody sNeedN) (defScope sNeedN) .none kVNN dcNN pmNN anNN cvNN ctNN), slNN⟩) (xNN : PySem.W.codeIn K cvNN "need_node" = true) (kNN : PySem.W.keepIn K (.ref fNN) = true)
    (aFrac : PySem.W.nsIn K mainGlobals "fraction" = some (some (.ref fFrac))) (lFrac : K.lookup fFrac = some ⟨ocFrac, odFrac, .func (PySem.W.fnOf "fraction" "fraction" (defArgs sFrac) (defBody sFrac) (defScope sFrac) .none kVFrac dcFrac pmFrac anFrac cvFrac ctFrac), slFrac⟩) (xFrac : PySem.W.codeIn K cvFrac "fraction" = true) (kFrac : PySem.W.keepIn K (.ref fFrac) = true)
    (aWith : PySem.W.nsIn K mainGlobals "without" = some (some (.ref fWith))) (lWith : K.lookup fWith = some ⟨ocWith, odWith, .func (PySem.W.fnOf "without" "without" (defArgs sWith) (defBody sWith) (defScope sWith) .none kVWith dcWith pmWith anWith cvWith ctWith), slWith⟩) (xWith : PySem.W.codeIn K cvWith "without" = true) (kWith : PySem.W.keepIn K (.ref fWith) = true)
    (aCW : PySem.W.nsIn K mainGlobals "coming_without" = some (some (.ref fCW))) (lCW : K.lookup fCW = some ⟨ocCW, odCW, .func (PySem.W.fnOf "coming_without" "coming_without" (defArgs sCW) (defBody sCW) (defScope sCW) .none kVCW dcCW pmCW anCW cvCW ctCW), slCW⟩) (xCW : PySem.W.codeIn K cvCW "coming_without" = true) (kCW : PySem.W.keepIn K (.ref fCW) = true)
    (aEnt : PySem.W.nsIn K mainGlobals "entered" = some (some (.ref fEnt))) (lEnt : K.lookup fEnt = some ⟨ocEnt, odEnt, .func (PySem.W.fnOf "entered" "entered" (defArgs sEnt) (defBody sEnt) (defScope sEnt) .none kVEnt dcEnt pmEnt anEnt cvEnt ctEnt), slEnt⟩) (xEnt : PySem.W.codeIn K cvEnt "entered" = true) (kEnt : PySem.W.keepIn K (.ref fEnt) = true)
    (aTrc : PySem.W.nsIn K mainGlobals "traceless" = some (some (.ref fTrc))) (lTrc : K.lookup fTrc = some ⟨ocTrc, odTrc, .func (PySem.W.fnOf "traceless" "traceless" (defArgs sTrc) (defBody sTrc) (defScope sTrc) .none kVTrc dcTrc pmTrc anTrc cvTrc ctTrc), slTrc⟩) (xTrc : PySem.W.codeIn K cvTrc "traceless" = true) (kTrc : PySem.W.keepIn K (.ref fTrc) = true)
    (aIsT : PySem.W.nsIn K mainGlobals "is_traceless" = some (some (.ref fIsT))) (lIsT : K.lookup fIsT = some ⟨ocIsT, odIsT, .func (PySem.W.fnOf "is_traceless" "is_traceless" (defArgs sIsT) (defBody sIsT) (defScope sIsT) .none kVIsT dcIsT pmIsT anIsT cvIsT ctIsT), slIsT⟩) (xIsT : PySem.W.codeIn K cvIsT "is_traceless" = true) (kIsT : PySem.W.keepIn K (.ref fIsT) = true)
    (aTSh : PySem.W.nsIn K mainGlobals "traceless_share" = some (some (.ref fTSh))) (lTSh : K.lookup fTSh = some ⟨ocTSh, odTSh, .func (PySem.W.fnOf "traceless_share" "traceless_share" (defArgs sTSh) (defBody sTSh) (defScope sTSh) .none kVTSh dcTSh pmTSh anTSh cvTSh ctTSh), slTSh⟩) (xTSh : PySem.W.codeIn K cvTSh "traceless_share" = true) (kTSh : PySem.W.keepIn K (.ref fTSh) = true)
    (aTCo : PySem.W.nsIn K mainGlobals "traceless_counts" = some (some (.ref fTCo))) (lTCo : K.lookup fTCo = some ⟨ocTCo, odTCo, .func (PySem.W.fnOf "traceless_counts" "traceless_counts" (defArgs sTCo) (defBody sTCo) (defScope sTCo) .none kVTCo dcTCo pmTCo anTCo cvTCo ctTCo), slTCo⟩) (xTCo : PySem.W.codeIn K cvTCo "traceless_counts" = true) (kTCo : PySem.W.keepIn K (.ref fTCo) = true)
    (awBag : PySem.W.nsIn K mainGlobals "_law_bag" = some (some (.ref fwBag))) (lwBag : K.lookup fwBag = some ⟨ocwBag, odwBag, .func (PySem.W.fnOf "_law_bag" "_law_bag" (defArgs sBag) (defBody sBag) (defScope sBag) .none kVwBag dcwBag pmwBag anwBag cvwBag ctwBag), slwBag⟩) (xwBag : PySem.W.codeIn K cvwBag "_law_bag" = true) (kwBag : PySem.W.keepIn K (.ref fwBag) = true)
    (awStir : PySem.W.nsIn K mainGlobals "_law_stirred" = some (some (.ref fwStir))) (lwStir : K.lookup fwStir = some ⟨ocwStir, odwStir, .func (PySem.W.fnOf "_law_stirred" "_law_stirred" (defArgs sStir) (defBody sStir) (defScope sStir) .none kVwStir dcwStir pmwStir anwStir cvwStir ctwStir), slwStir⟩) (xwStir : PySem.W.codeIn K cvwStir "_law_stirred" = true) (kwStir : PySem.W.keepIn K (.ref fwStir) = true)
    (awDraw : PySem.W.nsIn K mainGlobals "_law_draw" = some (some (.ref fwDraw))) (lwDraw : K.lookup fwDraw = some ⟨ocwDraw, odwDraw, .func (PySem.W.fnOf "_law_draw" "_law_draw" (defArgs sDraw) (defBody sDraw) (defScope sDraw) .none kVwDraw dcwDraw pmwDraw anwDraw cvwDraw ctwDraw), slwDraw⟩) (xwDraw : PySem.W.codeIn K cvwDraw "_law_draw" = true) (kwDraw : PySem.W.keepIn K (.ref fwDraw) = true)
    (awAlike : PySem.W.nsIn K mainGlobals "_law_alike" = some (some (.ref fwAlike))) (lwAlike : K.lookup fwAlike = some ⟨ocwAlike, odwAlike, .func (PySem.W.fnOf "_law_alike" "_law_alike" (defArgs sAlike) (defBody sAlike) (defScope sAlike) .none kVwAlike dcwAlike pmwAlike anwAlike cvwAlike ctwAlike), slwAlike⟩) (xwAlike : PySem.W.codeIn K cvwAlike "_law_alike" = true) (kwAlike : PySem.W.keepIn K (.ref fwAlike) = true)
    (awRow : PySem.W.nsIn K mainGlobals "_law_row" = some (some (.ref fwRow))) (lwRow : K.lookup fwRow = some ⟨ocwRow, odwRow, .func (PySem.W.fnOf "_law_row" "_law_row" (defArgs sRowL) (defBody sRowL) (defScope sRowL) .none kVwRow dcwRow pmwRow anwRow cvwRow ctwRow), slwRow⟩) (xwRow : PySem.W.codeIn K cvwRow "_law_row" = true) (kwRow : PySem.W.keepIn K (.ref fwRow) = true)
    (awBy : PySem.W.nsIn K mainGlobals "_law_by" = some (some (.ref fwBy))) (lwBy : K.lookup fwBy = some ⟨ocwBy, odwBy, .func (PySem.W.fnOf "_law_by" "_law_by" (defArgs sByL) (defBody sByL) (defScope sByL) .none kVwBy dcwBy pmwBy anwBy cvwBy ctwBy), slwBy⟩) (xwBy : PySem.W.codeIn K cvwBy "_law_by" = true) (kwBy : PySem.W.keepIn K (.ref fwBy) = true)
    (awCutL : PySem.W.nsIn K mainGlobals "_law_cut" = some (some (.ref fwCutL))) (lwCutL : K.lookup fwCutL = some ⟨ocwCutL, odwCutL, .func (PySem.W.fnOf "_law_cut" "_law_cut" (defArgs sCutL) (defBody sCutL) (defScope sCutL) .none kVwCutL dcwCutL pmwCutL anwCutL cvwCutL ctwCutL), slwCutL⟩) (xwCutL : PySem.W.codeIn K cvwCutL "_law_cut" = true) (kwCutL : PySem.W.keepIn K (.ref fwCutL) = true)
    (awMaker : PySem.W.nsIn K mainGlobals "_law_maker" = some (some (.ref fwMaker))) (lwMaker : K.lookup fwMaker = some ⟨ocwMaker, odwMaker, .func (PySem.W.fnOf "_law_maker" "_law_maker" (defArgs sMakerL) (defBody sMakerL) (defScope sMakerL) .none kVwMaker dcwMaker pmwMaker anwMaker cvwMaker ctwMaker), slwMaker⟩) (xwMaker : PySem.W.codeIn K cvwMaker "_law_maker" = true) (kwMaker : PySem.W.keepIn K (.ref fwMaker) = true)
    (awComing : PySem.W.nsIn K mainGlobals "_law_coming" = some (some (.ref fwComing))) (lwComing : K.lookup fwComing = some ⟨ocwComing, odwComing, .func (PySem.W.fnOf "_law_coming" "_law_coming" (defArgs sComingL) (defBody sComingL) (defScope sComingL) .none kVwComing dcwComing pmwComing anwComing cvwComing ctwComing), slwComing⟩) (xwComing : PySem.W.codeIn K cvwComing "_law_coming" = true) (kwComing : PySem.W.keepIn K (.ref fwComing) = true)
    (awLow : PySem.W.nsIn K mainGlobals "_law_lowest" = some (some (.ref fwLow))) (lwLow : K.lookup fwLow = some ⟨ocwLow, odwLow, .func (PySem.W.fnOf "_law_lowest" "_law_lowest" (defArgs sLowL) (defBody sLowL) (defScope sLowL) .none kVwLow dcwLow pmwLow anwLow cvwLow ctwLow), slwLow⟩) (xwLow : PySem.W.codeIn K cvwLow "_law_lowest" = true) (kwLow : PySem.W.keepIn K (.ref fwLow) = true)
    (awGone : PySem.W.nsIn K mainGlobals "_law_gone" = some (some (.ref fwGone))) (lwGone : K.lookup fwGone = some ⟨ocwGone, odwGone, .func (PySem.W.fnOf "_law_gone" "_law_gone" (defArgs sGoneL) (defBody sGoneL) (defScope sGoneL) .none kVwGone dcwGone pmwGone anwGone cvwGone ctwGone), slwGone⟩) (xwGone : PySem.W.codeIn K cvwGone "_law_gone" = true) (kwGone : PySem.W.keepIn K (.ref fwGone) = true)
    (awRight : PySem.W.nsIn K mainGlobals "_law_right" = some (some (.ref fwRight))) (lwRight : K.lookup fwRight = some ⟨ocwRight, odwRight, .func (PySem.W.fnOf "_law_right" "_law_right" (defArgs sRightL) (defBody sRightL) (defScope sRightL) .none kVwRight dcwRight pmwRight anwRight cvwRight ctwRight), slwRight⟩) (xwRight : PySem.W.codeIn K cvwRight "_law_right" = true) (kwRight : PySem.W.keepIn K (.ref fwRight) = true)
    (awCounts : PySem.W.nsIn K mainGlobals "_law_counts" = some (some (.ref fwCounts))) (lwCounts : K.lookup fwCounts = some ⟨ocwCounts, odwCounts, .func (PySem.W.fnOf "_law_counts" "_law_counts" (defArgs sCountsL) (defBody sCountsL) (defScope sCountsL) .none kVwCounts dcwCounts pmwCounts anwCounts cvwCounts ctwCounts), slwCounts⟩) (xwCounts : PySem.W.codeIn K cvwCounts "_law_counts" = true) (kwCounts : PySem.W.keepIn K (.ref fwCounts) = true)
    (aL : PySem.W.nsIn K mainGlobals "law" = some (some (.ref fL))) (lL : K.lookup fL = some ⟨ocL, odL, .func (PySem.W.fnOf "law" "law" (defArgs sLaw) (defBody sLaw) (defScope sLaw) .none kVL dcL pmL anL cvL ctL), slL⟩) (xL : PySem.W.codeIn K cvL "law" = true) (kL : PySem.W.keepIn K (.ref fL) = true)
    (y_isinstance : PySem.W.nsIn K mainGlobals "isinstance" = some none)
    (y_int : PySem.W.nsIn K mainGlobals "int" = some none)
    (y_bool : PySem.W.nsIn K mainGlobals "bool" = some none)
    (y_list : PySem.W.nsIn K mainGlobals "list" = some none)
    (y_len : PySem.W.nsIn K mainGlobals "len" = some none)
    (y_all : PySem.W.nsIn K mainGlobals "all" = some none)
    (y_any : PySem.W.nsIn K mainGlobals "any" = some none)
    (y_sum : PySem.W.nsIn K mainGlobals "sum" = some none)
    (y_zip : PySem.W.nsIn K mainGlobals "zip" = some none)
    (y_sorted : PySem.W.nsIn K mainGlobals "sorted" = some none)
    (y_tuple : PySem.W.nsIn K mainGlobals "tuple" = some none)
    (y_range : PySem.W.nsIn K mainGlobals "range" = some none)
    (y_enumerate : PySem.W.nsIn K mainGlobals "enumerate" = some none)
    (y_abs : PySem.W.nsIn K mainGlobals "abs" = some none)
    (y_max : PySem.W.nsIn K mainGlobals "max" = some none)
    (y_min : PySem.W.nsIn K mainGlobals "min" = some none)
    (y_str : PySem.W.nsIn K mainGlobals "str" = some none)
    (zComb : PySem.W.nsIn K mainGlobals "combinations" = some (some (.type "itertools.combinations"))) (zMost : PySem.W.nsIn K mainGlobals "MOST_PERSONS" = some (some (.int 20 mtok))) (zGcd : PySem.W.nsIn K mainGlobals "gcd" = some (some (.builtin "math.gcd"))) :
    ∃ fd : FuncData, (∀ (s : Shared) (v : Value), BindsTo s fd ⟨[v], []⟩ [("script", v)]) ∧ ∀ base : Heap, K.In base → base.Ns mainGlobals mg → FnOk l.prog w K mg base CX0 12 fa fd ["script"] (spLaw K) := by
  have e := hfa.symm.trans (PySem.W.mg_of X G aL)
  cases e
  have FNum := fun_mk (st := sNumber) lNum xNum kNum
  have bNum := FNum.binds (ps := ["thing"]) fun _ _ _ _ _ _ us hl => match us, hl with | [_], _ => rfl
  have FPer := fun_mk (st := sPerson) lPer xPer kPer
  have bPer := FPer.binds (ps := ["thing", "persons"]) fun _ _ _ _ _ _ us hl => match us, hl with | [_, _], _ => rfl
  have FAsc := fun_mk (st := sAsc) lAsc xAsc kAsc
  have bAsc := FAsc.binds (ps := ["items"]) fun _ _ _ _ _ _ us hl => match us, hl with | [_], _ => rfl
  have FPL := fun_mk (st := sPList) lPL xPL kPL
  have bPL := FPL.binds (ps := ["thing", "persons"]) fun _ _ _ _ _ _ us hl => match us, hl with | [_, _], _ => rfl
  have FGr := fun_mk (st := sGroup) lGr xGr kGr
  have bGr := FGr.binds (ps := ["thing", "persons"]) fun _ _ _ _ _ _ us hl => match us, hl with | [_, _], _ => rfl
  have FMask := fun_mk (st := sMask) lMask xMask kMask
  have bMask := FMask.binds (ps := ["group"]) fun _ _ _ _ _ _ us hl => match us, hl with | [_], _ => rfl
  have FCross := fun_mk (st := sCross) lCross xCross kCross
  have bCross := FCross.binds (ps := ["one", "other"]) fun _ _ _ _ _ _ us hl => match us, hl with | [_, _], _ => rfl
  have FAny := fun_mk (st := sAny) lAny xAny kAny
  have bAny := FAny.binds (ps := ["groups"]) fun _ _ _ _ _ _ us hl => match us, hl with | [_], _ => rfl
  have FIs := fun_mk (st := sParting) lIs xIs kIs
  have bIs := FIs.binds (ps := ["thing"]) fun _ _ _ _ _ _ us hl => match us, hl with | [_], _ => rfl
  have FPs := fun_mk (st := sPersons) lPs xPs kPs
  have bPs := FPs.binds (ps := ["parting"]) fun _ _ _ _ _ _ us hl => match us, hl with | [_], _ => rfl
  have FCut := fun_mk (st := sCut) lCut xCut kCut
  have bCut := FCut.binds (ps := ["parting", "some"]) fun _ _ _ _ _ _ us hl => match us, hl with | [_, _], _ => rfl
  have FComing := fun_mk (st := sComing) lComing xComing kComing
  have bComing := FComing.binds (ps := ["thing"]) fun _ _ _ _ _ _ us hl => match us, hl with | [_], _ => rfl
  have FBoth := fun_mk (st := sBoth) lBoth xBoth kBoth
  have bBoth := FBoth.binds (ps := ["parting", "group"]) fun _ _ _ _ _ _ us hl => match us, hl with | [_, _], _ => rfl
  have FItem := fun_mk (st := sItem) lItem xItem kItem
  have bItem := FItem.binds (ps := ["parting", "person"]) fun _ _ _ _ _ _ us hl => match us, hl with | [_, _], _ => rfl
  have FComOf := fun_mk (st := sComOf) lComOf xComOf kComOf
  have bComOf := FComOf.binds (ps := ["parting"]) fun _ _ _ _ _ _ us hl => match us, hl with | [_], _ => rfl
  have FGrown := fun_mk (st := sGrown) lGrown xGrown kGrown
  have bGrown := FGrown.binds (ps := ["group", "place", "person"]) fun _ _ _ _ _ _ us hl => match us, hl with | [_, _, _], _ => rfl
  have FPlace := fun_mk (st := sPlace) lPlace xPlace kPlace
  have bPlace := FPlace.binds (ps := ["made", "item"]) fun _ _ _ _ _ _ us hl => match us, hl with | [_, _], _ => rfl
  have FCome := fun_mk (st := sCome) lCome xCome kCome
  have bCome := FCome.binds (ps := ["made", "item", "person"]) fun _ _ _ _ _ _ us hl => match us, hl with | [_, _, _], _ => rfl
  have FPB := fun_mk (st := sPB) lPB xPB kPB
  have bPB := FPB.binds (ps := ["coming"]) fun _ _ _ _ _ _ us hl => match us, hl with | [_], _ => rfl
  have FNP := fun_mk (st := sNeedP) lNP xNP kNP
  have bNP := FNP.binds (ps := ["person", "persons"]) fun _ _ _ _ _ _ us hl => match us, hl with | [_, _], _ => rfl
  have FNPs := fun_mk (st := sNeedPs) lNPs xNPs kNPs
  have bNPs := FNPs.binds (ps := ["persons"]) fun _ _ _ _ _ _ us hl => match us, hl with | [_], _ => rfl
  have FNN := fun_mk (st := sNeedN) lNN xNN kNN
  have bNN := FNN.binds (ps := ["node", "persons"]) fun _ _ _ _ _ _ us hl => match us, hl with | [_, _], _ => rfl
  have FFrac := fun_mk (st := sFrac) lFrac xFrac kFrac
  have bFrac := FFrac.binds (ps := ["top", "bottom"]) fun _ _ _ _ _ _ us hl => match us, hl with | [_, _], _ => rfl
  have FWith := fun_mk (st := sWith) lWith xWith kWith
  have bWith := FWith.binds (ps := ["parting", "person"]) fun _ _ _ _ _ _ us hl => match us, hl with | [_, _], _ => rfl
  have FCW := fun_mk (st := sCW) lCW xCW kCW
  have bCW := FCW.binds (ps := ["coming", "person"]) fun _ _ _ _ _ _ us hl => match us, hl with | [_, _], _ => rfl
  have FEnt := fun_mk (st := sEnt) lEnt xEnt kEnt
  have bEnt := FEnt.binds (ps := ["parting", "node"]) fun _ _ _ _ _ _ us hl => match us, hl with | [_, _], _ => rfl
  have FTrc := fun_mk (st := sTrc) lTrc xTrc kTrc
  have bTrc := FTrc.binds (ps := ["parting"]) fun _ _ _ _ _ _ us hl => match us, hl with | [_], _ => rfl
  have FIsT := fun_mk (st := sIsT) lIsT xIsT kIsT
  have bIsT := FIsT.binds (ps := ["parting", "person"]) fun _ _ _ _ _ _ us hl => match us, hl with | [_, _], _ => rfl
  have FTSh := fun_mk (st := sTSh) lTSh xTSh kTSh
  have bTSh := FTSh.binds (ps := ["persons", "person"]) fun _ _ _ _ _ _ us hl => match us, hl with | [_, _], _ => rfl
  have FTCo := fun_mk (st := sTCo) lTCo xTCo kTCo
  have bTCo := FTCo.binds (ps := ["persons"]) fun _ _ _ _ _ _ us hl => match us, hl with | [_], _ => rfl
  have FwBag := fun_mk (st := sBag) lwBag xwBag kwBag
  have bwBag := FwBag.binds (ps := ["script"]) fun _ _ _ _ _ _ us hl => match us, hl with | [_], _ => rfl
  have FwStir := fun_mk (st := sStir) lwStir xwStir kwStir
  have bwStir := FwStir.binds (ps := ["bag", "wide"]) fun _ _ _ _ _ _ us hl => match us, hl with | [_, _], _ => rfl
  have FwDraw := fun_mk (st := sDraw) lwDraw xwDraw kwDraw
  have bwDraw := FwDraw.binds (ps := ["bag", "wide"]) fun _ _ _ _ _ _ us hl => match us, hl with | [_, _], _ => rfl
  have FwAlike := fun_mk (st := sAlike) lwAlike xwAlike kwAlike
  have bwAlike := FwAlike.binds (ps := ["found", "due"]) fun _ _ _ _ _ _ us hl => match us, hl with | [_, _], _ => rfl
  have FwRow := fun_mk (st := sRowL) lwRow xwRow kwRow
  have bwRow := FwRow.binds (ps := ["bag", "wide"]) fun _ _ _ _ _ _ us hl => match us, hl with | [_, _], _ => rfl
  have FwBy := fun_mk (st := sByL) lwBy xwBy kwBy
  have bwBy := FwBy.binds (ps := ["row"]) fun _ _ _ _ _ _ us hl => match us, hl with | [_], _ => rfl
  have FwCutL := fun_mk (st := sCutL) lwCutL xwCutL kwCutL
  have bwCutL := FwCutL.binds (ps := ["lot", "kept"]) fun _ _ _ _ _ _ us hl => match us, hl with | [_, _], _ => rfl
  have FwMaker := fun_mk (st := sMakerL) lwMaker xwMaker kwMaker
  have bwMaker := FwMaker.binds (ps := ["lot", "one"]) fun _ _ _ _ _ _ us hl => match us, hl with | [_, _], _ => rfl
  have FwComing := fun_mk (st := sComingL) lwComing xwComing kwComing
  have bwComing := FwComing.binds (ps := ["lot"]) fun _ _ _ _ _ _ us hl => match us, hl with | [_], _ => rfl
  have FwLow := fun_mk (st := sLowL) lwLow xwLow kwLow
  have bwLow := FwLow.binds (ps := ["top", "bottom"]) fun _ _ _ _ _ _ us hl => match us, hl with | [_, _], _ => rfl
  have FwGone := fun_mk (st := sGoneL) lwGone xwGone kwGone
  have bwGone := FwGone.binds (ps := ["row"]) fun _ _ _ _ _ _ us hl => match us, hl with | [_], _ => rfl
  have FwRight := fun_mk (st := sRightL) lwRight xwRight kwRight
  have bwRight := FwRight.binds (ps := ["bag", "wide", "low"]) fun _ _ _ _ _ _ us hl => match us, hl with | [_, _, _], _ => rfl
  have FwCounts := fun_mk (st := sCountsL) lwCounts xwCounts kwCounts
  have bwCounts := FwCounts.binds (ps := ["wide"]) fun _ _ _ _ _ _ us hl => match us, hl with | [_], _ => rfl
  have FL := fun_mk (st := sLaw) lL xL kL
  have bL := FL.binds (ps := ["script"]) fun _ _ _ _ _ _ us hl => match us, hl with | [_], _ => rfl
  have T : TxtP mg := ⟨PySem.W.mg_none_of X G y_isinstance, PySem.W.mg_none_of X G y_int, PySem.W.mg_none_of X G y_bool, PySem.W.mg_none_of X G y_list, PySem.W.mg_none_of X G y_len, PySem.W.mg_none_of X G y_all, PySem.W.mg_none_of X G y_any, PySem.W.mg_none_of X G y_sum, PySem.W.mg_none_of X G y_zip, PySem.W.mg_none_of X G y_sorted, PySem.W.mg_none_of X G y_tuple, PySem.W.mg_none_of X G y_range, PySem.W.mg_none_of X G y_enumerate⟩
  have T0 : Txt0 mg := ⟨PySem.W.mg_none_of X G y_int, PySem.W.mg_none_of X G y_range, PySem.W.mg_none_of X G y_len, PySem.W.mg_none_of X G y_abs, PySem.W.mg_none_of X G y_max, PySem.W.mg_none_of X G y_min⟩
  have TA : TxtA mg fwAlike := ⟨T0, PySem.W.mg_none_of X G y_isinstance, PySem.W.mg_none_of X G y_list, PySem.W.mg_none_of X G y_tuple, PySem.W.mg_none_of X G y_all, PySem.W.mg_none_of X G y_bool, PySem.W.mg_none_of X G y_str, PySem.W.mg_of X G awAlike⟩
  have Z : ProgF K mg := { fNum := fNum, dNum := _, FNum := FNum, gNum := PySem.W.mg_of X G aNum, bNum := bNum, fPer := fPer, dPer := _, FPer := FPer, gPer := PySem.W.mg_of X G aPer, bPer := bPer, fAsc := fAsc, dAsc := _, FAsc := FAsc, gAsc := PySem.W.mg_of X G aAsc, bAsc := bAsc, fPL := fPL, dPL := _, FPL := FPL, gPL := PySem.W.mg_of X G aPL, bPL := bPL, fGr := fGr, dGr := _, FGr := FGr, gGr := PySem.W.mg_of X G aGr, bGr := bGr, fMask := fMask, dMask := _, FMask := FMask, gMask := PySem.W.mg_of X G aMask, bMask := bMask, fCross := fCross, dCross := _, FCross := FCross, gCross := PySem.W.mg_of X G aCross, bCross := bCross, fAny := fAny, dAny := _, FAny := FAny, gAny := PySem.W.mg_of X G aAny, bAny := bAny, fIs := fIs, dIs := _, FIs := FIs, gIs := PySem.W.mg_of X G aIs, bIs := bIs, fPs := fPs, dPs := _, FPs := FPs, gPs := PySem.W.mg_of X G aPs, bPs := bPs, gComb := PySem.W.mg_of X G zComb, mostT := _, gMost := PySem.W.mg_of X G zMost }
  have Y : ComF K mg := { fCut := fCut, dCut := _, FCut := FCut, gCut := PySem.W.mg_of X G aCut, bCut := bCut, fComing := fComing, dComing := _, FComing := FComing, gComing := PySem.W.mg_of X G aComing, bComing := bComing, fBoth := fBoth, dBoth := _, FBoth := FBoth, gBoth := PySem.W.mg_of X G aBoth, bBoth := bBoth, fItem := fItem, dItem := _, FItem := FItem, gItem := PySem.W.mg_of X G aItem, bItem := bItem, fComOf := fComOf, dComOf := _, FComOf := FComOf, gComOf := PySem.W.mg_of X G aComOf, bComOf := bComOf, fGrown := fGrown, dGrown := _, FGrown := FGrown, gGrown := PySem.W.mg_of X G aGrown, bGrown := bGrown, fPlace := fPlace, dPlace := _, FPlace := FPlace, gPlace := PySem.W.mg_of X G aPlace, bPlace := bPlace, fCome := fCome, dCome := _, FCome := FCome, gCome := PySem.W.mg_of X G aCome, bCome := bCome, fPB := fPB, dPB := _, FPB := FPB, gPB := PySem.W.mg_of X G aPB, bPB := bPB }
  have U : LeaF K mg := { fNP := fNP, dNP := _, FNP := FNP, gNP := PySem.W.mg_of X G aNP, bNP := bNP, fNPs := fNPs, dNPs := _, FNPs := FNPs, gNPs := PySem.W.mg_of X G aNPs, bNPs := bNPs, fNN := fNN, dNN := _, FNN := FNN, gNN := PySem.W.mg_of X G aNN, bNN := bNN, fFrac := fFrac, dFrac := _, FFrac := FFrac, gFrac := PySem.W.mg_of X G aFrac, bFrac := bFrac, fWith := fWith, dWith := _, FWith := FWith, gWith := PySem.W.mg_of X G aWith, bWith := bWith, fCW := fCW, dCW := _, FCW := FCW, gCW := PySem.W.mg_of X G aCW, bCW := bCW, fEnt := fEnt, dEnt := _, FEnt := FEnt, gEnt := PySem.W.mg_of X G aEnt, bEnt := bEnt, fTrc := fTrc, dTrc := _, FTrc := FTrc, gTrc := PySem.W.mg_of X G aTrc, bTrc := bTrc, fIsT := fIsT, dIsT := _, FIsT := FIsT, gIsT := PySem.W.mg_of X G aIsT, bIsT := bIsT, fTSh := fTSh, dTSh := _, FTSh := FTSh, gTSh := PySem.W.mg_of X G aTSh, bTSh := bTSh, fTCo := fTCo, dTCo := _, FTCo := FTCo, gTCo := PySem.W.mg_of X G aTCo, bTCo := bTCo, gGcd := PySem.W.mg_of X G zGcd }
  refine ⟨PySem.W.fnOf "law" "law" (defArgs sLaw) (defBody sLaw) (defScope sLaw) .none kVL dcL pmL anL cvL ctL, fun s v => .of_eq rfl, fun base _ _ => ?_⟩
  exact ok_law FL Z Y U ({ fBag := fwBag, dBag := _, FBag := FwBag, gBag := PySem.W.mg_of X G awBag, bBag := bwBag, fStir := fwStir, dStir := _, FStir := FwStir, gStir := PySem.W.mg_of X G awStir, bStir := bwStir, fDraw := fwDraw, dDraw := _, FDraw := FwDraw, gDraw := PySem.W.mg_of X G awDraw, bDraw := bwDraw, fAlike := fwAlike, dAlike := _, FAlike := FwAlike, gAlike := PySem.W.mg_of X G awAlike, bAlike := bwAlike, fRow := fwRow, dRow := _, FRow := FwRow, gRow := PySem.W.mg_of X G awRow, bRow := bwRow, fBy := fwBy, dBy := _, FBy := FwBy, gBy := PySem.W.mg_of X G awBy, bBy := bwBy, fCutL := fwCutL, dCutL := _, FCutL := FwCutL, gCutL := PySem.W.mg_of X G awCutL, bCutL := bwCutL, fMaker := fwMaker, dMaker := _, FMaker := FwMaker, gMaker := PySem.W.mg_of X G awMaker, bMaker := bwMaker, fComing := fwComing, dComing := _, FComing := FwComing, gComing := PySem.W.mg_of X G awComing, bComing := bwComing, fLow := fwLow, dLow := _, FLow := FwLow, gLow := PySem.W.mg_of X G awLow, bLow := bwLow, fGone := fwGone, dGone := _, FGone := FwGone, gGone := PySem.W.mg_of X G awGone, bGone := bwGone, fRight := fwRight, dRight := _, FRight := FwRight, gRight := PySem.W.mg_of X G awRight, bRight := bwRight, fCounts := fwCounts, dCounts := _, FCounts := FwCounts, gCounts := PySem.W.mg_of X G awCounts, bCounts := bwCounts } : LawG K mg) T T0 TA
theorem walk {l : PySem.W.OpenLaw} {q : Program} {loose : List Str} {XP : (Str → Option Value) → Heap → Prop} {YP : World → Heap → Prop} {d : DefRec} {K : Params → PySem.W.Frag} (hn : l.most = some 63) (hdf : d.params.defaults = [])
    (hY : ∀ (w : World) (h : Heap), YP w h → (K w.params).In h)
    (F : ∀ (w : World) (mg : Str → Option Value) (fa : Addr) (h : Heap), (K w.params).In h → h.Ns mainGlobals mg → mg d.name = some (.ref fa) →
      ∃ fd : FuncData, (∀ (s : Shared) (u : Value), BindsTo s fd ⟨[u], []⟩ [("script", u)]) ∧ ∀ base : Heap, (K w.params).In base → base.Ns mainGlobals mg → FnOk l.prog w (K w.params) mg base CX0 12 fa fd ["script"] (spLaw (K w.params))) :
    PySem.W.WalkO q loose XP YP l.row.toRowW d [] (fun f vs => PySem.call f vs) :=
  L2.walk_of (n := 63) (k := 12) (x := "script") (CX := fun _ => CX0) (sp := fun w => spLaw (K w.params)) hn (by decide) hdf ⟨rfl, by decide, by decide⟩ hY F (fun _ _ a ns hl _ hS => ⟨a, ns, rfl, hS, hl, fun _ => rfl⟩) fun _ _ _ _ _ z => z
end K46


open PySem PySem.W PyProof.Rows in
set_option maxRecDepth 100000 in
set_option maxHeartbeats 0 in
theorem PySem.Challenge.cw_twopartings_k46_leaving_of_twenty_holds : PySem.Challenge.rw_twopartings_k46_leaving_of_twenty.Holds := by
  w_on; o_law; k_head; (case hw => w_witness2)
  k_fill
  refine K46.walk (l := PySem.Challenge.rw_twopartings_k46_leaving_of_twenty) rfl rfl (fun w h Y => PySem.W.kIn_of Y) ?F
  case F =>
    intro w mg fa h KX G hmg
    refine' K46.all_mk KX G hmg ?aNum ?lNum ?xNum ?kNum ?aPer ?lPer ?xPer ?kPer ?aAsc ?lAsc ?xAsc ?kAsc ?aPL ?lPL ?xPL ?kPL ?aGr ?lGr ?xGr ?kGr ?aMask ?lMask ?xMask ?kMask ?aCross ?lCross ?xCross ?kCross ?aAny ?lAny ?xAny ?kAny ?aIs ?lIs ?xIs ?kIs ?aPs ?lPs ?xPs ?kPs ?aCut ?lCut ?xCut ?kCut ?aComing ?lComing ?xComing ?kComing ?aBoth ?lBoth ?xBoth ?kBoth ?aItem ?lItem ?xItem ?kItem ?aComOf ?lComOf ?xComOf ?kComOf ?aGrown ?lGrown ?xGrown ?kGrown ?aPlace ?lPlace ?xPlace ?kPlace ?aCome ?lCome ?xCome ?kCome ?aPB ?lPB ?xPB ?kPB ?aNP ?lNP ?xNP ?kNP ?aNPs ?lNPs ?xNPs ?kNPs ?aNN ?lNN ?xNN ?kNN ?aFrac ?lFrac ?xFrac ?kFrac ?aWith ?lWith ?xWith ?kWith ?aCW ?lCW ?xCW ?kCW ?aEnt ?lEnt ?xEnt ?kEnt ?aTrc ?lTrc ?xTrc ?kTrc ?aIsT ?lIsT ?xIsT ?kIsT ?aTSh ?lTSh ?xTSh ?kTSh ?aTCo ?lTCo ?xTCo ?kTCo ?awBag ?lwBag ?xwBag ?kwBag ?awStir ?lwStir ?xwStir ?kwStir ?awDraw ?lwDraw ?xwDraw ?kwDraw ?awAlike ?lwAlike ?xwAlike ?kwAlike ?awRow ?lwRow ?xwRow ?kwRow ?awBy ?lwBy ?xwBy ?kwBy ?awCutL ?lwCutL ?xwCutL ?kwCutL ?awMaker ?lwMaker ?xwMaker ?kwMaker ?awComing ?lwComing ?xwComing ?kwComing ?awLow ?lwLow ?xwLow ?kwLow ?awGone ?lwGone ?xwGone ?kwGone ?awRight ?lwRight ?xwRight ?kwRight ?awCounts ?lwCounts ?xwCounts ?kwCounts ?aL ?lL ?xL ?kL ?y_isinstance ?y_int ?y_bool ?y_list ?y_len ?y_all ?y_any ?y_sum ?y_zip ?y_sorted ?y_tuple ?y_range ?y_enumerate ?y_abs ?y_max ?y_min ?y_str ?zComb ?zMost ?zGcd
    (case aNum => k_is)
    (case lNum => k_is)
    (case xNum => k_is)
    (case kNum => k_is)
    (case aPer => k_is)
    (case lPer => k_is)
    (case xPer => k_is)
    (case kPer => k_is)
    (case aAsc => k_is)
    (case lAsc => k_is)
    (case xAsc => k_is)
    (case kAsc => k_is)
    (case aPL => k_is)
    (case lPL => k_is)
    (case xPL => k_is)
    (case kPL => k_is)
    (case aGr => k_is)
    (case lGr => k_is)
    (case xGr => k_is)
    (case kGr => k_is)
    (case aMask => k_is)
    (case lMask => k_is)
    (case xMask => k_is)
    (case kMask => k_is)
    (case aCross => k_is)
    (case lCross => k_is)
    (case xCross => k_is)
    (case kCross => k_is)
    (case aAny => k_is)
    (case lAny => k_is)
    (case xAny => k_is)
    (case kAny => k_is)
    (case aIs => k_is)
    (case lIs => k_is)
    (case xIs => k_is)
    (case kIs => k_is)
    (case aPs => k_is)
    (case lPs => k_is)
    (case xPs => k_is)
    (case kPs => k_is)
    (case aCut => k_is)
    (case lCut => k_is)
    (case xCut => k_is)
    (case kCut => k_is)
    (case aComing => k_is)
    (case lComing => k_is)
    (case xComing => k_is)
    (case kComing => k_is)
    (case aBoth => k_is)
    (case lBoth => k_is)
    (case xBoth => k_is)
    (case kBoth => k_is)
    (case aItem => k_is)
    (case lItem => k_is)
    (case xItem => k_is)
    (case kItem => k_is)
    (case aComOf => k_is)
    (case lComOf => k_is)
    (case xComOf => k_is)
    (case kComOf => k_is)
    (case aGrown => k_is)
    (case lGrown => k_is)
    (case xGrown => k_is)
    (case kGrown => k_is)
    (case aPlace => k_is)
    (case lPlace => k_is)
    (case xPlace => k_is)
    (case kPlace => k_is)
    (case aCome => k_is)
    (case lCome => k_is)
    (case xCome => k_is)
    (case kCome => k_is)
    (case aPB => k_is)
    (case lPB => k_is)
    (case xPB => k_is)
    (case kPB => k_is)
    (case aNP => k_is)
    (case lNP => k_is)
    (case xNP => k_is)
    (case kNP => k_is)
    (case aNPs => k_is)
    (case lNPs => k_is)
    (case xNPs => k_is)
    (case kNPs => k_is)
    (case aNN => k_is)
    (case lNN => k_is)
    (case xNN => k_is)
    (case kNN => k_is)
    (case aFrac => k_is)
    (case lFrac => k_is)
    (case xFrac => k_is)
    (case kFrac => k_is)
    (case aWith => k_is)
    (case lWith => k_is)
    (case xWith => k_is)
    (case kWith => k_is)
    (case aCW => k_is)
    (case lCW => k_is)
    (case xCW => k_is)
    (case kCW => k_is)
    (case aEnt => k_is)
    (case lEnt => k_is)
    (case xEnt => k_is)
    (case kEnt => k_is)
    (case aTrc => k_is)
    (case lTrc => k_is)
    (case xTrc => k_is)
    (case kTrc => k_is)
    (case aIsT => k_is)
    (case lIsT => k_is)
    (case xIsT => k_is)
    (case kIsT => k_is)
    (case aTSh => k_is)
    (case lTSh => k_is)
    (case xTSh => k_is)
    (case kTSh => k_is)
    (case aTCo => k_is)
    (case lTCo => k_is)
    (case xTCo => k_is)
    (case kTCo => k_is)
    (case awBag => k_is)
    (case lwBag => k_is)
    (case xwBag => k_is)
    (case kwBag => k_is)
    (case awStir => k_is)
    (case lwStir => k_is)
    (case xwStir => k_is)
    (case kwStir => k_is)
    (case awDraw => k_is)
    (case lwDraw => k_is)
    (case xwDraw => k_is)
    (case kwDraw => k_is)
    (case awAlike => k_is)
    (case lwAlike => k_is)
    (case xwAlike => k_is)
    (case kwAlike => k_is)
    (case awRow => k_is)
    (case lwRow => k_is)
    (case xwRow => k_is)
    (case kwRow => k_is)
    (case awBy => k_is)
    (case lwBy => k_is)
    (case xwBy => k_is)
    (case kwBy => k_is)
    (case awCutL => k_is)
    (case lwCutL => k_is)
    (case xwCutL => k_is)
    (case kwCutL => k_is)
    (case awMaker => k_is)
    (case lwMaker => k_is)
    (case xwMaker => k_is)
    (case kwMaker => k_is)
    (case awComing => k_is)
    (case lwComing => k_is)
    (case xwComing => k_is)
    (case kwComing => k_is)
    (case awLow => k_is)
    (case lwLow => k_is)
    (case xwLow => k_is)
    (case kwLow => k_is)
    (case awGone => k_is)
    (case lwGone => k_is)
    (case xwGone => k_is)
    (case kwGone => k_is)
    (case awRight => k_is)
    (case lwRight => k_is)
    (case xwRight => k_is)
    (case kwRight => k_is)
    (case awCounts => k_is)
    (case lwCounts => k_is)
    (case xwCounts => k_is)
    (case kwCounts => k_is)
    (case aL => k_is)
    (case lL => k_is)
    (case xL => k_is)
    (case kL => k_is)
    (case y_isinstance => k_is)
    (case y_int => k_is)
    (case y_bool => k_is)
    (case y_list => k_is)
    (case y_len => k_is)
    (case y_all => k_is)
    (case y_any => k_is)
    (case y_sum => k_is)
    (case y_zip => k_is)
    (case y_sorted => k_is)
    (case y_tuple => k_is)
    (case y_range => k_is)
    (case y_enumerate => k_is)
    (case y_abs => k_is)
    (case y_max => k_is)
    (case y_min => k_is)
    (case y_str => k_is)
    (case zComb => k_is)
    (case zMost => k_is)
    (case zGcd => k_is)
