import PyProof.Rows.All
import Wide.All
import OpenK.AllK
import Wide.FinOn
import PySem.Challenge.RW_twopartings_k33_changes_by_all_marks
import HandS.ForMost
import HandS.Wide
import HandS.WideBits
import PyProof.ReprRoads
import HandS.EndBits
import PyProof.ZipIter
import PyProof.CallType
import PyProof.Walk
import PyProof.WalkLemmas
import PyProof.RangeIter
import PyProof.RulesTry
import PyProof.TupleOfSeq
import KE.SortData
import KE.DataCmp
import HandS.DictComp
import HandS.Conv
import PyProof.ReprLen
import KE.KMinBuiltin
import PyProof.Rows.BitMore
import HandS.Sort
import KE.KDictSum
import HandS.Iter
import HandS.DictTup
import KE.KSortKey
import HandS.ExcOwn
import KE.DataMinMax
import HandS.IsInst
import HandS.Deep
import HandS.Zip
set_option Elab.async false
set_option linter.all false
set_option maxRecDepth 100000
set_option maxHeartbeats 40000000
namespace RepA
open PySem PySem.Spec PyProof.Rows L2

/-! ### data without a dict -/
mutual
theorem dp_nodict {K : PySem.W.Frag} {H : Hp} : ∀ (d : PyData) (v : V), Dp K H v d → d.hasDict = false
  | .none, _, _ => by simp only [PyData.hasDict]
  | .bool _, _, _ => by simp only [PyData.hasDict]
  | .int _, _, _ => by simp only [PyData.hasDict]
  | .str _, _, _ => by simp only [PyData.hasDict]
  | .list ds, _, h => by
    cases h with
    | lst hs ha =>
      simp only [PyData.hasDict]
      exact dpAll_nodict ds _ ha
  | .tuple ds, _, h => by
    cases h with
    | tup hs ha =>
      simp only [PyData.hasDict]
      exact dpAll_nodict ds _ ha
  | .dict _, _, h => by cases h
theorem dpAll_nodict {K : PySem.W.Frag} {H : Hp} : ∀ (ds : List PyData) (vs : List V), DpAll K H vs ds → PyData.hasDictAll ds = false
  | [], _, _ => by simp only [PyData.hasDictAll]
  | d :: ds, _, h => by
    cases h with
    | cons h1 h2 => simp only [PyData.hasDictAll, dp_nodict d _ h1, dpAll_nodict ds _ h2, Bool.or_self]
end

/-! ### an item: data, or an empty dict -/
def Dd (K : PySem.W.Frag) (H : Hp) (v : V) (d : PyData) : Prop := Dp K H v d ∨ ∃ a, v = .ref a ∧ H a = some (.dK []) ∧ d = .dict []
inductive DdAll (K : PySem.W.Frag) (H : Hp) : List V → List PyData → Prop
  | nil : DdAll K H [] []
  | cons {v : V} {vs : List V} {d : PyData} {ds : List PyData} : Dd K H v d → DdAll K H vs ds → DdAll K H (v :: vs) (d :: ds)
theorem DdAll.of_dp {K : PySem.W.Frag} {H : Hp} : ∀ {vs : List V} {ds : List PyData}, DpAll K H vs ds → DdAll K H vs ds
  | _, _, .nil => .nil
  | _, _, .cons h r => .cons (.inl h) (.of_dp r)

section
variable {X : Cx} {pins : List (Addr × Obj)} {σ : L2.St} {H : Hp} {s : Shared}
theorem dd_reads (I : Inv X pins σ H s) {v : V} {u : Value} {d : PyData} (h : Dd X.K H v d) (r : RelV v u) : ∃ as, Reads s.heap u d as ∧ (d.hasDict = true → sysModules ∉ as) := by
  rcases h with h | ⟨a, rfl, ha, rfl⟩
  · obtain ⟨as, q⟩ := Dp.reads I d v u h r
    exact ⟨as, q, fun e => by rw [dp_nodict d v h] at e; cases e⟩
  · obtain rfl : u = Value.ref a := r
    obtain ⟨_, hn, vs, rel, dd⟩ := dk_of I.hok ha
    obtain ⟨o, es, ep, e1, e2, e3, e4⟩ := dd
    cases rel
    have hes : es.toList = [] := by
      have q := e4.2.1
      generalize es.toList = l at q
      cases q
      rfl
    refine ⟨[a], ?_, fun _ hm => ?_⟩
    · refine Reads.dict (as := []) (bs := []) e1 e2.1 e3 ?_ ?_
      · rw [hes]
        exact ReadsAll.nil
      · rw [hes]
        exact ReadsAll.nil
    · rcases List.mem_cons.mp hm with q | q
      · rw [q] at hn
        rw [beq_self_eq_true] at hn
        cases hn
      · cases q

/-- all items, each by itself -/
theorem dd_all (I : Inv X pins σ H s) : ∀ {vs : List V} {ds : List PyData} {us : List Value}, DdAll X.K H vs ds → Vals vs us → PyData.showableAll ds = true → (∀ t ∈ PyData.shownAll ds, t.length ≤ sizeLine) →
    (∃ as, ReadsAll s.heap us ds as) ∧ ∃ bs, ReadAtMost s.heap (PyData.depthAll ds) bs ∧ ReprAllK X.prog X.w bs s.heap (PyData.depthAll ds) us (PyData.shownAll ds)
  | _, _, _, .nil, .nil, _, _ => ⟨⟨_, .nil⟩, [], (fun _ h => nomatch h), by simp only [PyData.shownAll]; exact .nil⟩
  | _, _, _, .cons (d := d) (ds := ds) h hr, .cons r rr, hs, hz => by
    obtain ⟨s1, s2⟩ : d.showable = true ∧ PyData.showableAll ds = true := by simpa [PyData.showableAll] using hs
    obtain ⟨a1, q1, n1⟩ := dd_reads I h r
    obtain ⟨b1, m1, k1⟩ := ReprK.of_reads (prog := X.prog) (w := X.w) q1 s1 n1 (hz _ (by simp only [PyData.shownAll]; exact List.mem_cons_self ..))
    obtain ⟨⟨a2, q2⟩, b2, m2, k2⟩ := dd_all I hr rr s2 fun t ht => hz t (by simp only [PyData.shownAll]; exact List.mem_cons_of_mem _ ht)
    have l1 : d.depth ≤ PyData.depthAll (d :: ds) := by simp only [PyData.depthAll]; omega
    have l2 : PyData.depthAll ds ≤ PyData.depthAll (d :: ds) := by simp only [PyData.depthAll]; omega
    refine ⟨⟨_, .cons q1 q2⟩, b1 ++ b2, fun b hb => ?_, ?_⟩
    · rcases List.mem_append.mp hb with hb | hb
      · obtain ⟨d', as', r', z⟩ := m1 b hb
        exact ⟨d', as', r', Nat.le_trans z l1⟩
      · obtain ⟨d', as', r', z⟩ := m2 b hb
        exact ⟨d', as', r', Nat.le_trans z l2⟩
    · simp only [PyData.shownAll]
      exact .cons ((k1.more fun b hb => List.mem_append.mpr (.inl hb)).level_le l1) (k2.more_le (fun b hb => List.mem_append.mpr (.inr hb)) l2)

/-- repr of a list of data and empty dicts, where no guard stands -/
theorem call_reprL (hg : X.A.guards = some []) (hu : X.A.units + 64 < cLine) : CallR X (.builtin "repr") (fun xs H Q => ∃ a ys ds, xs = [V.ref a] ∧ SqL X.K H a ys ∧ DdAll X.K H ys ds ∧ PyData.showableAll ds = true ∧ PyData.depthAll ds ≤ 40 ∧
    (listText (PyData.shownAll ds)).length ≤ sizeLine ∧ Q (.str (PyData.list ds).shown) H) := by
  intro pins s σ H xs us Q I r h
  obtain ⟨a, ys, ds, rfl, hs, hd, hw, hdp, hz, q⟩ := h
  obtain ⟨u, rfl, ru⟩ := vals1 r
  obtain rfl : u = Value.ref a := ru
  obtain ⟨its, rv, ⟨o, n, ho, hc, hne, hda⟩, hsz⟩ := I.list hs
  obtain ⟨⟨as, hR⟩, bs, hb, hk⟩ := dd_all I hd rv hw fun t ht => Nat.le_trans (listText_mem_le ht) hz
  have rd : Reads s.heap (.ref a) (.list ds) (a :: as) := .list ho hc hda hR
  have hna : a ∉ bs := not_mem_of_deeper rd (by simp only [PyData.depth]; omega) hb
  have fin : ∀ (t tk : Nat) (h' : Heap), (∀ b o, s.heap.get? b = some o → h'.get? b = some o) → EP X pins σ Q (.str (listText (PyData.shownAll ds)) t) { s with heap := h', toks := tk } := fun t tk h' k =>
    ⟨.str _, H, I.kept k, ⟨t, rfl⟩, by simpa only [PyData.shown] using q⟩
  refine call_repr_slot (by omega) ⟨o, ho, hc⟩ F.slot_list_repr.toG ?_
  obtain ⟨l⟩ : ∃ l, l = its := ⟨_, rfl⟩
  cases its with
  | nil =>
    cases hR
    exact call_list_repr_empty ⟨o, ho, hc⟩ ho hda ⟨_, _, rfl, by simpa only [PyData.shownAll, listText_nil] using fin s.toks (s.toks + 1) s.heap fun _ _ e => e⟩
  | cons x l =>
    refine call_list_reprK (h₀ := s.heap) ho hc hda hna (by simpa using hk.length_eq) (fun i y e => hk.item i y (by simpa using e)) hg (fun b _ => Clear.nil b) (by show X.A.units + 1 + (PyData.depthAll ds + 1) < cLine; omega) (fun _ _ e => e) (fun h' t tk k => ⟨_, _, rfl, fin t tk h' k⟩) hz
end
end RepA

namespace RepA
open PySem PySem.Spec PyProof.Rows L2

/-! ### the promise of a def that is called where no guard stands -/
structure FnG (Pg : Program) (wd : World) (Kf : PySem.W.Frag) (gl : Str → Option Value) (bs : Heap) (cx : CXT) (lv : Nat) (fa : Addr) (dat : FuncData) (names : List Str) (prom : Sp) : Prop where
  cnt : ∀ xs G Qv Ex, prom xs G Qv Ex → xs.length = names.length
  go : ∀ (Ar : Around) (fr : List Env) (sh : Shared) (G : Hp) (ar : Args) (us : List Value) (xs : List V) (Qv : VK) (Ex : XK), Room lv Ar → Ar.guards = some [] →
    Env0 Pg wd Kf gl bs Ar fr sh G → BindsTo sh dat ar (names.zip us) → Vals xs us → prom xs G Qv Ex →
    codeAny (model Pg wd) Ar (.call (.ref fa) ar) (CR cx fr Pg wd G sh Qv Ex) sh

theorem FnG.of {Pg : Program} {wd : World} {Kf : PySem.W.Frag} {gl : Str → Option Value} {bs : Heap} {cx : CXT} {lv : Nat} {fa : Addr} {dat : FuncData} {names : List Str} {prom : Sp}
    (f : FnOk Pg wd Kf gl bs cx lv fa dat names prom) : FnG Pg wd Kf gl bs cx lv fa dat names prom :=
  ⟨f.len, fun Ar fr sh G ar us xs Qv Ex r _ e b v p => f.run Ar fr sh G ar us xs Qv Ex r e b v p⟩

/-- a def of the text by its body, where no guard stands -/
theorem okG {Pg : Program} {wd : World} {Kf : PySem.W.Frag} {gl : Str → Option Value} {bs : Heap} {nm qn : Str} {st : Stmt} {fa : Addr} {dat : FuncData} {slots names : List Str} {lv : Nat} {prom : Sp}
    (F : Fun Kf nm qn st fa dat) (S : FnScope slots names (defScope st)) (cnt : ∀ xs G Qv Ex, prom xs G Qv Ex → xs.length = names.length)
    (body : ∀ (cd : Value) (Ar : Around) (fr : List Env) (sh : Shared) (G : Hp) (xs : List V) (Qv : VK) (Ex : XK), Room lv (Ar.deeper (envOfC qn (defScope st) sh.heap.objs.size fa cd)) → Ar.guards = some [] → prom xs G Qv Ex →
      ∃ t, PSs (cxOf CX0 Pg wd Kf gl bs slots qn (defScope st) fa cd Ar fr sh G Ex).nox (defBody st) t ∧ t { nx := fun _ G' => Qv .non G', rt := Qv } (start slots xs) G) :
    FnG Pg wd Kf gl bs CX0 (lv + 1) fa dat names prom := by
  obtain ⟨oc, od, kV, doc, pm, an, cd, ct, osl, rfl, look, code⟩ := F.ex
  refine ⟨cnt, fun Ar fr sh G ar us xs Qv Ex room noG env bind vals hp => ?_⟩
  have sz := cnt _ _ _ _ hp
  have inK : Kf.In sh.heap := env.mod.kin.keeps fun b o q => (env.bs b o q).1
  have noL : sh.heap.NoLimit := env.mod.nolimit.keeps fun b o q => (env.bs b o q).1
  have kinds : ∀ y ∈ names.zip us, (defScope st).names.lookup y.1 = some .local ∨ ((defScope st).names.lookup y.1 = some .cell ∧ ((cellsFrom (sh.heap.objs.size + 1) (defScope st).names []).lookup y.1).isSome = true) := by
    rintro ⟨n, v⟩ hy
    rcases S.par n (List.of_mem_zip hy).1 with z | z
    · exact .inl z
    · exact .inr ⟨z, PySem.W.cellsFrom_some _ _ _ (.inl z)⟩
  refine codeAny_call_function room.depth (inK _ _ look) rfl S.co S.gen rfl (PySem.W.codeRec_of inK code) (bind _ _ _ _ ?_)
  refine wpAny_newFunctionEnv_cells S.kind kinds fun en hen sh1 inC => ?_
  subst hen
  refine ⟨noL.keeps inC.toInCall.keep, codeAny_func ?_⟩
  obtain ⟨t, walk, read⟩ := body cd Ar fr sh G xs Qv Ex (room.deeper _) noG hp
  have I0 := inv_start (CX := CX0) (P := Pg) (w := wd) (K := Kf) (mg := gl) (base := bs) (E := Ex) S room.hd env sz vals inC
  refine wpAny_mono (walk.nox.run [] sh1 _ G _ I0 read) (fun fl sh2 out => ?_) fun _ _ x => x
  cases fl with
  | ret u =>
    obtain ⟨v, σ2, G2, J, rel, q⟩ := out
    exact ⟨v, G2, J.os, J.bare, J.base, J.hok, rel, q⟩
  | next =>
    obtain ⟨σ2, G2, J, q⟩ := out
    exact ⟨V.non, G2, J.os, J.bare, J.base, J.hok, (rfl : RelV V.non Value.none), q⟩
  | brk => exact out.elim fun _ z => z.elim fun _ z => z.2.elim
  | cont => exact out.elim fun _ z => z.elim fun _ z => z.2.elim

section
variable {X : Cx} {x : Str} {p pos : Pos} {e : Expr} {es : List Expr} {t : TA} {CX : CXT} {k : Nat} {f : Addr} {fd : FuncData} {ps : List Str} {sp : Sp} {ds : List Value} {dvs : List V} {E : XK}
/-- f(e, ..), f such a def -/
theorem pe_callG (F : FnG X.prog X.w X.K X.mg X.base CX k f fd ps sp) (room : Room k X.A) (noG : X.A.guards = some []) (hg : Gl X x) (hm : X.mg x = some (.ref f)) (kp : PySem.W.keepIn X.K (.ref f) = true) (bd : Binds X.K fd ps ds) (dv : Vals dvs ds) (ps' : Passes CX X E)
    (args : PA X (e :: es) t) (hdb : (x == ("__debug__" : Str)) = false := by decide) (h1 : starEach (e :: es) X.env = (false, eval e X.env) :: starEach es X.env := by rfl) (h2 : (backTo pos (starEach es X.env)).any (·.1) = false := by rfl) :
    PE X (.Call (.Name x p) (e :: es) [] pos) (tCall sp dvs E t) := by
  refine ⟨fun pins s σ H Q I rd => ?_⟩
  refine wpAny_Call_Name_kw (ld_glob I hg hm ?_ hdb)
  refine PySem.W.callWith_K (h₀ := X.base) I.ok.mod.kin kp (thn (args.run pos pins s σ H _ I rd) fun us s1 ⟨vs, H1, I1, rv, q⟩ => ⟨I1.kIn, ?_⟩) h1 h2
  have rv2 : Vals (vs ++ dvs) (us ++ ds) := rv.append dv
  have sz : (us ++ ds).length = ps.length := rv2.length.symm.trans (F.cnt _ _ _ _ q)
  refine wpAny_call (codeAny_mono (F.go X.A X.stack s1 H1 ⟨us, []⟩ _ _ Q E room noG I1.env0 (bd s1 us I1.kIn sz) rv2 q) fun r s2 out => ?_)
  match r, out with
  | .error er, out => exact ps' pins σ H1 s1 er s2 I1 out
  | .ok (.ret u), out => exact I1.after out
  | .ok .next, out => exact out.elim
  | .ok .brk, out => exact out.elim
  | .ok .cont, out => exact out.elim
end
end RepA

namespace RepA
open PySem PySem.Spec PyProof.Rows L2

/-- the law's call from the caller, over an abstract heap that holds at most the script -/
theorem from_caller {Pg : Program} {wd : World} {Kf : PySem.W.Frag} {gl mb : Str → Option Value} {cx : CXT} {lv : Nat} {fa a : Addr} {dat : FuncData} {x : Str} {prom : Sp} {sh : Shared} {ob : Obj} {n0 : Nat} {vals : Array Value}
    (inK : Kf.In sh.heap) (nG : sh.heap.Ns mainGlobals gl) (nB : sh.heap.Ns builtinsNs mb) (isB : ∀ y : Str, y ≠ "__name__" → mb y = bootBuiltins y) (noL : sh.heap.NoLimit) (noGen : sh.gens = #[]) (at_a : sh.heap.get? a = some ob) (list_a : ob.data = .seq vals n0)
    (room : Room lv callerA) (F : ∀ bs : Heap, Kf.In bs → bs.Ns mainGlobals gl → FnG Pg wd Kf gl bs cx lv fa dat [x] prom) (bd : ∀ (s : Shared) (u : Value), BindsTo s dat ⟨[u], []⟩ [(x, u)])
    (noX : ∀ G e s', cx [] G sh (fun _ _ _ => False) e s' → False) (G : Hp) (only : Only G) (keeps : HOk Pg wd G sh.heap) (justA : ∀ b, G b ≠ none → b = a) (notK : G a ≠ none → Kf.lookup a = none)
    (hp : prom [.ref a] G (fun v _ => v = .bl true) fun _ _ _ => False) :
    codeAny (model Pg wd) callerA (.call (.ref fa) ⟨[.ref a], []⟩) (fun r s' => r = .ok (.ret (.bool true)) ∧ OldK sh.heap s'.heap ∧ s'.os = sh.os ∧ AllBare s'.gens) sh := by
  have free : ∀ {b : Addr}, b ≠ a → G b = none := fun {b} ne => Classical.byContradiction fun z => ne (justA b z)
  have hides : ∀ {b : Addr} {o : Obj}, sh.heap.get? b = some o → G b = none → (hidT sh.heap G).get? b = some o := fun q z => hidT_get q z
  have ns : ∀ {b : Addr} {m : Str → Option Value}, sh.heap.Ns b m → (hidT sh.heap G).Ns b m := fun {b m} h => by
    obtain ⟨o, es, ep, q, dd, rest⟩ := h
    refine ⟨o, es, ep, hides q (free fun z => ?_), dd, rest⟩
    rw [z, at_a] at q
    cases q
    rw [list_a] at dd
    cases dd
  have inK' : Kf.In (hidT sh.heap G) := fun b o q => hides (inK b o q) (by
    rcases Option.eq_none_or_eq_some (G b) with z | ⟨u, z⟩
    · exact z
    · have ne : G b ≠ none := by rw [z]; exact fun c => nomatch c
      have ba := justA b ne
      rw [ba] at q ne
      rw [notK ne] at q
      cases q)
  have md : Mod Kf gl (hidT sh.heap G) := ⟨inK', ns nG, ⟨mb, ns nB, isB⟩, let ⟨mc, z1, z2⟩ := noL; ⟨mc, ns z1, z2⟩⟩
  have env : Env0 Pg wd Kf gl (hidT sh.heap G) callerA [] sh G := ⟨rfl, md, fun _ _ q => of_hidT q, Nat.le_of_eq (hidT_size _ _), trivial, (fun b hb => nomatch hb), keeps, .of_eq noGen⟩
  refine codeAny_mono ((F _ inK' (ns nG)).go callerA [] sh G ⟨[.ref a], []⟩ [.ref a] [.ref a] _ _ room rfl env (bd sh (.ref a)) (.cons rfl .nil) hp) fun r s' out => ?_
  match r, out with
  | .error er, out => exact (noX G er s' out).elim
  | .ok .next, out => exact out.elim
  | .ok .brk, out => exact out.elim
  | .ok .cont, out => exact out.elim
  | .ok (.ret u), out =>
    obtain ⟨v, G', hos, hbare, un, keeps', rel, ev⟩ := out
    have ev' : v = .bl true := ev
    subst ev'
    obtain rfl : u = Value.bool true := rel
    refine ⟨rfl, OldK.of_keep fun b o q => ?_, hos, hbare⟩
    rcases only b with z | ⟨o2, ys, z⟩
    · exact un.keep b o q z (fun c => nomatch c) (fun c => nomatch c)
    · obtain ⟨w1, _⟩ := keeps b _ z
      obtain ⟨w2, _⟩ := keeps' b _ (un.frzs b o2 _ z)
      rw [q] at w1
      cases w1
      exact w2

theorem law_callG {Pg : Program} {wd : World} {Kf : PySem.W.Frag} {gl mb : Str → Option Value} {cx : CXT} {lv : Nat} {fa a : Addr} {dat : FuncData} {x : Str} {prom : Sp} {sh : Shared} {vals : List Value} {ns : List Int}
    (inK : Kf.In sh.heap) (nG : sh.heap.Ns mainGlobals gl) (nB : sh.heap.Ns builtinsNs mb) (isB : ∀ y : Str, y ≠ "__name__" → mb y = bootBuiltins y) (noL : sh.heap.NoLimit) (noGen : sh.gens = #[])
    (at_a : sh.heap.get? a = some { cls := .type "list", data := .seq vals.toArray }) (inz : IntsAre vals ns) (short : ns.length ≤ sizeLine) (room : Room lv callerA)
    (F : ∀ bs : Heap, Kf.In bs → bs.Ns mainGlobals gl → FnG Pg wd Kf gl bs cx lv fa dat [x] prom) (bd : ∀ (s : Shared) (u : Value), BindsTo s dat ⟨[u], []⟩ [(x, u)])
    (hp : ∀ G : Hp, Only G → SqL Kf G a (ns.map V.int) → prom [.ref a] G (fun v _ => v = .bl true) fun _ _ _ => False) (noX : ∀ G e s', cx [] G sh (fun _ _ _ => False) e s' → False) :
    codeAny (model Pg wd) callerA (.call (.ref fa) ⟨[.ref a], []⟩) (fun r s' => r = .ok (.ret (.bool true)) ∧ OldK sh.heap s'.heap ∧ s'.os = sh.os ∧ AllBare s'.gens) sh := by
  have rv := vals_ints inz
  rcases Option.eq_none_or_eq_some (Kf.lookup a) with nk | ⟨o, isK⟩
  · let G : Hp := fun b => if b = a then some (.frz { cls := .type "list", data := .seq vals.toArray } (.lst (ns.map V.int))) else none
    have ga : G a = some (.frz { cls := .type "list", data := .seq vals.toArray } (.lst (ns.map V.int))) := if_pos rfl
    have gb : ∀ {b : Addr}, b ≠ a → G b = none := fun ne => if_neg ne
    have justA : ∀ b, G b ≠ none → b = a := fun b z => Classical.byContradiction fun ne => z (gb ne)
    have only : Only G := fun b => by
      by_cases ne : b = a
      · subst ne
        exact .inr ⟨_, _, ga⟩
      · exact .inl (gb ne)
    refine from_caller inK nG nB isB noL noGen at_a rfl room F bd noX G only (fun b u z => ?_) justA (fun _ => nk) (hp G only (.inl (.inr ⟨_, ga⟩)))
    have ba := justA b (by rw [z]; exact fun c => nomatch c)
    subst ba
    rw [ga] at z
    cases z
    exact ⟨at_a, by rw [List.length_map]; exact short, vals, _, rv, at_a⟩
  · have e := inK a o isK
    rw [at_a] at e
    cases e
    exact from_caller inK nG nB isB noL noGen at_a rfl room F bd noX (fun _ => none) (fun _ => .inl rfl) (fun b u z => nomatch z) (fun b z => absurd rfl z) (fun z => absurd rfl z)
      (hp _ (fun _ => .inl rfl) (.inr ⟨_, vals.toArray, _, isK, rfl, rfl, rfl, by rw [List.size_toArray, inz.length]; exact short, by simpa using rv⟩))

/-- the end of a law row, for a law that asks where no guard stands; the script's bits told -/
theorem walk_ofG {l : PySem.W.OpenLaw} {n lv : Nat} {q : Program} {loose : List Str} {XP : (Str → Option Value) → Heap → Prop} {YP : World → Heap → Prop} {d : DefRec} {K : Params → PySem.W.Frag} {cx : World → CXT} {prom : World → Sp} {x : Str}
    (most : l.most = some n) (short : n ≤ sizeLine) (noD : d.params.defaults = []) (room : Room lv callerA) (hY : ∀ (w : World) (h : Heap), YP w h → (K w.params).In h)
    (F : ∀ (w : World) (gl : Str → Option Value) (fa : Addr) (h : Heap), (K w.params).In h → h.Ns mainGlobals gl → gl d.name = some (.ref fa) →
      ∃ dat : FuncData, (∀ (s : Shared) (u : Value), BindsTo s dat ⟨[u], []⟩ [(x, u)]) ∧ ∀ bs : Heap, (K w.params).In bs → bs.Ns mainGlobals gl → FnG l.prog w (K w.params) gl bs (cx w) lv fa dat [x] (prom w))
    (hp : ∀ (w : World) (G : Hp) (a : Addr) (ns : List Int), ns.length ≤ n → (∀ z ∈ ns, Builtin.Int.intBits z ≤ 1048576) → Only G → SqL (K w.params) G a (ns.map V.int) → prom w [.ref a] G (fun v _ => v = .bl true) fun _ _ _ => False)
    (noX : ∀ (w : World) (G : Hp) (s : Shared) (e : Value) (s' : Shared), cx w [] G s (fun _ _ _ => False) e s' → False) :
    PySem.W.WalkO q loose XP YP l.row.toRowW d [] (fun f vs => PySem.call f vs) := by
  refine Att.attach_callB most noD fun w _ sh gl mb fa _ _ _ _ a vals ns gr y _ _ _ named at_a inz few bits noGen => ?_
  obtain ⟨dat, bd, FG⟩ := F w gl fa _ (hY w _ y) gr.T.g named
  exact law_callG (hY w _ y) gr.T.g gr.T.b gr.T.builtins gr.T.nolimit noGen at_a inz (Nat.le_trans few short) room FG bd (fun G o s => hp w G a ns few bits o s) fun G e s' => noX w G sh e s'
end RepA

/-! itertools.combinations(list, 2), made and drawn. -/
namespace Comb
open PySem PySem.Spec
open Sem (wp)
abbrev cName : String := "itertools.combinations"
theorem cMro : mroOf (.type "itertools.combinations") = pure [.type "itertools.combinations", .type "object"] := by rw [mroOf_type]; kernel_rfl
theorem cNew : typeLookup (.type "itertools.combinations") "__new__" = pure (some (.builtin "itertools.combinations.__new__")) := by rw [typeLookup_type, builtinLookup_eq_fast]; kernel_rfl
theorem cInit : Slot "itertools.combinations" "__init__" "object.__init__" :=
  .of (owner := "object") (n := "__init__") (by rw [typeLookup_type, builtinLookup_eq_fast]; kernel_rfl) (by decide +kernel) (by decide +kernel) (by decide +kernel) (by first | exact .inl (by decide +kernel) | exact .inr (by decide +kernel)) (by rw [isSubtype_type]; kernel_rfl)
theorem cSub : isSubtype (.type "itertools.combinations") (.type "itertools.combinations") = pure true := by rw [isSubtype_type]; kernel_rfl
theorem cCalled : TypeCalled "itertools.combinations" "itertools.combinations.__new__" "object.__init__" :=
  ⟨by decide +kernel, by decide +kernel, ⟨_, _, cMro⟩, madeBy_type cMro cNew (by decide +kernel), by decide +kernel, cSub, cInit⟩
theorem cType2 (a b : Value) : checkTypeCall "itertools.combinations" ⟨[a, b], []⟩ = pure () := by kernel_rfl
theorem cNew2 (a b : Value) : checkBuiltinCall "itertools.combinations.__new__" ⟨[.type "itertools.combinations", a, b], []⟩ = pure () := by kernel_rfl
theorem cEntryNew : entryFor table "itertools.combinations.__new__" = some Builtin.«itertools.combinations.__new__» := entryFor_of_tree (by kernel_rfl)
theorem cEntryNext : entryFor table "itertools.combinations.__next__" = some Builtin.«itertools.combinations.__next__» := entryFor_of_tree (by kernel_rfl)
theorem cEntryIter : entryFor table "itertools.combinations.__iter__" = some Builtin.«dict_keyiterator.__iter__» :=
  entryFor_alias (id' := "dict_keyiterator.__iter__") (by kernel_rfl) (by first | rfl | decide +kernel | (unfold String.splitOn; simp +decide [String.splitOnAux])) (by decide +kernel) (by kernel_rfl)
theorem cIter : Slot "itertools.combinations" "__iter__" "itertools.combinations.__iter__" :=
  .of (owner := "itertools.combinations") (n := "__iter__") (by rw [typeLookup_type, builtinLookup_eq_fast]; kernel_rfl) (by decide +kernel) (by decide +kernel) (by decide +kernel) (by first | exact .inl (by decide +kernel) | exact .inr (by decide +kernel)) cSub
theorem cNext : Slot "itertools.combinations" "__next__" "itertools.combinations.__next__" :=
  .of (owner := "itertools.combinations") (n := "__next__") (by rw [typeLookup_type, builtinLookup_eq_fast]; kernel_rfl) (by decide +kernel) (by decide +kernel) (by decide +kernel) (by first | exact .inl (by decide +kernel) | exact .inr (by decide +kernel)) cSub
theorem cOwner : Manifest.owners.lookup (String.ofList "snoitanibmoc.slootreti".toList.reverse) = some Manifest.sig_itertools_combinations := by kernel_rfl
theorem cArgsIter (a : Value) : argsOk "itertools.combinations.__iter__" ⟨[a], []⟩ := by
  unfold argsOk
  rw [signature?_of (id := "itertools.combinations.__iter__") (n := ['_', '_', 'r', 'e', 't', 'i', '_', '_']) (o := "snoitanibmoc.slootreti".toList) (by kernel_rfl) cOwner]
  kernel_rfl
theorem cArgsNext (a : Value) : argsOk "itertools.combinations.__next__" ⟨[a], []⟩ := by
  unfold argsOk
  rw [signature?_of (id := "itertools.combinations.__next__") (n := ['_', '_', 't', 'x', 'e', 'n', '_', '_']) (o := "snoitanibmoc.slootreti".toList) (by kernel_rfl) cOwner]
  kernel_rfl
theorem cNoDict : typeHasDict (.type "itertools.combinations") = false := by decide +kernel

/-- such an object: its pool, its state, what it handed out last, its places -/
def recC (pool : Addr) (st : Int) (last : Value) (i j : Int) : Obj := { cls := .type "itertools.combinations", dict := none, data := .fields #[.ref pool, rawInt st, last, rawInt i, rawInt j], slots := #[] }
abbrev IsC (h : Heap) (it pool : Addr) (st : Int) (last : Value) (i j : Int) : Prop := h.get? it = some (recC pool st last i j)
def tupO (xs : Array Value) : Obj := { cls := .type "tuple", data := .seq xs }

end Comb

namespace Comb
open PySem PySem.Spec
open Sem (wp)
theorem joinName : "itertools." ++ "combinations" = "itertools.combinations" := by decide
theorem new_meets (l : Addr) (o : Obj) (items : Array Value) (n : Nat) (t : Tok) (hc : o.cls = .type "list") (hd : o.data = .seq items n) (hsz : items.size ≤ sizeLine) :
    Meets (Builtin.«itertools.combinations.__new__» ⟨[.type "itertools.combinations", .ref l, .int 2 t], []⟩)
      (fun _ R s => s.heap.get? l = some o ∧ ∀ h' : Heap, (∀ b u, s.heap.get? b = some u → h'.get? b = some u) → R (.ok (.ret (.ref (h'.objs.size + 1)))) { s with heap := (h'.push (tupO items)).push (recC h'.objs.size (if 2 > items.size then 2 else 0) .none 0 1) }) :=
  .of_wp fun prog w A R s h => by
    obtain ⟨hp, g, dd, tk, os⟩ := s
    obtain ⟨at_l, h⟩ := h
    have hsub := cSub
    have hdic := cNoDict
    have hT : Shared.TypeIs ⟨hp, g, dd, tk, os⟩ (.ref l) "list" := ⟨o, at_l, hc⟩
    unfold Builtin.«itertools.combinations.__new__»
    repeat (first
      | (with_reducible refine wpAny_collect_seq (hsz := hsz) l (.inl rfl) at_l hc hd fun h' keep => ?_)
      | wp_step
      | (rw [joinName]))
    refine ⟨_, rfl, ?_⟩
    have e1 : items.toList.toArray = items := by simp
    have e2 : (h'.push (tupO items)).objs.size = h'.objs.size + 1 := Heap.size_push ..
    have e3 : items.toList.length = items.size := by simp
    rw [e1, e3]
    have q := h h' keep
    rw [← e2] at q
    exact q

end Comb

namespace Comb
open PySem PySem.Spec
open Sem (wp)
section
variable {prog : Program} {w : World} {A : Around} {E : Value → Shared → Prop} {s : Shared}
/-- combinations(l, 2): the heap grows by what is kept, then by the pool and the record -/
theorem call_comb {l : Addr} {o : Obj} {items : Array Value} {n : Nat} {t : Tok} {Q : Value → Shared → Prop} (at_l : s.heap.get? l = some o) (hc : o.cls = .type "list") (hd : o.data = .seq items n) (hsz : items.size ≤ sizeLine)
    (h : ∀ h1 : Heap, (∀ b u, s.heap.get? b = some u → h1.get? b = some u) → Q (.ref (h1.objs.size + 1)) { s with heap := (h1.push (tupO items)).push (recC h1.objs.size (if 2 > items.size then 2 else 0) .none 0 1) }) :
    wpAny (model prog w) A (call (.type "itertools.combinations") [.ref l, .int 2 t]) Q E s := by
  refine callType_new cCalled (by decide +kernel) (cType2 _ _) (cNew2 _ _) (fun obj => F.args_object_init_3 obj _ _) cEntryNew (new_meets l o items n t hc hd hsz) ?_
  refine ⟨at_l, fun h1 keep => ⟨⟨recC h1.objs.size (if 2 > items.size then 2 else 0) .none 0 1, ?_, rfl⟩, h h1 keep⟩⟩
  have sz : (h1.push (tupO items)).objs.size = h1.objs.size + 1 := Heap.size_push ..
  show Heap.get? _ (h1.objs.size + 1) = some (recC h1.objs.size (if 2 > items.size then 2 else 0) .none 0 1)
  rw [← sz]
  exact Heap.get?_push_size _ rfl
theorem iter_comb {it pool : Addr} {st i j : Int} {last : Value} {Q : Value → Shared → Prop} (hit : IsC s.heap it pool st last i j) (h : Q (.ref it) s) : wpAny (model prog w) A (pyIter (.ref it)) Q E s := by
  have hT : s.TypeIs (.ref it) "itertools.combinations" := ⟨_, hit, rfl⟩
  refine wpAny_pyIter_slot hT cIter (wpAny_call_entry cIter hT cEntryIter ?_ (cArgsIter _))
  show wpAny _ _ (ret (.ref it)) _ _ s
  exact wpAny_pure ⟨_, rfl, "itertools.combinations", _, hT, cNext.lookup, h⟩

theorem apart {h : Heap} {it pool : Addr} {st i j : Int} {last : Value} {items : Array Value} (hit : IsC h it pool st last i j) (hp : h.get? pool = some (tupO items)) : it ≠ pool := fun e => by
  rw [e] at hit
  have z : Value.type "tuple" = Value.type "itertools.combinations" := congrArg Obj.cls (Option.some.inj (hp.symm.trans hit))
  exact absurd (Value.type.inj z) (by decide)
/-- what is handed out is laid, then held by the record -/
theorem handed {h U : Heap} {it pool : Addr} {last : Value} {i j : Int} {xs : Array Value} (hU : IsC U it pool 1 last i j) (keep : ∀ b, b ≠ it → U.get? b = h.get? b) (sz : U.objs.size = h.objs.size) :
    (∀ b, b ≠ it → ∀ u, h.get? b = some u → ((U.push (tupO xs)).update it (Obj.mapFields fun x => x.setIfInBounds 2 (.ref U.objs.size))).get? b = some u) ∧
    ((U.push (tupO xs)).update it (Obj.mapFields fun x => x.setIfInBounds 2 (.ref U.objs.size))).get? h.objs.size = some (tupO xs) ∧
    IsC ((U.push (tupO xs)).update it (Obj.mapFields fun x => x.setIfInBounds 2 (.ref U.objs.size))) it pool 1 (.ref h.objs.size) i j := by
  have lt : it < U.objs.size := Heap.lt_size hU
  refine ⟨fun b ne u q => ?_, ?_, ?_⟩
  · exact (Heap.get?_update_other _ _ ne.symm).trans (Heap.get?_push_of_some _ ((keep b ne).trans q))
  · rw [← sz]
    exact (Heap.get?_update_other _ _ (Nat.ne_of_lt lt)).trans (Heap.get?_push_size _ rfl)
  · rw [← sz]
    exact Heap.get?_update_self _ (Heap.get?_push_of_some _ hU) rfl
theorem next_first {it pool : Addr} {last : Value} {items : Array Value} {n : Nat} {Q : Option Value → Shared → Prop} (hit : IsC s.heap it pool 0 last 0 1) (hp : s.heap.get? pool = some (tupO items)) (h2 : 2 ≤ items.size)
    (hQ : ∀ h', (∀ b, b ≠ it → ∀ u, s.heap.get? b = some u → h'.get? b = some u) → h'.get? s.heap.objs.size = some (tupO #[items.getD 0 .none, items.getD 1 .none]) → IsC h' it pool 1 (.ref s.heap.objs.size) 0 1 → Q (some (.ref s.heap.objs.size)) { s with heap := h' }) :
    wpAny (model prog w) A (pyNext (.ref it)) Q E s := by
  have hT : s.TypeIs (.ref it) "itertools.combinations" := ⟨_, hit, rfl⟩
  unfold pyNext
  refine wpAny_bind (wpAny_attempt (wpAny_callSpecial?_slot (name := Str.ofString "__next__") hT cNext (wpAny_call_entry cNext hT cEntryNext ?_ (cArgsNext _))))
  unfold Builtin.«itertools.combinations.__next__»
  have nip := apart hit hp
  have hp1 : (s.heap.update it (Obj.mapFields fun x => x.setIfInBounds 1 (rawInt 1))).get? pool = some (tupO items) := (Heap.get?_update_other _ _ nip).trans hp
  have hit1 : IsC (s.heap.update it (Obj.mapFields fun x => x.setIfInBounds 1 (rawInt 1))) it pool 1 last 0 1 := Heap.get?_update_self _ hit rfl
  repeat wp_step
  obtain ⟨q1, q2, q3⟩ := handed (xs := #[items.getD 0 .none, items.getD 1 .none]) hit1 (h := s.heap) (fun b ne => Heap.get?_update_other _ _ ne.symm) (Heap.size_update ..)
  refine ⟨_, rfl, wpAny_pure ?_⟩
  have z := hQ _ q1 q2 q3
  rw [show (s.heap.update it (Obj.mapFields fun x => x.setIfInBounds 1 (rawInt 1))).objs.size = s.heap.objs.size from Heap.size_update ..] at z ⊢
  exact z
end
end Comb

namespace Comb
open PySem PySem.Spec
open Sem (wp)
section
variable {prog : Program} {w : World} {A : Around} {E : Value → Shared → Prop} {s : Shared}
theorem next_more {it pool : Addr} {last : Value} {items : Array Value} {i j i' j' : Nat} {Q : Option Value → Shared → Prop} (hit : IsC s.heap it pool 1 last i j) (hp : s.heap.get? pool = some (tupO items))
    (hn : (match (List.range 2).reverse.find? fun k => [i, j].getD k 0 != k + items.size - 2 with | none => none | some k => some ([i, j].take k ++ (List.range (2 - k)).map ([i, j].getD k 0 + 1 + ·))) = some [i', j'])
    (hQ : ∀ h', (∀ b, b ≠ it → ∀ u, s.heap.get? b = some u → h'.get? b = some u) → h'.get? s.heap.objs.size = some (tupO #[items.getD i' .none, items.getD j' .none]) → IsC h' it pool 1 (.ref s.heap.objs.size) i' j' → Q (some (.ref s.heap.objs.size)) { s with heap := h' }) :
    wpAny (model prog w) A (pyNext (.ref it)) Q E s := by
  have hT : s.TypeIs (.ref it) "itertools.combinations" := ⟨_, hit, rfl⟩
  unfold pyNext
  refine wpAny_bind (wpAny_attempt (wpAny_callSpecial?_slot (name := Str.ofString "__next__") hT cNext (wpAny_call_entry cNext hT cEntryNext ?_ (cArgsNext _))))
  unfold Builtin.«itertools.combinations.__next__»
  repeat wp_step
  split
  · rename_i next hnx
    obtain rfl : next = [i', j'] := Option.some.inj (hnx.symm.trans hn)
    have nip := apart hit hp
    have hp1 : (s.heap.update it (Obj.mapFields fun x => x.extract 0 3 ++ (List.map (fun (n : Nat) => rawInt n) [i', j']).toArray)).get? pool = some (tupO items) := (Heap.get?_update_other _ _ nip).trans hp
    have hit1 : IsC (s.heap.update it (Obj.mapFields fun x => x.extract 0 3 ++ (List.map (fun (n : Nat) => rawInt n) [i', j']).toArray)) it pool 1 last i' j' := Heap.get?_update_self _ hit rfl
    repeat wp_step
    obtain ⟨q1, q2, q3⟩ := handed (xs := #[items.getD i' .none, items.getD j' .none]) hit1 (h := s.heap) (fun b ne => Heap.get?_update_other _ _ ne.symm) (Heap.size_update ..)
    refine ⟨_, rfl, wpAny_pure ?_⟩
    have z := hQ _ q1 q2 q3
    rw [show (s.heap.update it (Obj.mapFields fun x => x.extract 0 3 ++ (List.map (fun (n : Nat) => rawInt n) [i', j']).toArray)).objs.size = s.heap.objs.size from Heap.size_update ..] at z ⊢
    exact z
  · rename_i hnx
    cases hnx.symm.trans hn
theorem next_end {it pool : Addr} {last : Value} {items : Array Value} {i j : Nat} {Q : Option Value → Shared → Prop} (hh : A.handled = none) (hit : IsC s.heap it pool 1 last i j) (hp : s.heap.get? pool = some (tupO items))
    (hn : (match (List.range 2).reverse.find? fun k => [i, j].getD k 0 != k + items.size - 2 with | none => none | some k => some ([i, j].take k ++ (List.range (2 - k)).map ([i, j].getD k 0 + 1 + ·))) = none)
    (hQ : ∀ h', Heap.ExtBut it s.heap h' → Q none { s with heap := h' }) : wpAny (model prog w) A (pyNext (.ref it)) Q E s := by
  have hT : s.TypeIs (.ref it) "itertools.combinations" := ⟨_, hit, rfl⟩
  unfold pyNext
  refine wpAny_bind (wpAny_attempt (wpAny_callSpecial?_slot (name := Str.ofString "__next__") hT cNext (wpAny_call_entry cNext hT cEntryNext ?_ (cArgsNext _))))
  unfold Builtin.«itertools.combinations.__next__»
  repeat wp_step
  split
  · rename_i next hnx
    cases hn.symm.trans hnx
  · repeat wp_step
    simp only [raiseNew]; refine wpAny_bind (wpAny_handled ?_); rw [show A.in1.handled = none from hh]
    refine wpAny_bind (wpAny_pure (wpAny_throw ?_)); refine wpAny_bind (wpAny_isInstance (T := "StopIteration") (b := true) ⟨_, Heap.get?_push_size _ rfl, rfl⟩ isSubtype_stop ?_)
    exact wpAny_pure (hQ _ (fun b u ne q => Heap.get?_push_of_some _ (Heap.get?_push_of_some _ ((Heap.get?_update_other _ _ (Ne.symm ne)).trans q))))
theorem next_none {it pool : Addr} {last : Value} {items : Array Value} {i j : Nat} {Q : Option Value → Shared → Prop} (hh : A.handled = none) (hit : IsC s.heap it pool 2 last i j) (hp : s.heap.get? pool = some (tupO items))
    (hQ : ∀ h', Heap.ExtBut it s.heap h' → Q none { s with heap := h' }) : wpAny (model prog w) A (pyNext (.ref it)) Q E s := by
  have hT : s.TypeIs (.ref it) "itertools.combinations" := ⟨_, hit, rfl⟩
  unfold pyNext
  refine wpAny_bind (wpAny_attempt (wpAny_callSpecial?_slot (name := Str.ofString "__next__") hT cNext (wpAny_call_entry cNext hT cEntryNext ?_ (cArgsNext _))))
  unfold Builtin.«itertools.combinations.__next__»
  repeat wp_step
  simp only [raiseNew]; refine wpAny_bind (wpAny_handled ?_); rw [show A.in1.handled = none from hh]
  refine wpAny_bind (wpAny_pure (wpAny_throw ?_)); refine wpAny_bind (wpAny_isInstance (T := "StopIteration") (b := true) ⟨_, Heap.get?_push_size _ rfl, rfl⟩ isSubtype_stop ?_)
  exact wpAny_pure (hQ _ (((Heap.ExtBut.refl it s.heap).push _).push _))
end
end Comb

namespace Comb
open PySem PySem.Spec PyProof.Rows L2
/-! ### the pairs of places, in their sequence -/
def rows : Nat → Nat → List (Nat × Nat)
  | 0, _ => []
  | k + 1, i => (List.range (k + 1)).map (fun d => (i, i + 1 + d)) ++ rows k (i + 1)
def prs (n : Nat) : List (Nat × Nat) := rows (n - 1) 0
def nx (n i j : Nat) : Option (Nat × Nat) := if j + 1 < n then some (i, j + 1) else if i + 2 < n then some (i + 1, i + 2) else none
theorem rows_zero (k i : Nat) : (rows (k + 1) i)[0]? = some (i, i + 1) := by
  unfold rows
  rw [List.getElem?_append_left (by rw [List.length_map, List.length_range]; omega), List.getElem?_map, List.getElem?_range (Nat.succ_pos k)]
  rfl
theorem rows_step : ∀ (k i t a b : Nat), (rows k i)[t]? = some (a, b) → a < b ∧ b < i + 1 + k ∧ (rows k i)[t + 1]? = nx (i + 1 + k) a b
  | 0, _, _, _, _, h => by
    unfold rows at h
    rw [List.getElem?_nil] at h
    cases h
  | k + 1, i, t, a, b, h => by
    unfold rows at h ⊢
    have len : ((List.range (k + 1)).map (fun d => (i, i + 1 + d))).length = k + 1 := by rw [List.length_map, List.length_range]
    rcases Nat.lt_or_ge t (k + 1) with lt | ge
    · rw [List.getElem?_append_left (by omega), List.getElem?_map, List.getElem?_range lt] at h
      have h' : (i, i + 1 + t) = (a, b) := Option.some.inj h
      obtain ⟨rfl, rfl⟩ := Prod.mk.inj h'
      refine ⟨by omega, by omega, ?_⟩
      rcases Nat.lt_or_ge (t + 1) (k + 1) with l2 | g2
      · rw [List.getElem?_append_left (by omega), List.getElem?_map, List.getElem?_range l2]
        unfold nx
        rw [if_pos (by omega)]
        rfl
      · have et : t = k := by omega
        subst et
        rw [List.getElem?_append_right (by omega), len, Nat.sub_self]
        unfold nx
        rw [if_neg (by omega)]
        cases t with
        | zero =>
          rw [if_neg (by omega)]
          rfl
        | succ m =>
          rw [if_pos (by omega)]
          exact rows_zero m (i + 1)
    · rw [List.getElem?_append_right (by omega), len] at h
      obtain ⟨h1, h2, h3⟩ := rows_step k (i + 1) (t - (k + 1)) a b h
      refine ⟨h1, by omega, ?_⟩
      rw [List.getElem?_append_right (by omega), len, show t + 1 - (k + 1) = t - (k + 1) + 1 by omega, h3]
      congr 1
      omega
theorem prs_step {n t a b : Nat} (h : (prs n)[t]? = some (a, b)) : a < b ∧ b < n ∧ (prs n)[t + 1]? = nx n a b := by
  obtain ⟨h1, h2, h3⟩ := rows_step (n - 1) 0 t a b h
  have hn : 0 + 1 + (n - 1) = n := by omega
  rw [hn] at h2 h3
  exact ⟨h1, h2, h3⟩
theorem rows_mem : ∀ (k i a b : Nat), (a, b) ∈ rows k i ↔ i ≤ a ∧ a < b ∧ b < i + 1 + k
  | 0, i, a, b => by
    unfold rows
    constructor
    · intro h
      cases h
    · rintro ⟨h1, h2, h3⟩
      omega
  | k + 1, i, a, b => by
    unfold rows
    rw [List.mem_append, rows_mem k (i + 1) a b, List.mem_map]
    constructor
    · rintro (⟨d, hd, e⟩ | h)
      · have := List.mem_range.mp hd
        obtain ⟨rfl, rfl⟩ := Prod.mk.inj e
        omega
      · omega
    · rintro ⟨h1, h2, h3⟩
      rcases Nat.eq_or_lt_of_le h1 with e | l
      · exact .inl ⟨b - (i + 1), List.mem_range.mpr (by omega), by rw [← e]; congr 1; omega⟩
      · exact .inr ⟨l, h2, by omega⟩
theorem prs_mem {n a b : Nat} : (a, b) ∈ prs n ↔ a < b ∧ b < n := by
  unfold prs
  rw [rows_mem]
  omega
theorem rows_len : ∀ k i, (rows k i).length ≤ k * k
  | 0, i => Nat.zero_le _
  | k + 1, i => by
    unfold rows
    rw [List.length_append, List.length_map, List.length_range]
    have := rows_len k (i + 1)
    have e : (k + 1) * (k + 1) = k * k + k + (k + 1) := by rw [Nat.succ_mul, Nat.mul_succ]
    omega
theorem prs_none {n : Nat} (h : n < 2) : prs n = [] := by
  unfold prs
  rw [show n - 1 = 0 by omega]
  rfl
theorem prs_zero {n : Nat} (h : 2 ≤ n) : (prs n)[0]? = some (0, 1) := by
  unfold prs
  obtain ⟨m, rfl⟩ : ∃ m, n = m + 2 := ⟨n - 2, by omega⟩
  exact rows_zero m 0
/-- the model's own step is this one -/
theorem nx_some {n i j a b : Nat} (hi : i < j) (hj : j < n) (h : nx n i j = some (a, b)) :
    (match (List.range 2).reverse.find? fun k => [i, j].getD k 0 != k + n - 2 with | none => none | some k => some ([i, j].take k ++ (List.range (2 - k)).map ([i, j].getD k 0 + 1 + ·))) = some [a, b] := by
  have e : (List.range 2).reverse = [1, 0] := rfl
  rw [e]
  unfold nx at h
  by_cases h1 : j + 1 < n
  · rw [if_pos h1] at h
    cases h
    have z : ([i, j].getD 1 0 != 1 + n - 2) = true := by
      show (j != 1 + n - 2) = true
      rw [bne_iff_ne]
      omega
    rw [List.find?_cons_of_pos (p := fun k => [i, j].getD k 0 != k + n - 2) (a := 1) z]
    rfl
  · rw [if_neg h1] at h
    have z : ¬ ([i, j].getD 1 0 != 1 + n - 2) = true := by
      show ¬ (j != 1 + n - 2) = true
      rw [bne_iff_ne]
      omega
    by_cases h2 : i + 2 < n
    · rw [if_pos h2] at h
      cases h
      have z2 : ([i, j].getD 0 0 != 0 + n - 2) = true := by
        show (i != 0 + n - 2) = true
        rw [bne_iff_ne]
        omega
      rw [List.find?_cons_of_neg (p := fun k => [i, j].getD k 0 != k + n - 2) (a := 1) z, List.find?_cons_of_pos (p := fun k => [i, j].getD k 0 != k + n - 2) (a := 0) z2]
      rfl
    · rw [if_neg h2] at h
      cases h
theorem nx_none {n i j : Nat} (hi : i < j) (hj : j < n) (h : nx n i j = none) :
    (match (List.range 2).reverse.find? fun k => [i, j].getD k 0 != k + n - 2 with | none => none | some k => some ([i, j].take k ++ (List.range (2 - k)).map ([i, j].getD k 0 + 1 + ·))) = none := by
  have e : (List.range 2).reverse = [1, 0] := rfl
  rw [e]
  unfold nx at h
  by_cases h1 : j + 1 < n
  · rw [if_pos h1] at h
    cases h
  · rw [if_neg h1] at h
    by_cases h2 : i + 2 < n
    · rw [if_pos h2] at h
      cases h
    · have z : ¬ ([i, j].getD 1 0 != 1 + n - 2) = true := by
        show ¬ (j != 1 + n - 2) = true
        rw [bne_iff_ne]
        omega
      have z2 : ¬ ([i, j].getD 0 0 != 0 + n - 2) = true := by
        show ¬ (i != 0 + n - 2) = true
        rw [bne_iff_ne]
        omega
      rw [List.find?_cons_of_neg (p := fun k => [i, j].getD k 0 != k + n - 2) (a := 1) z, List.find?_cons_of_neg (p := fun k => [i, j].getD k 0 != k + n - 2) (a := 0) z2]
      rfl
end Comb

namespace Comb
open PySem PySem.Spec PyProof.Rows L2
/-- the pairs of these values, as new tuples -/
def Itcb (xs : List V) : It :=
  ⟨fun t _ => t < (prs xs.length).length,
    fun t H v H' => ∃ T i j x y, v = .ref T ∧ H T = none ∧ H' = upd H T (.tup [x, y]) ∧ (prs xs.length)[t]? = some (i, j) ∧ xs[i]? = some x ∧ xs[j]? = some y,
    fun t _ => (prs xs.length).length ≤ t⟩
def Stt (it pool : Addr) (items : Array Value) (t : Nat) (h : Heap) : Prop :=
  h.get? pool = some (tupO items) ∧ ((t = 0 ∧ IsC h it pool (if 2 > items.size then 2 else 0) .none 0 1) ∨ ∃ (u i j : Nat) (last : Value), t = u + 1 ∧ (prs items.size)[u]? = some (i, j) ∧ IsC h it pool 1 last i j)
theorem turn_comb {P : Program} {w : World} {K : PySem.W.Frag} {tg : Expr} {xs : List V} {its : List Value} (rv : Vals xs its) (it pool : Addr) (lt : pool < it) : Turn P w K tg (Itcb xs) [it, pool] it (Stt it pool its.toArray) where
  mem := by simp
  obj := fun t h st b hb => by
    obtain ⟨hp, st⟩ := st
    have e : b = it ∨ b = pool := by simpa using hb
    rcases e with e | e
    · rw [e]
      rcases st with ⟨_, c⟩ | ⟨_, _, _, _, _, _, c⟩ <;> exact ⟨_, c, fun v q => nomatch q⟩
    · rw [e]
      exact ⟨_, hp, fun v q => nomatch q⟩
  keep := fun t h h' st k => by
    obtain ⟨hp, st⟩ := st
    refine ⟨k pool (by simp) _ hp, ?_⟩
    rcases st with ⟨e, c⟩ | ⟨u, i, j, last, e, hu, c⟩
    · exact .inl ⟨e, k it (by simp) _ c⟩
    · exact .inr ⟨u, i, j, last, e, hu, k it (by simp) _ c⟩
  item := by
    intro X hP hw hK hc t pins s σ H E I hf st hg
    subst hP hw hK
    obtain ⟨hp, st⟩ := st
    have len := rv.length
    have sz : its.toArray.size = xs.length := by rw [List.size_toArray, len]
    -- what comes of the pair (i, j)
    have out : ∀ (i j : Nat) (h' : Heap), (prs xs.length)[t]? = some (i, j) → (∀ b, b ≠ it → ∀ u, s.heap.get? b = some u → h'.get? b = some u) → h'.get? s.heap.objs.size = some (tupO #[its.toArray.getD i .none, its.toArray.getD j .none]) →
        IsC h' it pool 1 (.ref s.heap.objs.size) i j → ∃ u, some (Value.ref s.heap.objs.size) = some u ∧
        wpAny (model X.prog X.w) X.A (letOwnedTupleGo tg (.ref it) u) (fun _ s2 => ∃ x H', Inv X pins σ H' s2 ∧ RelV x u ∧ (Itcb xs).yld t H x H' ∧ Stt it pool its.toArray (t + 1) s2.heap ∧ ∀ b ∈ [it, pool], H' b = none) E { s with heap := h' } := by
      intro i j h' ht keep new rec
      obtain ⟨l1, l2, _⟩ := prs_step ht
      have hx : xs[i]? = some xs[i] := List.getElem?_eq_getElem (by omega)
      have hy : xs[j]? = some xs[j] := List.getElem?_eq_getElem (by omega)
      obtain ⟨u1, hu1, r1⟩ := rv.get hx
      obtain ⟨u2, hu2, r2⟩ := rv.get hy
      have g1 : its.toArray.getD i .none = u1 := by
        rw [Array.getD_eq_getD_getElem?, List.getElem?_toArray, hu1]
        rfl
      have g2 : its.toArray.getD j .none = u2 := by
        rw [Array.getD_eq_getD_getElem?, List.getElem?_toArray, hu2]
        rfl
      rw [g1, g2] at new
      have obj : ObjOk X.prog X.w (upd H s.heap.objs.size (.tup [xs[i], xs[j]])) h' s.heap.objs.size (.tup [xs[i], xs[j]]) :=
        ⟨by show 2 ≤ sizeLine; decide, [u1, u2], .cons r1 (.cons r2 .nil), ⟨_, new, rfl, _, rfl⟩⟩
      have I1 : Inv X pins σ (upd H s.heap.objs.size (.tup [xs[i], xs[j]])) { s with heap := h' } :=
        I.turnedNew (t' := s.toks) (ch := [it, pool]) (fun c o hb q => keep c (fun z => hb (by simp [z])) o q) hf (Nat.le_refl _) obj
      refine ⟨_, rfl, go_of (s := { s with heap := h' }) rec rfl rfl (by decide) ⟨.ref s.heap.objs.size, _, I1, rfl, ⟨_, i, j, _, _, rfl, I.hok.fresh (Nat.le_refl _), rfl, ht, hx, hy⟩, ⟨keep pool (Nat.ne_of_lt lt) _ hp, .inr ⟨t, i, j, _, rfl, by rw [sz]; exact ht, rec⟩⟩, fun c hcm => ?_⟩⟩
      have small : c < s.heap.objs.size := by
        have e : c = it ∨ c = pool := by simpa using hcm
        have hit : it < s.heap.objs.size := by
          rcases st with ⟨_, c⟩ | ⟨_, _, _, _, _, _, c⟩ <;> exact Heap.lt_size c
        rcases e with e | e
        · rw [e]; exact hit
        · rw [e]; exact Nat.lt_trans lt hit
      rw [upd_ne (Nat.ne_of_lt small)]
      exact (hf c hcm).1
    have hg' : t < (prs xs.length).length := hg
    obtain ⟨⟨i, j⟩, hij⟩ : ∃ q, (prs xs.length)[t]? = some q := ⟨_, List.getElem?_eq_getElem hg'⟩
    rcases st with ⟨e, c⟩ | ⟨u, i0, j0, last, e, hu, c⟩
    · subst e
      have h2 : 2 ≤ xs.length := by
        rcases Nat.lt_or_ge xs.length 2 with z | z
        · rw [prs_none z] at hg'
          cases hg'
        · exact z
      rw [prs_zero h2] at hij
      cases hij
      rw [sz, if_neg (by omega)] at c
      exact next_first (n := 0) c hp (by rw [sz]; exact h2) fun h' k new rec => out 0 1 h' (prs_zero h2) k new rec
    · subst e
      rw [sz] at hu
      obtain ⟨l1, l2, l3⟩ := prs_step hu
      refine next_more c hp (nx_some l1 (by rw [sz]; exact l2) (by rw [sz, ← l3]; exact hij)) fun h' k new rec => out i j h' hij k new rec
  done := by
    intro X hP hw hK hc t pins s σ H E I hf st hg
    subst hP hw hK
    obtain ⟨hp, st⟩ := st
    have len := rv.length
    have sz : its.toArray.size = xs.length := by rw [List.size_toArray, len]
    have hg' : (prs xs.length).length ≤ t := hg
    obtain ⟨f0, f1, f2, f3, f4, f5⟩ := hf it (by simp)
    have fin : ∀ h', Heap.ExtBut it s.heap h' → (none : Option Value) = none ∧ Inv X pins σ H { s with heap := h' } := fun h' eb => ⟨rfl, I.turned (t' := s.toks) (fun b o hb e => eb b o hb e) f0 f1 f3 f4 f5⟩
    rcases st with ⟨e, c⟩ | ⟨u, i0, j0, last, e, hu, c⟩
    · subst e
      have h2 : xs.length < 2 := by
        rcases Nat.lt_or_ge xs.length 2 with z | z
        · exact z
        · have := prs_zero z
          rw [List.getElem?_eq_none hg'] at this
          cases this
      rw [sz, if_pos (by omega)] at c
      exact next_none (i := 0) (j := 1) (I.ok.hd hc) c hp fin
    · subst e
      rw [sz] at hu
      obtain ⟨l1, l2, l3⟩ := prs_step hu
      rw [List.getElem?_eq_none hg'] at l3
      exact next_end (I.ok.hd hc) c hp (nx_none l1 (by rw [sz]; exact l2) (by rw [sz]; exact l3.symm)) fin
  self := fun A t s Q E st h => by
    obtain ⟨hp, st⟩ := st
    rcases st with ⟨_, c⟩ | ⟨_, _, _, _, _, _, c⟩ <;> exact iter_comb c h

section
variable {X : Cx} {tg : Expr}
def iComb (K : PySem.W.Frag) (ta : TA) : TI := fun σ H R => ta σ H fun vs H1 => ∃ a xs, vs = [.ref a, .int 2] ∧ SqL K H1 a xs ∧ R (Itcb xs) H1
theorem pi_comb {x : Str} {e e2 : Expr} {ta : TA} {p pos : Pos} (hg : Gl X x) (hm : X.mg x = some (.type "itertools.combinations")) (ha : PA X [e, e2] ta) (hdb : (x == ("__debug__" : Str)) = false := by decide)
    (hs : starEach [e, e2] X.env = (false, eval e X.env) :: starEach [e2] X.env := by rfl) (hpl : (backTo pos (starEach [e2] X.env)).any (·.1) = false := by rfl) :
    PI X tg (.Call (.Name x p) [e, e2] [] pos) (iComb X.K ta) := by
  refine ⟨fun pins s σ H R I h => ?_⟩
  refine wpAny_Call_Name_kw (ld_glob I hg hm ?_ hdb)
  refine PyProof.Rows.callWith_type1 (thn (ha.run pos pins s σ H _ I h) fun us s1 ⟨vs, H1, I1, r1, q1⟩ => ?_) hs hpl
  obtain ⟨a, xs, rfl, hq, q⟩ := q1
  obtain ⟨u1, u2, rfl, e1, ⟨t, rfl⟩⟩ := vals2 r1
  obtain rfl : u1 = Value.ref a := e1
  obtain ⟨its, rv, ⟨o, n, ho, hcl, hne, hda⟩, hz⟩ := I1.list hq
  have len := rv.length
  refine call_comb ho hcl hda (by rw [List.size_toArray, ← len]; exact hz) fun h1 keep => ?_
  have J0 : Inv X pins σ H1 { s1 with heap := h1 } := I1.kept (t' := s1.toks) keep
  have sz1 : (h1.push (tupO its.toArray)).objs.size = h1.objs.size + 1 := Heap.size_push ..
  have g1 : ((h1.push (tupO its.toArray)).push (recC h1.objs.size (if 2 > its.toArray.size then 2 else 0) .none 0 1)).get? h1.objs.size = some (tupO its.toArray) := Heap.get?_push_of_some _ (Heap.get?_push_size _ rfl)
  have g2 : ((h1.push (tupO its.toArray)).push (recC h1.objs.size (if 2 > its.toArray.size then 2 else 0) .none 0 1)).get? (h1.objs.size + 1) = some (recC h1.objs.size (if 2 > its.toArray.size then 2 else 0) .none 0 1) := by
    rw [← sz1]
    exact Heap.get?_push_size _ rfl
  refine iter_comb (s := { s1 with heap := _ }) g2 ?_
  have J1 : Inv X pins σ H1 { s1 with heap := (h1.push (tupO its.toArray)).push (recC h1.objs.size (if 2 > its.toArray.size then 2 else 0) .none 0 1) } :=
    I1.kept (t' := s1.toks) fun b o z => Heap.get?_push_of_some _ (Heap.get?_push_of_some _ (keep b o z))
  refine ⟨h1.objs.size + 1, [h1.objs.size + 1, h1.objs.size], _, _, H1, rfl, J1, turn_comb rv (h1.objs.size + 1) h1.objs.size (Nat.lt_succ_self _), ⟨g1, .inl ⟨rfl, g2⟩⟩, fun b hb => ?_, q⟩
  have low : h1.objs.size ≤ b := by
    have e : b = h1.objs.size + 1 ∨ b = h1.objs.size := by simpa using hb
    rcases e with e | e
    · rw [e]; exact Nat.le_succ _
    · rw [e]; exact Nat.le_refl _
  exact J0.fpOk low (J0.hok.fresh low)

/-- a comprehension over the pairs -/
theorem lc_comb {xs : List V} {g : TG} {tt : TT} {te : TE} {vs : List Nat} {σ : L2.St} {H1 : Hp} {D : Addr} {Qd : Hp → Prop} (Pv : Nat → Hp → Prop) (h0 : Pv 0 (upd H1 D (.lst [])))
    (hs : ∀ (t i j : Nat) (x y : V) (T : Addr) (H : Hp), (prs xs.length)[t]? = some (i, j) → xs[i]? = some x → xs[j]? = some y → Pv t H → H T = none → g (.ref T) (wipe σ vs) (upd H T (.tup [x, y])) fun σ2 H2 => wipe σ2 vs = wipe σ vs ∧ tt σ2 H2 fun b H3 =>
      if b = true then te σ2 H3 fun y H4 => ∃ acc, H4 D = some (.lst acc) ∧ acc.length < sizeLine ∧ Pv (t + 1) (upd H4 D (.lst (acc ++ [y]))) else Pv (t + 1) H3) (hd : ∀ H, Pv (prs xs.length).length H → Qd H) :
    ∃ W : Nat → Nat → Hp → Prop, (∃ m, W 0 m (upd H1 D (.lst []))) ∧ ∀ t m H, W t m H →
      ((Itcb xs).stop t H ∧ Qd H) ∨ ((Itcb xs).go t H ∧ ∃ Nx : Hp → Prop, (∀ H', Nx H' → ∃ m', m' < m ∧ W (t + 1) m' H') ∧ ∀ x H', (Itcb xs).yld t H x H' → g x (wipe σ vs) H' fun σ2 H2 => wipe σ2 vs = wipe σ vs ∧ tt σ2 H2 fun b H3 =>
        if b = true then te σ2 H3 fun y H4 => ∃ acc, H4 D = some (.lst acc) ∧ acc.length < sizeLine ∧ Nx (upd H4 D (.lst (acc ++ [y]))) else Nx H3) := by
  refine ⟨fun t m H => m = (prs xs.length).length - t ∧ t ≤ (prs xs.length).length ∧ Pv t H, ⟨_, rfl, Nat.zero_le _, h0⟩, ?_⟩
  rintro t m H ⟨rfl, ht, pv⟩
  rcases Nat.lt_or_ge t (prs xs.length).length with lt | ge
  · refine .inr ⟨lt, Pv (t + 1), fun H' p' => ⟨(prs xs.length).length - (t + 1), by omega, rfl, lt, p'⟩, fun v H' y => ?_⟩
    obtain ⟨T, i, j, a, b, rfl, hT, rfl, h1, h2, h3⟩ := y
    exact hs t i j a b T H h1 h2 h3 pv hT
  · have e : t = (prs xs.length).length := by omega
    subst e
    exact .inl ⟨Nat.le_refl _, hd H pv⟩
end
end Comb

namespace SortR
open PySem PySem.Spec PyProof.Rows L2 PySem.W
/-- lists of ints by their sequence -/
def rowLe (p q : Addr × List Int) : Bool := decide (p.2 ≤ q.2)
theorem enc_alike (p q : Addr × List Int) : alike (PyData.list (p.2.map .int)) (PyData.list (q.2.map .int)) = true := by
  simp only [alike]
  exact alike_ints p.2 q.2
theorem rows_dp {K : PySem.W.Frag} {H : Hp} : ∀ ns : List Int, DpAll K H (ns.map V.int) (ns.map PyData.int)
  | [] => .nil
  | n :: ns => .cons (.int n) (rows_dp ns)
theorem vals_each {h : Heap} {K : PySem.W.Frag} {H : Hp} {P : Addr × List Int → Prop} : ∀ {bs : List (Addr × List Int)} {us : List Value}, Vals (bs.map fun b => V.ref b.1) us → (∀ b ∈ bs, P b) → EachIs (fun v b => v = Value.ref b.1 ∧ P b) us bs
  | [], us, r, _ => by
    cases r
    exact .nil
  | b :: bs, us, r, hp => by
    cases r with
    | cons r1 r2 =>
      have e : _ = Value.ref b.1 := r1
      exact .cons ⟨e, hp b List.mem_cons_self⟩ (vals_each (h := h) (K := K) (H := H) r2 fun c hc => hp c (List.mem_cons_of_mem _ hc))
theorem each_back {P : Addr × List Int → Prop} : ∀ {us : List Value} {bs : List (Addr × List Int)}, EachIs (fun v b => v = Value.ref b.1 ∧ P b) us bs → Vals (bs.map fun b => V.ref b.1) us
  | _, _, .nil => .nil
  | _, _, .cons h t => .cons h.1 (each_back t)
theorem each_mono {α β : Type} {R S : α → β → Prop} : ∀ {as : List α} {bs : List β}, EachIs R as bs → (∀ a b, R a b → S a b) → EachIs S as bs
  | _, _, .nil, _ => .nil
  | _, _, .cons h t, f => .cons (f _ _ h) (each_mono t f)
section
variable {X : Cx}
/-- sorted(xs), xs a list of lists of ints, of any length -/
theorem call_sortedR (hu : X.A.units + 64 < cLine) : CallR X (.builtin "sorted") (fun xs H Q => ∃ (a : Addr) (bs : List (Addr × List Int)), xs = [V.ref a] ∧ SqL X.K H a (bs.map fun b => V.ref b.1) ∧ (∀ b ∈ bs, SqL X.K H b.1 (b.2.map V.int)) ∧
    ∀ p, H p = none → Q (.ref p) (upd H p (.lst ((bs.mergeSort rowLe).map fun b => V.ref b.1)))) := by
  intro pins s σ H xs us Q I r h
  obtain ⟨a, bs, rfl, hs, hb, q⟩ := h
  obtain ⟨u, rfl, ru⟩ := vals1 r
  obtain rfl : u = Value.ref a := ru
  obtain ⟨its, rv, hl, hz⟩ := I.list hs
  have each : EachIs (fun v b => v = Value.ref b.1 ∧ SqL X.K H b.1 (b.2.map V.int)) its bs := vals_each (h := s.heap) (K := X.K) (H := H) rv hb
  have len : its.length = bs.length := by rw [← rv.length, List.length_map]
  have each2 : EachIs (fun v (b : Addr × List Int) => ∃ as, Reads s.heap v (PyData.list (b.2.map .int)) as) its bs := each_mono each fun v b ⟨e, hq⟩ => by
    rw [e]
    exact Dp.reads I (PyData.list (b.2.map .int)) (.ref b.1) (.ref b.1) (.lst hq (rows_dp b.2)) rfl
  have le : dataLe false (fun b : Addr × List Int => PyData.list (b.2.map .int)) = rowLe := dataLe_rows (fun b : Addr × List Int => b.2)
  refine sorted_data (enc := fun b : Addr × List Int => PyData.list (b.2.map .int)) hl.isList each each2 (AllAlike.of enc_alike) (Sortable.others fun b => ⟨(fun z => nomatch z), fun xs z => nomatch z⟩) (by rw [← len]; rw [List.length_map] at hz; rw [len]; exact hz) (fun b _ => by
    have d : (PyData.list (b.2.map .int)).depth = 1 := by
      simp only [PyData.depth, depth_ints]
    rw [d]
    omega) fun out ho each3 => ?_
  rw [le] at each3
  have back := each_back each3
  obtain ⟨n, hn⟩ := sortedAll_at s.heap its out.toArray
  refine ⟨.ref (s.heap.objs.size + 1), upd H (s.heap.objs.size + 1) (.lst ((bs.mergeSort rowLe).map fun b => V.ref b.1)), I.laid (t' := s.toks) (fun b o e => sortedAll_old e) (Nat.le_succ _) ⟨?_, out, n, back, hn⟩, rfl, q _ (I.hok.fresh (Nat.le_succ _))⟩
  rw [List.length_map, List.length_mergeSort]
  rw [List.length_map] at hz
  exact hz
end
end SortR

namespace SortR
open PySem PySem.Spec PyProof.Rows L2 PySem.W
section
variable {X : Cx}
def rLtR (K : PySem.W.Frag) : R2 := fun x y H Q => ∃ (a b : Addr) (ns ms : List Int), x = .ref a ∧ y = .ref b ∧ SqL K H a (ns.map V.int) ∧ SqL K H b (ms.map V.int) ∧ Q (.bl (decide (ns < ms))) H
/-- xs < ys, two lists of ints -/
theorem op_ltR (hu : X.A.units + 64 < cLine) : OpR X (compareOp .Lt) (rLtR X.K) := by
  intro pins s σ H x y v u Q I rx ry h
  obtain ⟨a, b, ns, ms, rfl, rfl, hs, hm, q⟩ := h
  obtain ⟨as, r1⟩ := Dp.reads I (PyData.list (ns.map .int)) (.ref a) v (.lst hs (rows_dp ns)) rx
  obtain ⟨bs, r2⟩ := Dp.reads I (PyData.list (ms.map .int)) (.ref b) u (.lst hm (rows_dp ms)) ry
  have dep : (PyData.list (ns.map .int)).depth = 1 := by simp only [PyData.depth, depth_ints]
  have lt := rcLt_alike (PyData.list (ns.map .int)) (PyData.list (ms.map .int)) X.A s v u as bs r1 r2 (enc_alike (a, ns) (b, ms)) (fun z => nomatch z) (by rw [dep]; omega)
  have e : dataLt (PyData.list (ns.map .int)) (PyData.list (ms.map .int)) = decide (ns < ms) := by
    rw [dataLt_list]
    exact dataLt_ints ns ms
  rw [e] at lt
  exact lt _ _ _ _ ⟨.bl _, H, I, rfl, q⟩
/-- a comprehension over zip of two lists that stand still -/
theorem lc_zipL {K : PySem.W.Frag} {a b : Addr} {xs ys : List V} {g : TG} {tt : TT} {te : TE} {vs : List Nat} {σ : L2.St} {H1 : Hp} {D : Addr} {Qd : Hp → Prop} (Pv : Nat → Hp → Prop) (h0 : Pv 0 (upd H1 D (.lst []))) (hl : ∀ i H, Pv i H → SqL K H a xs ∧ SqL K H b ys)
    (hs : ∀ (i : Nat) (x y : V) (T : Addr) (H : Hp), xs[i]? = some x → ys[i]? = some y → Pv i H → H T = none → g (.ref T) (wipe σ vs) (upd H T (.tup [x, y])) fun σ2 H2 => wipe σ2 vs = wipe σ vs ∧ tt σ2 H2 fun b H3 =>
      if b = true then te σ2 H3 fun y H4 => ∃ acc, H4 D = some (.lst acc) ∧ acc.length < sizeLine ∧ Pv (i + 1) (upd H4 D (.lst (acc ++ [y]))) else Pv (i + 1) H3) (hd : ∀ H, Pv (min xs.length ys.length) H → Qd H) :
    ∃ W : Nat → Nat → Hp → Prop, (∃ m, W 0 m (upd H1 D (.lst []))) ∧ ∀ i m H, W i m H →
      ((Itz K a b).stop i H ∧ Qd H) ∨ ((Itz K a b).go i H ∧ ∃ Nx : Hp → Prop, (∀ H', Nx H' → ∃ m', m' < m ∧ W (i + 1) m' H') ∧ ∀ x H', (Itz K a b).yld i H x H' → g x (wipe σ vs) H' fun σ2 H2 => wipe σ2 vs = wipe σ vs ∧ tt σ2 H2 fun b H3 =>
        if b = true then te σ2 H3 fun y H4 => ∃ acc, H4 D = some (.lst acc) ∧ acc.length < sizeLine ∧ Nx (upd H4 D (.lst (acc ++ [y]))) else Nx H3) := by
  refine ⟨fun i m H => m = min xs.length ys.length - i ∧ i ≤ min xs.length ys.length ∧ Pv i H, ⟨_, rfl, Nat.zero_le _, h0⟩, ?_⟩
  rintro i m H ⟨rfl, hi, pv⟩
  obtain ⟨qx, qy⟩ := hl i H pv
  rcases Nat.lt_or_ge i (min xs.length ys.length) with lt | ge
  · have ex : xs[i]? = some xs[i] := List.getElem?_eq_getElem (by omega)
    have ey : ys[i]? = some ys[i] := List.getElem?_eq_getElem (by omega)
    refine .inr ⟨⟨xs, ys, _, _, qx, qy, ex, ey⟩, Pv (i + 1), fun H' p' => ⟨min xs.length ys.length - (i + 1), by omega, rfl, lt, p'⟩, fun v H' y => ?_⟩
    obtain ⟨T, x', y', rfl, hT, rfl, f1, f2⟩ := y
    exact hs i x' y' T H (f1 xs qx) (f2 ys qy) pv hT
  · have e : i = min xs.length ys.length := by omega
    subst e
    exact .inl ⟨⟨xs, ys, qx, qy, by omega⟩, hd H pv⟩
/-- a comprehension over enumerate of a list that stands still -/
theorem lc_enumL {K : PySem.W.Frag} {a : Addr} {xs : List V} {g : TG} {tt : TT} {te : TE} {vs : List Nat} {σ : L2.St} {H1 : Hp} {D : Addr} {Qd : Hp → Prop} (Pv : Nat → Hp → Prop) (h0 : Pv 0 (upd H1 D (.lst []))) (hl : ∀ i H, Pv i H → SqL K H a xs)
    (hs : ∀ (i : Nat) (x : V) (T : Addr) (H : Hp), xs[i]? = some x → Pv i H → H T = none → g (.ref T) (wipe σ vs) (upd H T (.tup [.int (i : Nat), x])) fun σ2 H2 => wipe σ2 vs = wipe σ vs ∧ tt σ2 H2 fun b H3 =>
      if b = true then te σ2 H3 fun y H4 => ∃ acc, H4 D = some (.lst acc) ∧ acc.length < sizeLine ∧ Pv (i + 1) (upd H4 D (.lst (acc ++ [y]))) else Pv (i + 1) H3) (hd : ∀ H, Pv xs.length H → Qd H) :
    ∃ W : Nat → Nat → Hp → Prop, (∃ m, W 0 m (upd H1 D (.lst []))) ∧ ∀ i m H, W i m H →
      ((Ite K a).stop i H ∧ Qd H) ∨ ((Ite K a).go i H ∧ ∃ Nx : Hp → Prop, (∀ H', Nx H' → ∃ m', m' < m ∧ W (i + 1) m' H') ∧ ∀ x H', (Ite K a).yld i H x H' → g x (wipe σ vs) H' fun σ2 H2 => wipe σ2 vs = wipe σ vs ∧ tt σ2 H2 fun b H3 =>
        if b = true then te σ2 H3 fun y H4 => ∃ acc, H4 D = some (.lst acc) ∧ acc.length < sizeLine ∧ Nx (upd H4 D (.lst (acc ++ [y]))) else Nx H3) := by
  refine ⟨fun i m H => m = xs.length - i ∧ i ≤ xs.length ∧ Pv i H, ⟨_, rfl, Nat.zero_le _, h0⟩, ?_⟩
  rintro i m H ⟨rfl, hi, pv⟩
  have qx := hl i H pv
  rcases Nat.lt_or_ge i xs.length with lt | ge
  · have ex : xs[i]? = some xs[i] := List.getElem?_eq_getElem lt
    refine .inr ⟨⟨xs, _, qx, ex⟩, Pv (i + 1), fun H' p' => ⟨xs.length - (i + 1), by omega, rfl, lt, p'⟩, fun v H' y => ?_⟩
    obtain ⟨T, x', rfl, hT, rfl, f1⟩ := y
    exact hs i x' T H (f1 xs qx) pv hT
  · have e : i = xs.length := by omega
    subst e
    exact .inl ⟨⟨xs, qx, Nat.le_refl _⟩, hd H pv⟩
end
end SortR

/-! Comprehensions without a test, by the value of each turn: what stood stands. -/
namespace LcM
open PySem PySem.Spec PyProof.Rows L2
/-- all that stood stands -/
def Grows (H H' : Hp) : Prop := ∀ b o, H b = some o → H' b = some o
theorem Grows.refl {H : Hp} : Grows H H := fun _ _ e => e
theorem Grows.trans {H H1 H2 : Hp} (x : Grows H H1) (y : Grows H1 H2) : Grows H H2 := fun b o e => y b o (x b o e)
theorem Grows.new {a : Addr} {H : Hp} {o : HO} (h : H a = none) : Grows H (upd H a o) := fun b u e => by
  rw [upd_ne (ne_of_none e h)]
  exact e
theorem Grows.seq {K : PySem.W.Frag} {H H' : Hp} {a : Addr} {xs : List V} (s : Grows H H') (h : SqL K H a xs) : SqL K H' a xs := by
  rcases h with (h | ⟨o, h⟩) | h
  · exact .inl (.inl (s _ _ h))
  · exact .inl (.inr ⟨o, s _ _ h⟩)
  · exact .inr h
theorem Grows.tup {K : PySem.W.Frag} {H H' : Hp} {a : Addr} {xs : List V} (s : Grows H H') (h : SqT K H a xs) : SqT K H' a xs := by
  rcases h with (h | ⟨o, h⟩) | h
  · exact .inl (.inl (s _ _ h))
  · exact .inl (.inr ⟨o, s _ _ h⟩)
  · exact .inr h
/-- the list that is made -/
def Ma (H0 : Hp) (D : Addr) (F : Nat → V) (i : Nat) (H : Hp) : Prop := Grows H0 H ∧ H D = some (.lst ((List.range i).map F))
theorem Ma.start {H0 : Hp} {D : Addr} {F : Nat → V} (hD : H0 D = none) : Ma H0 D F 0 (upd H0 D (.lst [])) := ⟨Grows.new hD, upd_same⟩
theorem yes_eq {te : TE} {A : L2.St → Prop} {R : V → Hp → Prop} {Y : Hp → Prop} :
    (fun (σ2 : L2.St) (H2 : Hp) => A σ2 ∧ tYes σ2 H2 fun b H3 => if b = true then te σ2 H3 R else Y H3) = fun σ2 H2 => A σ2 ∧ te σ2 H2 R := by
  funext σ2 H2
  unfold tYes
  dsimp only
  rw [if_pos rfl]
/-- one more -/
theorem Ma.more {H0 H H4 : Hp} {D : Addr} {F : Nat → V} {i : Nat} (hD : H0 D = none) (m : Ma H0 D F i H) (s : Grows H H4) (small : i < 1000000) :
    ∃ acc, H4 D = some (.lst acc) ∧ acc.length < sizeLine ∧ Ma H0 D F (i + 1) (upd H4 D (.lst (acc ++ [F i]))) := by
  refine ⟨_, s _ _ m.2, ?_, fun b o e => ?_, ?_⟩
  · rw [List.length_map, List.length_range]
    exact Nat.lt_trans small (by decide)
  · rw [upd_ne (ne_of_none e hD)]
    exact s _ _ (m.1 _ _ e)
  · rw [upd_same, List.range_succ, List.map_append]
    rfl
section
variable {K : PySem.W.Frag} {a b : Addr} {xs ys : List V} {g : TG} {te : TE} {vs : List Nat} {σ : L2.St} {H0 : Hp} {D : Addr} {Qd : Hp → Prop}
theorem lc_listM (F : Nat → V) (hD : H0 D = none) (hx : SqL K H0 a xs) (small : xs.length ≤ 1000000)
    (turn : ∀ (i : Nat) (x : V) (H : Hp) (R : V → Hp → Prop), xs[i]? = some x → Grows H0 H → (∀ H4, Grows H H4 → R (F i) H4) → g x (wipe σ vs) H fun σ2 H2 => wipe σ2 vs = wipe σ vs ∧ te σ2 H2 R)
    (done : ∀ H, Grows H0 H → H D = some (.lst ((List.range xs.length).map F)) → Qd H) :
    ∃ W : Nat → Nat → Hp → Prop, (∃ m, W 0 m (upd H0 D (.lst []))) ∧ ∀ i m H, W i m H →
      ((Itl K a).stop i H ∧ Qd H) ∨ ((Itl K a).go i H ∧ ∃ Nx : Hp → Prop, (∀ H', Nx H' → ∃ m', m' < m ∧ W (i + 1) m' H') ∧ ∀ x H', (Itl K a).yld i H x H' → g x (wipe σ vs) H' fun σ2 H2 => wipe σ2 vs = wipe σ vs ∧ tYes σ2 H2 fun b H3 =>
        if b = true then te σ2 H3 fun y H4 => ∃ acc, H4 D = some (.lst acc) ∧ acc.length < sizeLine ∧ Nx (upd H4 D (.lst (acc ++ [y]))) else Nx H3) := by
  refine lc_list (Ma H0 D F) (Ma.start hD) (fun i H _ m => m.1.seq hx) (fun i x H ex m => ?_) fun H m => done H m.1 m.2
  rw [yes_eq (A := fun σ2 => wipe σ2 vs = wipe σ vs)]
  exact turn i x H _ ex m.1 fun H4 s => m.more hD s (Nat.lt_of_lt_of_le (List.getElem?_eq_some_iff.mp ex).1 small)
theorem lc_zipM (F : Nat → V) (hD : H0 D = none) (hx : SqL K H0 a xs) (hy : SqL K H0 b ys) (small : xs.length ≤ 1000000)
    (turn : ∀ (i : Nat) (x y : V) (T : Addr) (H : Hp) (R : V → Hp → Prop), xs[i]? = some x → ys[i]? = some y → Grows H0 H → H T = none → (∀ H4, Grows (upd H T (.tup [x, y])) H4 → R (F i) H4) → g (.ref T) (wipe σ vs) (upd H T (.tup [x, y])) fun σ2 H2 => wipe σ2 vs = wipe σ vs ∧ te σ2 H2 R)
    (done : ∀ H, Grows H0 H → H D = some (.lst ((List.range (min xs.length ys.length)).map F)) → Qd H) :
    ∃ W : Nat → Nat → Hp → Prop, (∃ m, W 0 m (upd H0 D (.lst []))) ∧ ∀ i m H, W i m H →
      ((Itz K a b).stop i H ∧ Qd H) ∨ ((Itz K a b).go i H ∧ ∃ Nx : Hp → Prop, (∀ H', Nx H' → ∃ m', m' < m ∧ W (i + 1) m' H') ∧ ∀ x H', (Itz K a b).yld i H x H' → g x (wipe σ vs) H' fun σ2 H2 => wipe σ2 vs = wipe σ vs ∧ tYes σ2 H2 fun b H3 =>
        if b = true then te σ2 H3 fun y H4 => ∃ acc, H4 D = some (.lst acc) ∧ acc.length < sizeLine ∧ Nx (upd H4 D (.lst (acc ++ [y]))) else Nx H3) := by
  refine SortR.lc_zipL (Ma H0 D F) (Ma.start hD) (fun i H m => ⟨m.1.seq hx, m.1.seq hy⟩) (fun i x y T H ex ey m hT => ?_) fun H m => done H m.1 m.2
  rw [yes_eq (A := fun σ2 => wipe σ2 vs = wipe σ vs)]
  exact turn i x y T H _ ex ey m.1 hT fun H4 s => m.more hD ((Grows.new hT).trans s) (Nat.lt_of_lt_of_le (List.getElem?_eq_some_iff.mp ex).1 small)
theorem lc_enumM (F : Nat → V) (hD : H0 D = none) (hx : SqL K H0 a xs) (small : xs.length ≤ 1000000)
    (turn : ∀ (i : Nat) (x : V) (T : Addr) (H : Hp) (R : V → Hp → Prop), xs[i]? = some x → Grows H0 H → H T = none → (∀ H4, Grows (upd H T (.tup [.int (i : Nat), x])) H4 → R (F i) H4) → g (.ref T) (wipe σ vs) (upd H T (.tup [.int (i : Nat), x])) fun σ2 H2 => wipe σ2 vs = wipe σ vs ∧ te σ2 H2 R)
    (done : ∀ H, Grows H0 H → H D = some (.lst ((List.range xs.length).map F)) → Qd H) :
    ∃ W : Nat → Nat → Hp → Prop, (∃ m, W 0 m (upd H0 D (.lst []))) ∧ ∀ i m H, W i m H →
      ((Ite K a).stop i H ∧ Qd H) ∨ ((Ite K a).go i H ∧ ∃ Nx : Hp → Prop, (∀ H', Nx H' → ∃ m', m' < m ∧ W (i + 1) m' H') ∧ ∀ x H', (Ite K a).yld i H x H' → g x (wipe σ vs) H' fun σ2 H2 => wipe σ2 vs = wipe σ vs ∧ tYes σ2 H2 fun b H3 =>
        if b = true then te σ2 H3 fun y H4 => ∃ acc, H4 D = some (.lst acc) ∧ acc.length < sizeLine ∧ Nx (upd H4 D (.lst (acc ++ [y]))) else Nx H3) := by
  refine SortR.lc_enumL (Ma H0 D F) (Ma.start hD) (fun i H m => m.1.seq hx) (fun i x T H ex m hT => ?_) fun H m => done H m.1 m.2
  rw [yes_eq (A := fun σ2 => wipe σ2 vs = wipe σ vs)]
  exact turn i x T H _ ex m.1 hT fun H4 s => m.more hD ((Grows.new hT).trans s) (Nat.lt_of_lt_of_le (List.getElem?_eq_some_iff.mp ex).1 small)
theorem lc_combM (F : Nat → V) (hD : H0 D = none) (small : xs.length ≤ 1000)
    (turn : ∀ (t i j : Nat) (x y : V) (T : Addr) (H : Hp) (R : V → Hp → Prop), (Comb.prs xs.length)[t]? = some (i, j) → xs[i]? = some x → xs[j]? = some y → Grows H0 H → H T = none → (∀ H4, Grows (upd H T (.tup [x, y])) H4 → R (F t) H4) → g (.ref T) (wipe σ vs) (upd H T (.tup [x, y])) fun σ2 H2 => wipe σ2 vs = wipe σ vs ∧ te σ2 H2 R)
    (done : ∀ H, Grows H0 H → H D = some (.lst ((List.range (Comb.prs xs.length).length).map F)) → Qd H) :
    ∃ W : Nat → Nat → Hp → Prop, (∃ m, W 0 m (upd H0 D (.lst []))) ∧ ∀ t m H, W t m H →
      ((Comb.Itcb xs).stop t H ∧ Qd H) ∨ ((Comb.Itcb xs).go t H ∧ ∃ Nx : Hp → Prop, (∀ H', Nx H' → ∃ m', m' < m ∧ W (t + 1) m' H') ∧ ∀ x H', (Comb.Itcb xs).yld t H x H' → g x (wipe σ vs) H' fun σ2 H2 => wipe σ2 vs = wipe σ vs ∧ tYes σ2 H2 fun b H3 =>
        if b = true then te σ2 H3 fun y H4 => ∃ acc, H4 D = some (.lst acc) ∧ acc.length < sizeLine ∧ Nx (upd H4 D (.lst (acc ++ [y]))) else Nx H3) := by
  refine Comb.lc_comb (Ma H0 D F) (Ma.start hD) (fun t i j x y T H et ex ey m hT => ?_) fun H m => done H m.1 m.2
  rw [yes_eq (A := fun σ2 => wipe σ2 vs = wipe σ vs)]
  refine turn t i j x y T H _ et ex ey m.1 hT fun H4 s => m.more hD ((Grows.new hT).trans s) ?_
  have l1 := (List.getElem?_eq_some_iff.mp et).1
  have l2 := Comb.rows_len (xs.length - 1) 0
  have l3 : (xs.length - 1) * (xs.length - 1) ≤ 999 * 999 := Nat.mul_le_mul (by omega) (by omega)
  unfold Comb.prs at l1
  omega
end
/-- xs[1:] -/
theorem cut_tail (xs : List V) : cutV xs (some 1) none = xs.tail := by
  unfold cutV
  rw [HT.sIx_none, show (some (1 : Int)) = some ((1 : Nat) : Int) from rfl, HT.sIx_nat]
  cases xs with
  | nil => rfl
  | cons x l =>
    have e : min 1 (x :: l).length = 1 := by rw [List.length_cons]; omega
    rw [e, List.drop_one, List.tail_cons, List.length_cons, Nat.add_sub_cancel, List.take_length]
end LcM

/-! {key: value for target in iterable if test}, the keys tuples. -/
namespace DcT
open PySem PySem.Spec PyProof.Rows L2
section
variable {X : Cx} {pins : List (Addr × Obj)} {σ : L2.St} {H : Hp} {s : Shared}
/-- one entry is laid by the comprehension -/
theorem set_tup {Er : Value → Shared → Prop} {d b : Addr} {kvs : List (List L2.Key × V)} {k : List L2.Key} {v : V} {u r : Value} {Qu : Unit → Shared → Prop} (room : X.A.units + 1 < cLine) (I : Inv X pins σ H s) (at_d : H d = some (.dT kvs)) (few : kvs.length < sizeLine)
    (at_b : H b = some (.tup (k.map kV))) (ru : RelV (.ref b) u) (rr : RelV v r) (go : ∀ s', Inv X pins σ (upd H d (.dT (putK kvs k v))) s' → Qu () s') : wpAny (model X.prog X.w) X.A (dictSet d u r) Qu Er s := by
  obtain rfl : u = Value.ref b := ru
  obtain ⟨fits, notSys, xs, rel, raw⟩ := dt_of I.hok at_d
  have n1 : xs.length ≤ sizeLine := Paired.length rel ▸ fits
  have n2 : (putK kvs k v).length ≤ sizeLine := Nat.le_trans (length_putK kvs k v) few
  refine wpAny_dictSet_heap (hsz := n1) (show X.A.units < cLine from Nat.lt_of_succ_lt room) (key_of I.hok at_b) raw fun hp raw' same => go _ ?_
  obtain ⟨o, es, ep, g1, g2, g3, g4, _, g5⟩ := raw'
  refine d_write I (by rw [at_d]; exact True.intro) same ⟨o, g1⟩ ⟨n2, notSys, _, (rel.put k at_b rr).keeps fun c ys ec => ?_, o, es, ep, g1, g2, g3, g4, g5⟩
  rw [upd_ne (ne_of ec at_d fun z => nomatch z)]
  exact ec
end
section
variable {X : Cx}
def tDcT (wi : TI) (g : TG) (tt : TT) (tk tv : TE) (vs : List Nat) : TE := fun σ H Q => wi σ H fun J H1 => ∀ D, H1 D = none → ∃ W : Nat → Nat → Hp → Prop, (∃ m, W 0 m (upd H1 D (.dT []))) ∧ ∀ i m H, W i m H →
  (J.stop i H ∧ Q (.ref D) H) ∨ (J.go i H ∧ ∃ Nx : Hp → Prop, (∀ H', Nx H' → ∃ m', m' < m ∧ W (i + 1) m' H') ∧ ∀ x H', J.yld i H x H' → g x (wipe σ vs) H' fun σ2 H2 => wipe σ2 vs = wipe σ vs ∧ tt σ2 H2 fun t H3 =>
    if t = true then tk σ2 H3 fun y H4 => tv σ2 H4 fun z H5 => ∃ b kvs k, y = .ref b ∧ H5 b = some (.tup (k.map kV)) ∧ H5 D = some (.dT kvs) ∧ kvs.length < sizeLine ∧ Nx (upd H5 D (.dT (putK kvs k z))) else Nx H3)
theorem dcT_core {pins : List (Addr × Obj)} {s0 : Shared} {σ : L2.St} {H0 : Hp} {Q : VK} {kx vx tg iter : Expr} {ifs : List Expr} {scope : Scope} {own : List (Str × Nat)} {pos pos' : Pos} {wi : TI} {g : TG} {tt : TT} {tk tv : TE} {use : Option (Value → Sem Unit)} {Qf : Value → Shared → Prop}
    (room : X.A.units + 64 < cLine) (calm : X.calm = true) (nd : X.N.Nodup) (I0 : Inv X pins σ H0 s0) (pi : PI X tg iter wi) (ok : BlkOk X.N X.env.scope scope own)
    (pgs : ∀ (s : Shared) (H : Hp) (C : Addr) (cl : List (Str × Addr)) (fp : List Addr), PG (X.blk s H scope (compEnvC scope cl C X.env) fp) tg g) (pts : ∀ (s : Shared) (H : Hp) (C : Addr) (cl : List (Str × Addr)) (fp : List Addr), PTs (X.blk s H scope (compEnvC scope cl C X.env) fp) ifs tt)
    (pks : ∀ (s : Shared) (H : Hp) (C : Addr) (cl : List (Str × Addr)) (fp : List Addr), PE (X.blk s H scope (compEnvC scope cl C X.env) fp) kx tk) (pvs : ∀ (s : Shared) (H : Hp) (C : Addr) (cl : List (Str × Addr)) (fp : List Addr), PE (X.blk s H scope (compEnvC scope cl C X.env) fp) vx tv)
    (fold : ∀ x, foldedSetIterable iter X.env x = pure x) (rd : tDcT wi g tt tk tv (own.map (·.2)) σ H0 Q)
    (post : ∀ D C t ns G, Inv X pins σ G t → Q (.ref D) G → t.heap.Ns C ns → FpOk X pins G C → compPost (model X.prog X.w) X.A X.xe use Qf (.ref D) C (.ok .next) t) :
    wpAny (model X.prog X.w) X.A (comprehension (.DictComp kx vx [⟨tg, iter, ifs, 0⟩] scope pos) scope X.env pos' newDict false (eval iter X.env) use) Qf X.xe s0 := by
  have isFree : ∀ y ∈ scope.names, y.2 = .free → ∃ c, X.env.cells.lookup y.1 = some c := fun y hy ey => (ok.free y hy ey).elim (fun z => I0.ok.has _ (.inl z)) fun z => I0.ok.has _ (.inr z)
  refine wpAny_comprehension_free (use := use) rfl fold (closure_ok isFree) ok.kind (fun y hy ey => (ok.uniq y hy).trans (congrArg some ey)) (thn (pi.run pins s0 σ H0 _ I0 rd) fun _ sa ha => thn ha fun _ sb hb => ?_)
  obtain ⟨it, fp, tn, J, Hb, rfl, Ib, Tn, tn0, fb, q⟩ := hb
  refine wpAny_newObj_type (newEnv_comp ?_)
  have free0 : Hb sb.heap.objs.size = none := Ib.hok.fresh (Nat.le_refl _)
  obtain ⟨W, ⟨m0, w0⟩, turn⟩ := q _ free0
  -- with the dict, empty
  obtain ⟨sc, esc⟩ : ∃ z : Shared, z = { sb with heap := sb.heap.push { cls := .type "dict", data := .dict #[] } } := ⟨_, rfl⟩
  obtain ⟨Hc, eHc⟩ : ∃ z : Hp, z = upd Hb sb.heap.objs.size (.dT []) := ⟨_, rfl⟩
  have Ic : Inv X pins σ Hc sc := by
    rw [esc, eHc]
    exact Ib.laid (t' := sb.toks) (fun b o z => Heap.get?_push_of_some _ z) (Nat.le_refl _) (dt_empty sb.heap Ib.big)
  have up : ∀ b o, sb.heap.get? b = some o → sc.heap.get? b = some o := fun b o z => by
    rw [esc]
    exact Heap.get?_push_of_some _ z
  have below : ∀ b ∈ fp, b < sb.heap.objs.size := fun b hb => let ⟨_, z, _⟩ := Tn.obj _ _ tn0 b hb; Heap.lt_size z
  have fc : ∀ b ∈ fp, FpOk X pins Hc b ∧ b < sc.heap.objs.size := fun b hb => by
    obtain ⟨o, z, _⟩ := Tn.obj _ _ tn0 b hb
    refine ⟨⟨?_, (fb b hb).2⟩, Heap.lt_size (up b o z)⟩
    rw [eHc, upd_ne (Nat.ne_of_lt (below b hb))]
    exact (fb b hb).1
  have tnc : tn 0 sc.heap := Tn.keep _ _ _ tn0 fun b _ o z => up b o z
  have Ie := block_start Ic ok nd fc
  obtain ⟨cells, ecl⟩ : ∃ z, z = cellsFrom (sc.heap.objs.size + 1) scope.names (cloFrom X.env.cells scope.names []) := ⟨_, rfl⟩
  have pg := pgs sc Hc sc.heap.objs.size cells fp
  have pt := pts sc Hc sc.heap.objs.size cells fp
  have pk := pks sc Hc sc.heap.objs.size cells fp
  have pv := pvs sc Hc sc.heap.objs.size cells fp
  rw [← ecl] at Ie
  rw [← esc]
  show codeAny _ _ (.compStart _ 0 (.ref it) (.ref sb.heap.objs.size) (compEnvC scope (cellsFrom (sc.heap.objs.size + 1) scope.names (cloFrom X.env.cells scope.names [])) sc.heap.objs.size X.env)) (compPost _ _ X.xe use Qf (.ref sb.heap.objs.size) sc.heap.objs.size) _
  rw [← ecl]
  have loc : (compEnvC scope cells sc.heap.objs.size X.env).locals = sc.heap.objs.size := rfl
  rw [← eHc] at w0
  have empty : ∀ b ∈ fp, Hc b = none := fun b hb => (fc b hb).1.1
  obtain ⟨sd, esd⟩ : ∃ z : Shared, z = { sc with heap := pushCells (sc.heap.push { cls := .type "dict", data := .dict #[] }) scope.names } := ⟨_, rfl⟩
  have tnd : tn 0 sd.heap := Tn.keep _ _ _ tnc fun b _ o z => by
    rw [esd]
    exact pushCells_keeps _ _ _ _ (Heap.get?_push_of_some _ z)
  rw [← esd] at Ie ⊢
  generalize compEnvC scope cells sc.heap.objs.size X.env = ce at Ie pg pt pk pv loc ⊢
  -- the iterator's own objects in the block
  have own_ok : ∀ {ρ : L2.St} {G : Hp} {t : Shared}, Inv (X.blk sc Hc scope ce fp) [] ρ G t → (∀ b ∈ fp, G b = none) → ∀ b ∈ fp, FpOk (X.blk sc Hc scope ce fp) [] G b := fun {ρ G t} J hn b hb =>
    ⟨hn b hb, (J.ok.exf b hb).1, J.ok.exfs b hb, .inl hb, fun y c z => (J.ok.exf b hb).2 y c z, fun p hp => (nomatch hp)⟩
  have run : codeAny (model X.prog X.w) X.A (.compLoop (.DictComp kx vx [⟨tg, iter, ifs, 0⟩] scope pos) 0 (.ref it) (.ref sb.heap.objs.size) ce) (compPost (model X.prog X.w) X.A X.xe use Qf (.ref sb.heap.objs.size) sc.heap.objs.size) sd := by
    refine compLoop_anyD (fun m t => ∃ i G, Inv (X.blk sc Hc scope ce fp) [] (wipe σ (own.map (·.2))) G t ∧ tn i t.heap ∧ (∀ b ∈ fp, G b = none) ∧ W i m G) ?_ m0 ⟨0, Hc, Ie, tnd, empty, w0⟩
    rintro m t ⟨i, G, J, tni, none_, wi_⟩
    rcases turn i m G wi_ with ⟨stop, fin⟩ | ⟨go, Nx, less, step⟩
    · refine thnF (Tn.done (X.blk sc Hc scope ce fp) rfl rfl rfl calm i [] t _ G (fun _ _ => False) J (own_ok J none_) tni stop) fun r t2 ⟨er, J2⟩ => ?_
      subst er
      have back : Inv X pins σ G t2 := Ic.call' (ch := fp) J2.os J2.base J2.hok J2.bare fun b hb => ⟨(fc b hb).1.2.2.2.1, (fc b hb).1.2.1, (fc b hb).1.2.2.2.2.1, (fc b hb).1.2.2.2.2.2⟩
      have noC : G sc.heap.objs.size = none := by
        have z : G ce.locals = none := J2.free
        rwa [loc] at z
      obtain ⟨ns, isNs, _⟩ := J2.loc
      have isNs' : t2.heap.Ns ce.locals ns := isNs
      rw [loc] at isNs'
      exact post _ _ t2 ns G back fin isNs' (Ic.fpOk (Nat.le_refl _) noC)
    · refine thnF (Tn.item (X.blk sc Hc scope ce fp) rfl rfl rfl calm i [] t _ G (fun _ _ => False) J (own_ok J none_) tni go) fun r t2 ⟨u, er, h2⟩ => ?_
      subst er
      refine thnF h2 fun _ t3 ⟨x, G3, J3, r3, y3, tn3, none3⟩ => ?_
      have K3 := J3.pinned (own_ok J3 none3) (Tn.obj _ _ tn3)
      refine thnF (pg.run _ t3 _ G3 x u _ K3 r3 (step x G3 y3)) fun _ t4 ⟨ρ4, G4, J4, same4, q4⟩ => ?_
      refine thnF (pt.run _ t4 ρ4 G4 _ J4 q4) fun yes t5 ⟨G5, J5, q5⟩ => ?_
      have next : ∀ {t' : Shared} {G' : Hp}, Inv (X.blk sc Hc scope ce fp) ([] ++ pinsAt fp t3.heap) ρ4 G' t' → Nx G' → ∃ m', m' < m ∧ ∃ i G, Inv (X.blk sc Hc scope ce fp) [] (wipe σ (own.map (·.2))) G t' ∧ tn i t'.heap ∧ (∀ b ∈ fp, G b = none) ∧ W i m' G := fun {t' G'} J' nx => by
        obtain ⟨m', lt, w'⟩ := less G' nx
        have held : ∀ b ∈ fp, ∀ o, t3.heap.get? b = some o → t'.heap.get? b = some o ∧ G' b = none := fun b hb o z =>
          have p := J'.pin (b, o) (List.mem_append_right _ (List.mem_append_right _ (mem_pinsAt hb z)))
          ⟨p.1, p.2.1⟩
        have len : (wipe σ (own.map (·.2))).length = ρ4.length := by rw [← same4, wipe_length]
        refine ⟨m', lt, i + 1, G', (J'.unpinned (pins := [])).weak len (fun j v z => ?_), Tn.keep _ _ _ tn3 fun b hb o z => (held b hb o z).1, fun b hb => ?_, w'⟩
        · rw [← same4] at z
          exact (wipe_some z).1
        · obtain ⟨o, z, _⟩ := Tn.obj _ _ tn3 b hb
          exact (held b hb o z).2
      cases yes with
      | false =>
        simp only [Bool.false_eq_true, if_false] at q5 ⊢
        exact next J5 q5
      | true =>
        simp only [if_true] at q5 ⊢
        refine thnF (pk.run _ t5 ρ4 G5 _ J5 q5) fun ku t6 ⟨yk, G6, J6, r6, q6⟩ => thnF (pv.run _ t6 ρ4 G6 _ J6 q6) fun vu t7 ⟨yv, G7, J7, r7, b, kvs, k, ek, at_b, at_d, few, nx⟩ => ?_
        subst ek
        exact set_tup (X := X.blk sc Hc scope ce fp) (show X.A.units + 1 < cLine by omega) J7 at_d few at_b r6 r7 fun t8 J8 => next J8 nx
  exact codeAny_compStart_dict run (Tn.self X.A 0 _ _ _ tnd run)
/-- as a value -/
theorem pe_dcT {kx vx tg iter : Expr} {ifs : List Expr} {scope : Scope} {own : List (Str × Nat)} {pos : Pos} {wi : TI} {g : TG} {tt : TT} {tk tv : TE} (room : X.A.units + 64 < cLine) (calm : X.calm = true) (nd : X.N.Nodup) (pi : PI X tg iter wi) (ok : BlkOk X.N X.env.scope scope own)
    (pgs : ∀ (s : Shared) (H : Hp) (C : Addr) (cl : List (Str × Addr)) (fp : List Addr), PG (X.blk s H scope (compEnvC scope cl C X.env) fp) tg g) (pts : ∀ (s : Shared) (H : Hp) (C : Addr) (cl : List (Str × Addr)) (fp : List Addr), PTs (X.blk s H scope (compEnvC scope cl C X.env) fp) ifs tt)
    (pks : ∀ (s : Shared) (H : Hp) (C : Addr) (cl : List (Str × Addr)) (fp : List Addr), PE (X.blk s H scope (compEnvC scope cl C X.env) fp) kx tk) (pvs : ∀ (s : Shared) (H : Hp) (C : Addr) (cl : List (Str × Addr)) (fp : List Addr), PE (X.blk s H scope (compEnvC scope cl C X.env) fp) vx tv)
    (fold : ∀ x, foldedSetIterable iter X.env x = pure x := by intro _; rfl) : PE X (.DictComp kx vx [⟨tg, iter, ifs, 0⟩] scope pos) (tDcT wi g tt tk tv (own.map (·.2))) := by
  refine ⟨fun pins s0 σ H0 Q I0 rd => ?_⟩
  rw [arm_eval_DictComp]
  refine dcT_core room calm nd I0 pi ok pgs pts pks pvs fold rd fun D C t ns G J fin isNs ⟨f0, f1, f2, f3, f4, f5⟩ => ⟨ns, isNs, fun h2 sb2 => ⟨.ref D, G, J.turned (t' := t.toks) (fun b o ne z => (sb2.2 b ne).trans z) f0 f1 f3 f4 f5, rfl, fin⟩⟩
/-- name = {..} on one line, the name a local -/
theorem ps_setDcT {i : Nat} {y : Str} {py : Pos} {kx vx tg iter : Expr} {ifs : List Expr} {scope : Scope} {own : List (Str × Nat)} {pos spos : Pos} {wi : TI} {g : TG} {tt : TT} {tk tv : TE} (room : X.A.units + 64 < cLine) (calm : X.calm = true) (nd : X.N.Nodup) (at_y : X.N[i]? = some y) (loc : X.env.scope.names.lookup y = some .local)
    (sw : swapsWith (.DictComp kx vx [⟨tg, iter, ifs, 0⟩] scope pos) (some (.Name y py)) spos.line X.env = pure true) (pi : PI X tg iter wi) (ok : BlkOk X.N X.env.scope scope own)
    (pgs : ∀ (s : Shared) (H : Hp) (C : Addr) (cl : List (Str × Addr)) (fp : List Addr), PG (X.blk s H scope (compEnvC scope cl C X.env) fp) tg g) (pts : ∀ (s : Shared) (H : Hp) (C : Addr) (cl : List (Str × Addr)) (fp : List Addr), PTs (X.blk s H scope (compEnvC scope cl C X.env) fp) ifs tt)
    (pks : ∀ (s : Shared) (H : Hp) (C : Addr) (cl : List (Str × Addr)) (fp : List Addr), PE (X.blk s H scope (compEnvC scope cl C X.env) fp) kx tk) (pvs : ∀ (s : Shared) (H : Hp) (C : Addr) (cl : List (Str × Addr)) (fp : List Addr), PE (X.blk s H scope (compEnvC scope cl C X.env) fp) vx tv)
    (fold : ∀ x, foldedSetIterable iter X.env x = pure x := by intro _; rfl) : PS X (.Assign [.Name y py] (.DictComp kx vx [⟨tg, iter, ifs, 0⟩] scope pos) spos) (tAsg (tDcT wi g tt tk tv (own.map (·.2))) (gName i)) := by
  refine ⟨fun pins s0 σ H0 D I0 rd => ?_⟩
  rw [exec_Assign_Name_used _ _ _ _ sw]
  refine wpAny_bind (wpAny_standAt (wpAny_bind ?_))
  show wpAny _ X.A (do let _ ← comprehension (.DictComp kx vx [⟨tg, iter, ifs, 0⟩] scope pos) scope X.env (firstIterPos [⟨tg, iter, ifs, 0⟩] pos) newDict false (eval iter X.env) (some (assign (.Name y py) X.env))) _ _ s0
  have rd' : tDcT wi g tt tk tv (own.map (·.2)) σ H0 (fun x G => gName i x σ G D.nx) := rd
  refine wpAny_bind (thn (dcT_core (Qf := fun _ t => SP X pins D .next t) room calm nd I0 pi ok pgs pts pks pvs fold rd' fun L C t ns G J fin isNs fo => ?_) fun _ _ z => wpAny_pure (wpAny_pure z))
  obtain ⟨f0, f1, f2, f3, f4, f5⟩ := fo
  show wpAny _ _ (assign (.Name y py) X.env (.ref L)) _ _ _
  refine wpAny_assign_Name (store_ok2 (v := V.ref L) J nd at_y (.inl loc) rfl (fun t2 J2 ⟨c, sb, hc⟩ => ?_) (.inr loc))
  have ne : C ≠ c := hc.elim (fun z => z ▸ f1) fun z e => f4 y c z e.symm
  exact ⟨ns, isNs.sameBut sb ne, fun h3 sb3 => ⟨_, G, J2.turned (t' := t2.toks) (fun b o hb e => (sb3.2 b hb).trans e) f0 f1 f3 f4 f5, fin⟩⟩
theorem sw_dict {kx vx : Expr} {gs : List Comprehension} {scope : Scope} {pos py : Pos} {y : Str} {l : Nat} {env : Env} (fn : env.scope.kind = .function) (loc : env.scope.names.lookup y = some .local) (row : (py.line == pos.line) = true)
    (other : (scope.names.any fun (n, k) => n == y && (k == .local || k == .cell)) = false) : swapsWith (.DictComp kx vx gs scope pos) (some (.Name y py)) l env = pure true := by
  have k1 : env.kindOf y = some .local := loc
  have k2 : env.blockKind = .function := by
    unfold Env.blockKind
    rw [fn]
    rfl
  unfold swapsWith
  simp only [k1, k2, other, Expr.pos, row]
  rfl
end
end DcT

/-! sorted(d), the keys of d tuples of ints, of any number. -/
namespace SortR
open PySem PySem.Spec PyProof.Rows L2 PySem.W
theorem enc_alikeT (p q : Addr × List Int) : alike (PyData.tuple (p.2.map .int)) (PyData.tuple (q.2.map .int)) = true := by
  simp only [alike]
  exact alike_ints p.2 q.2
theorem le_tuples : dataLe false (fun b : Addr × List Int => PyData.tuple (b.2.map .int)) = rowLe := by
  have e : dataLe false (fun b : Addr × List Int => PyData.tuple (b.2.map .int)) = dataLe false (fun b : Addr × List Int => PyData.list (b.2.map .int)) := by
    funext p q
    simp only [dataLe_eq, dataLt_tuple, dataLt_list]
  rw [e]
  exact dataLe_rows (fun b : Addr × List Int => b.2)
/-- the keys' tuples, in the dict's sequence -/
theorem key_rows {H : Hp} : ∀ {kvs : List (List L2.Key × V)} {ks : List (List L2.Key × Addr × Value)} {bs : List (List Int)},
    Paired (fun (p : List L2.Key × V) (q : List L2.Key × Addr × Value) => p.1 = q.1 ∧ H q.2.1 = some (.tup (p.1.map kV)) ∧ RelV p.2 q.2.2) kvs ks → kvs.map (·.1) = bs.map (fun ns => ns.map Sum.inl) →
    ∃ as : List (Addr × List Int), as.map (·.1) = ks.map (·.2.1) ∧ as.map (·.2) = bs ∧ ∀ b ∈ as, H b.1 = some (.tup (b.2.map V.int))
  | _, _, [], .nil, _ => ⟨[], rfl, rfl, fun _ m => nomatch m⟩
  | _, _, n :: bs, .cons (a := p) (b := q) h t, e => by
    rw [List.map_cons, List.map_cons] at e
    obtain ⟨e1, e2⟩ := List.cons.inj e
    obtain ⟨as, f1, f2, f3⟩ := key_rows t e2
    refine ⟨(q.2.1, n) :: as, by rw [List.map_cons, List.map_cons, f1], by rw [List.map_cons, f2], fun b m => ?_⟩
    rcases List.mem_cons.mp m with z | z
    · rw [z]
      have g := h.2.1
      rw [e1, List.map_map] at g
      exact g
    · exact f3 b z
  | _, _, [], .cons _ _, e => by cases e
  | _, _, _ :: _, .nil, e => by cases e
section
variable {X : Cx}
theorem call_sortedDT (hu : X.A.units + 64 < cLine) (calm : X.calm = true) : CallR X (.builtin "sorted") (fun xs H Q => ∃ (d : Addr) (kvs : List (List L2.Key × V)) (bs : List (List Int)), xs = [V.ref d] ∧ H d = some (.dT kvs) ∧ kvs.map (·.1) = bs.map (fun ns => ns.map Sum.inl) ∧ (∀ k ∈ bs, k ≠ []) ∧
    ∀ as : List (Addr × List Int), as.map (·.2) = bs → (∀ b ∈ as, H b.1 = some (.tup (b.2.map V.int))) → ∀ p, H p = none → Q (.ref p) (upd H p (.lst ((as.mergeSort rowLe).map fun b => V.ref b.1)))) := by
  intro pins s σ H xs us Q I r h
  obtain ⟨d, kvs, bs, rfl, hd, hk, hne, q⟩ := h
  obtain ⟨u, rfl, ru⟩ := vals1 r
  obtain rfl : u = Value.ref d := ru
  obtain ⟨z, hs, ks, pr, o, es, ep, ho, hx, hdt, he, hn⟩ := (show ObjOk X.prog X.w H s.heap d (.dT kvs) from I.hok d _ hd)
  obtain ⟨as, a1, a2, a3⟩ := key_rows pr hk
  have l0 : es.size = ks.length := size_of_entries he
  have l1 : kvs.length = ks.length := Paired.length pr
  have l2 : as.length = ks.length := by rw [← List.length_map (f := (·.1)), a1, List.length_map]
  have fits : ks.length ≤ sizeLine := l1 ▸ z
  refine Calls.call_function_entry PyProof.Rows.kind_sorted PyProof.Rows.plain_sorted PyProof.Rows.entry_sorted (PyProof.Rows.args_sorted1 _) ?_
  unfold Builtin.«sorted»
  refine wpAny_bind (m := checkCount "sorted" 1 1 _) (wpAny_pure (wpAny_bind (kdu_collect (A := X.A.in1) (kdl_raw hs hx hdt) (I.ok.hd calm) ho (l0 ▸ fits) fun h1 tk acc keep it => ?_)))
  have ea : acc.toList = as.map fun b => Value.ref b.1 := by
    have e1 : acc.toList = ks.map fun x => Value.ref x.2.1 := by
      have len : acc.toList.length = ks.length := by rw [Array.length_toList, it.1, l0]
      refine List.ext_getElem (by rw [List.length_map, len]) fun j j1 j2 => ?_
      obtain ⟨en, hen, hv⟩ := it.2 j acc.toList[j] (by rw [← Array.getElem?_toList, List.getElem?_eq_getElem j1])
      have at_j := entry_at he j
      rw [hen, List.getElem?_eq_getElem (len ▸ j1)] at at_j
      have e2 : en = entryOfKey (tupleKind (mixKind X.prog X.w)) (ks[j]'(len ▸ j1)) := Option.some.inj at_j
      rw [hv, e2, List.getElem_map]
      rfl
    rw [e1]
    have e3 := congrArg (List.map Value.ref) a1
    rw [List.map_map, List.map_map] at e3
    exact e3.symm
  have len : acc.toList.length = as.length := by rw [ea, List.length_map]
  have I1 : Inv X pins σ H { s with heap := h1, toks := tk } := I.kept keep
  refine wpAny_bind (wpAny_newList ?_ (by rw [len, l2]; exact fits))
  have at_p : (h1.push (seqObj "list" acc.toList.toArray 0)).get? h1.objs.size = some (seqObj "list" acc.toList.toArray 0) := Heap.get?_push_size _ rfl
  have old : ∀ b u, h1.get? b = some u → b ≠ h1.objs.size ∧ (h1.push (seqObj "list" acc.toList.toArray 0)).get? b = some u := fun b u e => ⟨Nat.ne_of_lt (Heap.lt_size e), Heap.get?_push_of_some _ e⟩
  have each : EachIs (fun v (b : Addr × List Int) => v = Value.ref b.1 ∧ True) acc.toList as := by
    have vr : Vals (as.map fun b => V.ref b.1) acc.toList := by
      rw [ea]
      clear ea a1 a2 a3 l2 len q it
      induction as with
      | nil => exact .nil
      | cons b as ih => exact .cons rfl ih
    exact vals_each (h := s.heap) (K := X.K) (H := H) (P := fun _ => True) vr fun _ _ => trivial
  obtain ⟨hS, ehS⟩ : ∃ z, z = sortingHeap (h1.push (seqObj "list" acc.toList.toArray 0)) h1.objs.size acc.toList := ⟨_, rfl⟩
  have reads : EachIs (fun v (b : Addr × List Int) => ∃ rs, Reads hS v (PyData.tuple (b.2.map .int)) rs) acc.toList as := by
    have each2 : EachIs (fun v (b : Addr × List Int) => v = Value.ref b.1 ∧ H b.1 = some (.tup (b.2.map V.int))) acc.toList as := by
      have vr : Vals (as.map fun b => V.ref b.1) acc.toList := each_back each
      exact vals_each (h := s.heap) (K := X.K) (H := H) vr a3
    refine each_mono each2 fun v b ⟨ev, hb⟩ => ?_
    rw [ev]
    obtain ⟨rs, rr⟩ := Dp.reads I1 (PyData.tuple (b.2.map .int)) (.ref b.1) (.ref b.1) (.tup (SqT.of hb) (rows_dp b.2)) rfl
    refine ⟨rs, PyProof.Rows.Reads.keeps (fun c u e => ?_) rr⟩
    rw [ehS]
    obtain ⟨n1, n2⟩ := old c u e
    exact sortingHeap_old n1 n2
  have alikeAll_ : AllAlike (as.map fun b => PyData.tuple (b.2.map .int)) := AllAlike.of enc_alikeT
  have sortable : Sortable (as.map fun b => PyData.tuple (b.2.map .int)) := .inl fun dd hm => by
    obtain ⟨b, hb, rfl⟩ := List.mem_map.mp hm
    have mem : b.2 ∈ bs := a2 ▸ List.mem_map.mpr ⟨b, hb, rfl⟩
    cases e : b.2 with
    | nil => exact absurd e (hne _ mem)
    | cons x l => exact ⟨_, _, rfl⟩
  have shallow : ∀ dd ∈ as.map (fun b => PyData.tuple (b.2.map .int)), dd.depth = 1 := fun dd hm => by
    obtain ⟨b, _, rfl⟩ := List.mem_map.mp hm
    simp only [PyData.depth, depth_ints]
  show wpAny _ _ _ _ _ { s with heap := h1.push (seqObj "list" acc.toList.toArray 0), toks := tk }
  have sorts : ∀ Ar : Around, Ar.units ≤ X.A.units + 8 → SortsAt X.prog X.w Ar { s with heap := hS, toks := tk } (dataKind hS (as.map fun b => PyData.tuple (b.2.map .int))) acc.toList := fun Ar hA =>
    SortsAt.data (s := { s with heap := hS, toks := tk }) (each_map (R := fun v dd => ∃ rs, Reads hS v dd rs) (fun b : Addr × List Int => PyData.tuple (b.2.map .int)) reads) alikeAll_ sortable fun dd hm => by rw [shallow dd hm]; omega
  rw [ehS] at sorts reads
  have each3 := sortVals_data (R := fun v (b : Addr × List Int) => v = Value.ref b.1 ∧ True) (enc := fun b : Addr × List Int => PyData.tuple (b.2.map .int)) false each reads alikeAll_
  rw [le_tuples] at each3
  have back := each_back each3
  have short : ((as.mergeSort rowLe).map fun b => V.ref b.1).length ≤ sizeLine := by
    rw [List.length_map, List.length_mergeSort, l2]
    exact fits
  refine wpAny_bind (wpAny_holding (wpAny_call_entry PyProof.Rows.slot_list_sort ⟨_, at_p, rfl⟩ PyProof.Rows.entry_list_sort
    (list_sort_vals (s := { s with heap := h1.push (seqObj "list" acc.toList.toArray 0), toks := tk }) at_p (sorts _ (by show X.A.units + 1 + 1 ≤ X.A.units + 8; omega)) (by rw [len, l2]; exact fits) ⟨_, rfl, ?_⟩) (PyProof.Rows.args_list_sort _)))
  obtain ⟨n2, at2⟩ := PyProof.Rows.sortedHeap_at (vs := acc.toList) (out := (sortVals (dataKind (sortingHeap (h1.push (seqObj "list" acc.toList.toArray 0)) h1.objs.size acc.toList) (as.map fun b => PyData.tuple (b.2.map .int))) false acc.toList acc.toList).toArray) at_p
  refine wpAny_pure ⟨_, rfl, .ref h1.objs.size, upd H h1.objs.size (.lst ((as.mergeSort rowLe).map fun b => V.ref b.1)), I1.laid (t' := tk) (fun b u e => ?_) (Nat.le_refl _) ⟨short, _, n2, back, at2⟩, rfl, q as a2 a3 _ (I1.hok.fresh (Nat.le_refl _))⟩
  obtain ⟨n1, g⟩ := old b u e
  rw [PyProof.Rows.sortedHeap_old n1 (Heap.lt_size g)]
  exact g
end
end SortR

/-! Comprehensions with a test, and dict comprehensions, by the value of each turn. -/
namespace LcM
open PySem PySem.Spec PyProof.Rows L2
/-- what is kept -/
def kept (p : Nat → Bool) (F : Nat → V) (n : Nat) : List V := ((List.range n).filter p).map F
theorem kept_yes {p : Nat → Bool} {F : Nat → V} {n : Nat} (h : p n = true) : kept p F (n + 1) = kept p F n ++ [F n] := by
  unfold kept
  rw [List.range_succ, List.filter_append, List.map_append, List.filter_cons_of_pos h]
  rfl
theorem kept_no {p : Nat → Bool} {F : Nat → V} {n : Nat} (h : p n = false) : kept p F (n + 1) = kept p F n := by
  unfold kept
  rw [List.range_succ, List.filter_append, List.map_append, List.filter_cons_of_neg (by rw [h]; exact Bool.false_ne_true)]
  exact List.append_nil _
theorem kept_le (p : Nat → Bool) (F : Nat → V) (n : Nat) : (kept p F n).length ≤ n := by
  unfold kept
  rw [List.length_map]
  exact Nat.le_trans (List.length_filter_le _ _) (Nat.le_of_eq List.length_range)
section
variable {K : PySem.W.Frag} {a : Addr} {xs : List V} {g : TG} {tt : TT} {te tk tv : TE} {vs : List Nat} {σ : L2.St} {H0 : Hp} {D : Addr} {Qd : Hp → Prop}
theorem lc_listT (p : Nat → Bool) (F : Nat → V) (hD : H0 D = none) (hx : SqL K H0 a xs) (small : xs.length ≤ 1000000)
    (turn : ∀ (i : Nat) (x : V) (H : Hp) (Ry : V → Hp → Prop) (Rn : Hp → Prop), xs[i]? = some x → Grows H0 H → (p i = true → ∀ H4, Grows H H4 → Ry (F i) H4) → (p i = false → ∀ H4, Grows H H4 → Rn H4) →
      g x (wipe σ vs) H fun σ2 H2 => wipe σ2 vs = wipe σ vs ∧ tt σ2 H2 fun t H3 => if t = true then te σ2 H3 Ry else Rn H3)
    (done : ∀ H, Grows H0 H → H D = some (.lst (kept p F xs.length)) → Qd H) :
    ∃ W : Nat → Nat → Hp → Prop, (∃ m, W 0 m (upd H0 D (.lst []))) ∧ ∀ i m H, W i m H →
      ((Itl K a).stop i H ∧ Qd H) ∨ ((Itl K a).go i H ∧ ∃ Nx : Hp → Prop, (∀ H', Nx H' → ∃ m', m' < m ∧ W (i + 1) m' H') ∧ ∀ x H', (Itl K a).yld i H x H' → g x (wipe σ vs) H' fun σ2 H2 => wipe σ2 vs = wipe σ vs ∧ tt σ2 H2 fun b H3 =>
        if b = true then te σ2 H3 fun y H4 => ∃ acc, H4 D = some (.lst acc) ∧ acc.length < sizeLine ∧ Nx (upd H4 D (.lst (acc ++ [y]))) else Nx H3) := by
  refine lc_list (fun i H => Grows H0 H ∧ H D = some (.lst (kept p F i))) ⟨Grows.new hD, upd_same⟩ (fun i H _ m => m.1.seq hx) (fun i x H ex m => ?_) fun H m => done H m.1 m.2
  have il := Nat.lt_of_lt_of_le (List.getElem?_eq_some_iff.mp ex).1 small
  refine turn i x H _ _ ex m.1 (fun hp H4 s => ⟨_, s _ _ m.2, ?_, fun b o e => ?_, ?_⟩) fun hp H4 s => ⟨m.1.trans s, ?_⟩
  · exact Nat.lt_of_le_of_lt (kept_le p F i) (Nat.lt_trans il (by decide))
  · rw [upd_ne (ne_of_none e hD)]
    exact s _ _ (m.1 _ _ e)
  · rw [upd_same, kept_yes hp]
  · rw [kept_no hp]
    exact s _ _ m.2
/-- a dict's entries, laid one after another -/
def laid {κ : Type} [DecidableEq κ] (p : Nat → Bool) (G : Nat → κ) (F : Nat → V) : Nat → List (κ × V)
  | 0 => []
  | n + 1 => if p n = true then putK (laid p G F n) (G n) (F n) else laid p G F n
theorem laid_le {κ : Type} [DecidableEq κ] (p : Nat → Bool) (G : Nat → κ) (F : Nat → V) : ∀ n, (laid p G F n).length ≤ n
  | 0 => Nat.le_refl _
  | n + 1 => by
    have ih := laid_le p G F n
    unfold laid
    by_cases h : p n = true
    · rw [if_pos h]
      exact Nat.le_trans (length_putK _ _ _) (Nat.succ_le_succ ih)
    · rw [if_neg h]
      exact Nat.le_succ_of_le ih
/-- over enumerate, keys ints or texts, no test -/
theorem dc_enumM (G : Nat → L2.Key) (F : Nat → V) (hD : H0 D = none) (hx : SqL K H0 a xs) (small : xs.length ≤ 1000000)
    (turn : ∀ (i : Nat) (x : V) (T : Addr) (H : Hp) (R : V → Hp → V → Hp → Prop), xs[i]? = some x → Grows H0 H → H T = none → (∀ H4 H5, Grows (upd H T (.tup [.int (i : Nat), x])) H4 → Grows H4 H5 → R (kV (G i)) H4 (F i) H5) →
      g (.ref T) (wipe σ vs) (upd H T (.tup [.int (i : Nat), x])) fun σ2 H2 => wipe σ2 vs = wipe σ vs ∧ tk σ2 H2 fun y H4 => tv σ2 H4 fun z H5 => R y H4 z H5)
    (done : ∀ H, Grows H0 H → H D = some (.dK (laid (fun _ => true) G F xs.length)) → Qd H) :
    ∃ W : Nat → Nat → Hp → Prop, (∃ m, W 0 m (upd H0 D (.dK []))) ∧ ∀ i m H, W i m H →
      ((Ite K a).stop i H ∧ Qd H) ∨ ((Ite K a).go i H ∧ ∃ Nx : Hp → Prop, (∀ H', Nx H' → ∃ m', m' < m ∧ W (i + 1) m' H') ∧ ∀ x H', (Ite K a).yld i H x H' → g x (wipe σ vs) H' fun σ2 H2 => wipe σ2 vs = wipe σ vs ∧ tYes σ2 H2 fun b H3 =>
        if b = true then tk σ2 H3 fun y H4 => tv σ2 H4 fun z H5 => ∃ kvs k, y = kV k ∧ H5 D = some (.dK kvs) ∧ kvs.length < sizeLine ∧ Nx (upd H5 D (.dK (putK kvs k z))) else Nx H3) := by
  let inv : Nat → Hp → Prop := fun i H => Grows H0 H ∧ H D = some (.dK (laid (fun _ => true) G F i))
  refine ⟨fun i m H => m = xs.length - i ∧ i ≤ xs.length ∧ inv i H, ⟨_, rfl, Nat.zero_le _, Grows.new hD, upd_same⟩, ?_⟩
  rintro i m H ⟨rfl, hi, pv⟩
  rcases Nat.lt_or_ge i xs.length with lt | ge
  · have ex : xs[i]? = some xs[i] := List.getElem?_eq_getElem lt
    refine .inr ⟨⟨xs, _, pv.1.seq hx, ex⟩, inv (i + 1), fun H' p' => ⟨xs.length - (i + 1), by omega, rfl, lt, p'⟩, fun v H' y => ?_⟩
    obtain ⟨T, x, rfl, hT, rfl, f1⟩ := y
    have e0 : (fun (σ2 : L2.St) (H2 : Hp) => wipe σ2 vs = wipe σ vs ∧ tYes σ2 H2 fun b H3 => if b = true then tk σ2 H3 fun y H4 => tv σ2 H4 fun z H5 => ∃ kvs k, y = kV k ∧ H5 D = some (.dK kvs) ∧ kvs.length < sizeLine ∧ inv (i + 1) (upd H5 D (.dK (putK kvs k z))) else inv (i + 1) H3) =
        fun σ2 H2 => wipe σ2 vs = wipe σ vs ∧ tk σ2 H2 fun y H4 => tv σ2 H4 fun z H5 => ∃ kvs k, y = kV k ∧ H5 D = some (.dK kvs) ∧ kvs.length < sizeLine ∧ inv (i + 1) (upd H5 D (.dK (putK kvs k z))) := by
      funext σ2 H2
      unfold tYes
      dsimp only
      rw [if_pos rfl]
    rw [e0]
    refine turn i x T H (fun y _ z H5 => ∃ kvs k, y = kV k ∧ H5 D = some (.dK kvs) ∧ kvs.length < sizeLine ∧ inv (i + 1) (upd H5 D (.dK (putK kvs k z)))) (f1 xs (pv.1.seq hx)) pv.1 hT fun H4 H5 s4 s5 => ⟨_, G i, rfl, s5 _ _ (s4 _ _ (Grows.new hT _ _ pv.2)), ?_, fun b o e => ?_, ?_⟩
    · exact Nat.lt_of_le_of_lt (laid_le _ G F i) (Nat.lt_of_lt_of_le lt (Nat.le_trans small (by decide)))
    · rw [upd_ne (ne_of_none e hD)]
      exact s5 _ _ (s4 _ _ (Grows.new hT _ _ (pv.1 _ _ e)))
    · rw [upd_same]
      rfl
  · have e : i = xs.length := by omega
    subst e
    exact .inl ⟨⟨xs, pv.1.seq hx, Nat.le_refl _⟩, done H pv.1 pv.2⟩
/-- over a list, the keys tuples, with a test -/
theorem dc_listTT (p : Nat → Bool) (G : Nat → List L2.Key) (F : Nat → V) (hD : H0 D = none) (hx : SqL K H0 a xs) (small : xs.length ≤ 1000000)
    (turn : ∀ (i : Nat) (x : V) (H : Hp) (R : V → V → Hp → Prop) (Rn : Hp → Prop), xs[i]? = some x → Grows H0 H → (p i = true → ∀ b H5, Grows H H5 → H5 b = some (.tup ((G i).map kV)) → R (.ref b) (F i) H5) → (p i = false → ∀ H4, Grows H H4 → Rn H4) →
      g x (wipe σ vs) H fun σ2 H2 => wipe σ2 vs = wipe σ vs ∧ tt σ2 H2 fun t H3 => if t = true then tk σ2 H3 fun y H4 => tv σ2 H4 fun z H5 => R y z H5 else Rn H3)
    (done : ∀ H, Grows H0 H → H D = some (.dT (laid p G F xs.length)) → Qd H) :
    ∃ W : Nat → Nat → Hp → Prop, (∃ m, W 0 m (upd H0 D (.dT []))) ∧ ∀ i m H, W i m H →
      ((Itl K a).stop i H ∧ Qd H) ∨ ((Itl K a).go i H ∧ ∃ Nx : Hp → Prop, (∀ H', Nx H' → ∃ m', m' < m ∧ W (i + 1) m' H') ∧ ∀ x H', (Itl K a).yld i H x H' → g x (wipe σ vs) H' fun σ2 H2 => wipe σ2 vs = wipe σ vs ∧ tt σ2 H2 fun t H3 =>
        if t = true then tk σ2 H3 fun y H4 => tv σ2 H4 fun z H5 => ∃ b kvs k, y = .ref b ∧ H5 b = some (.tup (k.map kV)) ∧ H5 D = some (.dT kvs) ∧ kvs.length < sizeLine ∧ Nx (upd H5 D (.dT (putK kvs k z))) else Nx H3) := by
  let inv : Nat → Hp → Prop := fun i H => Grows H0 H ∧ H D = some (.dT (laid p G F i))
  refine ⟨fun i m H => m = xs.length - i ∧ i ≤ xs.length ∧ inv i H, ⟨_, rfl, Nat.zero_le _, Grows.new hD, upd_same⟩, ?_⟩
  rintro i m H ⟨rfl, hi, pv⟩
  rcases Nat.lt_or_ge i xs.length with lt | ge
  · have ex : xs[i]? = some xs[i] := List.getElem?_eq_getElem lt
    refine .inr ⟨⟨xs, _, pv.1.seq hx, ex⟩, inv (i + 1), fun H' p' => ⟨xs.length - (i + 1), by omega, rfl, lt, p'⟩, fun v H' y => ?_⟩
    obtain ⟨rfl, y⟩ := y
    refine turn i v _ (fun y z H5 => ∃ b kvs k, y = .ref b ∧ H5 b = some (.tup (k.map kV)) ∧ H5 D = some (.dT kvs) ∧ kvs.length < sizeLine ∧ inv (i + 1) (upd H5 D (.dT (putK kvs k z)))) (inv (i + 1)) (y xs (pv.1.seq hx)) pv.1 (fun hp b H5 s5 hb => ⟨b, _, G i, rfl, hb, s5 _ _ pv.2, ?_, fun c o e => ?_, ?_⟩) fun hp H4 s4 => ⟨pv.1.trans s4, ?_⟩
    · exact Nat.lt_of_le_of_lt (laid_le _ G F i) (Nat.lt_of_lt_of_le lt (Nat.le_trans small (by decide)))
    · rw [upd_ne (ne_of_none e hD)]
      exact s5 _ _ (pv.1 _ _ e)
    · rw [upd_same]
      show _ = some (HO.dT (if p i = true then _ else _))
      rw [if_pos hp]
    · rw [s4 _ _ pv.2]
      show _ = some (HO.dT (if p i = true then _ else _))
      rw [if_neg (by rw [hp]; exact Bool.false_ne_true)]
  · have e : i = xs.length := by omega
    subst e
    exact .inl ⟨⟨xs, pv.1.seq hx, Nat.le_refl _⟩, done H pv.1 pv.2⟩
end
end LcM

/-! A comprehension that makes new lists of ints. -/
namespace LcM
open PySem PySem.Spec PyProof.Rows L2
/-- new lists of ints -/
structure Nw (H0 H : Hp) (cs : List (Addr × List Int)) : Prop where
  lists : ∀ c ∈ cs, H c.1 = some (.lst (c.2.map V.int))
  new : ∀ c ∈ cs, H0 c.1 = none
  nodup : (cs.map (·.1)).Nodup
theorem Nw.keep {H0 H H' : Hp} {cs : List (Addr × List Int)} (n : Nw H0 H cs) (s : Grows H H') : Nw H0 H' cs := ⟨fun c m => s _ _ (n.lists c m), n.new, n.nodup⟩
section
variable {K : PySem.W.Frag} {a : Addr} {xs : List V} {g : TG} {te : TE} {vs : List Nat} {σ : L2.St} {H0 : Hp} {D : Addr} {Qd : Hp → Prop}
theorem lc_listR (R : Nat → List Int) (hD : H0 D = none) (hx : SqL K H0 a xs) (small : xs.length ≤ 1000000)
    (turn : ∀ (i : Nat) (x : V) (H : Hp) (Rk : V → Hp → Prop), xs[i]? = some x → Grows H0 H → (∀ q H4, Grows H H4 → H q = none → H4 q = some (.lst ((R i).map V.int)) → Rk (.ref q) H4) → g x (wipe σ vs) H fun σ2 H2 => wipe σ2 vs = wipe σ vs ∧ te σ2 H2 Rk)
    (done : ∀ H cs, Grows H0 H → cs.map (·.2) = (List.range xs.length).map R → Nw H0 H cs → (∀ c ∈ cs, c.1 ≠ D) → H D = some (.lst (cs.map fun c => V.ref c.1)) → Qd H) :
    ∃ W : Nat → Nat → Hp → Prop, (∃ m, W 0 m (upd H0 D (.lst []))) ∧ ∀ i m H, W i m H →
      ((Itl K a).stop i H ∧ Qd H) ∨ ((Itl K a).go i H ∧ ∃ Nx : Hp → Prop, (∀ H', Nx H' → ∃ m', m' < m ∧ W (i + 1) m' H') ∧ ∀ x H', (Itl K a).yld i H x H' → g x (wipe σ vs) H' fun σ2 H2 => wipe σ2 vs = wipe σ vs ∧ tYes σ2 H2 fun b H3 =>
        if b = true then te σ2 H3 fun y H4 => ∃ acc, H4 D = some (.lst acc) ∧ acc.length < sizeLine ∧ Nx (upd H4 D (.lst (acc ++ [y]))) else Nx H3) := by
  refine lc_list (fun i H => ∃ cs : List (Addr × List Int), Grows H0 H ∧ cs.map (·.2) = (List.range i).map R ∧ Nw H0 H cs ∧ (∀ c ∈ cs, c.1 ≠ D) ∧ H D = some (.lst (cs.map fun c => V.ref c.1)))
    ⟨[], Grows.new hD, rfl, ⟨(fun _ m => nomatch m), (fun _ m => nomatch m), List.Pairwise.nil⟩, (fun _ m => nomatch m), upd_same⟩ (fun i H _ ⟨_, s, _⟩ => s.seq hx) (fun i x H ex ⟨cs, s, e, n, apart, top⟩ => ?_) fun H ⟨cs, s, e, n, apart, top⟩ => done H cs s e n apart top
  rw [yes_eq (A := fun σ2 => wipe σ2 vs = wipe σ vs)]
  refine turn i x H _ ex s fun q H4 s4 hq at_q => ?_
  have il := Nat.lt_of_lt_of_le (List.getElem?_eq_some_iff.mp ex).1 small
  have len : cs.length = i := by
    have := congrArg List.length e
    rw [List.length_map, List.length_map, List.length_range] at this
    exact this
  have qD : q ≠ D := fun z => by
    rw [z, top] at hq
    cases hq
  have all : Grows H0 (upd H4 D (.lst (cs.map (fun c => V.ref c.1) ++ [.ref q]))) := fun b o eb => by
    rw [upd_ne (ne_of_none eb hD)]
    exact s4 _ _ (s _ _ eb)
  have q0 : H0 q = none := by
    rcases Option.eq_none_or_eq_some (H0 q) with z | ⟨o, z⟩
    · exact z
    · have := s _ _ z
      rw [hq] at this
      cases this
  refine ⟨_, s4 _ _ top, ?_, cs ++ [(q, R i)], all, ?_, ⟨?_, ?_, ?_⟩, ?_, ?_⟩
  · rw [List.length_map, len]
    exact Nat.lt_trans il (by decide)
  · rw [List.map_append, e, List.range_succ, List.map_append]
    rfl
  · intro c m
    rcases List.mem_append.mp m with m | m
    · rw [upd_ne (apart c m)]
      exact s4 _ _ (n.lists c m)
    · rw [List.mem_singleton.mp m, upd_ne qD]
      exact at_q
  · intro c m
    rcases List.mem_append.mp m with m | m
    · exact n.new c m
    · rw [List.mem_singleton.mp m]
      exact q0
  · rw [List.map_append, List.nodup_append]
    refine ⟨n.nodup, List.nodup_cons.mpr ⟨(fun z => nomatch z), List.Pairwise.nil⟩, fun b mb d md => ?_⟩
    obtain ⟨c, mc, rfl⟩ := List.mem_map.mp mb
    have ed : d = q := by simpa using md
    rw [ed]
    intro z
    have := n.lists c mc
    rw [z, hq] at this
    cases this
  · intro c m
    rcases List.mem_append.mp m with m | m
    · exact apart c m
    · rw [List.mem_singleton.mp m]
      exact qD
  · rw [upd_same, List.map_append]
    rfl
end
end LcM

/-! Rules with their readings named by K, for use within comprehensions. -/
namespace LcM
open PySem PySem.Spec PyProof.Rows L2
def rLenS (K : PySem.W.Frag) : List V → Hp → VK → Prop := fun xs H Q => ∃ p ys, xs = [.ref p] ∧ (SqL K H p ys ∨ SqT K H p ys) ∧ Q (.int ys.length) H
def rLst (K : PySem.W.Frag) : List V → Hp → VK → Prop := fun xs H Q => ∃ p ys, xs = [.ref p] ∧ (SqL K H p ys ∨ SqT K H p ys) ∧ ∀ l, H l = none → Q (.ref l) (upd H l (.lst ys))
def rTup (K : PySem.W.Frag) : List V → Hp → VK → Prop := fun xs H Q => ∃ p ys, xs = [.ref p] ∧ SqL K H p ys ∧ ∀ t, H t = none → Q (.ref t) (upd H t (.tup ys))
section
variable {X : Cx}
theorem call_lenK : CallR X (.builtin "len") (rLenS X.K) := fun pins s σ H xs us Q I r ⟨p, ys, e, h, q⟩ => call_len_seq pins s σ H xs us Q I r ⟨p, ys, e, h, q⟩
theorem call_lstK : CallR X (.type "list") (rLst X.K) := fun pins s σ H xs us Q I r ⟨p, ys, e, h, q⟩ => call_list_of pins s σ H xs us Q I r ⟨p, ys, e, h, q⟩
theorem call_tupK : CallR X (.type "tuple") (rTup X.K) := fun pins s σ H xs us Q I r ⟨p, ys, e, h, q⟩ => call_tuple_of pins s σ H xs us Q I r ⟨p, ys, e, .inl ⟨h, q⟩⟩
end
end LcM

/-! What cut gives, on lists of lists of ints. -/
namespace LcM
open PySem PySem.Spec PyProof.Rows L2 SortR
/-- the last place of x among the first n -/
def plcN (ns : List Int) (x : Int) : Nat → Option Nat
  | 0 => none
  | n + 1 => if ns.getD n 0 = x then some n else plcN ns x n
def plc (ns : List Int) (x : Int) : Option Nat := plcN ns x ns.length
theorem valV_laid (ns : List Int) (x : Int) : ∀ n, valV (laid (fun _ => true) (fun i => (Sum.inl (ns.getD i 0) : L2.Key)) (fun i => V.int (i : Nat)) n) (Sum.inl x) = (plcN ns x n).map fun j => V.int (j : Nat)
  | 0 => rfl
  | n + 1 => by
    have ih := valV_laid ns x n
    unfold laid plcN
    rw [if_pos rfl, valV_put]
    by_cases e : ns.getD n 0 = x
    · rw [if_pos e, if_pos (by rw [e])]
      rfl
    · rw [if_neg e, if_neg (fun z => e (Sum.inl.inj z).symm)]
      exact ih
/-- a group's persons who stay, by their places -/
def meet (ns r : List Int) : List Int := ((List.range r.length).filter fun i => (plc ns (r.getD i 0)).isSome).map fun i => (((plc ns (r.getD i 0)).getD 0 : Nat) : Int)
def two (m : List Int) : Bool := decide (2 ≤ (m.length : Int))
/-- unlike rows, in the sequence in which they come first -/
def firsts (p : Nat → Bool) (M : Nat → List Int) : Nat → List (List Int)
  | 0 => []
  | n + 1 => if p n = true then (if M n ∈ firsts p M n then firsts p M n else firsts p M n ++ [M n]) else firsts p M n
theorem put_keys {κ : Type} [DecidableEq κ] (kvs : List (κ × V)) (k : κ) (v : V) : (putK kvs k v).map (·.1) = if k ∈ kvs.map (·.1) then kvs.map (·.1) else kvs.map (·.1) ++ [k] := by
  unfold putK
  by_cases h : (kvs.any fun kv => decide (kv.1 = k)) = true
  · rw [if_pos h]
    obtain ⟨kv, hm, e⟩ := List.any_eq_true.mp h
    rw [if_pos (List.mem_map.mpr ⟨kv, hm, of_decide_eq_true e⟩), List.map_map]
    refine List.map_congr_left fun q _ => ?_
    show (if q.1 = k then (q.1, v) else q).1 = q.1
    split <;> rfl
  · rw [if_neg h, if_neg fun z => ?_, List.map_append]
    · rfl
    · obtain ⟨kv, hm, e⟩ := List.mem_map.mp z
      exact h (List.any_eq_true.mpr ⟨kv, hm, decide_eq_true e⟩)
theorem inl_inj {m n : List Int} (h : (m.map Sum.inl : List L2.Key) = n.map Sum.inl) : m = n := by
  induction m generalizing n with
  | nil =>
    cases n with
    | nil => rfl
    | cons _ _ => cases h
  | cons x m ih =>
    cases n with
    | nil => cases h
    | cons y n =>
      rw [List.map_cons, List.map_cons] at h
      obtain ⟨h1, h2⟩ := List.cons.inj h
      rw [Sum.inl.inj h1, ih h2]
theorem keys_laid (p : Nat → Bool) (M : Nat → List Int) (F : Nat → V) : ∀ n, (laid p (fun i => ((M i).map Sum.inl : List L2.Key)) F n).map (·.1) = (firsts p M n).map fun m => m.map Sum.inl
  | 0 => rfl
  | n + 1 => by
    have ih := keys_laid p M F n
    unfold laid firsts
    by_cases h : p n = true
    · rw [if_pos h, if_pos h, put_keys, ih]
      by_cases m : M n ∈ firsts p M n
      · rw [if_pos m, if_pos (List.mem_map.mpr ⟨_, m, rfl⟩)]
      · rw [if_neg m, if_neg fun z => ?_, List.map_append]
        · rfl
        · obtain ⟨r, hr, e⟩ := List.mem_map.mp z
          rw [inl_inj e] at hr
          exact m hr
    · rw [if_neg h, if_neg h]
      exact ih
theorem firsts_of (p : Nat → Bool) (M : Nat → List Int) : ∀ n, ∀ r ∈ firsts p M n, ∃ i, i < n ∧ p i = true ∧ r = M i
  | 0, _, h => nomatch h
  | n + 1, r, h => by
    have ih := firsts_of p M n r
    unfold firsts at h
    have old : r ∈ firsts p M n → ∃ i, i < n + 1 ∧ p i = true ∧ r = M i := fun z => let ⟨i, a, b, c⟩ := ih z; ⟨i, Nat.lt_succ_of_lt a, b, c⟩
    by_cases hp : p n = true
    · rw [if_pos hp] at h
      split at h
      · exact old h
      · rcases List.mem_append.mp h with z | z
        · exact old z
        · exact ⟨n, Nat.lt_succ_self n, hp, List.mem_singleton.mp z⟩
    · rw [if_neg hp] at h
      exact old h
theorem firsts_le (p : Nat → Bool) (M : Nat → List Int) : ∀ n, (firsts p M n).length ≤ n
  | 0 => Nat.le_refl _
  | n + 1 => by
    have ih := firsts_le p M n
    unfold firsts
    split
    · split
      · omega
      · rw [List.length_append, List.length_singleton]
        omega
    · omega
def cutR (rs : List (List Int)) (ns : List Int) : List (List Int) := (firsts (fun i => two (meet ns (rs.getD i []))) (fun i => meet ns (rs.getD i [])) rs.length).mergeSort fun p q => decide (p ≤ q)
theorem sort_rows (as : List (Addr × List Int)) : (as.mergeSort rowLe).map (·.2) = (as.map (·.2)).mergeSort fun p q => decide (p ≤ q) := List.map_mergeSort fun _ _ _ _ => rfl
end LcM

/-! Lists of ints and lists of such, as data. -/
namespace LcM
open PySem PySem.Spec PyProof.Rows L2 SortR
theorem eqvAll_ints : ∀ ns ms : List Int, PyData.eqvAll (ns.map .int) (ms.map .int) = decide (ns = ms)
  | [], [] => by
    simp only [List.map_nil, PyData.eqvAll]
    exact (decide_eq_true (rfl : ([] : List Int) = [])).symm
  | x :: ns, y :: ms => by
    rw [List.map_cons, List.map_cons, PyData.eqvAll, eqvAll_ints ns ms, PyData.eqv]
    by_cases e : x = y
    · rw [e, beq_self_eq_true, Bool.true_and]
      by_cases e2 : ns = ms
      · rw [decide_eq_true e2, decide_eq_true (by rw [e2])]
      · rw [decide_eq_false e2, decide_eq_false fun z => e2 (List.cons.inj z).2]
    · rw [beq_eq_false_iff_ne.mpr e, Bool.false_and, decide_eq_false fun z => e (List.cons.inj z).1]
  | [], _ :: _ => by
    rw [List.map_nil, List.map_cons, PyData.eqvAll]
    exact (decide_eq_false fun z => nomatch z).symm
  | _ :: _, [] => by
    rw [List.map_nil, List.map_cons, PyData.eqvAll]
    exact (decide_eq_false fun z => nomatch z).symm
theorem eqv_ints (ns ms : List Int) : PyData.eqv (PyData.list (ns.map .int)) (PyData.list (ms.map .int)) = decide (ns = ms) := by
  rw [PyData.eqv]
  exact eqvAll_ints ns ms
theorem eqvAll_rows : ∀ rs qs : List (List Int), PyData.eqvAll (rs.map fun r => .list (r.map .int)) (qs.map fun r => .list (r.map .int)) = decide (rs = qs)
  | [], [] => by
    simp only [List.map_nil, PyData.eqvAll]
    exact (decide_eq_true (rfl : ([] : List (List Int)) = [])).symm
  | x :: ns, y :: ms => by
    rw [List.map_cons, List.map_cons, PyData.eqvAll, eqvAll_rows ns ms, eqv_ints]
    by_cases e : x = y
    · rw [decide_eq_true e, Bool.true_and]
      by_cases e2 : ns = ms
      · rw [decide_eq_true e2, decide_eq_true (by rw [e, e2])]
      · rw [decide_eq_false e2, decide_eq_false fun z => e2 (List.cons.inj z).2]
    · rw [decide_eq_false e, Bool.false_and, decide_eq_false fun z => e (List.cons.inj z).1]
  | [], _ :: _ => by
    rw [List.map_nil, List.map_cons, PyData.eqvAll]
    exact (decide_eq_false fun z => nomatch z).symm
  | _ :: _, [] => by
    rw [List.map_nil, List.map_cons, PyData.eqvAll]
    exact (decide_eq_false fun z => nomatch z).symm
theorem eqv_rows (rs qs : List (List Int)) : PyData.eqv (PyData.list (rs.map fun r => .list (r.map .int))) (PyData.list (qs.map fun r => .list (r.map .int))) = decide (rs = qs) := by
  rw [PyData.eqv]
  exact eqvAll_rows rs qs
theorem lay_ints : ∀ ns : List Int, PyData.canLayAll0 (ns.map .int) = true
  | [] => by simp only [List.map_nil, PyData.canLayAll0]
  | n :: ns => by simp only [List.map_cons, PyData.canLayAll0, PyData.canLay0, lay_ints ns, Bool.and_self]
theorem lay_rows : ∀ rs : List (List Int), PyData.canLayAll0 (rs.map fun r => .list (r.map .int)) = true
  | [] => by simp only [List.map_nil, PyData.canLayAll0]
  | r :: rs => by simp only [List.map_cons, PyData.canLayAll0, PyData.canLay0, lay_ints r, lay_rows rs, Bool.and_self]
theorem depth_rows : ∀ rs : List (List Int), PyData.depthAll (rs.map fun r => .list (r.map .int)) ≤ 1
  | [] => by simp only [List.map_nil, PyData.depthAll]; omega
  | r :: rs => by
    have := depth_rows rs
    simp only [List.map_cons, PyData.depthAll, PyData.depth, PySem.W.depth_ints]
    omega
theorem shaped_ints (ns : List Int) : SeqAt.shaped (PyData.list (ns.map .int)) = true := by
  unfold SeqAt.shaped
  simp only [PyData.canLay0, lay_ints, PyData.depth, PySem.W.depth_ints]
  decide
theorem shaped_rows (rs : List (List Int)) : SeqAt.shaped (PyData.list (rs.map fun r => .list (r.map .int))) = true := by
  have d := depth_rows rs
  have e : (PyData.list (rs.map fun r => .list (r.map .int))).depth ≤ 64 := by
    simp only [PyData.depth]
    omega
  unfold SeqAt.shaped
  rw [decide_eq_true e, Bool.and_true]
  simp only [PyData.canLay0, lay_rows]
/-- lists of lists as data -/
theorem rows_data {K : PySem.W.Frag} {H : Hp} : ∀ {bs : List (Addr × List Int)}, (∀ b ∈ bs, SqL K H b.1 (b.2.map V.int)) → DpAll K H (bs.map fun b => V.ref b.1) ((bs.map (·.2)).map fun r => .list (r.map .int))
  | [], _ => .nil
  | b :: bs, h => .cons (.lst (h b List.mem_cons_self) (rows_dp b.2)) (rows_data fun c m => h c (List.mem_cons_of_mem _ m))
end LcM

/-! sorted(xs), xs ints, THE sorted list. -/
namespace SortR
open PySem PySem.Spec PyProof.Rows L2 PySem.W
def intLe (p q : Int) : Bool := decide (p ≤ q)
theorem ints_each {h : Heap} : ∀ {ns : List Int} {us : List Value}, Vals (ns.map V.int) us → EachIs (fun v (n : Int) => ∃ t, v = Value.int n t) us ns
  | [], _, .nil => .nil
  | _ :: _, _, .cons h1 h2 => .cons h1 (ints_each (h := h) h2)
theorem each_ints : ∀ {us : List Value} {ns : List Int}, EachIs (fun v (n : Int) => ∃ t, v = Value.int n t) us ns → Vals (ns.map V.int) us
  | _, _, .nil => .nil
  | _, _, .cons h t => .cons h (each_ints t)
section
variable {X : Cx}
theorem call_sortedInts (hu : X.A.units + 64 < cLine) : CallR X (.builtin "sorted") (fun xs H Q => ∃ (a : Addr) (ns : List Int), xs = [V.ref a] ∧ SqL X.K H a (ns.map V.int) ∧ ∀ p, H p = none → Q (.ref p) (upd H p (.lst ((ns.mergeSort intLe).map V.int)))) := by
  intro pins s σ H xs us Q I r h
  obtain ⟨a, ns, rfl, hs, q⟩ := h
  obtain ⟨u, rfl, ru⟩ := vals1 r
  obtain rfl : u = Value.ref a := ru
  obtain ⟨its, rv, hl, hz⟩ := I.list hs
  have each := ints_each (h := s.heap) rv
  have len : its.length = ns.length := by rw [← rv.length, List.length_map]
  have reads : EachIs (fun v (n : Int) => ∃ as, Reads s.heap v (PyData.int n) as) its ns := each_mono each fun v n ⟨t, e⟩ => by
    rw [e]
    exact ⟨_, Reads.int n t⟩
  have le : dataLe false (fun n : Int => PyData.int n) = intLe := dataLe_int fun n : Int => n
  refine sorted_data (enc := fun n : Int => PyData.int n) hl.isList each reads (AllAlike.of fun p q => by simp only [alike]) (Sortable.others fun b => ⟨(fun z => nomatch z), fun xs z => nomatch z⟩) (by rw [List.length_map] at hz; exact hz) (fun b _ => by
    have d : (PyData.int b).depth = 0 := by simp only [PyData.depth]
    rw [d]
    omega) fun out ho each3 => ?_
  rw [le] at each3
  have back := each_ints each3
  obtain ⟨n, hn⟩ := sortedAll_at s.heap its out.toArray
  refine ⟨.ref (s.heap.objs.size + 1), upd H (s.heap.objs.size + 1) (.lst ((ns.mergeSort intLe).map V.int)), I.laid (t' := s.toks) (fun b o e => sortedAll_old e) (Nat.le_succ _) ⟨?_, out, n, back, hn⟩, rfl, q _ (I.hok.fresh (Nat.le_succ _))⟩
  rw [List.length_map, List.length_mergeSort]
  rw [List.length_map] at hz
  exact hz
end
end SortR

/-! Comprehensions over a tuple or a list, each turn's value by a relation that lasts. -/
namespace LcM
open PySem PySem.Spec PyProof.Rows L2
/-- so far -/
structure Mx (H0 : Hp) (D : Addr) (Rel : Nat → V → Hp → Prop) (i : Nat) (H : Hp) (ys : List V) : Prop where
  grow : Grows H0 H
  top : H D = some (.lst ys)
  len : ys.length = i
  rel : ∀ j y, ys[j]? = some y → Rel j y H
theorem Mx.more {H0 H H4 : Hp} {D : Addr} {Rel : Nat → V → Hp → Prop} {i : Nat} {ys : List V} {y : V} (last : ∀ j y H H', Grows H H' → Rel j y H → Rel j y H') (free : ∀ j y H zs, Rel j y H → H D = some (.lst zs) → ∀ u, Rel j y (upd H D u)) (hD : H0 D = none) (m : Mx H0 D Rel i H ys) (s : Grows H H4) (r : Rel i y H4) (small : i < 1000000) :
    ∃ acc, H4 D = some (.lst acc) ∧ acc.length < sizeLine ∧ ∃ ys', Mx H0 D Rel (i + 1) (upd H4 D (.lst (acc ++ [y]))) ys' := by
  have at_D := s _ _ m.top
  refine ⟨ys, at_D, ?_, ys ++ [y], fun b o e => ?_, upd_same, ?_, fun j z e => ?_⟩
  · rw [m.len]
    exact Nat.lt_trans small (by decide)
  · rw [upd_ne (ne_of_none e hD)]
    exact s _ _ (m.grow _ _ e)
  · rw [List.length_append, m.len]
    rfl
  · rcases Nat.lt_or_ge j ys.length with l | g
    · rw [List.getElem?_append_left l] at e
      exact free j z H4 _ (last j z H H4 s (m.rel j z e)) at_D _
    · rw [List.getElem?_append_right g] at e
      have zero : j - ys.length = 0 := by
        rcases Nat.eq_zero_or_pos (j - ys.length) with q | q
        · exact q
        · rw [List.getElem?_eq_none (by show 1 ≤ j - ys.length; omega)] at e
          cases e
      rw [zero] at e
      obtain rfl : y = z := Option.some.inj e
      obtain rfl : j = i := by rw [← m.len]; omega
      exact free j y H4 _ r at_D _
section
variable {K : PySem.W.Frag} {a : Addr} {xs : List V} {g : TG} {te : TE} {vs : List Nat} {σ : L2.St} {H0 : Hp} {D : Addr} {Qd : Hp → Prop}
theorem lc_tupX (Rel : Nat → V → Hp → Prop) (last : ∀ j y H H', Grows H H' → Rel j y H → Rel j y H') (free : ∀ j y H zs, Rel j y H → H D = some (.lst zs) → ∀ u, Rel j y (upd H D u)) (hD : H0 D = none) (hx : SqT K H0 a xs) (small : xs.length ≤ 1000000)
    (turn : ∀ (i : Nat) (x : V) (H : Hp) (Rk : V → Hp → Prop), xs[i]? = some x → Grows H0 H → H D ≠ none → (∀ y H4, Grows H H4 → Rel i y H4 → Rk y H4) → g x (wipe σ vs) H fun σ2 H2 => wipe σ2 vs = wipe σ vs ∧ te σ2 H2 Rk)
    (done : ∀ H ys, Mx H0 D Rel xs.length H ys → Qd H) :
    ∃ W : Nat → Nat → Hp → Prop, (∃ m, W 0 m (upd H0 D (.lst []))) ∧ ∀ i m H, W i m H →
      ((Itt K a).stop i H ∧ Qd H) ∨ ((Itt K a).go i H ∧ ∃ Nx : Hp → Prop, (∀ H', Nx H' → ∃ m', m' < m ∧ W (i + 1) m' H') ∧ ∀ x H', (Itt K a).yld i H x H' → g x (wipe σ vs) H' fun σ2 H2 => wipe σ2 vs = wipe σ vs ∧ tYes σ2 H2 fun b H3 =>
        if b = true then te σ2 H3 fun y H4 => ∃ acc, H4 D = some (.lst acc) ∧ acc.length < sizeLine ∧ Nx (upd H4 D (.lst (acc ++ [y]))) else Nx H3) := by
  refine lc_tup (fun i H => ∃ ys, Mx H0 D Rel i H ys) ⟨[], Grows.new hD, upd_same, rfl, fun j y e => by rw [List.getElem?_nil] at e; cases e⟩ (fun i H _ ⟨_, m⟩ => m.grow.tup hx) (fun i x H ex ⟨ys, m⟩ => ?_) fun H ⟨ys, m⟩ => done H ys m
  rw [yes_eq (A := fun σ2 => wipe σ2 vs = wipe σ vs)]
  exact turn i x H _ ex m.grow (by rw [m.top]; exact fun z => nomatch z) fun y H4 s r => m.more last free hD s r (Nat.lt_of_lt_of_le (List.getElem?_eq_some_iff.mp ex).1 small)
theorem lc_listX (Rel : Nat → V → Hp → Prop) (last : ∀ j y H H', Grows H H' → Rel j y H → Rel j y H') (free : ∀ j y H zs, Rel j y H → H D = some (.lst zs) → ∀ u, Rel j y (upd H D u)) (hD : H0 D = none) (hx : SqL K H0 a xs) (small : xs.length ≤ 1000000)
    (turn : ∀ (i : Nat) (x : V) (H : Hp) (Rk : V → Hp → Prop), xs[i]? = some x → Grows H0 H → H D ≠ none → (∀ y H4, Grows H H4 → Rel i y H4 → Rk y H4) → g x (wipe σ vs) H fun σ2 H2 => wipe σ2 vs = wipe σ vs ∧ te σ2 H2 Rk)
    (done : ∀ H ys, Mx H0 D Rel xs.length H ys → Qd H) :
    ∃ W : Nat → Nat → Hp → Prop, (∃ m, W 0 m (upd H0 D (.lst []))) ∧ ∀ i m H, W i m H →
      ((Itl K a).stop i H ∧ Qd H) ∨ ((Itl K a).go i H ∧ ∃ Nx : Hp → Prop, (∀ H', Nx H' → ∃ m', m' < m ∧ W (i + 1) m' H') ∧ ∀ x H', (Itl K a).yld i H x H' → g x (wipe σ vs) H' fun σ2 H2 => wipe σ2 vs = wipe σ vs ∧ tYes σ2 H2 fun b H3 =>
        if b = true then te σ2 H3 fun y H4 => ∃ acc, H4 D = some (.lst acc) ∧ acc.length < sizeLine ∧ Nx (upd H4 D (.lst (acc ++ [y]))) else Nx H3) := by
  refine lc_list (fun i H => ∃ ys, Mx H0 D Rel i H ys) ⟨[], Grows.new hD, upd_same, rfl, fun j y e => by rw [List.getElem?_nil] at e; cases e⟩ (fun i H _ ⟨_, m⟩ => m.grow.seq hx) (fun i x H ex ⟨ys, m⟩ => ?_) fun H ⟨ys, m⟩ => done H ys m
  rw [yes_eq (A := fun σ2 => wipe σ2 vs = wipe σ vs)]
  exact turn i x H _ ex m.grow (by rw [m.top]; exact fun z => nomatch z) fun y H4 s r => m.more last free hD s r (Nat.lt_of_lt_of_le (List.getElem?_eq_some_iff.mp ex).1 small)
/-- a loop over enumerate of a list that stands still -/
theorem for_enumL {tb : TS} {Dn : Ends} (Pv : Nat → L2.St → Hp → Prop) (h0 : Pv 0 σ H0) (hl : ∀ i σ H, Pv i σ H → SqL K H a xs)
    (hs : ∀ (i : Nat) (x : V) (T : Addr) (σ : L2.St) (H : Hp), xs[i]? = some x → Pv i σ H → H T = none → g (.ref T) σ (upd H T (.tup [.int (i : Nat), x])) fun σ2 H2 => tb { Dn with nx := Pv (i + 1), ct := Pv (i + 1), bk := Dn.nx } σ2 H2) (hd : ∀ σ H, Pv xs.length σ H → Dn.nx σ H) :
    ∃ W : Nat → Nat → L2.St → Hp → Prop, (∃ m, W 0 m σ H0) ∧ ∀ i m σ H, W i m σ H →
      ((Ite K a).stop i H ∧ Dn.nx σ H) ∨ ((Ite K a).go i H ∧ ∃ N : L2.St → Hp → Prop, (∀ σ' H', N σ' H' → ∃ m', m' < m ∧ W (i + 1) m' σ' H') ∧ ∀ v H', (Ite K a).yld i H v H' → g v σ H' fun σ2 H2 => tb { Dn with nx := N, ct := N, bk := Dn.nx } σ2 H2) := by
  refine ⟨fun i m σ H => m = xs.length - i ∧ i ≤ xs.length ∧ Pv i σ H, ⟨_, rfl, Nat.zero_le _, h0⟩, ?_⟩
  rintro i m σ H ⟨rfl, hi, pv⟩
  have qx := hl i σ H pv
  rcases Nat.lt_or_ge i xs.length with lt | ge
  · have ex : xs[i]? = some xs[i] := List.getElem?_eq_getElem lt
    refine .inr ⟨⟨xs, _, qx, ex⟩, Pv (i + 1), fun σ' H' p' => ⟨xs.length - (i + 1), by omega, rfl, lt, p'⟩, fun v H' y => ?_⟩
    obtain ⟨T, x', rfl, hT, rfl, f1⟩ := y
    exact hs i x' T σ H (f1 xs qx) pv hT
  · have e : i = xs.length := by omega
    subst e
    exact .inl ⟨⟨xs, qx, Nat.le_refl _⟩, hd σ H pv⟩
end
end LcM

/-! f(k = v, ..): a def called by keywords alone. -/
namespace LcM
open PySem PySem.Spec PyProof.Rows L2
section
variable {X : Cx} {CX : CXT} {k : Nat} {f : Addr} {fd : FuncData} {ps ks : List Str} {sp : Sp} {E : XK} {x : Str} {p pos : Pos} {kws : List Keyword} {tk : TA} {g : List Value → List Value → List Value} {gV : List V → List V → List V}
theorem pe_callKw (F : FnOk X.prog X.w X.K X.mg X.base CX k f fd ps sp) (room : Room k X.A) (hg : Gl X x) (hm : X.mg x = some (.ref f)) (kp : PySem.W.keepIn X.K (.ref f) = true) (bd : KBinds X.K fd ps ks g gV) (ps' : Passes CX X E) (args : PK X kws tk)
    (all : (backToKw pos (keywordEach kws X.env)).all (·.1.isSome) = true := by rfl) (names : (backToKw pos (keywordEach kws X.env)).filterMap (·.1) = ks := by rfl) (hdb : (x == ("__debug__" : Str)) = false := by decide)
    (plain : ((backTo pos (starEach [] X.env)).any (·.1) || (backToKw pos (keywordEach kws X.env)).any (·.1.isNone)) = false := by rfl) :
    PE X (.Call (.Name x p) [] kws pos) (tCallK sp gV E tNil tk) := by
  refine ⟨fun pins s σ H Q I rd => ?_⟩
  refine wpAny_Call_Name_kw (ld_glob I hg hm ?_ hdb)
  refine PySem.W.callWith_KW0 (h₀ := X.base) I.ok.mod.kin kp all (thn (args.run pos pins s σ H _ I rd) fun ws s2 ⟨zs, H2, I2, rz, q2⟩ => ⟨I2.kIn, ?_⟩) plain
  rw [names]
  exact run_fnk (us := []) (vs := []) F room bd ps' I2 .nil rz q2
end
end LcM

/-! Data whose text is short. -/
namespace LcM
open PySem PySem.Spec PyProof.Rows L2
structure Brief (n : Nat) (d : PyData) : Prop where
  sh : d.showable = true
  dp : d.depth ≤ 10
  lv : PyData.leavesShort 13 d = true
  wt : d.weight ≤ n
def Smalls (ns : List Int) : Prop := ∀ x ∈ ns, x.natAbs < 10 ^ 12
theorem small_bits {n : Int} (h : n.natAbs < 10 ^ 12) : n.natAbs.log2 < 40 := by
  by_cases z : n.natAbs = 0
  · rw [z]
    decide
  · exact (Nat.log2_lt z).mpr (Nat.lt_trans h (by decide))
theorem show_ints : ∀ ns : List Int, Smalls ns → PyData.showableAll (ns.map .int) = true
  | [], _ => by simp only [List.map_nil, PyData.showableAll]
  | n :: ns, h => by
    have b := small_bits (h n List.mem_cons_self)
    simp only [List.map_cons, PyData.showableAll, PyData.showable, show_ints ns fun x m => h x (List.mem_cons_of_mem _ m), Bool.and_true]
    exact decide_eq_true (by omega)
theorem weight_ints : ∀ ns : List Int, Smalls ns → PyData.weightAll (ns.map .int) ≤ ns.length * 42
  | [], _ => by simp only [List.map_nil, PyData.weightAll]; exact Nat.zero_le _
  | n :: ns, h => by
    have b := small_bits (h n List.mem_cons_self)
    have ih := weight_ints ns fun x m => h x (List.mem_cons_of_mem _ m)
    simp only [List.map_cons, PyData.weightAll, PyData.weight, List.length_cons]
    split <;> omega
theorem brief_ints {ns : List Int} (h : Smalls ns) : Brief (ns.length * 42) (PyData.list (ns.map .int)) := by
  refine ⟨?_, ?_, ?_, ?_⟩
  · simp only [PyData.showable, show_ints ns h]
  · simp only [PyData.depth, PySem.W.depth_ints]
    decide
  · refine PyData.leavesShort_of_canLay0 13 _ ?_ ?_
    · simp only [PyData.canLay0, lay_ints]
    · simp only [PyData.intsShort]
      exact PyData.intsShortAll_ints ns h
  · simp only [PyData.weight]
    exact weight_ints ns h
def rowD (rs : List (List Int)) : List PyData := rs.map fun r => .list (r.map .int)
theorem show_rows : ∀ rs : List (List Int), (∀ r ∈ rs, Smalls r) → PyData.showableAll (rowD rs) = true
  | [], _ => by simp only [rowD, List.map_nil, PyData.showableAll]
  | r :: rs, h => by
    have ih := show_rows rs fun q m => h q (List.mem_cons_of_mem _ m)
    unfold rowD at ih ⊢
    simp only [List.map_cons, PyData.showableAll, PyData.showable, show_ints r (h r List.mem_cons_self), ih, Bool.and_self]
theorem short_rows : ∀ rs : List (List Int), (∀ r ∈ rs, Smalls r) → PyData.intsShortAll 13 (rowD rs) = true
  | [], _ => by simp only [rowD, List.map_nil, PyData.intsShortAll]
  | r :: rs, h => by
    have ih := short_rows rs fun q m => h q (List.mem_cons_of_mem _ m)
    unfold rowD at ih ⊢
    simp only [List.map_cons, PyData.intsShortAll, PyData.intsShort, ih, PyData.intsShortAll_ints r (h r List.mem_cons_self), Bool.and_self]
theorem weight_rows {m : Nat} : ∀ rs : List (List Int), (∀ r ∈ rs, Smalls r ∧ r.length ≤ m) → PyData.weightAll (rowD rs) ≤ rs.length * (m * 42 + 1)
  | [], _ => by simp only [rowD, List.map_nil, PyData.weightAll]; exact Nat.zero_le _
  | r :: rs, h => by
    have ih := weight_rows rs fun q m => h q (List.mem_cons_of_mem _ m)
    have l := (h r List.mem_cons_self).2
    have w := weight_ints r (h r List.mem_cons_self).1
    unfold rowD at ih ⊢
    simp only [List.map_cons, PyData.weightAll, PyData.weight, List.length_cons]
    rw [Nat.add_mul]
    omega
theorem brief_rows {rs : List (List Int)} {m : Nat} (h : ∀ r ∈ rs, Smalls r ∧ r.length ≤ m) : Brief (rs.length * (m * 42 + 1)) (PyData.list (rowD rs)) := by
  refine ⟨?_, ?_, ?_, ?_⟩
  · simp only [PyData.showable, show_rows rs fun r m => (h r m).1]
  · have := depth_rows rs
    unfold rowD
    simp only [PyData.depth]
    omega
  · refine PyData.leavesShort_of_canLay0 13 _ ?_ ?_
    · have := lay_rows rs
      unfold rowD
      simp only [PyData.canLay0, this]
    · simp only [PyData.intsShort]
      exact short_rows rs fun r m => (h r m).1
  · simp only [PyData.weight]
    exact weight_rows rs h
theorem brief_two {a b : PyData} {m n : Nat} (x : Brief m a) (y : Brief n b) (l : m + n ≤ 100000) :
    PyData.showableAll [a, b] = true ∧ PyData.depthAll [a, b] ≤ 40 ∧ (listText (PyData.shownAll [a, b])).length ≤ sizeLine := by
  refine ⟨?_, ?_, ?_⟩
  · simp only [PyData.showableAll, x.sh, y.sh, Bool.and_self]
  · have := x.dp
    have := y.dp
    simp only [PyData.depthAll]
    omega
  · have e : (PyData.list [a, b]).shown = listText (PyData.shownAll [a, b]) := by simp only [PyData.shown]
    rw [← e]
    refine PyData.shown_fits (B := 13) (by decide) (by decide) ?_ ?_
    · simp only [PyData.leavesShort, PyData.leavesShortAll, x.lv, y.lv, Bool.and_self]
    · have := x.wt
      have := y.wt
      simp only [PyData.weight, PyData.weightAll]
      omega
end LcM

/-! min(list of lists of ints, key=len). -/
namespace LcM
open PySem PySem.Spec PyProof PyProof.Rows L2 SortR
def lenAt (bs : List (Addr × List Int)) (i : Nat) : Int := ((bs.getD i (0, [])).2.length : Nat)
def firstMin (bs : List (Addr × List Int)) (i : Nat) : Prop := ∀ j, j < bs.length → lenAt bs i ≤ lenAt bs j ∧ (j < i → lenAt bs i < lenAt bs j)
def rMinLen (K : PySem.W.Frag) (Q : VK) : List V → Hp → Prop := fun vs H1 => ∃ (a : Addr) (bs : List (Addr × List Int)), vs = [.ref a] ∧ SqL K H1 a (bs.map fun b => V.ref b.1) ∧ (∀ b ∈ bs, SqL K H1 b.1 (b.2.map V.int)) ∧ bs ≠ [] ∧
  ∀ i, i < bs.length → firstMin bs i → Q (.ref (bs.getD i (0, [])).1) H1
def tMinLen (K : PySem.W.Frag) (te : TE) : TE := fun σ H Q => tCons te tNil σ H (rMinLen K Q)
section
variable {X : Cx} {e : Expr} {te : TE} {p p2 pos kp : Pos}
theorem ns_one {h : Heap} {a : Addr} {m m' : Str → Option Value} (x : h.Ns a m) (y : h.Ns a m') : m = m' := x.eq_nsMap.trans y.eq_nsMap.symm
/-- what only lets the names stand elsewhere changes nothing -/
theorem inv_fr {pins : List (Addr × Obj)} {σ : L2.St} {H : Hp} {s : Shared} {h' : Heap} {tk : Nat} {m : Str → Option Value} (I : Inv X pins σ H s) (n0 : s.heap.Ns X.env.locals m) (n1 : h'.Ns X.env.locals m) (keep : ∀ b o, b ≠ X.env.locals → s.heap.get? b = some o → h'.get? b = some o) :
    Inv X pins σ H { s with heap := h', toks := tk } := by
  refine I.step (ch := []) (fun b hb => nomatch hb) (fun b o nl _ _ q _ => keep b o nl q) (fun b o nl _ _ q _ => ⟨o.slots, keep b o nl q⟩) (fun b o _ _ z => z) (fun b o _ q => ?_) (fun _ _ z => z) (fun _ _ _ z => z) (fun _ ps z => ⟨#[], by rw [Array.append_empty]; exact z⟩) (fun m' z => ns_one n0 z ▸ n1) ?_ I.bare
  · by_cases el : b = X.env.locals
    · obtain ⟨o', _, _, q', _⟩ := n1
      exact ⟨o', el ▸ q'⟩
    · exact ⟨o, keep b o el q⟩
  · intro a o h
    refine (I.hok a o h).stay (fun b u hb q => keep b u (fun z => ?_) q) (fun _ z => z) (fun _ _ z => z)
    have f := I.free
    rw [← z] at f
    rcases hb with hb | hb
    · rw [hb, h] at f
      cases f
    · rw [hb] at f
      cases f
theorem pe_minLen (calm : X.calm = true) (hg : Gl X "min") (hm : X.mg "min" = none) (hl : Gl X "len") (ml : X.mg "len" = none) (he : PE X e te)
    (h1 : starEach [e] X.env = (false, eval e X.env) :: starEach [] X.env := by rfl) (h2 : backTo pos (starEach [e] X.env) = (false, eval e X.env) :: backTo pos (starEach [] X.env) := by rfl) (h3 : ((backTo pos (starEach [e] X.env)).any fun x => x.1) = false := by rfl) : PE X (.Call (.Name "min" p) [e] [⟨some "key", .Name "len" p2, kp⟩] pos) (tMinLen X.K te) := by
  refine ⟨fun pins s σ H Q I rd => ?_⟩
  refine wpAny_Call_Name_kw (ld_blt (u := Value.builtin "min") I hg hm (by decide +kernel) ?_)
  refine Rows.callWith_kw (thn ((pa_cons he pa_nil (hs := h1)).run pos pins s σ H (rMinLen X.K Q) I rd) fun us s1 ⟨vs, H1, I1, rv, q⟩ => ?_) h2 h3
  obtain ⟨a, bs, rfl, hA, hB, hne, k⟩ := q
  obtain ⟨u, rfl, ru⟩ := vals1 rv
  obtain rfl : u = Value.ref a := ru
  refine Rows.evalAll_cons (wpAny_bind (ld_blt (u := Value.builtin "len") I1 hl ml (by decide +kernel) (wpAny_bind (wpAny_standAt (wpAny_pure (Rows.evalAll_nil ?_))))))
  obtain ⟨its, rvs, pl, hz⟩ := I1.list hA
  obtain ⟨m, ns, look⟩ := I1.loc
  obtain ⟨m', fr'⟩ := I1.fr
  have fr : Rows.Fr X.base X.env.locals s1.heap m := ⟨ns, fr'.keep, fr'.above⟩
  have kept : ∀ h, Rows.Fr X.base X.env.locals h m → Rows.News X.base X.env.locals h (allNews X.base s1.heap X.env.locals) → ∀ b o, b ≠ X.env.locals → s1.heap.get? b = some o → h.get? b = some o := fun h f n b o nl q => by
    rcases Option.eq_none_or_eq_some (X.base.get? b) with z | ⟨o', z⟩
    · exact (n (b, o) (mem_allNews nl z q)).1
    · have := fr.keep b o' z
      rw [q] at this
      cases this
      exact f.keep b o z
  have apart : ∀ {b : Addr} {xs : Array Value}, PlainL s1.heap b xs → b ≠ X.env.locals := fun {b xs} hb z => by
    obtain ⟨o, n, g, _, _, d⟩ := hb
    obtain ⟨o', es, ep, g', d', _⟩ := ns
    rw [z, g'] at g
    cases g
    rw [d'] at d
    cases d
  have len : its.length = bs.length := by
    rw [← rvs.length, List.length_map]
  have get : ∀ {i : Nat} {v : Value}, its[i]? = some v → i < bs.length ∧ v = Value.ref (bs.getD i (0, [])).1 := fun {i v} hv => by
    have il : i < bs.length := by
      rw [← len]
      exact (List.getElem?_eq_some_iff.mp hv).1
    refine ⟨il, ?_⟩
    have e1 : (bs.map fun b => V.ref b.1)[i]? = some (V.ref (bs.getD i (0, [])).1) := by
      rw [List.getElem?_map, List.getElem?_eq_getElem il, List.getD_eq_getElem?_getD, List.getElem?_eq_getElem il]
      rfl
    obtain ⟨u, hu, ru⟩ := rvs.get e1
    rw [hv] at hu
    cases hu
    exact ru
  refine Rows.kmb_min (kid := "len") (news := allNews X.base s1.heap X.env.locals) (vs := its) (lenAt bs) (I1.ok.hd calm) fr news_all (fun h f n => (pl.at fun o q => kept h f n a o (apart pl) q).isList) ?_ (fun i v hv h tk own f n => ?_) fun i v h' tk' hv hmin f n => ?_
  · rw [len]
    rcases Nat.eq_zero_or_pos bs.length with z | z
    · exact absurd (List.length_eq_zero_iff.mp z) hne
    · exact z
  · obtain ⟨il, rfl⟩ := get hv
    have n' : Rows.News X.base X.env.locals h (allNews X.base s1.heap X.env.locals) := fun p hp => n p (List.mem_append_left _ hp)
    have mem : bs.getD i (0, []) ∈ bs := by
      rw [List.getD_eq_getElem?_getD, List.getElem?_eq_getElem il]
      exact List.getElem_mem il
    obtain ⟨rs, rvr, plr, hzr⟩ := I1.list (hB _ mem)
    have lenr : rs.length = (bs.getD i (0, [])).2.length := by rw [← rvr.length, List.length_map]
    refine Calls.call_len_list ((plr.at fun o q => kept h f n' _ o (apart plr) q).isList) ?_ ⟨h, _, tk + 1, rfl, ?_, f, n⟩
    · rw [List.size_toArray, lenr]
      rw [List.length_map] at hzr
      have : sizeLine < 2 ^ 63 := by decide
      omega
    · unfold lenAt
      rw [List.size_toArray, lenr]
  · obtain ⟨il, rfl⟩ := get hv
    refine ⟨V.ref (bs.getD i (0, [])).1, H1, inv_fr I1 ns f.ns (kept h' f n), rfl, k i il fun j jl => ?_⟩
    exact hmin j (by rw [len]; exact jl)
end
end LcM

/-! Masks of ascending lists, bit by bit. -/
namespace LcM
open PySem
def mk (ns : List Nat) : Nat := (ns.map (2 ^ ·)).sum
theorem mk_cons (x : Nat) (xs : List Nat) : mk (x :: xs) = 2 ^ x + mk xs := by
  unfold mk
  rw [List.map_cons, List.sum_cons]
theorem mk_dvd (y : Nat) : ∀ xs : List Nat, (∀ z ∈ xs, y ≤ z) → 2 ^ y ∣ mk xs
  | [], _ => ⟨0, rfl⟩
  | x :: xs, h => by
    rw [mk_cons]
    exact Nat.dvd_add (Nat.pow_dvd_pow 2 (h x List.mem_cons_self)) (mk_dvd y xs fun z hz => h z (List.mem_cons_of_mem _ hz))
theorem mk_bit : ∀ (xs : List Nat) (i : Nat), xs.Pairwise (· < ·) → (mk xs).testBit i = decide (i ∈ xs)
  | [], i, _ => by
    show Nat.testBit 0 i = _
    rw [Nat.zero_testBit]
    rfl
  | x :: xs, i, h => by
    obtain ⟨h1, h2⟩ := List.pairwise_cons.mp h
    have ih := mk_bit xs i h2
    obtain ⟨k, hk⟩ := mk_dvd (x + 1) xs fun z hz => h1 z hz
    rw [mk_cons, Nat.add_comm, hk, Nat.testBit_two_pow_mul_add k (Nat.pow_lt_pow_right (by decide) (Nat.lt_succ_self x))]
    rw [hk] at ih
    by_cases l : i < x + 1
    · rw [if_pos l, Nat.testBit_two_pow]
      have no : i ∉ xs := fun z => by
        have := h1 i z
        omega
      by_cases e : x = i
      · rw [decide_eq_true e, e, decide_eq_true List.mem_cons_self]
      · rw [decide_eq_false e, decide_eq_false fun z => (List.mem_cons.mp z).elim (fun q => e q.symm) no]
    · rw [if_neg l]
      have z := Nat.testBit_two_pow_mul_add k (b := 0) (i := x + 1) (Nat.two_pow_pos _) i
      rw [if_neg l, Nat.add_zero] at z
      rw [← z, ih]
      have ne : i ≠ x := by omega
      by_cases m : i ∈ xs
      · rw [decide_eq_true m, decide_eq_true (List.mem_cons_of_mem _ m)]
      · rw [decide_eq_false m, decide_eq_false fun q => (List.mem_cons.mp q).elim ne m]
/-- masks of lists that do not cross -/
theorem mk_and {xs ys : List Nat} (hx : xs.Pairwise (· < ·)) (hy : ys.Pairwise (· < ·)) (h : (∀ z ∈ xs, z ∉ ys) ∨ (∀ z ∈ xs, z ∈ ys) ∨ ∀ z ∈ ys, z ∈ xs) : mk xs &&& mk ys = 0 ∨ mk xs &&& mk ys = mk xs ∨ mk xs &&& mk ys = mk ys := by
  have bit : ∀ i, (mk xs &&& mk ys).testBit i = (decide (i ∈ xs) && decide (i ∈ ys)) := fun i => by rw [Nat.testBit_and, mk_bit xs i hx, mk_bit ys i hy]
  rcases h with h | h | h
  · refine .inl (Nat.eq_of_testBit_eq fun i => ?_)
    rw [bit, Nat.zero_testBit]
    by_cases m : i ∈ xs
    · rw [decide_eq_false (h i m), Bool.and_false]
    · rw [decide_eq_false m, Bool.false_and]
  · refine .inr (.inl (Nat.eq_of_testBit_eq fun i => ?_))
    rw [bit, mk_bit xs i hx]
    by_cases m : i ∈ xs
    · rw [decide_eq_true m, decide_eq_true (h i m)]
      rfl
    · rw [decide_eq_false m, Bool.false_and]
  · refine .inr (.inr (Nat.eq_of_testBit_eq fun i => ?_))
    rw [bit, mk_bit ys i hy]
    by_cases m : i ∈ ys
    · rw [decide_eq_true m, decide_eq_true (h i m)]
      rfl
    · rw [decide_eq_false m, Bool.and_false]
end LcM

/-! sorted(d.values()), the values lists of ints. -/
namespace SortR
open PySem PySem.Spec PyProof.Rows L2 PySem.W
theorem kv_vals {κ : Type} {kvs : List (κ × V)} {vs : List (κ × Value)} (r : KV kvs vs) : Vals (kvs.map (·.2)) (vs.map (·.2)) := by
  unfold KV at r
  induction r with
  | nil => exact .nil
  | cons h _ ih => exact .cons h.2 ih
section
variable {X : Cx} {o : Expr} {p pos apos mpos : Pos} {td : TE}
/-- sorted(o.values()), a dict of lists of ints -/
def tSortVals (td : TE) : TE := fun σ H Q => td σ H fun x H1 => ∃ (a : Addr) (kvs : List (Key × V)) (bs : List (Addr × List Int)), x = V.ref a ∧ H1 a = some (.dK kvs) ∧ kvs.map (·.2) = bs.map (fun b => V.ref b.1) ∧ (∀ b ∈ bs, H1 b.1 = some (.lst (b.2.map V.int))) ∧
  ∀ p, H1 p = none → Q (.ref p) (upd H1 p (.lst ((bs.mergeSort rowLe).map fun b => V.ref b.1)))
theorem pe_sortVals (hu : X.A.units + 64 < cLine) (calm : X.calm = true) (hg : Gl X "sorted") (hm : X.mg "sorted" = none) (hd : PE X o td) (hbase : attributeBase o "values" X.env (eval o X.env) = eval o X.env := by rfl) (hline : (apos.endLine == mpos.line) = true := by rfl)
    (hse : starEach [Expr.Call (.Attribute o "values" apos) [] [] mpos] X.env = [(false, eval (Expr.Call (.Attribute o "values" apos) [] [] mpos) X.env)] := by rfl) :
    PE X (.Call (.Name "sorted" p) [.Call (.Attribute o "values" apos) [] [] mpos] [] pos) (tSortVals td) := by
  refine ⟨fun pins s σ H Q I h => ?_⟩
  refine wpAny_Call_Name_kw (ld_blt I hg hm (u := .builtin "sorted") (by first | rfl | decide +kernel) ?_ (by first | decide +kernel | decide) (by first | decide +kernel | decide))
  rw [hse]
  refine PySem.callWith_builtin1 (wpAny_Call_method0_late hbase hline (thn (hd.run pins s σ H _ I h) fun v s1 ⟨x, H1, I1, r1, a, kvs, bs, ex, ha, hv, hb, q⟩ => ?_))
  subst ex
  obtain rfl : v = Value.ref a := r1
  obtain ⟨few, hsys, vs, rel, dof⟩ := dk_of I1.hok ha
  obtain ⟨ep, dat⟩ := dof.dictAt
  obtain ⟨ob, es, ho, ex, _⟩ := id dat
  have old : ∀ c w, s1.heap.get? c = some w → (s1.heap.push { cls := .type "dict_values", data := .fields #[.ref a] }).get? c = some w := fun c w => Heap.get?_push_of_some _
  refine ⟨"dict", "dict.values", F.plainAttrs_dict, F.slot_dict_values, F.type_dict_values, ⟨ob, ho, ex.1⟩, fun c at_c => (by cases at_c; exact ⟨ob, ho, ex.2.1⟩),
    Calls.callWith_builtin rfl (PySem.evalArgs_none (call_meetsIn F.slot_dict_values ⟨ob, ho, ex.1⟩ F.entry_dict_values (F.args_dict_values_1 _) (meets_dict_values (mixKind X.prog X.w) a hsys) ⟨⟨vs, dof⟩, ?_⟩))⟩
  have lv : vs.length = bs.length := by
    have e1 := congrArg List.length hv
    rw [List.length_map, List.length_map] at e1
    rw [← e1]
    exact (KV.length rel).symm
  have fits : bs.length ≤ sizeLine := by
    rw [← lv, ← KV.length rel]
    exact few
  have I2 : Inv X pins σ H1 { s1 with heap := s1.heap.push { cls := .type "dict_values", data := .fields #[.ref a] } } := I1.kept (t' := s1.toks) old
  refine Calls.call_function_entry PyProof.Rows.kind_sorted PyProof.Rows.plain_sorted PyProof.Rows.entry_sorted (PyProof.Rows.args_sorted1 _) ?_
  unfold Builtin.«sorted»
  refine wpAny_bind (m := checkCount "sorted" 1 1 _) (wpAny_pure (wpAny_bind (kdu_collect (A := X.A.in1) (s := { s1 with heap := s1.heap.push { cls := .type "dict_values", data := .fields #[.ref a] } }) (kdl_values (knd := mixKind X.prog X.w) (kvs := vs) (ep := ep)) (I.ok.hd calm) ⟨⟨_, Heap.get?_push_size _ rfl, rfl, rfl⟩, dat.keep old⟩ (lv ▸ fits) fun h1 tk acc keep it => ?_)))
  have vr : Vals (bs.map fun b => V.ref b.1) acc.toList := by
    rw [kdl_vals_eq (kvs := vs) acc.toList (by rw [Array.length_toList, it.1]) fun j v e => it.2 j v (by rw [← Array.getElem?_toList]; exact e), ← hv]
    exact kv_vals rel
  have len : acc.toList.length = bs.length := by rw [← vr.length, List.length_map]
  have I3 : Inv X pins σ H1 { s1 with heap := h1, toks := tk } := I2.kept keep
  refine wpAny_bind (wpAny_newList ?_ (by rw [len]; exact fits))
  have at_p : (h1.push (seqObj "list" acc.toList.toArray 0)).get? h1.objs.size = some (seqObj "list" acc.toList.toArray 0) := Heap.get?_push_size _ rfl
  have old : ∀ b u, h1.get? b = some u → b ≠ h1.objs.size ∧ (h1.push (seqObj "list" acc.toList.toArray 0)).get? b = some u := fun b u e => ⟨Nat.ne_of_lt (Heap.lt_size e), Heap.get?_push_of_some _ e⟩
  have each : EachIs (fun v (b : Addr × List Int) => v = Value.ref b.1 ∧ True) acc.toList bs := by
    exact vals_each (h := s1.heap) (K := X.K) (H := H1) (P := fun _ => True) vr fun _ _ => trivial
  obtain ⟨hS, ehS⟩ : ∃ z, z = sortingHeap (h1.push (seqObj "list" acc.toList.toArray 0)) h1.objs.size acc.toList := ⟨_, rfl⟩
  have reads : EachIs (fun v (b : Addr × List Int) => ∃ rs, Reads hS v (PyData.list (b.2.map .int)) rs) acc.toList bs := by
    have each2 : EachIs (fun v (b : Addr × List Int) => v = Value.ref b.1 ∧ H1 b.1 = some (.lst (b.2.map V.int))) acc.toList bs := by
      exact vals_each (h := s1.heap) (K := X.K) (H := H1) vr hb
    refine each_mono each2 fun v b ⟨ev, hb⟩ => ?_
    rw [ev]
    obtain ⟨rs, rr⟩ := Dp.reads I3 (PyData.list (b.2.map .int)) (.ref b.1) (.ref b.1) (.lst (SqL.of hb) (rows_dp b.2)) rfl
    refine ⟨rs, PyProof.Rows.Reads.keeps (fun c u e => ?_) rr⟩
    rw [ehS]
    obtain ⟨n1, n2⟩ := old c u e
    exact sortingHeap_old n1 n2
  have alikeAll_ : AllAlike (bs.map fun b => PyData.list (b.2.map .int)) := AllAlike.of enc_alike
  have sortable : Sortable (bs.map fun b => PyData.list (b.2.map .int)) := Sortable.others fun b => ⟨(fun z => nomatch z), fun xs z => nomatch z⟩
  have shallow : ∀ dd ∈ bs.map (fun b => PyData.list (b.2.map .int)), dd.depth = 1 := fun dd hm => by
    obtain ⟨b, _, rfl⟩ := List.mem_map.mp hm
    simp only [PyData.depth, depth_ints]
  show wpAny _ _ _ _ _ { s1 with heap := h1.push (seqObj "list" acc.toList.toArray 0), toks := tk }
  have sorts : ∀ Ar : Around, Ar.units ≤ X.A.units + 8 → SortsAt X.prog X.w Ar { s1 with heap := hS, toks := tk } (dataKind hS (bs.map fun b => PyData.list (b.2.map .int))) acc.toList := fun Ar hA =>
    SortsAt.data (s := { s1 with heap := hS, toks := tk }) (each_map (R := fun v dd => ∃ rs, Reads hS v dd rs) (fun b : Addr × List Int => PyData.list (b.2.map .int)) reads) alikeAll_ sortable fun dd hm => by rw [shallow dd hm]; omega
  rw [ehS] at sorts reads
  have each3 := sortVals_data (R := fun v (b : Addr × List Int) => v = Value.ref b.1 ∧ True) (enc := fun b : Addr × List Int => PyData.list (b.2.map .int)) false each reads alikeAll_
  rw [dataLe_rows (fun b : Addr × List Int => b.2)] at each3
  have back := each_back each3
  have short : ((bs.mergeSort rowLe).map fun b => V.ref b.1).length ≤ sizeLine := by
    rw [List.length_map, List.length_mergeSort]
    exact fits
  refine wpAny_bind (wpAny_holding (wpAny_call_entry PyProof.Rows.slot_list_sort ⟨_, at_p, rfl⟩ PyProof.Rows.entry_list_sort
    (list_sort_vals (s := { s1 with heap := h1.push (seqObj "list" acc.toList.toArray 0), toks := tk }) at_p (sorts _ (by show X.A.units + 1 + 1 ≤ X.A.units + 8; omega)) (by rw [len]; exact fits) ⟨_, rfl, ?_⟩) (PyProof.Rows.args_list_sort _)))
  obtain ⟨n2, at2⟩ := PyProof.Rows.sortedHeap_at (vs := acc.toList) (out := (sortVals (dataKind (sortingHeap (h1.push (seqObj "list" acc.toList.toArray 0)) h1.objs.size acc.toList) (bs.map fun b => PyData.list (b.2.map .int))) false acc.toList acc.toList).toArray) at_p
  refine wpAny_pure ⟨_, rfl, .ref h1.objs.size, upd H1 h1.objs.size (.lst ((bs.mergeSort rowLe).map fun b => V.ref b.1)), I3.laid (t' := tk) (fun b u e => ?_) (Nat.le_refl _) ⟨short, _, n2, back, at2⟩, rfl, q _ (I3.hok.fresh (Nat.le_refl _))⟩
  obtain ⟨n1, g⟩ := old b u e
  rw [PyProof.Rows.sortedHeap_old n1 (Heap.lt_size g)]
  exact g
end
end SortR

/-! for k, v in d.items(), the keys of d tuples; d is locked from here on. -/
namespace ItT
open PySem PySem.Spec PyProof.Rows L2
section
variable {X : Cx} {pins : List (Addr × Obj)} {σ : L2.St} {H : Hp} {s : Shared} {d : Addr} {o : Obj}
theorem frz_all {kvs : List (List L2.Key × V)} (I : Inv X pins σ H s) (h : H d = some (.frz o (.dT kvs))) :
    (d == sysModules) = false ∧ s.heap.get? d = some o ∧ o.ExactDict ∧ ∃ (es : Array DictEntry) (ep : Nat), o.data = .dict es ep ∧ es.size = kvs.length ∧
      ∀ (i : Nat) (k : List L2.Key) (v : V), kvs[i]? = some (k, v) → ∃ (en : DictEntry) (q : Addr), es[i]? = some en ∧ en.key = .ref q ∧ H q = some (.tup (k.map kV)) ∧ RelV v en.val := by
  have inv := I.hok d _ h
  obtain ⟨raw, _, notSys, ps, both, o2, rows, nth, same, exact_d, dat, ent, _⟩ := inv
  have eo : some o2 = some o := same.symm.trans raw
  cases eo
  have szs := And.intro (size_of_entries ent) (Paired.length both)
  refine ⟨notSys, raw, exact_d, rows, nth, dat, szs.1.trans szs.2.symm, ?_⟩
  intro i k v at_i
  obtain ⟨w, ew, at_w, key_ok, val_ok⟩ := paired_get both at_i
  have row := entry_at ent i
  rw [ew] at row
  exact ⟨_, w.2.1, row, rfl, key_ok, val_ok⟩
end
/-- the pairs, each a new tuple of the key's tuple and the value -/
def ItiT (d : Addr) (o : Obj) (kvs : List (List L2.Key × V)) : It :=
  ⟨fun i H => H d = some (.frz o (.dT kvs)) ∧ i < kvs.length, fun i H x H' => ∃ T q k v, kvs[i]? = some (k, v) ∧ H q = some (.tup (k.map kV)) ∧ x = .ref T ∧ H T = none ∧ H' = upd H T (.tup [.ref q, v]), fun i H => H d = some (.frz o (.dT kvs)) ∧ kvs.length ≤ i⟩
theorem turn_itemsT {P : Program} {w : World} {K : PySem.W.Frag} {d : Addr} {o : Obj} {es : Array DictEntry} {ep : Nat} {kvs : List (List L2.Key × V)} {elts : List Expr} {kk : Nat} {tpos : Pos} (it : Addr) (hod : o.data = .dict es ep) :
    Turn P w K (.Tuple elts kk tpos) (ItiT d o kvs) [it] it (fun i h => ∃ ok ov, IsItemIter h it d i kvs.length ep ok ov) where
  mem := List.mem_singleton.mpr rfl
  obj := fun _ _ ⟨_, _, e⟩ b hb => by
    rw [List.mem_singleton.mp hb]
    exact ⟨_, e, fun _ z => nomatch z⟩
  keep := fun _ _ _ ⟨x, y, e⟩ stays => ⟨x, y, stays it (List.mem_singleton.mpr rfl) _ e⟩
  item := fun X eP ew eK calm i pins s σ G E J free st at_d => by
    subst eP ew eK
    obtain ⟨here, more⟩ := at_d
    obtain ⟨_, raw, exact_d, rows, nth, dat, size, ent⟩ := frz_all J here
    obtain ⟨z1, z2⟩ := dict_ep hod dat
    subst z1 z2
    obtain ⟨kv, ekv⟩ : ∃ p, kvs[i]? = some p := ⟨kvs[i], List.getElem?_eq_getElem more⟩
    obtain ⟨en, q, een, ekey, tup_q, rel⟩ := ent i kv.1 kv.2 ekv
    obtain ⟨x, y, at_it⟩ := st
    rw [← size] at at_it
    have inside : i < rows.size := by rw [size]; exact more
    have same : rows[i] = en := Option.some.inj ((Array.getElem?_eq_getElem inside).symm.trans een)
    have below : it < s.heap.objs.size := Heap.lt_size at_it
    refine DT.nextI at_it ⟨o, raw, exact_d, dat⟩ inside fun h1 out made _ stays => ?_
    rw [same] at out made
    refine ⟨_, rfl, wpAny_letOwnedTupleGo_items (s := { s with heap := h1 }) out fun h2 at_it2 sb => ?_⟩
    have made2 : h2.get? s.heap.objs.size = some { cls := .type "tuple", data := .seq #[en.key, en.val] } := (sb.2 _ (Nat.ne_of_gt below)).trans made
    have pair : ObjOk X.prog X.w (upd G s.heap.objs.size (.tup [.ref q, kv.2])) h2 s.heap.objs.size (.tup [.ref q, kv.2]) :=
      ⟨by show 2 ≤ sizeLine; decide, [en.key, en.val], .cons (show RelV (.ref q) en.key from ekey) (.cons rel .nil), ⟨_, made2, rfl, _, rfl⟩⟩
    have alone : ∀ {b : Addr}, b ∉ [it] → b ≠ it := fun hb z => hb (List.mem_singleton.mpr z)
    refine ⟨.ref s.heap.objs.size, _, J.turnedNew (t' := s.toks) (ch := [it]) (fun b ob hb e => (sb.2 b (alone hb)).trans (stays b ob (alone hb) e)) free (Nat.le_refl _) pair, rfl, ⟨_, q, kv.1, kv.2, ekv, tup_q, rfl, J.hok.fresh (Nat.le_refl _), rfl⟩, ⟨en.key, en.val, by rw [← size]; exact at_it2⟩, fun b hb => ?_⟩
    rw [List.mem_singleton.mp hb, upd_ne (Nat.ne_of_lt below)]
    exact (free it (List.mem_singleton.mpr rfl)).1
  done := fun X eP ew eK calm i pins s σ G E J free st at_d => by
    subst eP ew eK
    obtain ⟨here, none_left⟩ := at_d
    obtain ⟨f0, f1, f2, f3, f4, f5⟩ := free it (List.mem_singleton.mpr rfl)
    obtain ⟨_, raw, exact_d, rows, nth, dat, size, _⟩ := frz_all J here
    obtain ⟨z1, z2⟩ := dict_ep hod dat
    subst z1 z2
    obtain ⟨x, y, at_it⟩ := st
    rw [← size] at at_it
    exact DT.endI (J.ok.hd calm) at_it ⟨o, raw, exact_d, dat⟩ (by rw [size]; exact none_left) fun h1 eb => ⟨rfl, J.turned (t' := s.toks) (fun b ob hb e => eb b ob hb e) f0 f1 f3 f4 f5⟩
  self := fun _ _ _ _ _ ⟨_, _, e⟩ h => PySem.W.kcp_self e h
def iItemsT (td : TE) : TI := fun σ H R => td σ H fun x H1 => ∃ d kvs, x = .ref d ∧ H1 d = some (.dT kvs) ∧ ∀ o, R (ItiT d o kvs) (upd H1 d (.frz o (.dT kvs)))
section
variable {X : Cx} {tg e : Expr} {td : TE} {apos cpos : Pos}
theorem pi_itemsT {elts : List Expr} {kk : Nat} {tpos : Pos} (he : PE X e td) (hbase : attributeBase e "items" X.env (eval e X.env) = eval e X.env := by rfl) (hline : (apos.endLine == cpos.line) = true := by rfl) :
    PI X (.Tuple elts kk tpos) (.Call (.Attribute e "items" apos) [] [] cpos) (iItemsT td) := by
  refine ⟨fun pins s σ H R I h => ?_⟩
  refine wpAny_Call_method (T := "dict") (id := "dict.items") hbase rfl hline PySem.F.plainAttrs_dict PySem.F.slot_dict_items PySem.F.type_dict_items (thn (he.run pins s σ H _ I h) fun u s1 ⟨x, H1, I1, rx, d, kvs, ex, hd1, q⟩ => ?_)
  subst ex
  obtain rfl : u = Value.ref d := rx
  obtain ⟨o, I0⟩ := I1.lock hd1 (by trivial)
  have hd : upd H1 d (.frz o (.dT kvs)) d = some (.frz o (.dT kvs)) := upd_same
  have q := q o
  obtain ⟨hs, hgd, hx, es, ep, hdt, hsz, ent⟩ := frz_all I0 hd
  have raw : DT.Raw s1.heap d es ep := ⟨o, hgd, hx, hdt⟩
  refine ⟨raw.typeIs, ?_, ?_⟩
  · intro b eb
    cases eb
    exact ⟨o, hgd, hx.2.1⟩
  have I2 : Inv X pins σ (upd H1 d (.frz o (.dT kvs))) { s1 with heap := s1.heap.push { cls := .type "dict_items", data := .fields #[.ref d] } } := I0.kept (t' := s1.toks) fun b ob q => Heap.get?_push_of_some _ q
  have fin : wpAny (model X.prog X.w) X.A (pyIter (.ref s1.heap.objs.size)) (PIE X pins σ (.Tuple elts kk tpos) R) X.xe { s1 with heap := s1.heap.push { cls := .type "dict_items", data := .fields #[.ref d] } } := by
    refine DT.iterI (d := d) (es := es) (ep := ep) ⟨_, Heap.get?_push_size _ rfl, rfl, rfl⟩ (raw.push _) (pi_one (tk := s1.toks) I2 _ (turn_itemsT _ hdt) ⟨.none, .none, ?_⟩ q)
    rw [← hsz]
    exact Heap.get?_push_size _ rfl
  show wpAny _ _ (callWith cpos (.builtin "dict.items") [.ref d] [] []) _ X.xe s1
  exact method_meetsIn PySem.F.slot_dict_items PySem.F.entry_dict_items rfl (PySem.evalArgs_none ⟨rfl, raw.typeIs, PySem.F.args_dict_items_1 _, _, DT.meetsItems (es := es) (ep := ep) hs, raw, fin⟩)
end
/-- a loop over such pairs -/
theorem for_itemsT {d : Addr} {o : Obj} {kvs : List (List L2.Key × V)} {g : TG} {σ : L2.St} {H0 : Hp} {tb : TS} {Dn : Ends} (Pv : Nat → L2.St → Hp → Prop) (h0 : Pv 0 σ H0) (hl : ∀ i σ H, Pv i σ H → H d = some (.frz o (.dT kvs)))
    (hs : ∀ (i : Nat) (k : List L2.Key) (v : V) (T q : Addr) (σ : L2.St) (H : Hp), kvs[i]? = some (k, v) → Pv i σ H → H T = none → H q = some (.tup (k.map kV)) → g (.ref T) σ (upd H T (.tup [.ref q, v])) fun σ2 H2 => tb { Dn with nx := Pv (i + 1), ct := Pv (i + 1), bk := Dn.nx } σ2 H2) (hd : ∀ σ H, Pv kvs.length σ H → Dn.nx σ H) :
    ∃ W : Nat → Nat → L2.St → Hp → Prop, (∃ m, W 0 m σ H0) ∧ ∀ i m σ H, W i m σ H →
      ((ItiT d o kvs).stop i H ∧ Dn.nx σ H) ∨ ((ItiT d o kvs).go i H ∧ ∃ N : L2.St → Hp → Prop, (∀ σ' H', N σ' H' → ∃ m', m' < m ∧ W (i + 1) m' σ' H') ∧ ∀ v H', (ItiT d o kvs).yld i H v H' → g v σ H' fun σ2 H2 => tb { Dn with nx := N, ct := N, bk := Dn.nx } σ2 H2) := by
  refine ⟨fun i m σ H => m = kvs.length - i ∧ i ≤ kvs.length ∧ Pv i σ H, ⟨_, rfl, Nat.zero_le _, h0⟩, ?_⟩
  rintro i m σ H ⟨rfl, hi, pv⟩
  have qx := hl i σ H pv
  rcases Nat.lt_or_ge i kvs.length with lt | ge
  · refine .inr ⟨⟨qx, lt⟩, Pv (i + 1), fun σ' H' p' => ⟨kvs.length - (i + 1), by omega, rfl, lt, p'⟩, fun v H' y => ?_⟩
    obtain ⟨T, q, k, u, ek, eq, rfl, hT, rfl⟩ := y
    exact hs i k u T q σ H ek pv hT eq
  · have e : i = kvs.length := by omega
    subst e
    exact .inl ⟨⟨qx, Nat.le_refl _⟩, hd σ H pv⟩
end ItT

/-! sorted(list of lists of ints, key=len). -/
namespace LcM
open PySem PySem.Spec PyProof PyProof.Rows L2 SortR
theorem perm_of_map {α β : Type} (f : α → β) {ps qs : List β} (h : ps.Perm qs) : ∀ {bs : List α}, qs = bs.map f → ∃ cs : List α, cs.Perm bs ∧ ps = cs.map f := by
  induction h with
  | nil =>
    intro bs e
    cases bs with
    | nil => exact ⟨[], .nil, rfl⟩
    | cons _ _ => cases e
  | cons x _ ih =>
    intro bs e
    cases bs with
    | nil => cases e
    | cons b bs =>
      rw [List.map_cons] at e
      obtain ⟨e1, e2⟩ := List.cons.inj e
      obtain ⟨cs, p, q⟩ := ih e2
      exact ⟨b :: cs, p.cons b, by rw [List.map_cons, ← q, e1]⟩
  | swap x y l =>
    intro bs e
    match bs, e with
    | [], e => cases e
    | [_], e => cases e
    | b :: c :: bs, e =>
      rw [List.map_cons, List.map_cons] at e
      obtain ⟨e1, e2⟩ := List.cons.inj e
      obtain ⟨e3, e4⟩ := List.cons.inj e2
      exact ⟨c :: b :: bs, .swap b c bs, by rw [List.map_cons, List.map_cons, ← e1, ← e3, ← e4]⟩
  | trans _ _ ih1 ih2 =>
    intro bs e
    obtain ⟨cs, p, q⟩ := ih2 e
    obtain ⟨ds, p2, q2⟩ := ih1 q
    exact ⟨ds, p2.trans p, q2⟩
theorem vals_refs : ∀ cs : List (Addr × List Int), Vals (cs.map fun b => V.ref b.1) (cs.map fun b => Value.ref b.1)
  | [] => .nil
  | _ :: cs => .cons rfl (vals_refs cs)
def rSortLen (K : PySem.W.Frag) (Q : VK) : List V → Hp → Prop := fun vs H1 => ∃ (a : Addr) (bs : List (Addr × List Int)), vs = [.ref a] ∧ SqL K H1 a (bs.map fun b => V.ref b.1) ∧ (∀ b ∈ bs, SqL K H1 b.1 (b.2.map V.int)) ∧ bs.length < 64 ∧
  ∀ (cs : List (Addr × List Int)) (p : Addr), cs.Perm bs → cs.Pairwise (fun x y => x.2.length ≤ y.2.length) → H1 p = none → Q (.ref p) (upd H1 p (.lst (cs.map fun b => V.ref b.1)))
def tSortLen (K : PySem.W.Frag) (te : TE) : TE := fun σ H Q => tCons te tNil σ H (rSortLen K Q)
section
variable {X : Cx} {e : Expr} {te : TE} {p p2 pos kp : Pos}
/-- .. and a new list besides -/
theorem inv_frD {pins : List (Addr × Obj)} {σ : L2.St} {H : Hp} {s : Shared} {h' : Heap} {tk : Nat} {m : Str → Option Value} {D : Addr} {ys : List V} {out : Array Value} {c : Nat} (I : Inv X pins σ H s) (n0 : s.heap.Ns X.env.locals m) (n1 : h'.Ns X.env.locals m) (keep : ∀ b o, b ≠ X.env.locals → s.heap.get? b = some o → h'.get? b = some o)
    (fresh : s.heap.get? D = none) (hD : h'.get? D = some (seqObj "list" out c)) (rel : Vals ys out.toList) (fits : ys.length ≤ sizeLine) :
    Inv X pins σ (upd H D (.lst ys)) { s with heap := h', toks := tk } := by
  have HD : H D = none := I.hok.gone fresh
  refine I.step (ch := []) (fun b hb => nomatch hb) (fun b o nl _ _ q _ => keep b o nl q) (fun b o nl _ _ q _ => ⟨o.slots, keep b o nl q⟩) (fun b o _ q z => ?_) (fun b o _ q => ?_) (fun b xs z => ?_) (fun b o u z => ?_) (fun b ps z => ⟨#[], by rw [Array.append_empty, upd_ne (fun e => by rw [e, HD] at z; cases z)]; exact z⟩) (fun m' z => ns_one n0 z ▸ n1) ?_ I.bare
  · rw [upd_ne (fun e => by rw [e, fresh] at q; cases q)]
    exact z
  · by_cases el : b = X.env.locals
    · obtain ⟨o', _, _, q', _⟩ := n1
      exact ⟨o', el ▸ q'⟩
    · exact ⟨o, keep b o el q⟩
  · rw [upd_ne (fun e => by rw [e, HD] at z; cases z)]
    exact z
  · rw [upd_ne (fun e => by rw [e, HD] at z; cases z)]
    exact z
  · intro a o h
    by_cases ea : a = D
    · subst ea
      rw [upd_same] at h
      cases h
      exact ⟨fits, out.toList, c, rel, hD⟩
    · rw [upd_ne ea] at h
      refine (I.hok a o h).stay (fun b u hb q => keep b u (fun z => ?_) q) (fun b z => ?_) (fun b y z => ?_)
      · have f := I.free
        rw [← z] at f
        rcases hb with hb | hb
        · rw [hb, h] at f
          cases f
        · rw [hb] at f
          cases f
      · rw [upd_ne (fun e => by rw [e, HD] at z; cases z)]
        exact z
      · rw [upd_ne (fun e => by rw [e, HD] at z; cases z)]
        exact z
theorem pe_sortLen (calm : X.calm = true) (hg : Gl X "sorted") (hm : X.mg "sorted" = none) (hl : Gl X "len") (ml : X.mg "len" = none) (he : PE X e te)
    (h1 : starEach [e] X.env = (false, eval e X.env) :: starEach [] X.env := by rfl) (h2 : backTo pos (starEach [e] X.env) = (false, eval e X.env) :: backTo pos (starEach [] X.env) := by rfl) (h3 : ((backTo pos (starEach [e] X.env)).any fun x => x.1) = false := by rfl) : PE X (.Call (.Name "sorted" p) [e] [⟨some "key", .Name "len" p2, kp⟩] pos) (tSortLen X.K te) := by
  refine ⟨fun pins s σ H Q I rd => ?_⟩
  refine wpAny_Call_Name_kw (ld_blt (u := Value.builtin "sorted") I hg hm (by decide +kernel) ?_)
  refine Rows.callWith_kw (thn ((pa_cons he pa_nil (hs := h1)).run pos pins s σ H (rSortLen X.K Q) I rd) fun us s1 ⟨vs, H1, I1, rv, q⟩ => ?_) h2 h3
  obtain ⟨a, bs, rfl, hA, hB, few, k⟩ := q
  obtain ⟨u, rfl, ru⟩ := vals1 rv
  obtain rfl : u = Value.ref a := ru
  refine Rows.evalAll_cons (wpAny_bind (ld_blt (u := Value.builtin "len") I1 hl ml (by decide +kernel) (wpAny_bind (wpAny_standAt (wpAny_pure (Rows.evalAll_nil ?_))))))
  obtain ⟨its, rvs, pl, hz⟩ := I1.list hA
  obtain ⟨m, ns, look⟩ := I1.loc
  obtain ⟨m', fr'⟩ := I1.fr
  have fr : Rows.Fr X.base X.env.locals s1.heap m := ⟨ns, fr'.keep, fr'.above⟩
  have kept : ∀ h, Rows.Fr X.base X.env.locals h m → Rows.News X.base X.env.locals h (allNews X.base s1.heap X.env.locals) → ∀ b o, b ≠ X.env.locals → s1.heap.get? b = some o → h.get? b = some o := fun h f n b o nl q => by
    rcases Option.eq_none_or_eq_some (X.base.get? b) with z | ⟨o', z⟩
    · exact (n (b, o) (mem_allNews nl z q)).1
    · have := fr.keep b o' z
      rw [q] at this
      cases this
      exact f.keep b o z
  have apart : ∀ {b : Addr} {xs : Array Value}, PlainL s1.heap b xs → b ≠ X.env.locals := fun {b xs} hb z => by
    obtain ⟨o, n, g, _, _, d⟩ := hb
    obtain ⟨o', es, ep, g', d', _⟩ := ns
    rw [z, g'] at g
    cases g
    rw [d'] at d
    cases d
  have len : its.length = bs.length := by
    rw [← rvs.length, List.length_map]
  have get : ∀ {i : Nat} {v : Value}, its[i]? = some v → i < bs.length ∧ v = Value.ref (bs.getD i (0, [])).1 := fun {i v} hv => by
    have il : i < bs.length := by
      rw [← len]
      exact (List.getElem?_eq_some_iff.mp hv).1
    refine ⟨il, ?_⟩
    have e1 : (bs.map fun b => V.ref b.1)[i]? = some (V.ref (bs.getD i (0, [])).1) := by
      rw [List.getElem?_map, List.getElem?_eq_getElem il, List.getD_eq_getElem?_getD, List.getElem?_eq_getElem il]
      rfl
    obtain ⟨u, hu, ru⟩ := rvs.get e1
    rw [hv] at hu
    cases hu
    exact ru
  have eits : its = bs.map fun b => Value.ref b.1 := by
    refine List.ext_getElem (by rw [len, List.length_map]) fun i h1 h2 => ?_
    have q := (get (List.getElem?_eq_getElem h1)).2
    rw [q, List.getElem_map, List.getD_eq_getElem?_getD, List.getElem?_eq_getElem (len ▸ h1)]
    rfl
  refine Rows.ksk_sorted (kz := bs.map fun b => ((b.2.length : Nat) : Int)) (f := .builtin "len") (b := false) (kw := [(Str.ofString "key", .builtin "len")]) (vs := its) (news := allNews X.base s1.heap X.env.locals) fr news_all (pl.at fun o q => kept s1.heap fr news_all a o (apart pl) q).isList (by rw [List.length_map, len]) (by rw [len]; exact few) (Rows.ksk_s1 _ _) (fun x => Rows.ksk_l1 _ _) (fun x => Rows.ksk_t4 _ _) (fun i v kk hv hk h tk own f n => ?_) fun D h' tk out c f n low ko => ?_
  · obtain ⟨il, rfl⟩ := get hv
    have n' : Rows.News X.base X.env.locals h (allNews X.base s1.heap X.env.locals) := fun p hp => n p (List.mem_append_left _ hp)
    have mem : bs.getD i (0, []) ∈ bs := by
      rw [List.getD_eq_getElem?_getD, List.getElem?_eq_getElem il]
      exact List.getElem_mem il
    obtain ⟨rs, rvr, plr, hzr⟩ := I1.list (hB _ mem)
    have lenr : rs.length = (bs.getD i (0, [])).2.length := by rw [← rvr.length, List.length_map]
    have ek : kk = ((bs.getD i (0, [])).2.length : Nat) := by
      rw [List.getElem?_map, List.getElem?_eq_getElem il] at hk
      rw [List.getD_eq_getElem?_getD, List.getElem?_eq_getElem il]
      exact (Option.some.inj hk).symm
    refine Calls.call_len_list ((plr.at fun o q => kept h f n' _ o (apart plr) q).isList) ?_ ⟨h, _, tk + 1, rfl, ?_, f, n⟩
    · rw [List.size_toArray, lenr]
      rw [List.length_map] at hzr
      have : sizeLine < 2 ^ 63 := by decide
      omega
    · rw [ek, List.size_toArray, lenr]
  · obtain ⟨nD, nL, n0⟩ := n (D, seqObj "list" out c) List.mem_cons_self
    have fresh : s1.heap.get? D = none := by
      cases z : s1.heap.get? D with
      | none => rfl
      | some o => exact absurd (low _ (mem_allNews nL n0 z)) (Nat.lt_irrefl _)
    obtain ⟨ps, pp, eo, pw⟩ := ko
    have ez : (bs.map fun b => ((b.2.length : Nat) : Int)).zip its = bs.map fun b => (((b.2.length : Nat) : Int), Value.ref b.1) := by
      rw [eits, List.zip_map', ]
    rw [ez] at pp
    obtain ⟨cs, pc, ec⟩ := perm_of_map _ pp rfl
    have eo2 : out.toList = cs.map fun b => Value.ref b.1 := by
      rw [eo, ec, List.map_map]
      rfl
    have rel : Vals (cs.map fun b => V.ref b.1) out.toList := by
      rw [eo2]
      exact vals_refs cs
    have srt : cs.Pairwise fun x y => x.2.length ≤ y.2.length := by
      rw [ec, List.pairwise_map] at pw
      exact pw.imp fun {x y} z => by
        rw [if_neg Bool.false_ne_true] at z
        exact Int.ofNat_le.mp z
    have HD : H1 D = none := I1.hok.gone fresh
    refine ⟨V.ref D, _, inv_frD I1 ns f.ns (kept h' f fun p hp => n p (List.mem_cons_of_mem _ hp)) fresh nD rel ?_, rfl, k cs D pc srt HD⟩
    rw [List.length_map, pc.length_eq]
    exact Nat.le_trans (Nat.le_of_lt few) (by decide)
end
/-- a dict comprehension over a range, the keys tuples -/
theorem dc_rangeT {lo : Int} {n : Nat} {g : TG} {tt : TT} {tk tv : TE} {vs : List Nat} {σ : L2.St} {H1 : Hp} {D : Addr} {Qd : Hp → Prop} (Pv : Nat → Hp → Prop) (h0 : Pv 0 (upd H1 D (.dT [])))
    (hs : ∀ i H, i < n → Pv i H → g (.int (lo + i)) (wipe σ vs) H fun σ2 H2 => wipe σ2 vs = wipe σ vs ∧ tt σ2 H2 fun t H3 =>
      if t = true then tk σ2 H3 fun y H4 => tv σ2 H4 fun z H5 => ∃ b kvs k, y = .ref b ∧ H5 b = some (.tup (k.map kV)) ∧ H5 D = some (.dT kvs) ∧ kvs.length < sizeLine ∧ Pv (i + 1) (upd H5 D (.dT (putK kvs k z))) else Pv (i + 1) H3) (hd : ∀ H, Pv n H → Qd H) :
    ∃ W : Nat → Nat → Hp → Prop, (∃ m, W 0 m (upd H1 D (.dT []))) ∧ ∀ i m H, W i m H →
      ((Itr lo n).stop i H ∧ Qd H) ∨ ((Itr lo n).go i H ∧ ∃ Nx : Hp → Prop, (∀ H', Nx H' → ∃ m', m' < m ∧ W (i + 1) m' H') ∧ ∀ x H', (Itr lo n).yld i H x H' → g x (wipe σ vs) H' fun σ2 H2 => wipe σ2 vs = wipe σ vs ∧ tt σ2 H2 fun t H3 =>
        if t = true then tk σ2 H3 fun y H4 => tv σ2 H4 fun z H5 => ∃ b kvs k, y = .ref b ∧ H5 b = some (.tup (k.map kV)) ∧ H5 D = some (.dT kvs) ∧ kvs.length < sizeLine ∧ Nx (upd H5 D (.dT (putK kvs k z))) else Nx H3) := by
  refine ⟨fun i left G => left + i = n ∧ Pv i G, ⟨n, rfl, h0⟩, fun i left G at_i => ?_⟩
  obtain ⟨sum, now⟩ := at_i
  cases left with
  | zero =>
    have last : i = n := by omega
    exact .inl ⟨(by show n ≤ i; omega), hd G (last ▸ now)⟩
  | succ l =>
    have more : i < n := by omega
    refine .inr ⟨more, Pv (i + 1), fun _ p' => ⟨l, Nat.lt_succ_self l, (by omega), p'⟩, fun x G' y => ?_⟩
    rcases y with ⟨rfl, rfl⟩
    exact hs i _ more now
end LcM

/-! min of a list of pairs of ints whose first none is less than. -/
namespace LcM
open PySem PySem.Spec PyProof PyProof.Rows L2 PySem.W
def prD (b : Addr × Int × Int) : PyData := .tuple [.int b.2.1, .int b.2.2]
def rMinP (K : PySem.W.Frag) : List V → Hp → VK → Prop := fun vs H Q => ∃ (a : Addr) (b0 : Addr × Int × Int) (bs : List (Addr × Int × Int)), vs = [V.ref a] ∧ SqL K H a ((b0 :: bs).map fun b => V.ref b.1) ∧ (∀ b ∈ b0 :: bs, SqT K H b.1 [V.int b.2.1, V.int b.2.2]) ∧
  (∀ b ∈ bs, ¬ (b.2.1 < b0.2.1 ∨ (b.2.1 = b0.2.1 ∧ b.2.2 < b0.2.2))) ∧ Q (.ref b0.1) H
theorem dp_prs {K : PySem.W.Frag} {H : Hp} : ∀ {bs : List (Addr × Int × Int)}, (∀ b ∈ bs, SqT K H b.1 [V.int b.2.1, V.int b.2.2]) → DpAll K H (bs.map fun b => V.ref b.1) (bs.map prD)
  | [], _ => .nil
  | b :: bs, h => .cons (.tup (h b List.mem_cons_self) (.cons (.int _) (.cons (.int _) .nil))) (dp_prs fun c hc => h c (List.mem_cons_of_mem _ hc))
theorem best0 {bt : Nat → Nat → Bool} : ∀ {k : Nat}, (∀ j, j < k → bt (j + 1) 0 = false) → argBest bt k = 0
  | 0, _ => rfl
  | k + 1, h => by
    unfold argBest
    rw [best0 fun j hj => h j (Nat.lt_succ_of_lt hj), h k (Nat.lt_succ_self k), if_neg Bool.false_ne_true]
theorem prs_depth : ∀ bs : List (Addr × Int × Int), PyData.depthAll (bs.map prD) ≤ 1
  | [] => Nat.zero_le _
  | b :: bs => by
    have q := prs_depth bs
    rw [List.map_cons]
    show max (prD b).depth (PyData.depthAll (bs.map prD)) ≤ 1
    have e : (prD b).depth = 1 := rfl
    rw [e]
    omega
section
variable {X : Cx}
theorem cr_minP (hc : X.calm = true) (hu : X.A.units + 64 < cLine) : CallR X (.builtin "min") (rMinP X.K) := by
  intro pins s σ H vs us Q I r h
  obtain ⟨a, b0, bs, rfl, hs, each, least, q⟩ := h
  obtain ⟨its, rv, hl, _⟩ := I.list hs
  rw [Vals.ref1 r]
  obtain ⟨as, hr⟩ := Dp.readsAll I _ _ its (dp_prs each) rv
  have hr' : ReadsAll s.heap its.toArray.toList ((b0 :: bs).map prD) as := hr
  have alk : AlikeAll ((b0 :: bs).map prD) := by
    refine ⟨fun x hx y hy => ?_, fun x hx => ?_⟩
    · obtain ⟨b, _, rfl⟩ := List.mem_map.mp hx
      obtain ⟨c, _, rfl⟩ := List.mem_map.mp hy
      unfold prD
      simp [alike, alikeAll]
    · obtain ⟨b, _, rfl⟩ := List.mem_map.mp hx
      exact fun z => nomatch z
  have n : its.toArray.size = bs.length + 1 := by
    rw [readsAll_len hr', List.length_map, List.length_cons]
  have dep := prs_depth (b0 :: bs)
  refine call_min_walkH (iter_listW (A := X.A.in1) (I.ok.hd hc) hl.isList fun s₂ e W st hfp hw hk => ?_)
  refine ⟨_, _, _, _, _, _, _, s.heap, _, rfl, W, st, hfp, by omega, hw, hk, cmpIn_lt (A := X.A.in1) hr' alk (by show X.A.units + 1 + _ < _; omega), fun v s' hP m => ?_⟩
  obtain ⟨h', tk, rfl, hk'⟩ := moved_old e rfl m
  have n1 : its.toArray.size - 1 = bs.length := by omega
  rw [n1, best0 (k := bs.length) fun j hj => ?_] at hP
  · obtain ⟨u, hu, ru⟩ := rv.get (show ((b0 :: bs).map fun b => V.ref b.1)[0]? = some (V.ref b0.1) from rfl)
    have ev : v = u := by
      have q1 : its.toArray[0]? = some v := hP
      rw [List.getElem?_toArray, hu] at q1
      exact (Option.some.inj q1).symm
    obtain rfl : u = Value.ref b0.1 := ru
    subst ev
    exact ⟨.ref b0.1, H, I.kept hk', rfl, q⟩
  · show dataLt (((b0 :: bs).map prD).getD (j + 1) .none) (prD b0) = false
    have jl : j < (bs.map prD).length := by rw [List.length_map]; exact hj
    have ej : ((b0 :: bs).map prD).getD (j + 1) .none = prD (bs[j]'hj) := by
      show (bs.map prD).getD j .none = _
      rw [List.getD_eq_getElem?_getD, List.getElem?_eq_getElem jl, List.getElem_map]
      rfl
    rw [ej]
    unfold prD
    rw [dataLt_ii]
    exact decide_eq_false (least _ (List.getElem_mem hj))
end
end LcM

/-! [(len(r), r) for r in rows if ..], sorted. -/
namespace SortR
open PySem PySem.Spec PyProof.Rows L2 PySem.W LcM
/-- a tuple, its row's place, the row -/
abbrev Pr := Addr × Addr × List Int
def prD (b : Pr) : PyData := .tuple [.int (b.2.2.length : Nat), .list (b.2.2.map .int)]
def lenLe (p q : Pr) : Bool := decide (p.2.2.length < q.2.2.length ∨ (p.2.2.length = q.2.2.length ∧ p.2.2 ≤ q.2.2))
theorem prD_alike (p q : Pr) : alike (prD p) (prD q) = true := by
  unfold prD
  simp only [alike, alikeAll, alike_ints, Bool.and_self, Bool.or_true, Bool.true_and, Bool.and_true]
theorem prD_le : dataLe false prD = lenLe := by
  funext p q
  show (!dataLt (prD q) (prD p)) = _
  unfold prD
  rw [dataLt_pair (by simp [alike]) (by simp only [alike]; exact alike_ints _ _), dataLt_int, dataLt_list]
  have e1 : PyData.eqv (.int (q.2.2.length : Nat)) (.int (p.2.2.length : Nat)) = decide (q.2.2.length = p.2.2.length) := by
    by_cases h : q.2.2.length = p.2.2.length
    · simp [PyData.eqv, h]
    · rw [decide_eq_false h]
      simp [PyData.eqv]
      omega
  have e2 : PyProof.Rows.lexLt itemOrd (keyToksAll (q.2.2.map .int)) (keyToksAll (p.2.2.map .int)) = decide (q.2.2 < p.2.2) := dataLt_ints _ _
  rw [e1, e2]
  unfold lenLe
  by_cases h : q.2.2.length = p.2.2.length
  · rw [if_pos (decide_eq_true h)]
    by_cases h2 : PyData.eqv (.list (q.2.2.map .int)) (.list (p.2.2.map .int)) = true
    · rw [if_pos h2]
      have e : q.2.2 = p.2.2 := by
        rw [eqv_ints] at h2
        exact of_decide_eq_true h2
      rw [e]
      exact (decide_eq_true (.inr ⟨rfl, List.le_refl _⟩)).symm
    · rw [if_neg h2]
      by_cases h3 : q.2.2 < p.2.2
      · rw [decide_eq_true h3]
        refine (decide_eq_false fun z => ?_).symm
        rcases z with z | ⟨_, z⟩
        · omega
        · exact List.not_lt.mpr z h3
      · rw [decide_eq_false h3]
        exact (decide_eq_true (.inr ⟨h.symm, List.not_lt.mp h3⟩)).symm
  · rw [if_neg (by rw [decide_eq_false h]; exact Bool.false_ne_true)]
    by_cases h3 : q.2.2.length < p.2.2.length
    · rw [decide_eq_true (show ((q.2.2.length : Nat) : Int) < (p.2.2.length : Nat) by omega)]
      exact (decide_eq_false fun z => by omega).symm
    · rw [decide_eq_false (show ¬ ((q.2.2.length : Nat) : Int) < (p.2.2.length : Nat) by omega)]
      exact (decide_eq_true (.inl (by omega))).symm
theorem len_trans (a b c : Pr) (h1 : lenLe a b = true) (h2 : lenLe b c = true) : lenLe a c = true := by
  unfold lenLe at *
  rw [decide_eq_true_eq] at *
  rcases h1 with h1 | ⟨h1, l1⟩ <;> rcases h2 with h2 | ⟨h2, l2⟩
  · exact .inl (by omega)
  · exact .inl (by omega)
  · exact .inl (by omega)
  · exact .inr ⟨by omega, List.le_trans l1 l2⟩
theorem len_total (a b : Pr) : (lenLe a b || lenLe b a) = true := by
  unfold lenLe
  rw [Bool.or_eq_true, decide_eq_true_eq, decide_eq_true_eq]
  rcases Nat.lt_trichotomy a.2.2.length b.2.2.length with h | h | h
  · exact .inl (.inl h)
  · rcases List.le_total a.2.2 b.2.2 with l | l
    · exact .inl (.inr ⟨h, l⟩)
    · exact .inr (.inr ⟨h.symm, l⟩)
  · exact .inr (.inl h)
theorem len_first {bs : List Pr} (h : bs ≠ []) : ∃ c rest, bs.mergeSort lenLe = c :: rest ∧ c ∈ bs ∧ ∀ b ∈ bs, lenLe c b = true := by
  have pw := List.pairwise_mergeSort (le := lenLe) len_trans len_total bs
  have mem : ∀ b, b ∈ bs.mergeSort lenLe ↔ b ∈ bs := fun b => List.mem_mergeSort
  cases e : bs.mergeSort lenLe with
  | nil =>
    have := List.length_mergeSort (le := lenLe) bs
    rw [e] at this
    exact absurd (List.length_eq_zero_iff.mp this.symm) h
  | cons c rest =>
    rw [e] at pw mem
    refine ⟨c, rest, rfl, (mem c).mp List.mem_cons_self, fun b hb => ?_⟩
    rcases List.mem_cons.mp ((mem b).mpr hb) with z | z
    · rw [z]
      have := len_total c c
      rwa [Bool.or_self] at this
    · exact (List.pairwise_cons.mp pw).1 b z
theorem vals_eachP {P : Pr → Prop} : ∀ {bs : List Pr} {us : List Value}, Vals (bs.map fun b => V.ref b.1) us → (∀ b ∈ bs, P b) → EachIs (fun v b => v = Value.ref b.1 ∧ P b) us bs
  | [], us, r, _ => by
    cases r
    exact .nil
  | b :: bs, us, r, hp => by
    cases r with
    | cons r1 r2 =>
      have e : _ = Value.ref b.1 := r1
      exact .cons ⟨e, hp b List.mem_cons_self⟩ (vals_eachP r2 fun c hc => hp c (List.mem_cons_of_mem _ hc))
theorem each_backP {P : Pr → Prop} : ∀ {us : List Value} {bs : List Pr}, EachIs (fun v b => v = Value.ref b.1 ∧ P b) us bs → Vals (bs.map fun b => V.ref b.1) us
  | _, _, .nil => .nil
  | _, _, .cons h t => .cons h.1 (each_backP t)
section
variable {X : Cx}
theorem call_sortedP (hu : X.A.units + 64 < cLine) : CallR X (.builtin "sorted") (fun xs H Q => ∃ (a : Addr) (bs : List Pr), xs = [V.ref a] ∧ SqL X.K H a (bs.map fun b => V.ref b.1) ∧ (∀ b ∈ bs, SqT X.K H b.1 [V.int (b.2.2.length : Nat), V.ref b.2.1] ∧ SqL X.K H b.2.1 (b.2.2.map V.int)) ∧
    ∀ p, H p = none → Q (.ref p) (upd H p (.lst ((bs.mergeSort lenLe).map fun b => V.ref b.1)))) := by
  intro pins s σ H xs us Q I r h
  obtain ⟨a, bs, rfl, hs, hb, q⟩ := h
  obtain ⟨u, rfl, ru⟩ := vals1 r
  obtain rfl : u = Value.ref a := ru
  obtain ⟨its, rv, hl, hz⟩ := I.list hs
  have each : EachIs (fun v (b : Pr) => v = Value.ref b.1 ∧ SqT X.K H b.1 [V.int (b.2.2.length : Nat), V.ref b.2.1] ∧ SqL X.K H b.2.1 (b.2.2.map V.int)) its bs := vals_eachP rv hb
  have len : its.length = bs.length := by rw [← rv.length, List.length_map]
  have each2 : EachIs (fun v (b : Pr) => ∃ as, Reads s.heap v (prD b) as) its bs := each_mono each fun v b ⟨e, hq, hr⟩ => by
    rw [e]
    exact Dp.reads I (prD b) (.ref b.1) (.ref b.1) (.tup hq (.cons (.int _) (.cons (.lst hr (rows_dp b.2.2)) .nil))) rfl
  refine sorted_data (enc := prD) hl.isList each each2 (AllAlike.of prD_alike) (Sortable.tuples fun b => ⟨_, _, rfl⟩) (by rw [← len]; rw [List.length_map] at hz; rw [len]; exact hz) (fun b _ => by
    have d : (prD b).depth = 2 := by
      unfold prD
      simp only [PyData.depth, PyData.depthAll, depth_ints]
      omega
    rw [d]
    omega) fun out ho each3 => ?_
  rw [prD_le] at each3
  have back := each_backP each3
  obtain ⟨n, hn⟩ := sortedAll_at s.heap its out.toArray
  refine ⟨.ref (s.heap.objs.size + 1), upd H (s.heap.objs.size + 1) (.lst ((bs.mergeSort lenLe).map fun b => V.ref b.1)), I.laid (t' := s.toks) (fun b o e => sortedAll_old e) (Nat.le_succ _) ⟨?_, out, n, back, hn⟩, rfl, q _ (I.hok.fresh (Nat.le_succ _))⟩
  rw [List.length_map, List.length_mergeSort]
  rw [List.length_map] at hz
  exact hz
end
end SortR
namespace LcM
open PySem PySem.Spec PyProof.Rows L2 SortR
section
variable {K : PySem.W.Frag} {a : Addr} {xs : List V} {g : TG} {tt : TT} {te tk tv : TE} {vs : List Nat} {σ : L2.St} {H0 : Hp} {D : Addr} {Qd : Hp → Prop}
theorem lc_listP (p : Nat → Bool) (B : Nat → Addr × List Int) (hD : H0 D = none) (hx : SqL K H0 a xs) (small : xs.length ≤ 1000000)
    (turn : ∀ (i : Nat) (x : V) (H : Hp) (Ry : V → Hp → Prop) (Rn : Hp → Prop), xs[i]? = some x → Grows H0 H → (p i = true → ∀ T H4, Grows H H4 → H T = none → H4 T = some (.tup [V.int ((B i).2.length : Nat), V.ref (B i).1]) → Ry (.ref T) H4) → (p i = false → ∀ H4, Grows H H4 → Rn H4) →
      g x (wipe σ vs) H fun σ2 H2 => wipe σ2 vs = wipe σ vs ∧ tt σ2 H2 fun t H3 => if t = true then te σ2 H3 Ry else Rn H3)
    (done : ∀ H (cs : List Pr), Grows H0 H → cs.map (·.2) = ((List.range xs.length).filter p).map B → (∀ c ∈ cs, H c.1 = some (.tup [V.int (c.2.2.length : Nat), V.ref c.2.1])) → H D = some (.lst (cs.map fun c => V.ref c.1)) → Qd H) :
    ∃ W : Nat → Nat → Hp → Prop, (∃ m, W 0 m (upd H0 D (.lst []))) ∧ ∀ i m H, W i m H →
      ((Itl K a).stop i H ∧ Qd H) ∨ ((Itl K a).go i H ∧ ∃ Nx : Hp → Prop, (∀ H', Nx H' → ∃ m', m' < m ∧ W (i + 1) m' H') ∧ ∀ x H', (Itl K a).yld i H x H' → g x (wipe σ vs) H' fun σ2 H2 => wipe σ2 vs = wipe σ vs ∧ tt σ2 H2 fun b H3 =>
        if b = true then te σ2 H3 fun y H4 => ∃ acc, H4 D = some (.lst acc) ∧ acc.length < sizeLine ∧ Nx (upd H4 D (.lst (acc ++ [y]))) else Nx H3) := by
  refine lc_list (fun i H => ∃ cs : List Pr, Grows H0 H ∧ cs.map (·.2) = ((List.range i).filter p).map B ∧ (∀ c ∈ cs, H c.1 = some (.tup [V.int (c.2.2.length : Nat), V.ref c.2.1])) ∧ H D = some (.lst (cs.map fun c => V.ref c.1)))
    ⟨[], Grows.new hD, rfl, (fun _ m => nomatch m), upd_same⟩ (fun i H _ ⟨_, s, _⟩ => s.seq hx) (fun i x H ex ⟨cs, s, e, n, top⟩ => ?_) fun H ⟨cs, s, e, n, top⟩ => done H cs s e n top
  have il := Nat.lt_of_lt_of_le (List.getElem?_eq_some_iff.mp ex).1 small
  have len : cs.length ≤ i := by
    have := congrArg List.length e
    rw [List.length_map, List.length_map] at this
    rw [this]
    exact Nat.le_trans (List.length_filter_le _ _) (Nat.le_of_eq List.length_range)
  refine turn i x H _ _ ex s (fun hp T H4 s4 hT eT => ⟨_, s4 _ _ top, ?_, cs ++ [(T, B i)], fun b o eb => ?_, ?_, fun c hc => ?_, ?_⟩) fun hp H4 s4 => ⟨cs, s.trans s4, ?_, fun c hc => s4 _ _ (n c hc), s4 _ _ top⟩
  · rw [List.length_map]
    exact Nat.lt_of_le_of_lt len (Nat.lt_trans il (by decide))
  · rw [upd_ne (ne_of_none eb hD)]
    exact s4 _ _ (s _ _ eb)
  · rw [List.map_append, e, List.range_succ, List.filter_append, List.map_append, List.filter_cons_of_pos hp]
    rfl
  · have cD : c.1 ≠ D := by
      rcases List.mem_append.mp hc with m | m
      · exact ne_of (n c m) top fun z => nomatch z
      · rw [List.mem_singleton.mp m]
        exact (ne_of_none top hT).symm
    rw [upd_ne cD]
    rcases List.mem_append.mp hc with m | m
    · exact s4 _ _ (n c m)
    · rw [List.mem_singleton.mp m]
      exact eT
  · rw [upd_same, List.map_append]
    rfl
  · rw [e, List.range_succ, List.filter_append, List.filter_cons_of_neg (by rw [hp]; exact Bool.false_ne_true)]
    simp
end
end LcM

/-! min of a list of (len(r), r). -/
namespace SortR
open PySem PySem.Spec PyProof PyProof.Rows L2 PySem.W LcM
def rMinS (K : PySem.W.Frag) : List V → Hp → VK → Prop := fun vs H Q => ∃ (a : Addr) (bs : List Pr), vs = [V.ref a] ∧ SqL K H a (bs.map fun b => V.ref b.1) ∧ (∀ b ∈ bs, SqT K H b.1 [V.int (b.2.2.length : Nat), V.ref b.2.1] ∧ SqL K H b.2.1 (b.2.2.map V.int)) ∧ bs ≠ [] ∧
  ∀ b ∈ bs, (∀ c ∈ bs, b.2.2.length ≤ c.2.2.length) → Q (.ref b.1) H
theorem dp_prS {K : PySem.W.Frag} {H : Hp} : ∀ {bs : List Pr}, (∀ b ∈ bs, SqT K H b.1 [V.int (b.2.2.length : Nat), V.ref b.2.1] ∧ SqL K H b.2.1 (b.2.2.map V.int)) → DpAll K H (bs.map fun b => V.ref b.1) (bs.map SortR.prD)
  | [], _ => .nil
  | b :: bs, h => .cons (.tup (h b List.mem_cons_self).1 (.cons (.int _) (.cons (.lst (h b List.mem_cons_self).2 (rows_dp b.2.2)) .nil))) (dp_prS fun c hc => h c (List.mem_cons_of_mem _ hc))
theorem prS_depth : ∀ bs : List Pr, PyData.depthAll (bs.map SortR.prD) ≤ 2
  | [] => Nat.zero_le _
  | b :: bs => by
    have q := prS_depth bs
    rw [List.map_cons]
    show max (SortR.prD b).depth (PyData.depthAll (bs.map SortR.prD)) ≤ 2
    have e : (SortR.prD b).depth ≤ 2 := by
      unfold SortR.prD
      simp only [PyData.depth, PyData.depthAll, depth_ints]
      omega
    omega
theorem best_min {bt : Nat → Nat → Bool} {len : Nat → Nat} : ∀ {k : Nat}, (∀ i j, i ≤ k → j ≤ k → (bt i j = true → len i ≤ len j) ∧ (len i < len j → bt i j = true)) → argBest bt k ≤ k ∧ ∀ j, j ≤ k → len (argBest bt k) ≤ len j
  | 0, _ => ⟨Nat.le_refl 0, fun j hj => by
    rw [Nat.le_zero.mp hj]
    exact Nat.le_refl _⟩
  | k + 1, h => by
    obtain ⟨a, b⟩ := best_min (k := k) fun i j hi hj => h i j (Nat.le_succ_of_le hi) (Nat.le_succ_of_le hj)
    unfold argBest
    split
    · rename_i c
      refine ⟨Nat.le_refl _, fun j hj => ?_⟩
      have l := (h (k + 1) (argBest bt k) (Nat.le_refl _) (by omega)).1 c
      rcases Nat.lt_or_ge j (k + 1) with q | q
      · have := b j (by omega)
        omega
      · obtain rfl : j = k + 1 := by omega
        exact Nat.le_refl _
    · rename_i c
      refine ⟨by omega, fun j hj => ?_⟩
      rcases Nat.lt_or_ge j (k + 1) with q | q
      · exact b j (by omega)
      · obtain rfl : j = k + 1 := by omega
        apply Classical.byContradiction
        intro l
        exact c ((h (k + 1) (argBest bt k) (Nat.le_refl _) (by omega)).2 (by omega))
section
variable {X : Cx}
theorem cr_minS (hc : X.calm = true) (hu : X.A.units + 65 < cLine) : CallR X (.builtin "min") (rMinS X.K) := by
  intro pins s σ H vs us Q I r h
  obtain ⟨a, bs, rfl, hs, each, ne, q⟩ := h
  obtain ⟨its, rv, hl, _⟩ := I.list hs
  rw [Vals.ref1 r]
  obtain ⟨as, hr⟩ := Dp.readsAll I _ _ its (dp_prS each) rv
  have hr' : ReadsAll s.heap its.toArray.toList (bs.map SortR.prD) as := hr
  have alk : AlikeAll (bs.map SortR.prD) := by
    refine ⟨fun x hx y hy => ?_, fun x hx => ?_⟩
    · obtain ⟨b, _, rfl⟩ := List.mem_map.mp hx
      obtain ⟨c, _, rfl⟩ := List.mem_map.mp hy
      exact prD_alike b c
    · obtain ⟨b, _, rfl⟩ := List.mem_map.mp hx
      exact fun z => nomatch z
  have n : its.toArray.size = bs.length := by
    rw [readsAll_len hr', List.length_map]
  have pos : 0 < bs.length := List.length_pos_iff.mpr ne
  have dep := prS_depth bs
  refine call_min_walkH (iter_listW (A := X.A.in1) (I.ok.hd hc) hl.isList fun s₂ e W st hfp hw hk => ?_)
  refine ⟨_, _, _, _, _, _, _, s.heap, _, rfl, W, st, hfp, by omega, hw, hk, cmpIn_lt (A := X.A.in1) hr' alk (by show X.A.units + 1 + _ < _; omega), fun v s' hP m => ?_⟩
  obtain ⟨h', tk, rfl, hk'⟩ := moved_old e rfl m
  have at_ : ∀ {i : Nat}, i < bs.length → (bs.map SortR.prD).getD i .none = SortR.prD (bs.getD i (0, 0, [])) := fun {i} hi => by
    rw [List.getD_eq_getElem?_getD, List.getElem?_map, List.getD_eq_getElem?_getD, List.getElem?_eq_getElem hi]
    rfl
  have main := best_min (bt := fun i j => dataLt ((bs.map SortR.prD).getD i .none) ((bs.map SortR.prD).getD j .none)) (len := fun i => (bs.getD i (0, 0, [])).2.2.length) (k := its.toArray.size - 1) fun i j hi hj => by
    show (dataLt ((bs.map SortR.prD).getD i .none) ((bs.map SortR.prD).getD j .none) = true → _) ∧ (_ → dataLt ((bs.map SortR.prD).getD i .none) ((bs.map SortR.prD).getD j .none) = true)
    rw [at_ (by omega), at_ (by omega)]
    have z : (!dataLt (SortR.prD (bs.getD i (0, 0, []))) (SortR.prD (bs.getD j (0, 0, [])))) = lenLe (bs.getD j (0, 0, [])) (bs.getD i (0, 0, [])) := congrFun (congrFun prD_le (bs.getD j (0, 0, []))) (bs.getD i (0, 0, []))
    unfold lenLe at z
    constructor
    · intro y
      rw [y] at z
      have := of_decide_eq_false z.symm
      show (bs.getD i (0, 0, [])).2.2.length ≤ (bs.getD j (0, 0, [])).2.2.length
      omega
    · intro l
      have l' : (bs.getD i (0, 0, [])).2.2.length < (bs.getD j (0, 0, [])).2.2.length := l
      rw [decide_eq_false (by omega)] at z
      cases y : dataLt (SortR.prD (bs.getD i (0, 0, []))) (SortR.prD (bs.getD j (0, 0, []))) with
      | true => rfl
      | false =>
        rw [y] at z
        cases z
  obtain ⟨b1, b2⟩ := main
  obtain ⟨i, ei⟩ : ∃ i, i = argBest (fun i j => dataLt ((bs.map SortR.prD).getD i .none) ((bs.map SortR.prD).getD j .none)) (its.toArray.size - 1) := ⟨_, rfl⟩
  rw [← ei] at hP b1 b2
  have il : i < bs.length := by omega
  obtain ⟨u, hu, ru⟩ := rv.get (show (bs.map fun b => V.ref b.1)[i]? = some (V.ref (bs[i]).1) by rw [List.getElem?_map, List.getElem?_eq_getElem il]; rfl)
  have ev : v = u := by
    have q1 : its.toArray[i]? = some v := hP
    rw [List.getElem?_toArray, hu] at q1
    exact (Option.some.inj q1).symm
  obtain rfl : u = Value.ref (bs[i]).1 := ru
  subst ev
  have gd : ∀ {j : Nat} (hj : j < bs.length), bs.getD j (0, 0, []) = bs[j] := fun {j} hj => by
    rw [List.getD_eq_getElem?_getD, List.getElem?_eq_getElem hj]
    rfl
  refine ⟨.ref (bs[i]).1, H, I.kept hk', rfl, q _ (List.getElem_mem il) fun c hc => ?_⟩
  obtain ⟨j, hj, rfl⟩ := List.getElem_of_mem hc
  have := b2 j (by omega)
  rw [gd il, gd hj] at this
  exact this
end
end SortR

/-! repr of rows of small numbers: unlike rows have unlike texts. -/
namespace RepA
open PySem PySem.Spec PyProof.Rows L2
def dgs (x : Int) : List Nat := ((toString x : String) : Str).cps.toList
theorem dgs_ok : ((List.range 20).all fun i => ((dgs (i : Nat)).all fun c => decide (c ≠ 44) && decide (c ≠ 93)) && decide (dgs (i : Nat) ≠ [])) = true := by decide +kernel
theorem dgs_inj : ((List.range 20).all fun i => (List.range 20).all fun j => decide (i = j) || decide (dgs (i : Nat) ≠ dgs (j : Nat))) = true := by decide +kernel
theorem cps_app (a b : Str) : (a ++ b).cps.toList = a.cps.toList ++ b.cps.toList := by
  show (a.cps ++ b.cps).toList = _
  exact Array.toList_append
/-- no comma, no closing bracket -/
def Pln (t : List Nat) : Prop := ∀ c ∈ t, c ≠ 44 ∧ c ≠ 93
theorem dgs_pln {x : Int} (h0 : 0 ≤ x) (h1 : x < 20) : Pln (dgs x) := by
  have z := List.all_eq_true.mp dgs_ok x.toNat (List.mem_range.mpr (by omega))
  rw [Int.toNat_of_nonneg h0, Bool.and_eq_true] at z
  intro c hc
  have q := List.all_eq_true.mp z.1 c hc
  rw [Bool.and_eq_true, decide_eq_true_eq, decide_eq_true_eq] at q
  exact q
theorem dgs_same {x y : Int} (x0 : 0 ≤ x) (x1 : x < 20) (y0 : 0 ≤ y) (y1 : y < 20) (e : dgs x = dgs y) : x = y := by
  have z := List.all_eq_true.mp (List.all_eq_true.mp dgs_inj x.toNat (List.mem_range.mpr (by omega))) y.toNat (List.mem_range.mpr (by omega))
  rw [Int.toNat_of_nonneg x0, Int.toNat_of_nonneg y0, Bool.or_eq_true, decide_eq_true_eq, decide_eq_true_eq] at z
  rcases z with z | z
  · omega
  · exact absurd e z
theorem pln_cut : ∀ {t u : List Nat} {c d : Nat} {A B : List Nat}, Pln t → Pln u → (c = 44 ∨ c = 93) → (d = 44 ∨ d = 93) → t ++ c :: A = u ++ d :: B → t = u ∧ c :: A = d :: B
  | [], [], _, _, _, _, _, _, _, _, e => ⟨rfl, e⟩
  | [], y :: u, c, d, A, B, _, hu, hc, _, e => by
    have e1 := (List.cons.inj e).1
    have := hu y List.mem_cons_self
    omega
  | x :: t, [], c, d, A, B, ht, _, _, hd, e => by
    have e1 := (List.cons.inj e).1
    have := ht x List.mem_cons_self
    omega
  | x :: t, y :: u, c, d, A, B, ht, hu, hc, hd, e => by
    obtain ⟨e1, e2⟩ := List.cons.inj e
    obtain ⟨e3, e4⟩ := pln_cut (fun z hz => ht z (List.mem_cons_of_mem _ hz)) (fun z hz => hu z (List.mem_cons_of_mem _ hz)) hc hd e2
    exact ⟨by rw [e1, e3], e4⟩
def tailE : List (List Nat) → List Nat
  | [] => [93]
  | t :: ts => 44 :: 32 :: (t ++ tailE ts)
theorem tail_hd : ∀ ts : List (List Nat), ∃ c A, tailE ts = c :: A ∧ (c = 44 ∨ c = 93)
  | [] => ⟨93, [], rfl, .inr rfl⟩
  | t :: ts => ⟨44, _, rfl, .inl rfl⟩
theorem tail_inj : ∀ {ts us : List (List Nat)}, (∀ t ∈ ts, Pln t) → (∀ u ∈ us, Pln u) → tailE ts = tailE us → ts = us
  | [], [], _, _, _ => rfl
  | [], _ :: _, _, _, e => by
    have := (List.cons.inj e).1
    omega
  | _ :: _, [], _, _, e => by
    have := (List.cons.inj e).1
    omega
  | t :: ts, u :: us, ht, hu, e => by
    have e2 := (List.cons.inj (List.cons.inj e).2).2
    obtain ⟨c, A, e3, hc⟩ := tail_hd ts
    obtain ⟨d, B, e4, hd⟩ := tail_hd us
    rw [e3, e4] at e2
    obtain ⟨e5, e6⟩ := pln_cut (ht t List.mem_cons_self) (hu u List.mem_cons_self) hc hd e2
    rw [e5, tail_inj (fun z hz => ht z (List.mem_cons_of_mem _ hz)) (fun z hz => hu z (List.mem_cons_of_mem _ hz)) (by rw [e3, e4, e6])]
theorem text_more : ∀ (ts : List Str) (k : Nat) (acc : Str), (textFrom (k + 1) acc ts ++ (("]" : String) : Str)).cps.toList = acc.cps.toList ++ tailE (ts.map fun t => t.cps.toList)
  | [], k, acc => by
    show (acc ++ (("]" : String) : Str)).cps.toList = _
    rw [cps_app]
    rfl
  | t :: ts, k, acc => by
    show (textFrom (k + 1 + 1) (acc ++ ((if k + 1 > 0 then ", " else "" : String) : Str) ++ t) ts ++ (("]" : String) : Str)).cps.toList = _
    rw [text_more ts (k + 1), if_pos (Nat.succ_pos k), cps_app, cps_app, List.append_assoc, List.append_assoc]
    rfl
theorem list_text (t : Str) (ts : List Str) : (listText (t :: ts)).cps.toList = 91 :: (t.cps.toList ++ tailE (ts.map fun t => t.cps.toList)) := by
  show (textFrom (0 + 1) ((("[" : String) : Str) ++ ((if 0 > 0 then ", " else "" : String) : Str) ++ t) ts ++ (("]" : String) : Str)).cps.toList = _
  rw [text_more ts 0, cps_app, cps_app, List.append_assoc, List.append_assoc]
  rfl
theorem shown_ints : ∀ r : List Int, PyData.shownAll (r.map .int) = r.map fun x => ((toString x : String) : Str)
  | [] => by simp only [List.map_nil, PyData.shownAll]
  | x :: r => by simp only [List.map_cons, PyData.shownAll, PyData.shown, shown_ints r]
theorem shown_row (x : Int) (r : List Int) : (PyData.list ((x :: r).map .int)).shown.cps.toList = 91 :: (dgs x ++ tailE (r.map dgs)) := by
  have e : (PyData.list ((x :: r).map .int)).shown = listText (((toString x : String) : Str) :: r.map fun x => ((toString x : String) : Str)) := by
    have q := shown_ints (x :: r)
    rw [List.map_cons, List.map_cons] at q
    simp only [PyData.shown, List.map_cons, q]
  rw [e, list_text, List.map_map]
  rfl
theorem map_dgs : ∀ {r s : List Int}, (∀ x ∈ r, 0 ≤ x ∧ x < 20) → (∀ x ∈ s, 0 ≤ x ∧ x < 20) → r.map dgs = s.map dgs → r = s
  | [], [], _, _, _ => rfl
  | [], _ :: _, _, _, e => nomatch e
  | _ :: _, [], _, _, e => nomatch e
  | x :: r, y :: s, hr, hs, e => by
    obtain ⟨e1, e2⟩ := List.cons.inj e
    have h1 := hr x List.mem_cons_self
    have h2 := hs y List.mem_cons_self
    rw [dgs_same h1.1 h1.2 h2.1 h2.2 e1, map_dgs (fun z hz => hr z (List.mem_cons_of_mem _ hz)) (fun z hz => hs z (List.mem_cons_of_mem _ hz)) e2]
/-- unlike rows of numbers below twenty have unlike texts -/
theorem shown_inj {r s : List Int} (nr : r ≠ []) (ns : s ≠ []) (hr : ∀ x ∈ r, 0 ≤ x ∧ x < 20) (hs : ∀ x ∈ s, 0 ≤ x ∧ x < 20) (e : (PyData.list (r.map .int)).shown = (PyData.list (s.map .int)).shown) : r = s := by
  cases r with
  | nil => exact absurd rfl nr
  | cons x r =>
    cases s with
    | nil => exact absurd rfl ns
    | cons y s =>
      have q := congrArg (fun t : Str => t.cps.toList) e
      rw [shown_row, shown_row] at q
      have q2 := (List.cons.inj q).2
      have pl : ∀ {r : List Int}, (∀ x ∈ r, 0 ≤ x ∧ x < 20) → ∀ t ∈ r.map dgs, Pln t := fun h t ht => by
        obtain ⟨x, hx, rfl⟩ := List.mem_map.mp ht
        exact dgs_pln (h x hx).1 (h x hx).2
      obtain ⟨c, A, e3, hc⟩ := tail_hd (r.map dgs)
      obtain ⟨d, B, e4, hd⟩ := tail_hd (s.map dgs)
      rw [e3, e4] at q2
      have h1 := hr x List.mem_cons_self
      have h2 := hs y List.mem_cons_self
      obtain ⟨e5, e6⟩ := pln_cut (dgs_pln h1.1 h1.2) (dgs_pln h2.1 h2.2) hc hd q2
      have e7 := tail_inj (pl fun z hz => hr z (List.mem_cons_of_mem _ hz)) (pl fun z hz => hs z (List.mem_cons_of_mem _ hz)) (by rw [e3, e4, e6])
      rw [dgs_same h1.1 h1.2 h2.1 h2.2 e5, map_dgs (fun z hz => hr z (List.mem_cons_of_mem _ hz)) (fun z hz => hs z (List.mem_cons_of_mem _ hz)) e7]
end RepA

/-! list(range(a, b, c)). -/
namespace L2
open PySem PySem.Spec PyProof.Rows
/-- the numbers i, i + c, .. -/
def rgC (i c : Int) (n : Nat) : List V := (List.range n).map fun k => V.int (i + ((k : Nat) : Int) * c)
def tLstRg3 (ta : TA) : TE := fun σ H Q => ta σ H fun vs H1 => ∃ (i j c : Int) (n : Nat), vs = [.int i, .int j, .int c] ∧ RgC i j c n ∧ n ≤ 2 ^ 24 ∧ ∀ q, H1 q = none → Q (.ref q) (upd H1 q (.lst (rgC i c n)))
theorem three_of {x y z : V} : ∀ {us : List Value}, Vals [x, y, z] us → ∃ u v w, us = [u, v, w] ∧ RelV x u ∧ RelV y v ∧ RelV z w
  | _, .cons a (.cons b (.cons c .nil)) => ⟨_, _, _, rfl, a, b, c⟩
section
variable {X : Cx}
theorem vals_rgC {a c : Int} {n : Nat} {acc : Array Value} (h : ItemsOf (fun i v => ∃ t, v = .int (a + i * c) t) acc n) : Vals (rgC a c n) acc.toList := by
  have e : acc.toList.length = n := by rw [Array.length_toList]; exact h.1
  unfold rgC
  rw [← e]
  refine vals_of_get acc.toList _ fun j u hj => ?_
  obtain ⟨t, rfl⟩ := h.2 j u (by rw [← hj, Array.getElem?_toList])
  exact ⟨t, rfl⟩
theorem pe_listRg3 {a b c : Expr} {ta : TA} {p p1 pos pos1 : Pos} (hc : X.calm = true) (hg : Gl X "list") (hm : X.mg "list" = none) (hgr : Gl X "range") (hmr : X.mg "range" = none) (ha : PA X [a, b, c] ta)
    (na : starEach [.Call (.Name "range" p1) [a, b, c] [] pos1] X.env = (false, eval (.Call (.Name "range" p1) [a, b, c] [] pos1) X.env) :: starEach [] X.env := by rfl)
    (hs : starEach [a, b, c] X.env = (false, eval a X.env) :: starEach [b, c] X.env := by rfl) (hpl : (backTo pos1 (starEach [b, c] X.env)).any (·.1) = false := by rfl) :
    PE X (.Call (.Name "list" p) [.Call (.Name "range" p1) [a, b, c] [] pos1] [] pos) (tLstRg3 ta) := by
  refine ⟨fun pins s σ H Q I h => ?_⟩
  have inner : wpAny (model X.prog X.w) X.A (eval (.Call (.Name "range" p1) [a, b, c] [] pos1) X.env) (fun x s' => ∃ r i j k n t u v H', x = .ref r ∧ IsRange s'.heap r i j k t u v ∧ Inv X pins σ H' s' ∧ RgC i j k n ∧ n ≤ 2 ^ 24 ∧ ∀ q, H' q = none → Q (.ref q) (upd H' q (.lst (rgC i k n)))) X.xe s := by
    refine Call_ (ld_blt I hgr hmr boot_range (PyProof.Rows.callWith_type1 (thn (ha.run pos1 pins s σ H _ I h) fun us s1 ⟨vs, H1, I1, r1, q1⟩ => ?_) hs hpl))
    obtain ⟨i, j, k, n, e, ok, l, q⟩ := q1
    subst e
    obtain ⟨_, _, _, rfl, ⟨t, rfl⟩, ⟨t', rfl⟩, ⟨t'', rfl⟩⟩ := three_of r1
    refine call_range_3 ok.1 ?_ (.inl (PyProof.noPylong_small ok.2.1))
    exact ⟨_, i, j, k, n, _, _, _, H1, rfl, IsRange.new _ _ _ _ _ _ _, I1.kept fun b u e => Heap.get?_push_of_some _ e, ok, l, q⟩
  refine Call_ (ld_blt I hg hm boot_list (PyProof.Rows.callWith_type1 (args_cons (thn inner fun x s1 ⟨r, i, j, k, n, t, u, v, H1, ex, hr, I1, ok, l, q⟩ => args_nil ?_) na) na))
  subst ex
  obtain ⟨c0, c1, c2, c3⟩ := ok
  refine call_list_range (n := n) (I1.ok.hd hc) hr c2 c3 l fun h' tk acc c' hk e' hi => ?_
  refine ⟨.ref s1.heap.objs.size, upd H1 s1.heap.objs.size (.lst (rgC i k n)), I1.laid hk (Nat.le_refl _) (show ObjOk X.prog X.w _ _ _ (.lst (rgC i k n)) from ⟨?_, acc.toList, c', vals_rgC hi, ?_⟩), rfl, q _ (I1.hok.fresh (Nat.le_refl _))⟩
  · unfold rgC
    rw [List.length_map, List.length_range, sizeLine_eq]
    omega
  · rw [Array.toArray_toList]
    exact e'
end
end L2

namespace K33
open PySem PySem.Spec PyProof.Rows L2 LcM
def top (i : Nat) : Stmt := PySem.Challenge.pw_twopartings_k33_changes_by_all_marks.main.body.getD i (.Pass ⟨0, 0, 0, 0⟩)
abbrev sStore : Stmt := top 25
abbrev sPick : Stmt := top 26

/-! ### power of a great base -/
def CPowW (i j : Int) : Prop := 0 ≤ j ∧ (Builtin.Int.intBits i : Int) * j ≤ 2 ^ 27
section
variable {X : Cx}
theorem op_powW : OpR X (binaryOp .Pow) (rI CPowW fun i j => .int (i ^ j.toNat)) := opI fun _ _ _ _ _ _ _ hc q => pow_int hc.1 hc.2 q
end
theorem bits_of {i : Int} {n : Nat} (h : i.natAbs < 2 ^ n) (h0 : 0 < n) : Builtin.Int.intBits i ≤ n := by
  unfold Builtin.Int.intBits
  split
  · omega
  · have := PySem.Flt.log2_lt_of h0 h
    omega
theorem pow3' {i : Int} {n : Nat} (h : i.natAbs < 2 ^ 64) (hn : n ≤ 1000) : CPowW i n := ⟨by omega, by
  have := bits_of h (by decide)
  have z : (Builtin.Int.intBits i : Int) * (n : Int) ≤ 64 * 1000 := Int.mul_le_mul (by omega) (by omega) (by omega) (by decide)
  omega⟩
theorem pow3 {i : Int} (h : i.natAbs < 2 ^ 300) : CPowW i 3 := ⟨by decide, by have := bits_of h (by decide); omega⟩

/-! ### the heap grows: all of it stays but at one place -/
def Gr (p : Addr) (H H' : Hp) : Prop := ∀ b o, b ≠ p → H b = some o → H' b = some o
theorem Gr.refl {p : Addr} {H : Hp} : Gr p H H := fun _ _ _ e => e
theorem Gr.trans {p : Addr} {H H1 H2 : Hp} (x : Gr p H H1) (y : Gr p H1 H2) : Gr p H H2 := fun b o n e => y b o n (x b o n e)
theorem Gr.new {p a : Addr} {H : Hp} {o : HO} (h : H a = none) : Gr p H (upd H a o) := fun b u n e => by
  rw [upd_ne (ne_of_none e h)]
  exact e
theorem Gr.at {p : Addr} {H : Hp} {o : HO} : Gr p H (upd H p o) := fun b u n e => by
  rw [upd_ne n]
  exact e
theorem _root_.LcM.Grows.gr {p : Addr} {H H' : Hp} (x : Grows H H') : Gr p H H' := fun b o _ e => x b o e
/-! ### the pouch -/
def Pch (H : Hp) (p : Addr) (m : Int) : Prop := ∃ d b n : Int, H p = some (.lst [.int d, .int b, .int n]) ∧ 0 ≤ b ∧ b < 2 ^ 200 ∧ 0 ≤ n ∧ n ≤ m
theorem Pch.le {H : Hp} {p : Addr} {m k : Int} (h : Pch H p m) (l : m ≤ k) : Pch H p k := by
  obtain ⟨d, b, n, e, h1, h2, h3, h4⟩ := h
  exact ⟨d, b, n, e, h1, h2, h3, by omega⟩
theorem Pch.same {H H' : Hp} {p : Addr} {m : Int} (h : Pch H p m) (s : Grows H H') : Pch H' p m := by
  obtain ⟨d, b, n, e, r⟩ := h
  exact ⟨d, b, n, s _ _ e, r⟩
structure Txt0 (mg : Str → Option Value) : Prop where
  int : mg "int" = none
  range : mg "range" = none
  len : mg "len" = none
  abs : mg "abs" = none
  max : mg "max" = none
  min : mg "min" = none
def spStore (K : PySem.W.Frag) : Sp := fun vs H Q _ => ∃ (a : Addr) (i : Int) (ns : List Int), vs = [.ref a, .int i] ∧ SqL K H a (ns.map V.int) ∧ 0 ≤ i ∧ i < 1000 ∧ ∀ (p : Addr) (H' : Hp), H p = none → Grows H H' → Pch H' p 0 → Q (.ref p) H'
def spPick : Sp := fun vs H Q _ => ∃ (p : Addr) (w m : Int), vs = [.ref p, .int w] ∧ Pch H p m ∧ m < 2 ^ 60 ∧ 0 < w ∧ w.natAbs < 2 ^ 200 ∧ ∀ (v : Int) (H' : Hp), 0 ≤ v → v < w → Pch H' p (m + 1) → (∀ b, b ≠ p → H' b = H b) → Q (.int v) H'

section
variable {P : Program} {w : World} {K : PySem.W.Frag} {mg : Str → Option Value} {base : Heap}
theorem scStore : FnScope ["script", "k", "cell"] ["script", "k"] (defScope sStore) := ⟨rfl, rfl, rfl, by decide +kernel, rfl, by decide +kernel, by decide +kernel⟩
theorem ok_store {f : Addr} {fd : FuncData} (F : Fun K "_law_store" "_law_store" sStore f fd) (T : Txt0 mg) : FnOk P w K mg base CX0 1 f fd ["script", "k"] (spStore K) := by
  refine F.ok scStore (fun vs H Q E h => ?_) (fun cdv A outer s H vs Q E hr h => ?_)
  · obtain ⟨a, i, ns, rfl, _⟩ := h
    rfl
  · obtain ⟨a, i, ns, rfl, hS, h0, h1, k⟩ := h
    refine ⟨_, (pss_cons (ps_set (i := 2) scStore.nd rfl (.inl rfl) (pe_ifExp (pt_cmpR op_lt (pv 1) (pe_callB call_len_seq (by rfl) T.len (by decide +kernel) (pa_cons (pv 0) pa_nil)) (nomark _)) (pe_callB call_abs (by rfl) T.abs (by decide +kernel) (pa_cons (pe_ix (r := rIxL K) ix_list (pv 0) (pv 1) (fun _ _ => rfl)) pa_nil)) pe_int))
      (pss_one (ps_ret (pe_lst (pa_cons (pe_callB (call_max2 rfl) (by rfl) T.max (by decide +kernel) (pa_cons pe_int (pa_cons (pe_op op_sub (pv 2) (pe_op op_powW pe_int pe_int)) pa_nil))) (pa_cons (pe_op op_add (pe_op op_mul (pe_op op_mod (pe_callTy call_int1 (by rfl) T.int (by decide +kernel) (pa_cons (pv 2) pa_nil)) (pe_op op_add (pe_op op_powW pe_int pe_int) pe_int)) pe_int) (pe_op op_mul pe_int (pv 1))) (pa_cons pe_int pa_nil))))))), ?_⟩
    have hP : CPowW 10 18 := pow3' (by decide) (by decide)
    have hP2 : CPowW 10 37 := pow3' (by decide) (by decide)
    have pos : (0 : Int) < (10 : Int) ^ (37 : Int).toNat + 43 := by decide
    have fin : ∀ c : Int, gName 2 (V.int c) (L2.start ["script", "k", "cell"] [V.ref a, V.int i]) H
        ({ nx := tRet (tLst (tCons (tCB (fun xs H Q => ∃ i j, xs = [V.int i, V.int j] ∧ Q (V.int (if j > i then j else i)) H) (tCons (tC (V.int 0)) (tCons (tOp (rI0 fun i j => V.int (i - j)) (tVar 2) (tOp (rI CPowW fun i j => V.int (i ^ j.toNat)) (tC (V.int 10)) (tC (V.int 18)))) tNil)))
              (tCons (tOp (rI0 fun i j => V.int (i + j)) (tOp (rI CMul fun i j => V.int (i * j)) (tOp (rI (fun x j => 0 < j) fun i j => V.int (i % j)) (tCB (fun xs H Q => (∃ i, xs = [V.int i] ∧ Q (V.int i) H) ∨ ∃ k, xs = [V.bl k] ∧ Q (V.int (if k = true then 1 else 0)) H) (tCons (tVar 2) tNil))
                (tOp (rI0 fun i j => V.int (i + j)) (tOp (rI CPowW fun i j => V.int (i ^ j.toNat)) (tC (V.int 10)) (tC (V.int 37))) (tC (V.int 43)))) (tC (V.int 83))) (tOp (rI CMul fun i j => V.int (i * j)) (tC (V.int 7)) (tVar 1))) (tCons (tC (V.int 0)) tNil))))
            ({ nx := fun _ H' => Q V.non H', rt := Q } : Ends), rt := Q } : Ends).nx := fun c => by
      refine ⟨_, rfl, _, _, rfl, rfl, hP, _, _, rfl, rfl, _, _, rfl, _, rfl, .inl ⟨_, rfl, _, _, rfl, rfl, hP2, _, _, rfl, rfl, _, _, rfl, rfl, pos, _, _, rfl, rfl, .inr ⟨by decide, by decide⟩, _, rfl, _, _, rfl, rfl, .inl ⟨by decide, by decide⟩, _, _, rfl, rfl, ?_⟩⟩
      have l0 := Int.emod_nonneg c (Int.ne_of_gt pos)
      have l1 := Int.emod_lt_of_pos c pos
      have e0 : (10 : Int) ^ (37 : Int).toNat + 43 = 10000000000000000000000000000000000043 := by decide
      rw [e0] at l0 l1 ⊢
      refine ⟨(by show 3 ≤ sizeLine; decide), fun l hl => k l _ hl (Grows.new hl) ⟨_, _, _, upd_same, ?_, ?_, by decide, by decide⟩⟩
      · omega
      · omega
    refine ⟨_, rfl, _, rfl, a, _, rfl, .inl hS, _, _, rfl, rfl, _, rfl, ?_⟩
    refine ite2 (fun e => ?_) (fun e => ?_)
    · have lt : i.toNat < ns.length := by
        have q := of_decide_eq_true e
        rw [List.length_map] at q
        omega
      have g : (ns.map V.int)[i.toNat]? = some (.int ns[i.toNat]) := by
        rw [List.getElem?_map, List.getElem?_eq_getElem lt]
        rfl
      have g2 : atI (ns.map V.int) i = some (.int ns[i.toNat]) := by
        have q := atI_nat g
        rw [Int.toNat_of_nonneg h0] at q
        exact q
      refine ⟨_, rfl, _, rfl, a, _, _, _, rfl, rfl, hS, g2, _, rfl, ?_⟩
      exact fin _
    · exact fin _
theorem scPick : FnScope ["store", "bound", "digit", "mixed"] ["store", "bound"] (defScope sPick) := ⟨rfl, rfl, rfl, by decide +kernel, rfl, by decide +kernel, by decide +kernel⟩
theorem ok_pick {f : Addr} {fd : FuncData} (F : Fun K "_law_pick" "_law_pick" sPick f fd) (T : Txt0 mg) : FnOk P w K mg base CX0 1 f fd ["store", "bound"] spPick := by
  refine F.ok scPick (fun vs H Q E h => ?_) (fun cdv A outer s H vs Q E hr h => ?_)
  · obtain ⟨p, wd, m, rfl, _⟩ := h
    rfl
  · obtain ⟨p, wd, m, rfl, ⟨d, b, n, e, b0, b1, n0, n1⟩, hm, hw, hw2, k⟩ := h
    refine ⟨_, (pss_cons (ps_if (pt_cmpR op_gt (pe_ix (r := rIxL K) ix_list (pv 0) pe_int (fun _ _ => rfl)) pe_int (nomark _)) (pss_cons (ps_set (i := 2) scPick.nd rfl (.inl rfl) (pe_op op_mod (pe_callTy call_int1 (by rfl) T.int (by decide +kernel) (pa_cons (pe_ix (r := rIxL K) ix_list (pv 0) pe_int (fun _ _ => rfl)) pa_nil)) (pv 1)))
      (pss_cons (ps_asg (pe_op op_fdivW (pe_ix (r := rIxL K) ix_list (pv 0) pe_int (fun _ _ => rfl)) (pv 1)) (pg_sub (pv 0) pe_int set_list))
      (pss_one (ps_ret (pv 2))))) pss_nil)
      (pss_cons (ps_asg (pe_op op_add (pe_ix (r := rIxL K) ix_list (pv 0) pe_int (fun _ _ => rfl)) pe_int) (pg_sub (pv 0) pe_int set_list))
      (pss_cons (ps_set (i := 3) scPick.nd rfl (.inl rfl) (pe_op op_mod (pe_callTy call_int1 (by rfl) T.int (by decide +kernel) (pa_cons (pe_op op_powW (pe_op op_add (pe_ix (r := rIxL K) ix_list (pv 0) pe_int (fun _ _ => rfl)) (pe_op op_mul pe_int (pe_ix (r := rIxL K) ix_list (pv 0) pe_int (fun _ _ => rfl)))) pe_int) pa_nil)) (pe_op op_add (pe_op op_powW pe_int pe_int) pe_int)))
      (pss_cons (ps_set (i := 3) scPick.nd rfl (.inl rfl) (pe_op op_mod (pe_callTy call_int1 (by rfl) T.int (by decide +kernel) (pa_cons (pe_op op_powW (pe_op op_add (pv 3) (pe_op op_mul pe_int (pe_ix (r := rIxL K) ix_list (pv 0) pe_int (fun _ _ => rfl)))) pe_int) pa_nil)) (pe_op op_add (pe_op op_powW pe_int pe_int) pe_int)))
      (pss_one (ps_ret (pe_op op_mod (pe_callTy call_int1 (by rfl) T.int (by decide +kernel) (pa_cons (pe_op op_fdivW (pv 3) pe_int) pa_nil)) (pv 1)))))))), ?_⟩
    refine ⟨_, rfl, p, _, _, _, rfl, rfl, SqL.of e, rfl, _, _, rfl, rfl, _, rfl, ?_⟩
    refine ite2 (fun _ => ?_) (fun _ => ?_)
    · refine ⟨_, rfl, p, _, _, _, rfl, rfl, SqL.of e, rfl, .inl ⟨_, rfl, _, rfl, _, _, rfl, rfl, hw, _, rfl, p, _, _, _, rfl, rfl, SqL.of e, rfl, _, rfl, _, _, rfl, rfl, wide_div hw hw2 (by decide) (by decide), _, rfl, p, _, _, 0, rfl, rfl, e, rfl, _, rfl, ?_⟩⟩
      exact k _ _ (Int.emod_nonneg _ (by omega)) (Int.emod_lt_of_pos _ hw) ⟨_, _, _, upd_same, b0, b1, n0, by omega⟩ fun _ h => upd_ne h
    · refine ⟨_, rfl, p, _, _, _, rfl, rfl, SqL.of e, rfl, _, _, rfl, rfl, _, rfl, p, _, _, 2, rfl, rfl, e, rfl, ?_⟩
      have hP : CPowW 10 40 := pow3' (by decide) (by decide)
      have hP2 : CPowW 10 39 := pow3' (by decide) (by decide)
      have q0 : (0 : Int) < (10 : Int) ^ (40 : Int).toNat + 121 := by decide
      have q1 : (0 : Int) < (10 : Int) ^ (39 : Int).toNat + 3 := by decide
      have q2 : (10 : Int) ^ (40 : Int).toNat + 121 < 2 ^ 200 := by decide
      have c1 : CPowW (b + 32416187567 * (n + 1)) 3 := pow3 (by omega)
      refine ⟨_, rfl, p, _, _, _, rfl, rfl, SqL.of upd_same, rfl, _, rfl, p, _, _, _, rfl, rfl, SqL.of upd_same, rfl, _, _, rfl, rfl, .inl ⟨by decide, by decide⟩, _, _, rfl, rfl, _, _, rfl, rfl, c1, .inl ⟨_, rfl, _, _, rfl, rfl, hP, _, _, rfl, rfl, _, _, rfl, rfl, q0, ?_⟩⟩
      obtain ⟨y, hy⟩ : ∃ y : Int, y = (b + 32416187567 * (n + 1)) ^ (3 : Int).toNat % ((10 : Int) ^ (40 : Int).toNat + 121) := ⟨_, rfl⟩
      have y0 : 0 ≤ y := hy ▸ Int.emod_nonneg _ (Int.ne_of_gt q0)
      have y1 : y < (10 : Int) ^ (40 : Int).toNat + 121 := hy ▸ Int.emod_lt_of_pos _ q0
      have c2 : CPowW (y + 27644437 * (n + 1)) 3 := pow3 (by omega)
      show gName 3 (.int ((b + 32416187567 * (n + 1)) ^ (3 : Int).toNat % ((10 : Int) ^ (40 : Int).toNat + 121))) _ _ _
      rw [← hy]
      refine ⟨_, rfl, _, rfl, p, _, _, _, rfl, rfl, SqL.of upd_same, rfl, _, _, rfl, rfl, .inl ⟨by decide, by decide⟩, _, _, rfl, rfl, _, _, rfl, rfl, c2, .inl ⟨_, rfl, _, _, rfl, rfl, hP2, _, _, rfl, rfl, _, _, rfl, rfl, q1, ?_⟩⟩
      refine ⟨_, rfl, _, _, rfl, rfl, ⟨by decide, by decide⟩, .inl ⟨_, rfl, _, rfl, _, _, rfl, rfl, hw, ?_⟩⟩
      exact k _ _ (Int.emod_nonneg _ (by omega)) (Int.emod_lt_of_pos _ hw) ⟨_, _, _, upd_same, b0, b1, by omega, by omega⟩ fun _ h => upd_ne h
end
end K33

namespace K33
open PySem PySem.Spec PyProof.Rows L2 LcM
abbrev sCome : Stmt := top 28
theorem at_in {xs : List V} {v : Int} (h0 : 0 ≤ v) (h1 : v < xs.length) : ∃ z ∈ xs, atI xs v = some z := by
  have lt : v.toNat < xs.length := by omega
  have q := atI_nat (List.getElem?_eq_getElem lt)
  rw [Int.toNat_of_nonneg h0] at q
  exact ⟨_, List.getElem_mem lt, q⟩
/-- items of newcomers: each within its bounds -/
def Bnd (xs : List Int) : Prop := ∀ (j : Nat) (x : Int), xs[j]? = some x → -(j : Int) ≤ x ∧ x ≤ (j : Int)
theorem Bnd.add {xs : List Int} {x : Int} (h : Bnd xs) (h0 : -(xs.length : Int) ≤ x) (h1 : x ≤ (xs.length : Int)) : Bnd (xs ++ [x]) := fun j y e => by
  rcases Nat.lt_or_ge j xs.length with z | z
  · rw [List.getElem?_append_left z] at e
    exact h j y e
  · rw [List.getElem?_append_right z] at e
    have : j - xs.length = 0 := by
      rcases Nat.eq_zero_or_pos (j - xs.length) with q | q
      · exact q
      · rw [List.getElem?_eq_none (by show 1 ≤ j - xs.length; omega)] at e
        cases e
    rw [this] at e
    have e' : x = y := Option.some.inj e
    omega
def spCome : Sp := fun vs H Q _ => ∃ (p : Addr) (mn m : Int), vs = [.ref p, .int mn] ∧ Pch H p m ∧ m < 2 ^ 50 ∧ 1 ≤ mn ∧ mn ≤ 20 ∧
  ∀ (l : Addr) (xs : List Int) (H' : Hp), (xs.length : Int) = mn - 1 → Bnd xs → Pch H' p (m + 100) → Gr p H H' → H l = none → H' l = some (.lst (xs.map V.int)) → Q (.ref l) H'
theorem but_at {p a : Addr} {H H' : Hp} {o : HO} (h : ∀ b, b ≠ p → H' b = H b) (e : H a = some o) (n : a ≠ p) : H' a = some o := (h a n).trans e
theorem but_gr {p : Addr} {H H' : Hp} (h : ∀ b, b ≠ p → H' b = H b) : Gr p H H' := fun b o n e => (h b n).trans e
theorem pch_ne {p a : Addr} {H : Hp} {m : Int} (h : Pch H p m) (n : H a = none) : a ≠ p := fun e => by
  obtain ⟨_, _, _, q, _⟩ := h
  rw [← e, n] at q
  cases q
section
variable {P : Program} {w : World} {K : PySem.W.Frag} {mg : Str → Option Value} {base : Heap}
structure TxtP1 (mg : Str → Option Value) (fP : Addr) : Prop extends Txt0 mg where
  gP : mg "_law_pick" = some (.ref fP)
theorem seq_all {t u : TS} {D : Ends} {σ : L2.St} {H : Hp} (I : L2.St → Hp → Prop) (h2 : ∀ σ' H', I σ' H' → u D σ' H') (h1 : (∀ σ' H', I σ' H' → u D σ' H') → tSeq t u D σ H) : tSeq t u D σ H := h1 h2
theorem iteN {A B : Prop} (c : Bool) (h1 : c = true → A) (h2 : c = false → B) : if c = true then A else B := by
  cases c
  · exact h2 rfl
  · exact h1 rfl
theorem nm_i {v : V} {i : Nat} {t u : TS} {D : Ends} {σ : L2.St} {H : Hp} (h : tSeq t u D (σ.set i (some v)) H) : gName i v σ H (tSeq t u D) := h
theorem scCome : FnScope ["store", "many_here", "found", "way", "who", "item"] ["store", "many_here"] (defScope sCome) := ⟨rfl, rfl, rfl, by decide +kernel, rfl, by decide +kernel, by decide +kernel⟩
theorem ok_come {f fP : Addr} {fd fdP : FuncData} (F : Fun K "_law_come" "_law_come" sCome f fd) (T : TxtP1 mg fP) (FP : Fun K "_law_pick" "_law_pick" sPick fP fdP) (bP : Binds K fdP ["store", "bound"] []) : FnOk P w K mg base CX0 2 f fd ["store", "many_here"] spCome := by
  have GP : FnOk P w K mg base CX0 1 fP fdP ["store", "bound"] spPick := ok_pick FP T.toTxt0
  refine F.ok scCome (fun vs H Q E h => ?_) (fun cdv A outer s H vs Q E hr h => ?_)
  · obtain ⟨p, mn, m, rfl, _⟩ := h
    rfl
  · obtain ⟨p, mn, m, rfl, hP, hm, hmn, hmx, k⟩ := h
    refine ⟨_, (pss_cons (ps_par (i := 2) (j := 3) (by rfl) scCome.nd rfl rfl (by decide) rfl rfl (pa_cons (pe_lst pa_nil) (pa_cons (pe_call GP (hr.mono (by decide)) rfl T.gP FP.kp bP .nil pass0 (pa_cons (pv 0) (pa_cons pe_int pa_nil))) pa_nil)) (by rfl))
      (pss_cons (ps_for PassesOwn.never rfl (pi_range2 (by rfl) T.range (pa_cons pe_int (pa_cons (pv 1) pa_nil))) (pg_name (i := 4) scCome.nd rfl (.inl rfl))
      (pss_cons (ps_set (i := 5) scCome.nd rfl (.inl rfl) (pe_op op_sub (pe_call GP (hr.mono (by decide)) rfl T.gP FP.kp bP .nil pass0 (pa_cons (pv 0) (pa_cons (pe_op op_sub (pe_op op_mul pe_int (pv 4)) pe_int) pa_nil))) (pe_op op_sub (pv 4) pe_int)))
      (pss_cons (ps_if (PW.pt (pw_and (pt_cmpR op_eq (pv 3) pe_int (nomark _)) (pw_and (pt_cmpR op_gt (pv 4) pe_int (nomark _)) (pw_and1 (pt_cmpR op_gt (pe_call GP (hr.mono (by decide)) rfl T.gP FP.kp bP .nil pass0 (pa_cons (pv 0) (pa_cons pe_int pa_nil))) pe_int (nomark _)))))) (pss_one (ps_set (i := 5) scCome.nd rfl (.inl rfl) (pe_op op_sub pe_int (pv 4)))) pss_nil)
      (pss_cons (ps_if (PW.pt (pw_and (pt_cmpR op_eq (pv 3) pe_int (nomark _)) (pw_and1 (pt_cmpR op_gt (pe_call GP (hr.mono (by decide)) rfl T.gP FP.kp bP .nil pass0 (pa_cons (pv 0) (pa_cons pe_int pa_nil))) pe_int (nomark _))))) (pss_one (ps_set (i := 5) scCome.nd rfl (.inl rfl) (pe_call GP (hr.mono (by decide)) rfl T.gP FP.kp bP .nil pass0 (pa_cons (pv 0) (pa_cons (pv 4) pa_nil))))) pss_nil)
      (pss_one (ps_expr (pe_bm PySem.F.plainAttrs_list PySem.F.slot_list_append PySem.F.type_list_append mt_append (pv 2) (pa_cons (pv 5) pa_nil))))))))
      (pss_one (ps_ret (pv 2))))), ?_⟩
    refine ⟨(by show 0 ≤ sizeLine; decide), fun l hl => ⟨_, rfl, ?_⟩⟩
    have nlp : l ≠ p := pch_ne hP hl
    refine ⟨p, _, _, rfl, hP.same (.new hl), by omega, by decide, by decide, fun v0 H1 v00 v01 hP1 but1 => ⟨_, _, rfl, ?_⟩⟩
    have el1 : H1 l = some (.lst []) := but_at but1 upd_same nlp
    refine ⟨_, rfl, 1, mn, rfl, ⟨by decide, by decide, by omega, by omega⟩, for_range (lo := 1) (n := (mn - 1).toNat) (fun i σ H' => ∃ (xs : List Int) (f1 f2 : Option V), σ = [some (.ref p), some (.int mn), some (.ref l), some (.int v0), f1, f2] ∧ xs.length = i ∧ Bnd xs ∧ Pch H' p (m + 1 + 4 * i) ∧ Gr p H H' ∧ H' l = some (.lst (xs.map V.int)))
      ⟨[], none, none, rfl, rfl, (fun j x e => by rw [List.getElem?_nil] at e; cases e), hP1.le (by omega), (Gr.new hl).trans (but_gr but1), el1⟩ ?_ ?_⟩
    · rintro i σ H2 hi ⟨xs, f1, f2, rfl, hxl, hb, hP2, gr2, e2⟩
      have hi20 : i < 19 := by omega
      refine ⟨_, rfl, _, rfl, _, _, rfl, rfl, .inl ⟨by decide, by decide⟩, _, _, rfl, rfl, p, _, _, rfl, hP2, by omega, by omega, ?_, fun v1 H3 v10 v11 hP3 but3 => ?_⟩
      · show (2 * (1 + (i : Int)) - 1).natAbs < 2 ^ 200
        omega
      refine ⟨_, rfl, _, _, rfl, rfl, _, _, rfl, rfl, ?_⟩
      dsimp only
      refine nm_i ?_
      refine seq_all (fun σ H' => ∃ x : Int, σ = [some (.ref p), some (.int mn), some (.ref l), some (.int v0), some (.int (1 + (i : Int))), some (.int x)] ∧ -(i : Int) ≤ x ∧ x ≤ (i : Int) ∧ Pch H' p (m + 1 + 4 * i + 2) ∧ Gr p H2 H') (fun σ' H' ⟨x, e, x0, x1, hP4, gr4⟩ => ?_) fun k2 => ?_
      · subst e
        refine seq_all (fun σ H' => ∃ x : Int, σ = [some (.ref p), some (.int mn), some (.ref l), some (.int v0), some (.int (1 + (i : Int))), some (.int x)] ∧ -(i : Int) ≤ x ∧ x ≤ (i : Int) ∧ Pch H' p (m + 1 + 4 * i + 4) ∧ Gr p H2 H') (fun σ' H' ⟨x, e, x0, x1, hP4, gr4⟩ => ?_) fun k3 => ?_
        · subst e
          have el := gr4 l _ nlp e2
          refine ⟨_, rfl, .inl ⟨rfl, _, SqL.of el⟩, _, rfl, l, _, _, rfl, rfl, el, ?_, ?_⟩
          · rw [List.length_map]
            exact small1000 (by omega)
          · refine ⟨xs ++ [x], _, _, rfl, by rw [List.length_append, hxl]; rfl, hb.add (by omega) (by omega), ?_, ?_, by rw [upd_same, List.map_append]; rfl⟩
            · obtain ⟨d, b, n, e, b0, b1, n0, n1⟩ := hP4
              exact ⟨d, b, n, (upd_ne nlp.symm).trans e, b0, b1, n0, by omega⟩
            · intro b o nb' eb
              rcases Classical.em (b = l) with e | e
              · rw [e, hl] at eb
                cases eb
              · rw [upd_ne e]
                exact gr4 b o nb' (gr2 b o nb' eb)
        · refine ⟨_, rfl, rfl, _, rfl, ?_⟩
          refine iteN _ (fun _ => ?_) fun _ => ?_
          · refine ⟨_, rfl, p, _, _, rfl, hP4, by omega, by decide, by decide, fun v2 H4 v20 v21 hP5 but5 => ⟨_, _, rfl, rfl, _, rfl, iteN _ (fun _ => ?_) fun _ => ?_⟩⟩
            · refine ⟨_, rfl, _, rfl, p, _, _, rfl, hP5, by omega, by omega, ?_, fun v3 H5 v30 v31 hP6 but6 => k3 _ _ ⟨v3, rfl, by omega, by omega, hP6.le (by omega), (gr4.trans (but_gr but5)).trans (but_gr but6)⟩⟩
              show (1 + (i : Int)).natAbs < 2 ^ 200
              omega
            · exact k3 _ _ ⟨x, rfl, x0, x1, hP5.le (by omega), gr4.trans (but_gr but5)⟩
          · exact k3 _ _ ⟨x, rfl, x0, x1, hP4.le (by omega), gr4⟩
      · refine ⟨_, rfl, rfl, _, rfl, ?_⟩
        have hx0 : -(i : Int) ≤ v1 - (1 + (i : Int) - 1) := by omega
        have hx1 : v1 - (1 + (i : Int) - 1) ≤ (i : Int) := by omega
        refine iteN _ (fun _ => ?_) fun _ => ?_
        · refine ⟨_, rfl, _, _, rfl, rfl, _, rfl, iteN _ (fun _ => ?_) fun _ => ?_⟩
          · refine ⟨_, rfl, p, _, _, rfl, hP3, by omega, by decide, by decide, fun v2 H4 v20 v21 hP5 but5 => ⟨_, _, rfl, rfl, _, rfl, iteN _ (fun _ => ?_) fun _ => ?_⟩⟩
            · exact ⟨_, rfl, _, _, rfl, rfl, k2 _ _ ⟨1 - (1 + (i : Int)), rfl, by omega, by omega, hP5.le (by omega), (but_gr but3).trans (but_gr but5)⟩⟩
            · exact k2 _ _ ⟨_, rfl, hx0, hx1, hP5.le (by omega), (but_gr but3).trans (but_gr but5)⟩
          · exact k2 _ _ ⟨_, rfl, hx0, hx1, hP3.le (by omega), but_gr but3⟩
        · exact k2 _ _ ⟨_, rfl, hx0, hx1, hP3.le (by omega), but_gr but3⟩
    · rintro σ H2 ⟨xs, f1, f2, rfl, hxl, hb, hP2, gr2, e2⟩
      exact ⟨_, rfl, k l xs H2 (by omega) hb (hP2.le (by omega)) gr2 hl e2⟩
end
end K33


namespace K33
open PySem PySem.Spec PyProof.Rows L2 SortR LcM
abbrev sNumber : Stmt := top 7
abbrev sPerson : Stmt := top 8
abbrev sAsc : Stmt := top 9
abbrev sPList : Stmt := top 10
abbrev sGroup : Stmt := top 11
abbrev sMask : Stmt := top 12
abbrev sCross : Stmt := top 13
abbrev sAny : Stmt := top 14
abbrev sParting : Stmt := top 16
abbrev sPersons : Stmt := top 17
/-- the program's defs, where they stand -/
structure ProgF (K : PySem.W.Frag) (mg : Str → Option Value) where
  (fNum fPer fAsc fPL fGr fMask fCross fAny fIs fPs : Addr)
  (dNum dPer dAsc dPL dGr dMask dCross dAny dIs dPs : FuncData)
  FNum : Fun K "is_number" "is_number" sNumber fNum dNum
  FPer : Fun K "is_person" "is_person" sPerson fPer dPer
  FAsc : Fun K "is_ascending" "is_ascending" sAsc fAsc dAsc
  FPL : Fun K "is_person_list" "is_person_list" sPList fPL dPL
  FGr : Fun K "is_group" "is_group" sGroup fGr dGr
  FMask : Fun K "mask_of" "mask_of" sMask fMask dMask
  FCross : Fun K "masks_cross" "masks_cross" sCross fCross dCross
  FAny : Fun K "any_cross" "any_cross" sAny fAny dAny
  FIs : Fun K "is_parting" "is_parting" sParting fIs dIs
  FPs : Fun K "persons_of" "persons_of" sPersons fPs dPs
  gNum : mg "is_number" = some (.ref fNum)
  gPer : mg "is_person" = some (.ref fPer)
  gAsc : mg "is_ascending" = some (.ref fAsc)
  gPL : mg "is_person_list" = some (.ref fPL)
  gGr : mg "is_group" = some (.ref fGr)
  gMask : mg "mask_of" = some (.ref fMask)
  gCross : mg "masks_cross" = some (.ref fCross)
  gAny : mg "any_cross" = some (.ref fAny)
  gIs : mg "is_parting" = some (.ref fIs)
  gPs : mg "persons_of" = some (.ref fPs)
  bNum : Binds K dNum ["thing"] []
  bPer : Binds K dPer ["thing", "persons"] []
  bAsc : Binds K dAsc ["items"] []
  bPL : Binds K dPL ["thing", "persons"] []
  bGr : Binds K dGr ["thing", "persons"] []
  bMask : Binds K dMask ["group"] []
  bCross : Binds K dCross ["one", "other"] []
  bAny : Binds K dAny ["groups"] []
  bIs : Binds K dIs ["thing"] []
  bPs : Binds K dPs ["parting"] []
  gComb : mg "combinations" = some (.type "itertools.combinations")
  mostT : Tok
  gMost : mg "MOST_PERSONS" = some (.int 20 mostT)
/-- the built-in kinds that may come -/
def kinds : List String := ["int", "bool", "str", "NoneType", "list", "tuple", "dict"]
structure TxtP (mg : Str → Option Value) : Prop where
  isi : mg "isinstance" = none
  int : mg "int" = none
  bool : mg "bool" = none
  list : mg "list" = none
  len : mg "len" = none
  all : mg "all" = none
  any : mg "any" = none
  sum : mg "sum" = none
  zip : mg "zip" = none
  sorted : mg "sorted" = none
  tuple : mg "tuple" = none
  range : mg "range" = none
  enumerate : mg "enumerate" = none
def spNumber (K : PySem.W.Frag) : Sp := fun vs H Q _ => ∃ (x : V) (t : String), vs = [x] ∧ TyX K H x (.type t) ∧ t ∈ kinds ∧ Q (.bl (decide (t = "int"))) H
def spPerson (K : PySem.W.Frag) : Sp := fun vs H Q _ => ∃ (x : V) (t : String) (n : Int), vs = [x, .int n] ∧ TyX K H x (.type t) ∧ t ∈ kinds ∧ (t = "int" → ∃ i, x = .int i ∧ Q (.bl (decide (0 ≤ i) && decide (i < n))) H) ∧ (t ≠ "int" → Q (.bl false) H)
/-- each below the one behind it -/
def ascI (ns : List Int) : Bool := (List.range (ns.length - 1)).all fun i => decide (ns.getD i 0 < ns.getD (i + 1) 0)
def ascR (rs : List (List Int)) : Bool := (List.range (rs.length - 1)).all fun i => decide (rs.getD i [] < rs.getD (i + 1) [])
def spAscI (K : PySem.W.Frag) : Sp := fun vs H Q _ => ∃ (a : Addr) (ns : List Int), vs = [.ref a] ∧ SqL K H a (ns.map V.int) ∧ ns.length ≤ 1000 ∧ ∀ H', Grows H H' → Q (.bl (ascI ns)) H'
def spAscR (K : PySem.W.Frag) : Sp := fun vs H Q _ => ∃ (a : Addr) (bs : List (Addr × List Int)), vs = [.ref a] ∧ SqL K H a (bs.map fun b => V.ref b.1) ∧ (∀ b ∈ bs, SqL K H b.1 (b.2.map V.int)) ∧ bs.length ≤ 1000 ∧ ∀ H', Grows H H' → Q (.bl (ascR (bs.map (·.2)))) H'
section
variable {P : Program} {w : World} {K : PySem.W.Frag} {mg : Str → Option Value} {base : Heap}
theorem scNumber : FnScope ["thing"] ["thing"] (defScope sNumber) := ⟨rfl, rfl, rfl, by decide +kernel, rfl, by decide +kernel, by decide +kernel⟩
theorem scPerson : FnScope ["thing", "persons"] ["thing", "persons"] (defScope sPerson) := ⟨rfl, rfl, rfl, by decide +kernel, rfl, by decide +kernel, by decide +kernel⟩
theorem scAsc : FnScope ["items", "low", "high"] ["items"] (defScope sAsc) := ⟨rfl, rfl, rfl, by decide +kernel, rfl, by decide +kernel, by decide +kernel⟩
theorem ok_number {f : Addr} {fd : FuncData} (F : Fun K "is_number" "is_number" sNumber f fd) (T : TxtP mg) : FnOk P w K mg base CX0 1 f fd ["thing"] (spNumber K) := by
  refine F.ok scNumber (fun vs H Q E h => ?_) (fun cdv A outer s H vs Q E hr h => ?_)
  · obtain ⟨x, t, rfl, _⟩ := h
    rfl
  · obtain ⟨x, t, rfl, ty, hk, k⟩ := h
    refine ⟨_, (pss_one (ps_ret (pe_and (pe_callB call_isi (by rfl) T.isi (by decide +kernel) (pa_cons (pv 0) (pa_cons (pe_bltn (v := .ty "int") (u := .type "int") (by rfl) T.int (by decide +kernel) rfl) pa_nil))) (pe_one (pe_not (pe_callB call_isi (by rfl) T.isi (by decide +kernel) (pa_cons (pv 0) (pa_cons (pe_bltn (v := .ty "bool") (u := .type "bool") (by rfl) T.bool (by decide +kernel) rfl) pa_nil)))))))), ?_⟩
    simp only [kinds, List.mem_cons, List.not_mem_nil, or_false] at hk
    rcases hk with rfl | rfl | rfl | rfl | rfl | rfl | rfl
    · exact ⟨_, rfl, _, _, _, _, true, rfl, .ty "int", ty, kit_ty (by decide +kernel), true, rfl, _, rfl, _, _, _, _, false, rfl, .ty "bool", ty, kit_ty (by decide +kernel), false, rfl, k⟩
    · exact ⟨_, rfl, _, _, _, _, true, rfl, .ty "int", ty, kit_ty (by decide +kernel), true, rfl, _, rfl, _, _, _, _, true, rfl, .ty "bool", ty, kit_ty (by decide +kernel), true, rfl, k⟩
    all_goals exact ⟨_, rfl, _, _, _, _, false, rfl, .ty "int", ty, kit_ty (by decide +kernel), false, rfl, k⟩
theorem ok_person (Z : ProgF K mg) (T : TxtP mg) : FnOk P w K mg base CX0 2 Z.fPer Z.dPer ["thing", "persons"] (spPerson K) := by
  have GNum : FnOk P w K mg base CX0 1 Z.fNum Z.dNum ["thing"] (spNumber K) := ok_number Z.FNum T
  refine Z.FPer.ok scPerson (fun vs H Q E h => ?_) (fun cdv A outer s H vs Q E hr h => ?_)
  · obtain ⟨x, t, n, rfl, _⟩ := h
    rfl
  · obtain ⟨x, t, n, rfl, ty, hk, k1, k2⟩ := h
    refine ⟨_, (pss_one (ps_ret (pe_and (pe_call GNum (hr.mono (by decide)) rfl Z.gNum Z.FNum.kp Z.bNum .nil pass0 (pa_cons (pv 0) pa_nil)) (pe_one (pe_chain op_le op_lt pe_int (pv 0) (pv 1)))))), ?_⟩
    refine ⟨_, rfl, x, t, rfl, ty, hk, ?_⟩
    by_cases e : t = "int"
    · obtain ⟨i, rfl, q⟩ := k1 e
      refine ⟨_, rfl, ?_⟩
      rw [if_pos (decide_eq_true e)]
      refine ⟨_, rfl, _, _, rfl, rfl, _, rfl, ?_⟩
      by_cases l : 0 ≤ i
      · rw [if_pos (decide_eq_true l)]
        refine ⟨_, rfl, _, _, rfl, rfl, ?_⟩
        rw [decide_eq_true l, Bool.true_and] at q
        exact q
      · rw [if_neg (by rw [decide_eq_false l]; exact Bool.false_ne_true)]
        rw [decide_eq_false l, Bool.false_and] at q
        exact q
    · refine ⟨_, rfl, ?_⟩
      rw [if_neg (by rw [decide_eq_false e]; exact Bool.false_ne_true)]
      exact k2 e
theorem at_map {α : Type} {f : α → V} {ns : List α} {i : Nat} {x : V} {d : α} (h : (ns.map f)[i]? = some x) : x = f (ns.getD i d) := by
  rw [List.getElem?_map] at h
  obtain ⟨z, hz, e⟩ := Option.map_eq_some_iff.mp h
  rw [← e, List.getD_eq_getElem?_getD, hz]
  rfl
theorem at_tail {α : Type} {f : α → V} {ns : List α} {i : Nat} {x : V} {d : α} (h : (ns.map f).tail[i]? = some x) : x = f (ns.getD (i + 1) d) := by
  rw [List.getElem?_tail] at h
  exact at_map h
theorem all_rng (n : Nat) (p : Nat → Bool) : ((List.range n).map p).all id = (List.range n).all p := by
  rw [List.all_map]
  rfl
theorem ok_ascI {f : Addr} {fd : FuncData} (F : Fun K "is_ascending" "is_ascending" sAsc f fd) (T : TxtP mg) : FnOk P w K mg base CX0 1 f fd ["items"] (spAscI K) := by
  refine F.ok scAsc (fun vs H Q E h => ?_) (fun cdv A outer s H vs Q E hr h => ?_)
  · obtain ⟨a, ns, rfl, _⟩ := h
    rfl
  · obtain ⟨a, ns, rfl, hS, hn, k⟩ := h
    refine ⟨_, (pss_one (ps_ret (pe_callB (cr_all rfl) (by rfl) T.all (by decide +kernel) (pa_cons (pe_lc (own := [("low", 1), ("high", 2)]) (g := gTup K 2 (gCons (gName 1) (gCons (gName 2) gNil))) (tt := tYes) rfl scAsc.nd (pi_zip (by rfl) T.zip (pa_cons (pv 0) (pa_cons (pe_slice sl_list (pv 0) (po_some pe_int) po_none) pa_nil))) (blkOk_by (own := [("low", 1), ("high", 2)]) (N := ["items", "low", "high"]) (sc := defScope sAsc) (by decide +kernel)) (fun _ _ _ _ _ => pg_tup rfl (pgs_cons (pg_name (i := 1) scAsc.nd rfl (Or.inl rfl)) (pgs_cons (pg_name (i := 2) scAsc.nd rfl (Or.inl rfl)) pgs_nil))) (fun _ _ _ _ _ => pts_nil) (fun _ _ _ _ _ => (pe_cmpR op_lt (pv 1) (pv 2) (nomark _)))) pa_nil)))), ?_⟩
    refine ⟨_, rfl, _, rfl, 1, rfl, a, _, rfl, hS, fun c nc => ?_⟩
    rw [cut_tail]
    refine ⟨a, c, _, _, rfl, (Grows.new nc).seq hS, SqL.of upd_same, fun D hD => lc_zipM (K := K) (fun i => V.bl (decide (ns.getD i 0 < ns.getD (i + 1) 0))) hD ((Grows.new nc).seq hS) (SqL.of upd_same) (by rw [List.length_map]; omega) (fun i x y T H' R hx hy sm hT kR => ?_) fun H' sm eD => ?_⟩
    · refine ⟨T, _, rfl, SqT.of upd_same, rfl, _, _, rfl, _, _, rfl, rfl, ?_⟩
      obtain rfl := at_map (d := 0) hx
      obtain rfl := at_tail (d := 0) hy
      exact ⟨rfl, _, rfl, _, rfl, _, _, rfl, rfl, kR _ .refl⟩
    · have e : min (ns.map V.int).length (ns.map V.int).tail.length = ns.length - 1 := by
        rw [List.length_tail, List.length_map]
        omega
      rw [e] at eD
      refine ⟨D, (List.range (ns.length - 1)).map fun i => decide (ns.getD i 0 < ns.getD (i + 1) 0), rfl, SqL.of (by rw [eD, List.map_map]; rfl), ?_⟩
      rw [all_rng]
      exact k H' ((Grows.new nc).trans sm)
theorem ok_ascR {f : Addr} {fd : FuncData} (F : Fun K "is_ascending" "is_ascending" sAsc f fd) (T : TxtP mg) : FnOk P w K mg base CX0 1 f fd ["items"] (spAscR K) := by
  refine F.ok scAsc (fun vs H Q E h => ?_) (fun cdv A outer s H vs Q E hr h => ?_)
  · obtain ⟨a, bs, rfl, _⟩ := h
    rfl
  · obtain ⟨a, bs, rfl, hS, hb, hn, k⟩ := h
    refine ⟨_, (pss_one (ps_ret (pe_callB (cr_all rfl) (by rfl) T.all (by decide +kernel) (pa_cons (pe_lc (own := [("low", 1), ("high", 2)]) (g := gTup K 2 (gCons (gName 1) (gCons (gName 2) gNil))) (tt := tYes) rfl scAsc.nd (pi_zip (by rfl) T.zip (pa_cons (pv 0) (pa_cons (pe_slice sl_list (pv 0) (po_some pe_int) po_none) pa_nil))) (blkOk_by (own := [("low", 1), ("high", 2)]) (N := ["items", "low", "high"]) (sc := defScope sAsc) (by decide +kernel)) (fun _ _ _ _ _ => pg_tup rfl (pgs_cons (pg_name (i := 1) scAsc.nd rfl (Or.inl rfl)) (pgs_cons (pg_name (i := 2) scAsc.nd rfl (Or.inl rfl)) pgs_nil))) (fun _ _ _ _ _ => pts_nil) (fun _ _ _ _ _ => (pe_cmpR (r := rLtR K) (op_ltR (by exact hr.units)) (pv 1) (pv 2) (nomark _)))) pa_nil)))), ?_⟩
    refine ⟨_, rfl, _, rfl, 1, rfl, a, _, rfl, hS, fun c nc => ?_⟩
    rw [cut_tail]
    have hbD : ∀ i : Nat, i < bs.length → SqL K H (bs.getD i (0, [])).1 ((bs.getD i (0, [])).2.map V.int) := fun i hi => by
      rw [List.getD_eq_getElem?_getD, List.getElem?_eq_getElem hi]
      exact hb _ (List.getElem_mem hi)
    refine ⟨a, c, _, _, rfl, (Grows.new nc).seq hS, SqL.of upd_same, fun D hD => lc_zipM (K := K) (fun i => V.bl (decide ((bs.getD i (0, [])).2 < (bs.getD (i + 1) (0, [])).2))) hD ((Grows.new nc).seq hS) (SqL.of upd_same) (by rw [List.length_map]; omega) (fun i x y T H' R hx hy sm hT kR => ?_) fun H' sm eD => ?_⟩
    · have i1 := (List.getElem?_eq_some_iff.mp hx).1
      have i2 := (List.getElem?_eq_some_iff.mp hy).1
      rw [List.length_map] at i1
      rw [List.length_tail, List.length_map] at i2
      refine ⟨T, _, rfl, SqT.of upd_same, rfl, _, _, rfl, _, _, rfl, rfl, ?_⟩
      obtain rfl := at_map (d := (0, [])) hx
      obtain rfl := at_tail (d := (0, [])) hy
      have st : Grows H (upd H' T (.tup [V.ref (bs.getD i (0, [])).1, V.ref (bs.getD (i + 1) (0, [])).1])) := ((Grows.new nc).trans sm).trans (Grows.new hT)
      exact ⟨rfl, _, rfl, _, rfl, _, _, _, _, rfl, rfl, st.seq (hbD i i1), st.seq (hbD (i + 1) (by omega)), kR _ .refl⟩
    · have e : min (bs.map fun b => V.ref b.1).length (bs.map fun b => V.ref b.1).tail.length = bs.length - 1 := by
        rw [List.length_tail, List.length_map]
        omega
      rw [e] at eD
      refine ⟨D, (List.range (bs.length - 1)).map fun i => decide ((bs.getD i (0, [])).2 < (bs.getD (i + 1) (0, [])).2), rfl, SqL.of (by rw [eD, List.map_map]; rfl), ?_⟩
      rw [all_rng]
      have q := k H' ((Grows.new nc).trans sm)
      unfold ascR at q
      rw [List.length_map] at q
      have fe : ∀ i, (bs.map (·.2)).getD i [] = (bs.getD i (0, [])).2 := fun i => by
        rw [List.getD_eq_getElem?_getD, List.getD_eq_getElem?_getD, List.getElem?_map]
        cases bs[i]? <;> rfl
      simp only [fe] at q
      exact q
end
end K33

namespace K33
open PySem PySem.Spec PyProof.Rows L2 SortR LcM
theorem ty_list {K : PySem.W.Frag} {H : Hp} {a : Addr} {xs : List V} (h : SqL K H a xs) : TyX K H (.ref a) (.type "list") := by
  rcases h with (h | ⟨o, h⟩) | ⟨o, its, n, h, hc, _⟩
  · exact .base (.lst h)
  · exact .base (.frz h)
  · exact .kList h hc
def inR (n : Int) (ns : List Int) : Bool := (List.range ns.length).all fun i => decide (0 ≤ ns.getD i 0) && decide (ns.getD i 0 < n)
def plist (n : Int) (ns : List Int) : Bool := inR n ns && ascI ns
def group (n : Int) (ns : List Int) : Bool := plist n ns && decide (2 ≤ (ns.length : Int))
def maskI (ns : List Int) : Int := ((List.range ns.length).map fun i => 1 * 2 ^ (ns.getD i 0).toNat).sum
def crossI (i j : Int) : Bool := !inV (.int (Builtin.bitAnd i j)) [.int 0, .int i, .int j]
def anyX (rs : List (List Int)) : Bool := (List.range (Comb.prs rs.length).length).any fun t => crossI (maskI (rs.getD ((Comb.prs rs.length).getD t (0, 0)).1 [])) (maskI (rs.getD ((Comb.prs rs.length).getD t (0, 0)).2 []))
def isP (rs : List (List Int)) : Bool := decide ((rs.length : Int) < 20) && ((List.range rs.length).all fun i => group (rs.length + 1) (rs.getD i [])) && ascR rs && !anyX rs
def spPL (K : PySem.W.Frag) (m : Int → List Int → Bool) : Sp := fun vs H Q _ => ∃ (a : Addr) (n : Int) (ns : List Int), vs = [.ref a, .int n] ∧ SqL K H a (ns.map V.int) ∧ ns.length ≤ 1000 ∧ ∀ H', Grows H H' → Q (.bl (m n ns)) H'
def spMask (K : PySem.W.Frag) : Sp := fun vs H Q _ => ∃ (a : Addr) (ns : List Int), vs = [.ref a] ∧ SqL K H a (ns.map V.int) ∧ ns.length ≤ 1000 ∧ (∀ x ∈ ns, 0 ≤ x ∧ x ≤ 1000) ∧ ∀ H', Grows H H' → Q (.int (maskI ns)) H'
def spCross : Sp := fun vs H Q _ => ∃ (i j : Int), vs = [.int i, .int j] ∧ ∀ H', Grows H H' → Q (.bl (crossI i j)) H'
section
variable {P : Program} {w : World} {K : PySem.W.Frag} {mg : Str → Option Value} {base : Heap}
theorem scPList : FnScope ["thing", "persons", "item"] ["thing", "persons"] (defScope sPList) := ⟨rfl, rfl, rfl, by decide +kernel, rfl, by decide +kernel, by decide +kernel⟩
theorem scGroup : FnScope ["thing", "persons"] ["thing", "persons"] (defScope sGroup) := ⟨rfl, rfl, rfl, by decide +kernel, rfl, by decide +kernel, by decide +kernel⟩
theorem scMask : FnScope ["group", "person"] ["group"] (defScope sMask) := ⟨rfl, rfl, rfl, by decide +kernel, rfl, by decide +kernel, by decide +kernel⟩
theorem scCross : FnScope ["one", "other"] ["one", "other"] (defScope sCross) := ⟨rfl, rfl, rfl, by decide +kernel, rfl, by decide +kernel, by decide +kernel⟩
theorem ok_plist (Z : ProgF K mg) (T : TxtP mg) : FnOk P w K mg base CX0 3 Z.fPL Z.dPL ["thing", "persons"] (spPL K plist) := by
  have GPer : FnOk P w K mg base CX0 2 Z.fPer Z.dPer ["thing", "persons"] (spPerson K) := ok_person Z T
  have GAsc : FnOk P w K mg base CX0 1 Z.fAsc Z.dAsc ["items"] (spAscI K) := ok_ascI Z.FAsc T
  refine Z.FPL.ok scPList (fun vs H Q E h => ?_) (fun cdv A outer s H vs Q E hr h => ?_)
  · obtain ⟨a, n, ns, rfl, _⟩ := h
    rfl
  · obtain ⟨a, n, ns, rfl, hS, hn, k⟩ := h
    refine ⟨_, (pss_cons (ps_if (pt_not (pt_val (pe_callB call_isi (by rfl) T.isi (by decide +kernel) (pa_cons (pv 0) (pa_cons (pe_bltn (v := .ty "list") (u := .type "list") (by rfl) T.list (by decide +kernel) rfl) pa_nil))))) (pss_one (ps_ret pe_bl)) pss_nil)
      (pss_one (ps_ret (pe_and (pe_callB (cr_all rfl) (by rfl) T.all (by decide +kernel) (pa_cons (pe_lc (own := [("item", 2)]) (g := gName 2) (tt := tYes) rfl scPList.nd (pi_list (pv 0)) (blkOk_by (own := [("item", 2)]) (N := ["thing", "persons", "item"]) (sc := defScope sPList) (by decide +kernel)) (fun _ _ _ _ _ => pg_name (i := 2) scPList.nd rfl (Or.inl rfl)) (fun _ _ _ _ _ => pts_nil) (fun _ _ _ _ _ => (pe_call GPer (hr.mono (by decide)) rfl Z.gPer Z.FPer.kp Z.bPer .nil pass0 (pa_cons (pv 2) (pa_cons (pv 1) pa_nil))))) pa_nil)) (pe_one (pe_call GAsc (hr.mono (by decide)) rfl Z.gAsc Z.FAsc.kp Z.bAsc .nil pass0 (pa_cons (pv 0) pa_nil))))))), ?_⟩
    refine ⟨_, rfl, _, _, _, _, true, rfl, .ty "list", ty_list hS, kit_ty (by decide +kernel), true, rfl, ?_⟩
    refine iteF ⟨_, rfl, a, rfl, ⟨_, hS⟩, fun D hD => lc_listM (K := K) (fun i => V.bl (decide (0 ≤ ns.getD i 0) && decide (ns.getD i 0 < n))) hD hS (by rw [List.length_map]; omega) (fun i x H' R hx sm kR => ?_) fun H' sm eD => ?_⟩
    · obtain rfl := at_map (d := 0) hx
      refine ⟨rfl, _, rfl, _, rfl, _, "int", n, rfl, .base (.int _), by decide, fun _ => ⟨_, rfl, kR _ .refl⟩, fun z => absurd rfl z⟩
    · rw [List.length_map] at eD
      refine ⟨D, (List.range ns.length).map fun i => decide (0 ≤ ns.getD i 0) && decide (ns.getD i 0 < n), rfl, SqL.of (by rw [eD, List.map_map]; rfl), _, rfl, ?_⟩
      rw [all_rng]
      show if inR n ns = true then _ else _
      by_cases hi : inR n ns = true
      · rw [if_pos hi]
        refine ⟨_, rfl, a, ns, rfl, sm.seq hS, hn, fun H2 s2 => ?_⟩
        have q := k H2 (sm.trans s2)
        unfold plist at q
        rw [hi, Bool.true_and] at q
        exact q
      · rw [if_neg hi]
        have q := k H' sm
        unfold plist at q
        rw [Bool.eq_false_iff.mpr hi, Bool.false_and] at q
        exact q
theorem ok_group (Z : ProgF K mg) (T : TxtP mg) : FnOk P w K mg base CX0 4 Z.fGr Z.dGr ["thing", "persons"] (spPL K group) := by
  have GPL : FnOk P w K mg base CX0 3 Z.fPL Z.dPL ["thing", "persons"] (spPL K plist) := ok_plist Z T
  refine Z.FGr.ok scGroup (fun vs H Q E h => ?_) (fun cdv A outer s H vs Q E hr h => ?_)
  · obtain ⟨a, n, ns, rfl, _⟩ := h
    rfl
  · obtain ⟨a, n, ns, rfl, hS, hn, k⟩ := h
    refine ⟨_, (pss_one (ps_ret (pe_and (pe_call GPL (hr.mono (by decide)) rfl Z.gPL Z.FPL.kp Z.bPL .nil pass0 (pa_cons (pv 0) (pa_cons (pv 1) pa_nil))) (pe_one (pe_cmpR op_ge (pe_callB call_len_seq (by rfl) T.len (by decide +kernel) (pa_cons (pv 0) pa_nil)) pe_int (nomark _)))))), ?_⟩
    refine ⟨_, rfl, _, rfl, a, n, ns, rfl, hS, hn, fun H2 s2 => ⟨_, rfl, ?_⟩⟩
    have q := k H2 s2
    unfold group at q
    by_cases hi : plist n ns = true
    · rw [if_pos hi]
      rw [hi, Bool.true_and] at q
      refine ⟨_, rfl, a, _, rfl, .inl (s2.seq hS), _, _, rfl, rfl, ?_⟩
      rw [List.length_map]
      exact q
    · rw [if_neg hi]
      rw [Bool.eq_false_iff.mpr hi, Bool.false_and] at q
      exact q
theorem ok_mask (Z : ProgF K mg) (T : TxtP mg) : FnOk P w K mg base CX0 1 Z.fMask Z.dMask ["group"] (spMask K) := by
  refine Z.FMask.ok scMask (fun vs H Q E h => ?_) (fun cdv A outer s H vs Q E hr h => ?_)
  · obtain ⟨a, ns, rfl, _⟩ := h
    rfl
  · obtain ⟨a, ns, rfl, hS, hn, hr0, k⟩ := h
    refine ⟨_, (pss_one (ps_ret (pe_callB (cr_sum rfl) (by rfl) T.sum (by decide +kernel) (pa_cons (pe_lc (own := [("person", 1)]) (g := gName 1) (tt := tYes) rfl scMask.nd (pi_list (pv 0)) (blkOk_by (own := [("person", 1)]) (N := ["group", "person"]) (sc := defScope sMask) (by decide +kernel)) (fun _ _ _ _ _ => pg_name (i := 1) scMask.nd rfl (Or.inl rfl)) (fun _ _ _ _ _ => pts_nil) (fun _ _ _ _ _ => (pe_op op_shl pe_int (pv 1)))) pa_nil)))), ?_⟩
    refine ⟨_, rfl, a, rfl, ⟨_, hS⟩, fun D hD => lc_listM (K := K) (fun i => V.int (1 * 2 ^ (ns.getD i 0).toNat)) hD hS (by rw [List.length_map]; omega) (fun i x H' R hx sm kR => ?_) fun H' sm eD => ?_⟩
    · have il := (List.getElem?_eq_some_iff.mp hx).1
      rw [List.length_map] at il
      obtain rfl := at_map (d := 0) hx
      have mem : ns.getD i 0 ∈ ns := by
        rw [List.getD_eq_getElem?_getD, List.getElem?_eq_getElem il]
        exact List.getElem_mem il
      obtain ⟨m0, m1⟩ := hr0 _ mem
      exact ⟨rfl, _, rfl, _, _, rfl, rfl, ⟨m0, by omega, by decide⟩, kR _ .refl⟩
    · rw [List.length_map] at eD
      refine ⟨D, (List.range ns.length).map fun i => 1 * 2 ^ (ns.getD i 0).toNat, rfl, SqL.of (by rw [eD, List.map_map]; rfl), ?_⟩
      exact k H' sm
theorem ok_cross (Z : ProgF K mg) : FnOk P w K mg base CX0 1 Z.fCross Z.dCross ["one", "other"] spCross := by
  refine Z.FCross.ok scCross (fun vs H Q E h => ?_) (fun cdv A outer s H vs Q E hr h => ?_)
  · obtain ⟨i, j, rfl, _⟩ := h
    rfl
  · obtain ⟨i, j, rfl, k⟩ := h
    refine ⟨_, (pss_one (ps_ret (pe_cmpR op_notIn_seq (pe_op op_and (pv 0) (pv 1)) (pe_tup (pa_cons pe_int (pa_cons (pv 0) (pa_cons (pv 1) pa_nil)))) (by rfl)))), ?_⟩
    refine ⟨_, rfl, _, rfl, _, _, rfl, rfl, _, rfl, _, rfl, (by show 3 ≤ sizeLine; decide), fun t ht => ⟨t, _, rfl, .inr (SqT.of upd_same), rfl, rfl, ?_⟩⟩
    exact k _ (Grows.new ht)
end
end K33

namespace K33
open PySem PySem.Spec PyProof.Rows L2 SortR LcM
/-- a list of lists of ints, as it stands -/
structure Rw (K : PySem.W.Frag) (H : Hp) (a : Addr) (bs : List (Addr × List Int)) : Prop where
  top : SqL K H a (bs.map fun b => V.ref b.1)
  each : ∀ b ∈ bs, SqL K H b.1 (b.2.map V.int)
theorem Rw.keep {K : PySem.W.Frag} {H H' : Hp} {a : Addr} {bs : List (Addr × List Int)} (r : Rw K H a bs) (s : Grows H H') : Rw K H' a bs := ⟨s.seq r.top, fun b m => s.seq (r.each b m)⟩
theorem Rw.at {K : PySem.W.Frag} {H : Hp} {a : Addr} {bs : List (Addr × List Int)} (r : Rw K H a bs) {i : Nat} (hi : i < bs.length) : SqL K H (bs.getD i (0, [])).1 ((bs.getD i (0, [])).2.map V.int) := by
  rw [List.getD_eq_getElem?_getD, List.getElem?_eq_getElem hi]
  exact r.each _ (List.getElem_mem hi)
theorem snd_at (bs : List (Addr × List Int)) (i : Nat) : (bs.map (·.2)).getD i [] = (bs.getD i (0, [])).2 := by
  rw [List.getD_eq_getElem?_getD, List.getD_eq_getElem?_getD, List.getElem?_map]
  cases bs[i]? <;> rfl
theorem mem_at {bs : List (Addr × List Int)} {i : Nat} (hi : i < bs.length) : (bs.getD i (0, [])).2 ∈ bs.map (·.2) := by
  rw [List.getD_eq_getElem?_getD, List.getElem?_eq_getElem hi]
  exact List.mem_map.mpr ⟨_, List.getElem_mem hi, rfl⟩
theorem none_back {H H' : Hp} {a : Addr} (s : Grows H H') (h : H' a = none) : H a = none := by
  rcases Option.eq_none_or_eq_some (H a) with z | ⟨o, z⟩
  · exact z
  · rw [s _ _ z] at h
    cases h
theorem nw_back {H0 H1 H : Hp} {cs : List (Addr × List Int)} (n : Nw H1 H cs) (s : Grows H0 H1) : Nw H0 H cs := ⟨n.lists, fun c m => none_back s (n.new c m), n.nodup⟩
theorem snd_of {cs : List (Addr × List Int)} {R : Nat → List Int} {n i : Nat} (e : cs.map (·.2) = (List.range n).map R) (hi : i < n) : (cs.getD i (0, [])).2 = R i := by
  rw [← snd_at, e, List.getD_eq_getElem?_getD, List.getElem?_map, List.getElem?_range hi]
  rfl
theorem any_rng (n : Nat) (p : Nat → Bool) : ((List.range n).map p).any id = (List.range n).any p := by
  rw [List.any_map]
  rfl
/-- of the size that may come -/
def Sz (rs : List (List Int)) : Prop := rs.length ≤ 1000 ∧ ∀ r ∈ rs, r.length ≤ 1000
def spAny (K : PySem.W.Frag) : Sp := fun vs H Q _ => ∃ (a : Addr) (bs : List (Addr × List Int)), vs = [.ref a] ∧ Rw K H a bs ∧ Sz (bs.map (·.2)) ∧ (∀ r ∈ bs.map (·.2), ∀ x ∈ r, 0 ≤ x ∧ x ≤ 1000) ∧ ∀ H', Grows H H' → Q (.bl (anyX (bs.map (·.2)))) H'
def spIs (K : PySem.W.Frag) : Sp := fun vs H Q _ => ∃ (a : Addr) (bs : List (Addr × List Int)), vs = [.ref a] ∧ Rw K H a bs ∧ Sz (bs.map (·.2)) ∧ ∀ H', Grows H H' → Q (.bl (isP (bs.map (·.2)))) H'
def spPs (K : PySem.W.Frag) : Sp := fun vs H Q _ => ∃ (a : Addr) (bs : List (Addr × List Int)), vs = [.ref a] ∧ Rw K H a bs ∧ Sz (bs.map (·.2)) ∧ isP (bs.map (·.2)) = true ∧ ∀ H', Grows H H' → Q (.int (bs.length + 1)) H'
section
variable {P : Program} {w : World} {K : PySem.W.Frag} {mg : Str → Option Value} {base : Heap}
theorem scAny : FnScope ["groups", "masks", "group", "one", "other"] ["groups"] (defScope sAny) := ⟨rfl, rfl, rfl, by decide +kernel, rfl, by decide +kernel, by decide +kernel⟩
theorem scParting : FnScope ["thing", "persons", "group"] ["thing"] (defScope sParting) := ⟨rfl, rfl, rfl, by decide +kernel, rfl, by decide +kernel, by decide +kernel⟩
theorem scPersons : FnScope ["parting"] ["parting"] (defScope sPersons) := ⟨rfl, rfl, rfl, by decide +kernel, rfl, by decide +kernel, by decide +kernel⟩
theorem ok_any (Z : ProgF K mg) (T : TxtP mg) : FnOk P w K mg base CX0 2 Z.fAny Z.dAny ["groups"] (spAny K) := by
  have GMask : FnOk P w K mg base CX0 1 Z.fMask Z.dMask ["group"] (spMask K) := ok_mask Z T
  have GCross : FnOk P w K mg base CX0 1 Z.fCross Z.dCross ["one", "other"] spCross := ok_cross Z
  refine Z.FAny.ok scAny (fun vs H Q E h => ?_) (fun cdv A outer s H vs Q E hr h => ?_)
  · obtain ⟨a, bs, rfl, _⟩ := h
    rfl
  · obtain ⟨a, bs, rfl, hB, ⟨hz1, hz2⟩, hx, k⟩ := h
    refine ⟨_, (pss_cons (ps_setLc (i := 1) (own := [("group", 2)]) (g := gName 2) (tt := tYes) rfl scAny.nd rfl rfl (sw_true rfl rfl rfl (by decide +kernel)) (pi_list (pv 0)) (blkOk_by (own := [("group", 2)]) (N := ["groups", "masks", "group", "one", "other"]) (sc := defScope sAny) (by decide +kernel)) (fun _ _ _ _ _ => pg_name (i := 2) scAny.nd rfl (Or.inl rfl)) (fun _ _ _ _ _ => pts_nil) (fun _ _ _ _ _ => (pe_call GMask (hr.mono (by decide)) rfl Z.gMask Z.FMask.kp Z.bMask .nil pass0 (pa_cons (pv 2) pa_nil))))
      (pss_one (ps_ret (pe_callB (cr_any rfl) (by rfl) T.any (by decide +kernel) (pa_cons (pe_lc (own := [("one", 3), ("other", 4)]) (g := gTup K 2 (gCons (gName 3) (gCons (gName 4) gNil))) (tt := tYes) rfl scAny.nd (Comb.pi_comb (by rfl) Z.gComb (pa_cons (pv 1) (pa_cons pe_int pa_nil))) (blkOk_by (own := [("one", 3), ("other", 4)]) (N := ["groups", "masks", "group", "one", "other"]) (sc := defScope sAny) (by decide +kernel)) (fun _ _ _ _ _ => pg_tup rfl (pgs_cons (pg_name (i := 3) scAny.nd rfl (Or.inl rfl)) (pgs_cons (pg_name (i := 4) scAny.nd rfl (Or.inl rfl)) pgs_nil))) (fun _ _ _ _ _ => pts_nil) (fun _ _ _ _ _ => (pe_call GCross (hr.mono (by decide)) rfl Z.gCross Z.FCross.kp Z.bCross .nil pass0 (pa_cons (pv 3) (pa_cons (pv 4) pa_nil))))) pa_nil))))), ?_⟩
    rw [List.length_map] at hz1
    refine ⟨_, rfl, a, rfl, ⟨_, hB.top⟩, fun D hD => lc_listM (K := K) (fun i => V.int (maskI (bs.getD i (0, [])).2)) hD hB.top (by rw [List.length_map]; omega) (fun i x H' R hx' sm kR => ?_) fun H' sm eD => ?_⟩
    · have il := (List.getElem?_eq_some_iff.mp hx').1
      rw [List.length_map] at il
      obtain rfl := at_map (d := (0, [])) hx'
      exact ⟨rfl, _, rfl, _, _, rfl, sm.seq (hB.at il), hz2 _ (mem_at il), hx _ (mem_at il), fun H2 s2 => kR _ s2⟩
    · rw [List.length_map] at eD
      refine ⟨_, rfl, D, _, rfl, SqL.of eD, fun D2 hD2 => lc_combM (xs := (List.range bs.length).map fun i => V.int (maskI (bs.getD i (0, [])).2)) (fun t => V.bl (crossI (maskI (bs.getD ((Comb.prs bs.length).getD t (0, 0)).1 (0, [])).2) (maskI (bs.getD ((Comb.prs bs.length).getD t (0, 0)).2 (0, [])).2))) hD2 (by rw [List.length_map, List.length_range]; exact hz1) (fun t i j x y T H' R ht ex ey sm2 hT kR => ?_) fun H2 sm2 eD2 => ?_⟩
      · rw [List.length_map, List.length_range] at ht
        rw [List.getElem?_map] at ex ey
        have gx : x = .int (maskI (bs.getD i (0, [])).2) := by
          obtain ⟨z, hz, e⟩ := Option.map_eq_some_iff.mp ex
          have e2 := (List.getElem?_eq_some_iff.mp hz)
          obtain ⟨l2, e3⟩ := e2
          rw [List.getElem_range] at e3
          rw [← e, ← e3]
        have gy : y = .int (maskI (bs.getD j (0, [])).2) := by
          obtain ⟨z, hz, e⟩ := Option.map_eq_some_iff.mp ey
          have e2 := (List.getElem?_eq_some_iff.mp hz)
          obtain ⟨l2, e3⟩ := e2
          rw [List.getElem_range] at e3
          rw [← e, ← e3]
        subst gx gy
        have et : (Comb.prs bs.length).getD t (0, 0) = (i, j) := by
          rw [List.getD_eq_getElem?_getD, ht]
          rfl
        rw [et] at kR
        exact ⟨T, _, rfl, SqT.of upd_same, rfl, _, _, rfl, _, _, rfl, rfl, rfl, _, rfl, _, rfl, _, _, rfl, fun H3 s3 => kR _ s3⟩
      · rw [List.length_map, List.length_range] at eD2
        refine ⟨D2, (List.range (Comb.prs bs.length).length).map fun t => crossI (maskI (bs.getD ((Comb.prs bs.length).getD t (0, 0)).1 (0, [])).2) (maskI (bs.getD ((Comb.prs bs.length).getD t (0, 0)).2 (0, [])).2), rfl, SqL.of (by rw [eD2, List.map_map]; rfl), ?_⟩
        rw [any_rng]
        have q := k H2 (sm.trans sm2)
        unfold anyX at q
        simp only [List.length_map, snd_at] at q
        exact q
theorem rows_in {n : Int} {ns : List Int} (h : group n ns = true) (hn : n ≤ 1000) : ∀ x ∈ ns, 0 ≤ x ∧ x ≤ 1000 := by
  unfold group plist at h
  simp only [Bool.and_eq_true] at h
  obtain ⟨⟨h1, _⟩, _⟩ := h
  intro x hx
  obtain ⟨i, hi, e⟩ := List.getElem_of_mem hx
  have q := List.all_eq_true.mp h1 i (List.mem_range.mpr hi)
  simp only [Bool.and_eq_true, decide_eq_true_eq] at q
  rw [List.getD_eq_getElem?_getD, List.getElem?_eq_getElem hi] at q
  have q' : 0 ≤ ns[i] ∧ ns[i] < n := q
  rw [e] at q'
  omega
theorem ok_is (Z : ProgF K mg) (T : TxtP mg) : FnOk P w K mg base CX0 5 Z.fIs Z.dIs ["thing"] (spIs K) := by
  have GGr : FnOk P w K mg base CX0 4 Z.fGr Z.dGr ["thing", "persons"] (spPL K group) := ok_group Z T
  have GAsc : FnOk P w K mg base CX0 1 Z.fAsc Z.dAsc ["items"] (spAscR K) := ok_ascR Z.FAsc T
  have GAny : FnOk P w K mg base CX0 2 Z.fAny Z.dAny ["groups"] (spAny K) := ok_any Z T
  refine Z.FIs.ok scParting (fun vs H Q E h => ?_) (fun cdv A outer s H vs Q E hr h => ?_)
  · obtain ⟨a, bs, rfl, _⟩ := h
    rfl
  · obtain ⟨a, bs, rfl, hB, hz, k⟩ := h
    refine ⟨_, (pss_cons (ps_if (PW.pt (pw_or (pt_not (pt_val (pe_callB call_isi (by rfl) T.isi (by decide +kernel) (pa_cons (pv 0) (pa_cons (pe_bltn (v := .ty "list") (u := .type "list") (by rfl) T.list (by decide +kernel) rfl) pa_nil))))) (pw_or1 (pt_cmpR op_ge (pe_callB call_len_seq (by rfl) T.len (by decide +kernel) (pa_cons (pv 0) pa_nil)) (pe_glob (v := .int 20) rfl Z.gMost ⟨_, rfl⟩) (nomark _))))) (pss_one (ps_ret pe_bl)) pss_nil)
      (pss_cons (ps_set (i := 1) scParting.nd rfl (.inr rfl) (pe_op op_add (pe_callB call_len_seq (by rfl) T.len (by decide +kernel) (pa_cons (pv 0) pa_nil)) pe_int))
      (pss_cons (ps_if (pt_not (pt_val (pe_callB (cr_all rfl) (by rfl) T.all (by decide +kernel) (pa_cons (pe_lc (own := [("group", 2)]) (g := gName 2) (tt := tYes) rfl scParting.nd (pi_list (pv 0)) (blkOk_by (own := [("group", 2)]) (N := ["thing", "persons", "group"]) (sc := defScope sParting) (by decide +kernel)) (fun _ _ _ _ _ => pg_name (i := 2) scParting.nd rfl (Or.inl rfl)) (fun _ _ _ _ _ => pts_nil) (fun _ _ _ _ _ => (pe_call GGr (hr.mono (by decide)) rfl Z.gGr Z.FGr.kp Z.bGr .nil pass0 (pa_cons (pv 2) (pa_cons (pv 1) pa_nil))))) pa_nil)))) (pss_one (ps_ret pe_bl)) pss_nil)
      (pss_one (ps_ret (pe_and (pe_call GAsc (hr.mono (by decide)) rfl Z.gAsc Z.FAsc.kp Z.bAsc .nil pass0 (pa_cons (pv 0) pa_nil)) (pe_one (pe_not (pe_call GAny (hr.mono (by decide)) rfl Z.gAny Z.FAny.kp Z.bAny .nil pass0 (pa_cons (pv 0) pa_nil)))))))))), ?_⟩
    have hz' := hz
    obtain ⟨hz1, hz2⟩ := hz
    rw [List.length_map] at hz1
    refine ⟨_, rfl, _, _, _, _, true, rfl, .ty "list", ty_list hB.top, kit_ty (by decide +kernel), true, rfl, iteF ⟨_, rfl, a, _, rfl, .inl hB.top, _, _, rfl, rfl, _, rfl, ?_⟩⟩
    rw [List.length_map]
    refine ite2 (fun e => ?_) (fun e => ?_)
    · have ge := of_decide_eq_true e
      have q := k H .refl
      unfold isP at q
      rw [List.length_map, decide_eq_false (by omega), Bool.false_and, Bool.false_and, Bool.false_and] at q
      exact q
    · have lt : (bs.length : Int) < 20 := by
        rcases Int.lt_or_le (bs.length : Int) 20 with z | z
        · exact z
        · exact absurd (decide_eq_true z) e
      refine ⟨_, rfl, a, _, rfl, .inl hB.top, _, _, rfl, rfl, ?_⟩
      rw [List.length_map]
      refine ⟨_, rfl, a, rfl, ⟨_, hB.top⟩, fun D hD => lc_listM (K := K) (fun i => V.bl (group (bs.length + 1) (bs.getD i (0, [])).2)) hD hB.top (by rw [List.length_map]; omega) (fun i x H' R hx' sm kR => ?_) fun H' sm eD => ?_⟩
      · have il := (List.getElem?_eq_some_iff.mp hx').1
        rw [List.length_map] at il
        obtain rfl := at_map (d := (0, [])) hx'
        exact ⟨rfl, _, rfl, _, rfl, _, _, _, rfl, sm.seq (hB.at il), hz2 _ (mem_at il), fun H2 s2 => kR _ s2⟩
      · rw [List.length_map] at eD
        refine ⟨D, (List.range bs.length).map fun i => group (bs.length + 1) (bs.getD i (0, [])).2, rfl, SqL.of (by rw [eD, List.map_map]; rfl), ?_⟩
        rw [all_rng]
        refine ⟨_, rfl, ?_⟩
        have val : ∀ H2, Grows H H2 → Q (.bl (((List.range bs.length).all fun i => group (bs.length + 1) (bs.getD i (0, [])).2) && ascR (bs.map (·.2)) && !anyX (bs.map (·.2)))) H2 := fun H2 s2 => by
          have q := k H2 s2
          unfold isP at q
          simp only [List.length_map, snd_at] at q
          rw [decide_eq_true lt, Bool.true_and] at q
          exact q
        by_cases hg : ((List.range bs.length).all fun i => group (bs.length + 1) (bs.getD i (0, [])).2) = true
        · rw [hg] at val ⊢
          refine iteF ⟨_, rfl, a, bs, rfl, (hB.keep sm).top, (hB.keep sm).each, hz1, fun H2 s2 => ⟨_, rfl, ?_⟩⟩
          by_cases ha : ascR (bs.map (·.2)) = true
          · rw [if_pos ha]
            have hx : ∀ r ∈ bs.map (·.2), ∀ x ∈ r, 0 ≤ x ∧ x ≤ 1000 := fun r hr x hx => by
              obtain ⟨i, hi, e⟩ := List.getElem_of_mem hr
              rw [List.length_map] at hi
              have g := List.all_eq_true.mp hg i (List.mem_range.mpr hi)
              have e2 : (bs.getD i (0, [])).2 = r := by
                rw [← snd_at, List.getD_eq_getElem?_getD, List.getElem?_eq_getElem (by rw [List.length_map]; exact hi), e]
                rfl
              rw [e2] at g
              exact rows_in g (by omega) x hx
            refine ⟨_, rfl, a, bs, rfl, (hB.keep sm).keep s2, hz', hx, fun H3 s3 => ⟨_, rfl, ?_⟩⟩
            have q := val H3 ((sm.trans s2).trans s3)
            rw [ha, Bool.true_and, Bool.true_and] at q
            exact q
          · rw [if_neg ha]
            have q := val H2 (sm.trans s2)
            rw [Bool.eq_false_iff.mpr ha, Bool.true_and, Bool.false_and] at q
            exact q
        · have q := val H' sm
          rw [Bool.eq_false_iff.mpr hg] at q ⊢
          rw [Bool.false_and, Bool.false_and] at q
          exact iteT q
theorem ok_persons (Z : ProgF K mg) (T : TxtP mg) : FnOk P w K mg base CX0 6 Z.fPs Z.dPs ["parting"] (spPs K) := by
  have GIs : FnOk P w K mg base CX0 5 Z.fIs Z.dIs ["thing"] (spIs K) := ok_is Z T
  refine Z.FPs.ok scPersons (fun vs H Q E h => ?_) (fun cdv A outer s H vs Q E hr h => ?_)
  · obtain ⟨a, bs, rfl, _⟩ := h
    rfl
  · obtain ⟨a, bs, rfl, hB, hz, hp, k⟩ := h
    refine ⟨_, (pss_cons (ps_if (pt_not (pt_val (pe_call GIs (hr.mono (by decide)) rfl Z.gIs Z.FIs.kp Z.bIs .nil pass0 (pa_cons (pv 0) pa_nil)))) (pss_one ps_never) pss_nil)
      (pss_one (ps_ret (pe_op op_add (pe_callB call_len_seq (by rfl) T.len (by decide +kernel) (pa_cons (pv 0) pa_nil)) pe_int)))), ?_⟩
    refine ⟨_, rfl, a, bs, rfl, hB, hz, fun H2 s2 => ?_⟩
    rw [hp]
    refine ⟨_, rfl, iteF ⟨_, rfl, a, _, rfl, .inl (s2.seq hB.top), _, _, rfl, rfl, ?_⟩⟩
    rw [List.length_map]
    exact k H2 s2
end
end K33

namespace K33
open PySem PySem.Spec PyProof.Rows L2 SortR LcM
theorem plist_of {n : Int} {ks : List Int} (up : ks.Pairwise (· < ·)) (rng : ∀ x ∈ ks, 0 ≤ x ∧ x < n) : plist n ks = true := by
  unfold plist inR ascI
  rw [Bool.and_eq_true]
  refine ⟨List.all_eq_true.mpr fun i hi => ?_, List.all_eq_true.mpr fun i hi => ?_⟩
  · have il := List.mem_range.mp hi
    have e : ks.getD i 0 = ks[i] := by rw [List.getD_eq_getElem?_getD, List.getElem?_eq_getElem il]; rfl
    have := rng _ (List.getElem_mem il)
    rw [e, decide_eq_true this.1, decide_eq_true this.2]
    rfl
  · have il := List.mem_range.mp hi
    have l1 : i < ks.length := by omega
    have l2 : i + 1 < ks.length := by omega
    have e1 : ks.getD i 0 = ks[i] := by rw [List.getD_eq_getElem?_getD, List.getElem?_eq_getElem l1]; rfl
    have e2 : ks.getD (i + 1) 0 = ks[i + 1] := by rw [List.getD_eq_getElem?_getD, List.getElem?_eq_getElem l2]; rfl
    rw [e1, e2]
    exact decide_eq_true (List.pairwise_iff_getElem.mp up i (i + 1) l1 l2 (Nat.lt_succ_self i))
theorem gr_none {p a : Addr} {H H' : Hp} (g : Gr p H H') (h : H' a = none) (n : a ≠ p) : H a = none := by
  rcases Option.eq_none_or_eq_some (H a) with z | ⟨o, z⟩
  · exact z
  · rw [g a o n z] at h
    cases h
theorem rg_ints (n : Int) : rgV 0 n = ((List.range n.toNat).map fun i => (0 + (i : Nat) : Int)).map V.int := by
  unfold rgV
  rw [List.map_map, Int.sub_zero]
  rfl
theorem rg_up (n : Nat) : ((List.range n).map fun i => (0 + (i : Nat) : Int)).Pairwise (· < ·) := by
  rw [List.pairwise_map]
  exact List.pairwise_lt_range.imp fun {a b} h => by omega
theorem rg_in (n : Nat) : ∀ x ∈ (List.range n).map fun i => (0 + (i : Nat) : Int), 0 ≤ x ∧ x < n := fun x hx => by
  obtain ⟨i, hi, e⟩ := List.mem_map.mp hx
  have := List.mem_range.mp hi
  omega
theorem inV_ints (i : Int) (ns : List Int) : inV (.int i) (ns.map V.int) = decide (i ∈ ns) := by
  unfold inV
  induction ns with
  | nil => rfl
  | cons x ns ih =>
    rw [List.map_cons, List.any_cons, ih]
    show ((x == i) || decide (i ∈ ns)) = decide (i ∈ x :: ns)
    by_cases e : x = i
    · rw [e, beq_self_eq_true, Bool.true_or, decide_eq_true List.mem_cons_self]
    · rw [beq_eq_false_iff_ne.mpr e, Bool.false_or]
      by_cases m : i ∈ ns
      · rw [decide_eq_true m, decide_eq_true (List.mem_cons_of_mem _ m)]
      · rw [decide_eq_false m, decide_eq_false fun z => (List.mem_cons.mp z).elim (fun q => e q.symm) m]
theorem flat_ints (ns : List Int) : (ns.map V.int).all flatV = true := by
  rw [List.all_map]
  exact List.all_eq_true.mpr fun _ _ => rfl
end K33

namespace K33
open PySem PySem.Spec PyProof.Rows L2 SortR LcM
theorem rng_map {α β : Type} (ns : List α) (d : α) (f : α → β) : (List.range ns.length).map (fun i => f (ns.getD i d)) = ns.map f := by
  refine List.ext_getElem (by rw [List.length_map, List.length_map, List.length_range]) fun j j1 j2 => ?_
  rw [List.length_map] at j2
  rw [List.getElem_map, List.getElem_map, List.getElem_range, List.getD_eq_getElem?_getD, List.getElem?_eq_getElem j2]
  rfl
theorem maskI_mk {ns : List Int} : maskI ns = ((mk (ns.map Int.toNat) : Nat) : Int) := by
  unfold maskI
  rw [rng_map ns 0 fun x => (1 : Int) * 2 ^ x.toNat]
  induction ns with
  | nil => rfl
  | cons x ns ih =>
    rw [List.map_cons, List.sum_cons, ih, List.map_cons, mk_cons, Int.one_mul, Int.natCast_add, Int.natCast_pow]
    rfl
/-- ascending lists of persons that lie apart, or one within the other -/
def Nice (xs ys : List Int) : Prop := (∀ z ∈ xs, z ∉ ys) ∨ (∀ z ∈ xs, z ∈ ys) ∨ ∀ z ∈ ys, z ∈ xs
theorem up_nat {xs : List Int} (h : xs.Pairwise (· < ·)) (p : ∀ x ∈ xs, 0 ≤ x) : (xs.map Int.toNat).Pairwise (· < ·) := by
  rw [List.pairwise_map]
  exact h.imp_of_mem fun {a b} ha hb lt => by
    have := p a ha
    have := p b hb
    omega
theorem mem_nat {xs : List Int} (p : ∀ x ∈ xs, 0 ≤ x) {i : Nat} : i ∈ xs.map Int.toNat ↔ (i : Int) ∈ xs := by
  rw [List.mem_map]
  constructor
  · rintro ⟨x, hx, rfl⟩
    rw [Int.toNat_of_nonneg (p x hx)]
    exact hx
  · intro h
    exact ⟨_, h, rfl⟩
theorem crossI_no {xs ys : List Int} (hx : xs.Pairwise (· < ·)) (hy : ys.Pairwise (· < ·)) (px : ∀ x ∈ xs, 0 ≤ x) (py : ∀ x ∈ ys, 0 ≤ x) (h : Nice xs ys) : crossI (maskI xs) (maskI ys) = false := by
  have h' : (∀ z ∈ xs.map Int.toNat, z ∉ ys.map Int.toNat) ∨ (∀ z ∈ xs.map Int.toNat, z ∈ ys.map Int.toNat) ∨ ∀ z ∈ ys.map Int.toNat, z ∈ xs.map Int.toNat := by
    rcases h with h | h | h
    · exact .inl fun z hz hz2 => h _ ((mem_nat px).mp hz) ((mem_nat py).mp hz2)
    · exact .inr (.inl fun z hz => (mem_nat py).mpr (h _ ((mem_nat px).mp hz)))
    · exact .inr (.inr fun z hz => (mem_nat px).mpr (h _ ((mem_nat py).mp hz)))
  have m := mk_and (up_nat hx px) (up_nat hy py) h'
  rw [maskI_mk, maskI_mk]
  unfold crossI
  rw [PyProof.Rows.bitAnd_pp (Int.natCast_nonneg _) (Int.natCast_nonneg _), Int.toNat_natCast, Int.toNat_natCast]
  generalize mk (xs.map Int.toNat) = a at m
  generalize mk (ys.map Int.toNat) = b at m
  have e : inV (.int ((a &&& b : Nat) : Int)) [.int 0, .int (a : Int), .int (b : Int)] = true := by
    unfold inV
    rcases m with m | m | m
    · rw [m]
      rfl
    · rw [m]
      simp [eqV]
    · rw [m]
      simp [eqV]
  rw [e]
  rfl
end K33

namespace K33
open PySem PySem.Spec PyProof.Rows L2 SortR LcM
/-! ### families that grow newcomer by newcomer -/
theorem len_sub : ∀ {xs ys : List Int}, xs.Nodup → (∀ z ∈ xs, z ∈ ys) → xs.length ≤ ys.length
  | [], _, _, _ => Nat.zero_le _
  | x :: xs, ys, h, s => by
    obtain ⟨nx, n⟩ := List.nodup_cons.mp h
    have m : x ∈ ys := s x List.mem_cons_self
    have q := len_sub n (ys := ys.erase x) fun z hz => (List.mem_erase_of_ne fun e => nx (by rw [← e]; exact hz)).mpr (s z (List.mem_cons_of_mem _ hz))
    rw [List.length_erase_of_mem m] at q
    have := List.length_pos_of_mem m
    rw [List.length_cons]
    omega
theorem sub_back {xs ys : List Int} (h : xs.Nodup) (s : ∀ z ∈ xs, z ∈ ys) (l : ys.length ≤ xs.length) : ∀ z ∈ ys, z ∈ xs := fun z hz => by
  apply Classical.byContradiction
  intro no
  have q := len_sub (List.nodup_cons.mpr ⟨no, h⟩) fun y hy => (List.mem_cons.mp hy).elim (fun e => by rw [e]; exact hz) (s y)
  rw [List.length_cons] at q
  omega
theorem up_nodup {xs : List Int} (h : xs.Pairwise (· < ·)) : xs.Nodup := h.imp fun {a b} lt e => by omega
theorem Nice.symm {xs ys : List Int} (h : Nice xs ys) : Nice ys xs := by
  rcases h with h | h | h
  · exact .inl fun z hz hx => h z hx hz
  · exact .inr (.inr h)
  · exact .inr (.inl h)
theorem Nice.same {xs : List Int} : Nice xs xs := .inr (.inl fun _ h => h)
/-- what the newcomer is beside or around -/
def baseB (rs : List (List Int)) (item : Int) : List Int := if 0 ≤ item then [item] else rs.getD (0 - item - 1).toNat []
/-- whether a group is around it -/
def inB (b w : List Int) : Bool := decide (b.length < w.length) && decide (b.headD 0 ∈ w)
def growB (f : Int) (b w : List Int) : List Int := if inB b w = true then w ++ [f] else w
def stepB (rs : List (List Int)) (item : Int) : List (List Int) := rs.map (growB ((rs.length : Int) + 1) (baseB rs item)) ++ [baseB rs item ++ [(rs.length : Int) + 1]]
def famB (is : List Int) : Nat → List (List Int)
  | 0 => []
  | n + 1 => stepB (famB is n) (is.getD n 0)
theorem stepB_len (rs : List (List Int)) (item : Int) : (stepB rs item).length = rs.length + 1 := by
  unfold stepB
  rw [List.length_append, List.length_map]
  rfl
theorem famB_len (is : List Int) : ∀ n, (famB is n).length = n
  | 0 => rfl
  | n + 1 => by
    show (stepB (famB is n) _).length = n + 1
    rw [stepB_len, famB_len is n]
structure Fam (rs : List (List Int)) : Prop where
  up : ∀ r ∈ rs, r.Pairwise (· < ·)
  two : ∀ r ∈ rs, 2 ≤ r.length
  rng : ∀ r ∈ rs, ∀ x ∈ r, 0 ≤ x ∧ x ≤ (rs.length : Int)
  nice : rs.Pairwise fun a b => Nice a b ∧ a ≠ b
theorem pw_mem {α : Type} {R : α → α → Prop} (sy : ∀ a b, R a b → R b a) {xs : List α} (h : xs.Pairwise R) {a b : α} (ha : a ∈ xs) (hb : b ∈ xs) : a = b ∨ R a b := by
  induction h with
  | nil => cases ha
  | @cons x xs hx _ ih =>
    rcases List.mem_cons.mp ha with e1 | e1
    · rcases List.mem_cons.mp hb with e2 | e2
      · exact .inl (e1.trans e2.symm)
      · rw [e1]
        exact .inr (hx b e2)
    · rcases List.mem_cons.mp hb with e2 | e2
      · rw [e2]
        exact .inr (sy _ _ (hx a e1))
      · exact ih e1 e2
theorem Fam.two_nice {rs : List (List Int)} (F : Fam rs) {a b : List Int} (ha : a ∈ rs) (hb : b ∈ rs) : Nice a b := by
  rcases pw_mem (R := fun a b => Nice a b ∧ a ≠ b) (fun a b h => ⟨h.1.symm, h.2.symm⟩) F.nice ha hb with e | e
  · rw [e]
    exact .same
  · exact e.1
structure Bas (rs : List (List Int)) (b : List Int) : Prop where
  up : b.Pairwise (· < ·)
  ne : ∃ h t, b = h :: t
  rng : ∀ x ∈ b, 0 ≤ x ∧ x ≤ (rs.length : Int)
  nice : ∀ w ∈ rs, Nice b w
theorem Fam.bas {rs : List (List Int)} (F : Fam rs) {item : Int} (h0 : -(rs.length : Int) ≤ item) (h1 : item ≤ rs.length) : Bas rs (baseB rs item) := by
  unfold baseB
  by_cases p : 0 ≤ item
  · rw [if_pos p]
    refine ⟨List.pairwise_singleton _ _, ⟨_, _, rfl⟩, fun x hx => by rw [List.mem_singleton.mp hx]; exact ⟨p, h1⟩, fun w _ => ?_⟩
    by_cases m : item ∈ w
    · exact .inr (.inl fun z hz => by rw [List.mem_singleton.mp hz]; exact m)
    · exact .inl fun z hz => by rw [List.mem_singleton.mp hz]; exact m
  · rw [if_neg p]
    have lt : (0 - item - 1).toNat < rs.length := by omega
    have e : rs.getD (0 - item - 1).toNat [] = rs[(0 - item - 1).toNat] := by rw [List.getD_eq_getElem?_getD, List.getElem?_eq_getElem lt]; rfl
    have m : rs.getD (0 - item - 1).toNat [] ∈ rs := by rw [e]; exact List.getElem_mem lt
    refine ⟨F.up _ m, ?_, F.rng _ m, fun w hw => F.two_nice m hw⟩
    have t := F.two _ m
    cases z : rs.getD (0 - item - 1).toNat [] with
    | nil => rw [z] at t; exact absurd t (by decide)
    | cons x y => exact ⟨x, y, rfl⟩
theorem Bas.head {rs : List (List Int)} {b : List Int} (B : Bas rs b) : b.headD 0 ∈ b := by
  obtain ⟨h, t, e⟩ := B.ne
  rw [e]
  exact List.mem_cons_self
theorem Bas.sub {rs : List (List Int)} {b w : List Int} (B : Bas rs b) (F : Fam rs) (hw : w ∈ rs) (i : inB b w = true) : (∀ z ∈ b, z ∈ w) ∧ b.length < w.length := by
  unfold inB at i
  simp only [Bool.and_eq_true, decide_eq_true_eq] at i
  refine ⟨?_, i.1⟩
  rcases B.nice w hw with h | h | h
  · exact absurd i.2 (h _ B.head)
  · exact h
  · have := len_sub (up_nodup (F.up w hw)) h
    omega
theorem Bas.out {rs : List (List Int)} {b w : List Int} (B : Bas rs b) (hw : w ∈ rs) (i : inB b w = false) : (∀ z ∈ b, z ∉ w) ∨ ∀ z ∈ w, z ∈ b := by
  rcases B.nice w hw with h | h | h
  · exact .inl h
  · refine .inr (sub_back (up_nodup B.up) h ?_)
    apply Classical.byContradiction
    intro l
    unfold inB at i
    rw [decide_eq_true (show b.length < w.length by omega), decide_eq_true (h _ B.head)] at i
    cases i
  · exact .inr h
theorem nice_both {a b : List Int} {f h : Int} (ha : h ∈ a) (hb : h ∈ b) (n : Nice a b) : Nice (a ++ [f]) (b ++ [f]) := by
  rcases n with n | n | n
  · exact absurd hb (n h ha)
  · exact .inr (.inl fun z hz => (List.mem_append.mp hz).elim (fun q => List.mem_append.mpr (.inl (n z q))) fun q => List.mem_append.mpr (.inr q))
  · exact .inr (.inr fun z hz => (List.mem_append.mp hz).elim (fun q => List.mem_append.mpr (.inl (n z q))) fun q => List.mem_append.mpr (.inr q))
theorem nice_one {rs : List (List Int)} {b w1 w2 : List Int} {f : Int} (B : Bas rs b) (F : Fam rs) (h1 : w1 ∈ rs) (h2 : w2 ∈ rs) (i1 : inB b w1 = true) (i2 : inB b w2 = false) (nf : f ∉ w2) : Nice (w1 ++ [f]) w2 := by
  obtain ⟨s, l⟩ := B.sub F h1 i1
  rcases F.two_nice h1 h2 with n | n | n
  · refine .inl fun z hz h => ?_
    rcases List.mem_append.mp hz with q | q
    · exact n z q h
    · rw [List.mem_singleton.mp q] at h
      exact nf h
  · have := len_sub (up_nodup (F.up w1 h1)) n
    unfold inB at i2
    rw [decide_eq_true (show b.length < w2.length by omega), decide_eq_true (n _ (s _ B.head))] at i2
    cases i2
  · exact .inr (.inr fun z hz => List.mem_append.mpr (.inl (n z hz)))
theorem Fam.step {rs : List (List Int)} (F : Fam rs) {item : Int} (h0 : -(rs.length : Int) ≤ item) (h1 : item ≤ rs.length) : Fam (stepB rs item) := by
  have B := F.bas h0 h1
  obtain ⟨f, ef⟩ : ∃ f : Int, f = (rs.length : Int) + 1 := ⟨_, rfl⟩
  have nf : ∀ w ∈ rs, f ∉ w := fun w hw z => by
    have := (F.rng w hw f z).2
    omega
  have nb : f ∉ baseB rs item := fun z => by
    have := (B.rng f z).2
    omega
  have up1 : ∀ {w : List Int}, w.Pairwise (· < ·) → (∀ x ∈ w, x ≤ (rs.length : Int)) → (w ++ [f]).Pairwise (· < ·) := fun {w} u r => List.pairwise_append.mpr ⟨u, List.pairwise_singleton _ _, fun a ha b hb => by
    rw [List.mem_singleton.mp hb]
    have := r a ha
    omega⟩
  have mem : ∀ r ∈ stepB rs item, (∃ w ∈ rs, r = growB f (baseB rs item) w) ∨ r = baseB rs item ++ [f] := fun r hr => by
    unfold stepB at hr
    rw [← ef] at hr
    rcases List.mem_append.mp hr with q | q
    · obtain ⟨w, hw, e⟩ := List.mem_map.mp q
      exact .inl ⟨w, hw, e.symm⟩
    · exact .inr (List.mem_singleton.mp q)
  have big : ((stepB rs item).length : Int) = f := by
    rw [stepB_len, ef]
    rfl
  refine ⟨fun r hr => ?_, fun r hr => ?_, fun r hr x hx => ?_, ?_⟩
  · rcases mem r hr with ⟨w, hw, rfl⟩ | rfl
    · unfold growB
      split
      · exact up1 (F.up w hw) fun x hx => (F.rng w hw x hx).2
      · exact F.up w hw
    · exact up1 B.up fun x hx => (B.rng x hx).2
  · rcases mem r hr with ⟨w, hw, rfl⟩ | rfl
    · have := F.two w hw
      unfold growB
      split
      · rw [List.length_append]
        omega
      · exact this
    · obtain ⟨h, t, e⟩ := B.ne
      rw [e, List.length_append, List.length_cons]
      show 2 ≤ t.length + 1 + 1
      omega
  · rw [big]
    have fin : ∀ {w : List Int}, (∀ x ∈ w, 0 ≤ x ∧ x ≤ (rs.length : Int)) → x ∈ w ++ [f] → 0 ≤ x ∧ x ≤ f := fun {w} r h => by
      rcases List.mem_append.mp h with q | q
      · have := r x q
        omega
      · rw [List.mem_singleton.mp q]
        omega
    rcases mem r hr with ⟨w, hw, rfl⟩ | rfl
    · unfold growB at hx
      split at hx
      · exact fin (F.rng w hw) hx
      · exact fin (F.rng w hw) (List.mem_append.mpr (.inl hx))
    · exact fin B.rng hx
  · unfold stepB
    rw [← ef]
    refine List.pairwise_append.mpr ⟨?_, List.pairwise_singleton _ _, fun a ha b hb => ?_⟩
    · rw [List.pairwise_map]
      refine F.nice.imp_of_mem fun {w1 w2} m1 m2 ⟨n, ne⟩ => ?_
      unfold growB
      cases i1 : inB (baseB rs item) w1 <;> cases i2 : inB (baseB rs item) w2
      · exact ⟨n, ne⟩
      · refine ⟨(nice_one B F m2 m1 i2 i1 (nf w1 m1)).symm, fun e => nf w1 m1 ?_⟩
        rw [if_neg Bool.false_ne_true, if_pos rfl] at e
        rw [e]
        exact List.mem_append.mpr (.inr List.mem_cons_self)
      · refine ⟨nice_one B F m1 m2 i1 i2 (nf w2 m2), fun e => nf w2 m2 ?_⟩
        rw [if_neg Bool.false_ne_true, if_pos rfl] at e
        rw [← e]
        exact List.mem_append.mpr (.inr List.mem_cons_self)
      · refine ⟨nice_both ((B.sub F m1 i1).1 _ B.head) ((B.sub F m2 i2).1 _ B.head) n, fun e => ne ?_⟩
        rw [if_pos rfl, if_pos rfl] at e
        exact List.append_cancel_right e
    · rw [List.mem_singleton.mp hb]
      obtain ⟨w, hw, e⟩ := List.mem_map.mp ha
      rw [← e]
      unfold growB
      cases i : inB (baseB rs item) w
      · rw [if_neg Bool.false_ne_true]
        refine ⟨?_, fun q => nf w hw ?_⟩
        · rcases B.out hw i with n | n
          · refine .inl fun z hz h => ?_
            rcases List.mem_append.mp h with q | q
            · exact n z q hz
            · rw [List.mem_singleton.mp q] at hz
              exact nf w hw hz
          · exact .inr (.inl fun z hz => List.mem_append.mpr (.inl (n z hz)))
        · rw [q]
          exact List.mem_append.mpr (.inr List.mem_cons_self)
      · rw [if_pos rfl]
        obtain ⟨s, l⟩ := B.sub F hw i
        refine ⟨.inr (.inr fun z hz => (List.mem_append.mp hz).elim (fun q => List.mem_append.mpr (.inl (s z q))) fun q => List.mem_append.mpr (.inr q)), fun q => ?_⟩
        have := congrArg List.length (List.append_cancel_right q)
        omega
theorem famB_ok {is : List Int} (h : Bnd is) : ∀ n, n ≤ is.length → Fam (famB is n)
  | 0, _ => ⟨(fun _ h => nomatch h), (fun _ h => nomatch h), (fun _ h => nomatch h), List.Pairwise.nil⟩
  | n + 1, hn => by
    have e : is[n]? = some is[n] := List.getElem?_eq_getElem hn
    have b := h n _ e
    have eg : is.getD n 0 = is[n] := by rw [List.getD_eq_getElem?_getD, e]; rfl
    have L := famB_len is n
    exact (famB_ok h n (Nat.le_of_succ_le hn)).step (by rw [L, eg]; exact b.1) (by rw [L, eg]; exact b.2)
/-! ### such a family, sorted, is a parting -/
theorem sorted_rows (rs : List (List Int)) : (rs.mergeSort fun p q => decide (p ≤ q)).Pairwise (· ≤ ·) := by
  have h := List.pairwise_mergeSort (le := fun p q : List Int => decide (p ≤ q)) (fun a b c h1 h2 => decide_eq_true (List.le_trans (of_decide_eq_true h1) (of_decide_eq_true h2)))
    (fun a b => by
      simp only [Bool.or_eq_true, decide_eq_true_eq]
      exact List.le_total a b) rs
  exact h.imp fun {a b} z => of_decide_eq_true z
theorem strict_rows {rs : List (List Int)} (h : rs.Pairwise (· ≤ ·)) (n : rs.Nodup) : rs.Pairwise (· < ·) :=
  (h.and n).imp fun {a b} z => (List.le_iff_lt_or_eq.mp z.1).resolve_right z.2
theorem ascR_of {rs : List (List Int)} (up : rs.Pairwise (· < ·)) : ascR rs = true := by
  unfold ascR
  refine List.all_eq_true.mpr fun i hi => ?_
  have il := List.mem_range.mp hi
  have l1 : i < rs.length := by omega
  have l2 : i + 1 < rs.length := by omega
  have e1 : rs.getD i [] = rs[i] := by rw [List.getD_eq_getElem?_getD, List.getElem?_eq_getElem l1]; rfl
  have e2 : rs.getD (i + 1) [] = rs[i + 1] := by rw [List.getD_eq_getElem?_getD, List.getElem?_eq_getElem l2]; rfl
  rw [e1, e2]
  exact decide_eq_true (List.pairwise_iff_getElem.mp up i (i + 1) l1 l2 (Nat.lt_succ_self i))
def sortB (rs : List (List Int)) : List (List Int) := rs.mergeSort fun p q => decide (p ≤ q)
theorem isP_fam {rs : List (List Int)} (F : Fam rs) (h : rs.length < 20) : isP (sortB rs) = true := by
  have perm : (sortB rs).Perm rs := List.mergeSort_perm _ _
  have len : (sortB rs).length = rs.length := perm.length_eq
  have mem : ∀ r ∈ sortB rs, r ∈ rs := fun r hr => perm.mem_iff.mp hr
  have nd : (sortB rs).Nodup := perm.nodup_iff.mpr (F.nice.imp fun {a b} z => z.2)
  unfold isP
  simp only [Bool.and_eq_true, decide_eq_true_eq, Bool.not_eq_true']
  refine ⟨⟨⟨by omega, List.all_eq_true.mpr fun i hi => ?_⟩, ascR_of (strict_rows (sorted_rows rs) nd)⟩, ?_⟩
  · have il := List.mem_range.mp hi
    have e : (sortB rs).getD i [] = (sortB rs)[i] := by rw [List.getD_eq_getElem?_getD, List.getElem?_eq_getElem il]; rfl
    have m := mem _ (List.getElem_mem il)
    rw [e]
    unfold group
    rw [plist_of (F.up _ m) fun x hx => ?_, Bool.true_and]
    · exact decide_eq_true (by have := F.two _ m; omega)
    · have := F.rng _ m x hx
      omega
  · unfold anyX
    refine List.any_eq_false.mpr fun k hk => ?_
    have kl := List.mem_range.mp hk
    obtain ⟨i, j, e⟩ : ∃ i j, (Comb.prs (sortB rs).length)[k] = (i, j) := ⟨_, _, rfl⟩
    have ek : (Comb.prs (sortB rs).length)[k]? = some (i, j) := by rw [List.getElem?_eq_getElem kl, e]
    obtain ⟨l1, l2, _⟩ := Comb.prs_step ek
    have ed : (Comb.prs (sortB rs).length).getD k (0, 0) = (i, j) := by rw [List.getD_eq_getElem?_getD, ek]; rfl
    have il : i < (sortB rs).length := by omega
    have e1 : (sortB rs).getD i [] = (sortB rs)[i] := by rw [List.getD_eq_getElem?_getD, List.getElem?_eq_getElem il]; rfl
    have e2 : (sortB rs).getD j [] = (sortB rs)[j] := by rw [List.getD_eq_getElem?_getD, List.getElem?_eq_getElem l2]; rfl
    rw [ed]
    show ¬ crossI (maskI ((sortB rs).getD i [])) (maskI ((sortB rs).getD j [])) = true
    rw [e1, e2]
    have m1 := mem _ (List.getElem_mem il)
    have m2 := mem _ (List.getElem_mem l2)
    rw [crossI_no (F.up _ m1) (F.up _ m2) (fun x hx => (F.rng _ m1 x hx).1) (fun x hx => (F.rng _ m2 x hx).1) (F.two_nice m1 m2)]
    exact Bool.false_ne_true
end K33

namespace K33
open PySem PySem.Spec PyProof.Rows L2 SortR LcM
abbrev sGroups : Stmt := top 27
/-! ### the dict by makers: its k-th row under the key k -/
def kvO (k : Int) : List (Addr × List Int) → List (Key × V)
  | [] => []
  | b :: bs => (.inl k, .ref b.1) :: kvO (k + 1) bs
theorem kvO_len : ∀ (k : Int) (bs : List (Addr × List Int)), (kvO k bs).length = bs.length
  | _, [] => rfl
  | k, b :: bs => by
    show (kvO (k + 1) bs).length + 1 = bs.length + 1
    rw [kvO_len]
theorem kvO_vals : ∀ (k : Int) (bs : List (Addr × List Int)), (kvO k bs).map (·.2) = bs.map fun b => V.ref b.1
  | _, [] => rfl
  | k, b :: bs => by
    show V.ref b.1 :: (kvO (k + 1) bs).map (·.2) = V.ref b.1 :: bs.map fun b => V.ref b.1
    rw [kvO_vals]
theorem kvO_keys : ∀ (k : Int) (bs : List (Addr × List Int)), (kvO k bs).map (fun kv => kV kv.1) = ((List.range bs.length).map fun j => k + (j : Nat)).map V.int
  | _, [] => rfl
  | k, b :: bs => by
    show V.int k :: (kvO (k + 1) bs).map (fun kv => kV kv.1) = _
    have e : ((List.range bs.length).map Nat.succ).map (fun j : Nat => k + (j : Int)) = (List.range bs.length).map fun j : Nat => k + 1 + (j : Int) := by
      rw [List.map_map]
      refine List.map_congr_left fun j _ => ?_
      show k + ((j + 1 : Nat) : Int) = k + 1 + (j : Int)
      omega
    rw [kvO_keys, List.length_cons, List.range_succ_eq_map, List.map_cons, List.map_cons, e, show k + ((0 : Nat) : Int) = k by omega]
theorem kvO_at : ∀ (k : Int) (bs : List (Addr × List Int)) (j : Nat) (b : Addr × List Int), bs[j]? = some b → valV (kvO k bs) (.inl (k + (j : Nat))) = some (.ref b.1)
  | _, [], j, b, e => by rw [List.getElem?_nil] at e; cases e
  | k, c :: bs, 0, b, e => by
    cases e
    exact valV_pos (by show (Sum.inl k : Key) = Sum.inl (k + ((0 : Nat) : Int)); rw [show k + ((0 : Nat) : Int) = k by omega])
  | k, c :: bs, j + 1, b, e => by
    have z := kvO_at (k + 1) bs j b (by rw [List.getElem?_cons_succ] at e; exact e)
    rw [show k + 1 + (j : Int) = k + ((j + 1 : Nat) : Int) by omega] at z
    refine Eq.trans (valV_neg fun q => ?_) z
    have := Sum.inl.inj q
    omega
theorem kvO_none : ∀ (k m : Int) (bs : List (Addr × List Int)), m < k ∨ k + bs.length ≤ m → valV (kvO k bs) (.inl m) = none
  | _, _, [], _ => rfl
  | k, m, c :: bs, h => by
    rw [List.length_cons] at h
    refine Eq.trans (valV_neg fun q => ?_) (kvO_none (k + 1) m bs (by omega))
    have := Sum.inl.inj q
    omega
theorem kvO_map : ∀ (k m : Int) (v : V) (bs : List (Addr × List Int)), m < k → (kvO k bs).map (fun kv => if kv.1 = (.inl m : Key) then (kv.1, v) else kv) = kvO k bs
  | _, _, _, [], _ => rfl
  | k, m, v, c :: bs, h => by
    show (if (.inl k : Key) = .inl m then ((.inl k : Key), v) else (.inl k, .ref c.1)) :: (kvO (k + 1) bs).map _ = _
    rw [if_neg (fun q => by have := Sum.inl.inj q; omega), kvO_map (k + 1) m v bs (by omega)]
    rfl
theorem kvO_set : ∀ (k : Int) (bs : List (Addr × List Int)) (j : Nat) (a : Addr) (r : List Int), j < bs.length → (kvO k bs).map (fun kv => if kv.1 = (.inl (k + (j : Nat)) : Key) then (kv.1, .ref a) else kv) = kvO k (bs.set j (a, r))
  | _, [], j, _, _, h => absurd h (Nat.not_lt_zero _)
  | k, c :: bs, 0, a, r, h => by
    show (if (.inl k : Key) = .inl (k + ((0 : Nat) : Int)) then ((.inl k : Key), V.ref a) else (.inl k, .ref c.1)) :: (kvO (k + 1) bs).map _ = (.inl k, .ref a) :: kvO (k + 1) bs
    rw [if_pos (by rw [show k + ((0 : Nat) : Int) = k by omega]), kvO_map (k + 1) _ _ bs (by omega)]
  | k, c :: bs, j + 1, a, r, h => by
    have z := kvO_set (k + 1) bs j a r (Nat.lt_of_succ_lt_succ h)
    rw [show k + 1 + (j : Int) = k + ((j + 1 : Nat) : Int) by omega] at z
    show (if (.inl k : Key) = .inl (k + ((j + 1 : Nat) : Int)) then ((.inl k : Key), V.ref a) else (.inl k, .ref c.1)) :: (kvO (k + 1) bs).map _ = (.inl k, .ref c.1) :: kvO (k + 1) (bs.set j (a, r))
    rw [if_neg (fun q => by have := Sum.inl.inj q; omega), z]
theorem put_at {k : Int} {bs : List (Addr × List Int)} {j : Nat} {a : Addr} (r : List Int) (h : j < bs.length) : putK (kvO k bs) (.inl (k + (j : Nat))) (.ref a) = kvO k (bs.set j (a, r)) := by
  unfold putK
  rw [valV_any, kvO_at k bs j _ (List.getElem?_eq_getElem h), if_pos (show (some (V.ref bs[j].1)).isSome = true from rfl), kvO_set k bs j a r h]
theorem kvO_end : ∀ (k : Int) (bs : List (Addr × List Int)) (a : Addr) (r : List Int), kvO k bs ++ [(.inl (k + bs.length), .ref a)] = kvO k (bs ++ [(a, r)])
  | k, [], a, r => by
    show [((.inl (k + ((0 : Nat) : Int)) : Key), V.ref a)] = [(.inl k, .ref a)]
    rw [show k + ((0 : Nat) : Int) = k by omega]
  | k, c :: bs, a, r => by
    have z := kvO_end (k + 1) bs a r
    rw [show k + 1 + (bs.length : Int) = k + ((bs.length + 1 : Nat) : Int) by omega] at z
    show (.inl k, .ref c.1) :: (kvO (k + 1) bs ++ [((.inl (k + ((bs.length + 1 : Nat) : Int)) : Key), V.ref a)]) = (.inl k, .ref c.1) :: kvO (k + 1) (bs ++ [(a, r)])
    rw [z]
theorem put_end {k : Int} {bs : List (Addr × List Int)} {a : Addr} (r : List Int) : putK (kvO k bs) (.inl (k + bs.length)) (.ref a) = kvO k (bs ++ [(a, r)]) := by
  unfold putK
  rw [valV_any, kvO_none k _ bs (.inr (by omega)), if_neg (show ¬ (none : Option V).isSome = true from Bool.false_ne_true), kvO_end k bs a r]
/-- the rows as they stand, under their keys -/
structure Mad (H0 : Hp) (D : Addr) (bs : List (Addr × List Int)) (rs : List (List Int)) (H : Hp) : Prop where
  grow : Grows H0 H
  top : H D = some (.dK (kvO 1 bs))
  each : ∀ b ∈ bs, H b.1 = some (.lst (b.2.map V.int)) ∧ b.1 ≠ D
  rows : bs.map (·.2) = rs
  new : ∀ b ∈ bs, H0 b.1 = none
theorem Mad.keep {H0 H H' : Hp} {D : Addr} {bs : List (Addr × List Int)} {rs : List (List Int)} (m : Mad H0 D bs rs H) (g : Grows H H') : Mad H0 D bs rs H' := ⟨m.grow.trans g, g _ _ m.top, fun b h => ⟨g _ _ (m.each b h).1, (m.each b h).2⟩, m.rows, m.new⟩
theorem Mad.len {H0 H : Hp} {D : Addr} {bs : List (Addr × List Int)} {rs : List (List Int)} (m : Mad H0 D bs rs H) : bs.length = rs.length := by
  rw [← m.rows, List.length_map]
theorem set_same {α : Type} : ∀ {xs : List α} {j : Nat} {x : α}, xs[j]? = some x → xs.set j x = xs
  | [], _, _, h => by rw [List.getElem?_nil] at h; cases h
  | y :: ys, 0, x, h => by
    cases h
    rfl
  | y :: ys, j + 1, x, h => by
    have z := set_same (xs := ys) (j := j) (x := x) (by rw [List.getElem?_cons_succ] at h; exact h)
    show y :: ys.set j x = y :: ys
    rw [z]
theorem upd_D {H0 H : Hp} {D : Addr} {o : HO} (hD : H0 D = none) (g : Grows H0 H) : Grows H0 (upd H D o) := fun b u e => by
  rw [upd_ne fun z => by rw [z, hD] at e; cases e]
  exact g b u e
theorem Mad.set {H0 H H2 : Hp} {D y : Addr} {bs : List (Addr × List Int)} {rs : List (List Int)} {r : List Int} {j : Nat} (m : Mad H0 D bs rs H) (hD : H0 D = none) (g : Grows H H2) (hy : H2 y = some (.lst (r.map V.int))) (ny : y ≠ D) (nw : H0 y = none) : Mad H0 D (bs.set j (y, r)) (rs.set j r) (upd H2 D (.dK (kvO 1 (bs.set j (y, r))))) :=
  ⟨upd_D hD (m.grow.trans g), upd_same, fun b hb => by
    rcases List.mem_or_eq_of_mem_set hb with z | z
    · exact ⟨by rw [upd_ne (m.each b z).2]; exact g _ _ (m.each b z).1, (m.each b z).2⟩
    · rw [z]
      exact ⟨by rw [upd_ne ny]; exact hy, ny⟩, by rw [List.map_set, m.rows], fun b hb => by
    rcases List.mem_or_eq_of_mem_set hb with z | z
    · exact m.new b z
    · rw [z]
      exact nw⟩
theorem Mad.add {H0 H H2 : Hp} {D y : Addr} {bs : List (Addr × List Int)} {rs : List (List Int)} {r : List Int} (m : Mad H0 D bs rs H) (hD : H0 D = none) (g : Grows H H2) (hy : H2 y = some (.lst (r.map V.int))) (ny : y ≠ D) (nw : H0 y = none) : Mad H0 D (bs ++ [(y, r)]) (rs ++ [r]) (upd H2 D (.dK (kvO 1 (bs ++ [(y, r)])))) :=
  ⟨upd_D hD (m.grow.trans g), upd_same, fun b hb => by
    rcases List.mem_append.mp hb with z | z
    · exact ⟨by rw [upd_ne (m.each b z).2]; exact g _ _ (m.each b z).1, (m.each b z).2⟩
    · rw [List.mem_singleton.mp z]
      exact ⟨by rw [upd_ne ny]; exact hy, ny⟩, by rw [List.map_append, m.rows]; rfl, fun b hb => by
    rcases List.mem_append.mp hb with z | z
    · exact m.new b z
    · rw [List.mem_singleton.mp z]
      exact nw⟩
/-- rows of which the first ones are grown -/
def mixB (G : List Int → List Int) (rs : List (List Int)) (j : Nat) : List (List Int) := (rs.take j).map G ++ rs.drop j
theorem mix_zero {G : List Int → List Int} {rs : List (List Int)} : mixB G rs 0 = rs := rfl
theorem mix_all {G : List Int → List Int} {rs : List (List Int)} : mixB G rs rs.length = rs.map G := by
  unfold mixB
  rw [List.take_length, List.drop_length, List.append_nil]
theorem mix_len {G : List Int → List Int} {rs : List (List Int)} {j : Nat} (h : j ≤ rs.length) : (mixB G rs j).length = rs.length := by
  unfold mixB
  rw [List.length_append, List.length_map, List.length_take, List.length_drop]
  omega
theorem mix_at {G : List Int → List Int} {rs : List (List Int)} {j : Nat} {r : List Int} (h : rs[j]? = some r) : (mixB G rs j)[j]? = some r := by
  have l := (List.getElem?_eq_some_iff.mp h).1
  unfold mixB
  have e : ((rs.take j).map G).length = j := by
    rw [List.length_map, List.length_take]
    omega
  rw [List.getElem?_append_right (by omega), e, Nat.sub_self, List.getElem?_drop, Nat.add_zero]
  exact h
theorem mix_set {G : List Int → List Int} : ∀ {rs : List (List Int)} {j : Nat} {r : List Int}, rs[j]? = some r → (mixB G rs j).set j (G r) = mixB G rs (j + 1)
  | [], j, r, h => by rw [List.getElem?_nil] at h; cases h
  | c :: rs, 0, r, h => by
    cases h
    rfl
  | c :: rs, j + 1, r, h => by
    have z := mix_set (G := G) (rs := rs) (j := j) (r := r) (by rw [List.getElem?_cons_succ] at h; exact h)
    show G c :: (mixB G rs j).set j (G r) = G c :: mixB G rs (j + 1)
    rw [z]
theorem mix_same {G : List Int → List Int} {rs : List (List Int)} {j : Nat} {r : List Int} (h : rs[j]? = some r) (e : G r = r) : mixB G rs (j + 1) = mixB G rs j := by
  rw [← mix_set h, e]
  exact set_same (mix_at h)
theorem sort_snd (bs : List (Addr × List Int)) : (bs.mergeSort rowLe).map (·.2) = sortB (bs.map (·.2)) := by
  unfold sortB
  exact (List.map_mergeSort fun _ _ _ _ => rfl)
def spGroups (K : PySem.W.Frag) : Sp := fun vs H Q _ => ∃ (a : Addr) (is : List Int), vs = [.ref a] ∧ SqL K H a (is.map V.int) ∧ Bnd is ∧ is.length ≤ 19 ∧
  ∀ (p : Addr) (cs : List (Addr × List Int)) (H' : Hp), Grows H H' → H p = none → H' p = some (.lst (cs.map fun c => V.ref c.1)) → (∀ c ∈ cs, H' c.1 = some (.lst (c.2.map V.int)) ∧ H c.1 = none) → cs.map (·.2) = sortB (famB is is.length) → Q (.ref p) H'
section
variable {P : Program} {w : World} {K : PySem.W.Frag} {mg : Str → Option Value} {base : Heap}
theorem scGroups : FnScope ["items", "made", "place", "item", "base", "maker", "wide"] ["items"] (defScope sGroups) := ⟨rfl, rfl, rfl, by decide +kernel, rfl, by decide +kernel, by decide +kernel⟩
theorem ok_groups {f : Addr} {fd : FuncData} (F : Fun K "_law_groups" "_law_groups" sGroups f fd) (T : TxtP mg) : FnOk P w K mg base CX0 1 f fd ["items"] (spGroups K) := by
  refine F.ok scGroups (fun vs H Q E h => ?_) (fun cdv A outer s H vs Q E hr h => ?_)
  · obtain ⟨a, is, rfl, _⟩ := h
    rfl
  · obtain ⟨a, is, rfl, hS, hb, hl, k⟩ := h
    have hu := hu_of hr
    refine ⟨_, (pss_cons (ps_set (i := 1) scGroups.nd rfl (.inl rfl) pe_dnewK)
      (pss_cons (ps_for PassesOwn.never rfl (pi_enum (by rfl) T.enumerate (pa_cons (pv 0) pa_nil)) (pg_tup (by rfl) (pgs_cons (pg_name (i := 2) scGroups.nd rfl (.inl rfl)) (pgs_cons (pg_name (i := 3) scGroups.nd rfl (.inl rfl)) pgs_nil)))
      (pss_cons (ps_set (i := 4) scGroups.nd rfl (.inl rfl) (pe_ifExp (pt_cmpR op_ge (pv 3) pe_int (nomark _)) (pe_lst (pa_cons (pv 3) pa_nil)) (pe_dget hu (pv 1) (pe_op op_sub pe_int (pv 3)) (fun _ _ => rfl))))
      (pss_cons (ps_for PassesOwn.never rfl (pi_list (pe_callTy (call_list_dK (by rfl)) (by rfl) T.list (by decide +kernel) (pa_cons (pv 1) pa_nil))) (pg_name (i := 5) scGroups.nd rfl (.inl rfl))
      (pss_cons (ps_set (i := 6) scGroups.nd rfl (.inl rfl) (pe_dget hu (pv 1) (pv 5) (fun _ _ => rfl)))
      (pss_one (ps_if (PW.pt (pw_and (pt_cmpR op_gt (pe_callB call_len_seq (by rfl) T.len (by decide +kernel) (pa_cons (pv 6) pa_nil)) (pe_callB call_len_seq (by rfl) T.len (by decide +kernel) (pa_cons (pv 4) pa_nil)) (nomark _)) (pw_and1 (pt_cmpR op_in_seq (pe_ix (r := rIxL K) ix_list (pv 4) pe_int (fun _ _ => rfl)) (pv 6) (by rfl))))) (pss_one (ps_dput hu (pv 1) (pv 5) (pe_op op_cat (pv 6) (pe_lst (pa_cons (pe_op op_add (pv 2) pe_int) pa_nil))) rfl)) pss_nil))))
      (pss_one (ps_dput hu (pv 1) (pe_op op_add (pv 2) pe_int) (pe_op op_cat (pv 4) (pe_lst (pa_cons (pe_op op_add (pv 2) pe_int) pa_nil))) rfl)))))
      (pss_one (ps_ret (pe_sortVals hr.units (by rfl) (by rfl) T.sorted (pv 1)))))), ?_⟩
    refine fun D hD => ?_
    refine ⟨_, rfl, a, _, rfl, Grows.seq (Grows.new hD) hS, for_enumL (K := K) (xs := is.map V.int) (fun i σ H' => ∃ (bs : List (Addr × List Int)) (o2 o3 o4 o5 o6 : Option V), σ = [some (.ref a), some (.ref D), o2, o3, o4, o5, o6] ∧ Mad H D bs (famB is i) H')
      ⟨[], none, none, none, none, none, rfl, ⟨Grows.new hD, upd_same, (fun _ h => nomatch h), rfl, fun _ h => nomatch h⟩⟩ (fun i σ H' ⟨bs, o2, o3, o4, o5, o6, e, m⟩ => Grows.seq m.grow hS) (fun i x Tp σ H' hx ⟨bs, o2, o3, o4, o5, o6, e, m⟩ hT => ?_) fun σ H' ⟨bs, o2, o3, o4, o5, o6, e, m⟩ => ?_⟩
    · subst e
      have il := (List.getElem?_eq_some_iff.mp hx).1
      rw [List.length_map] at il
      obtain rfl := at_map (d := 0) hx
      obtain ⟨x, ex⟩ : ∃ x : Int, x = is.getD i 0 := ⟨_, rfl⟩
      have bx : -(i : Int) ≤ x ∧ x ≤ (i : Int) := by
        refine hb i x ?_
        rw [ex, List.getD_eq_getElem?_getD, List.getElem?_eq_getElem il]
        rfl
      rw [← ex]
      refine ⟨Tp, _, rfl, SqT.of upd_same, rfl, _, _, rfl, _, _, rfl, rfl, ?_⟩
      have m1 := m.keep (Grows.new (o := .tup [V.int ((i : Nat) : Int), V.int x]) hT)
      generalize upd H' Tp (.tup [V.int ((i : Nat) : Int), V.int x]) = H1 at m1 ⊢
      clear m hT
      have li : (famB is i).length = i := famB_len is i
      refine seq_all (fun σ' H2 => ∃ pb : Addr, σ' = [some (.ref a), some (.ref D), some (.int ((i : Nat) : Int)), some (.int x), some (.ref pb), o5, o6] ∧ Grows H1 H2 ∧ H2 pb = some (.lst ((baseB (famB is i) x).map V.int)) ∧ pb ≠ D) (fun σ' H2 ⟨pb, e, g, ep, np⟩ => ?_) fun k2 => ?_
      · subst e
        have m2 := m1.keep g
        clear m1 g
        refine ⟨_, rfl, D, _, rfl, m2.top, fun L hL => ⟨L, rfl, ⟨_, SqL.of upd_same⟩, ?_⟩⟩
        have m3 := m2.keep (Grows.new (o := .lst ((kvO 1 bs).map fun kv => kV kv.1)) hL)
        obtain ⟨G, eG⟩ : ∃ G : List Int → List Int, G = growB ((i : Int) + 1) (baseB (famB is i) x) := ⟨_, rfl⟩
        have nL : L ≠ D := (ne_of_none m2.top hL).symm
        refine for_list (K := K) (xs := (kvO 1 bs).map fun kv => kV kv.1) (fun j σ H3 => ∃ (cs : List (Addr × List Int)) (p5 p6 : Option V), σ = [some (.ref a), some (.ref D), some (.int ((i : Nat) : Int)), some (.int x), some (.ref pb), p5, p6] ∧ Mad H D cs (mixB G (famB is i) j) H3 ∧ Gr D (upd H2 L (.lst ((kvO 1 bs).map fun kv => kV kv.1))) H3)
          ⟨bs, _, _, rfl, m3, .refl⟩ (fun j σ H3 _ ⟨cs, p5, p6, e, m4, gr⟩ => SqL.of (gr _ _ nL upd_same)) (fun j v σ H3 hv ⟨cs, p5, p6, e, m4, gr⟩ => ?_) fun σ H3 ⟨cs, p5, p6, e, m4, gr⟩ => ?_
        · subst e
          have lk : (kvO 1 bs).length = i := by rw [kvO_len, m2.len, li]
          have ji : j < i := by
            have := (List.getElem?_eq_some_iff.mp hv).1
            rw [List.length_map, lk] at this
            exact this
          have lc : cs.length = i := by rw [m4.len, mix_len (by rw [li]; exact Nat.le_of_lt ji), li]
          obtain rfl : v = .int (1 + (j : Int)) := by
            rw [kvO_keys, List.getElem?_map, List.getElem?_map, List.getElem?_range (by rw [m2.len, li]; exact ji)] at hv
            cases hv
            rfl
          have jc : j < cs.length := by rw [lc]; exact ji
          have jr : j < (famB is i).length := by rw [li]; exact ji
          obtain ⟨c, ec⟩ : ∃ c, cs[j]? = some c := ⟨_, List.getElem?_eq_getElem jc⟩
          obtain ⟨r, er⟩ : ∃ r, (famB is i)[j]? = some r := ⟨_, List.getElem?_eq_getElem jr⟩
          have mc : c ∈ cs := List.mem_of_getElem? ec
          have cr : c.2 = r := by
            have z := mix_at (G := G) er
            rw [← m4.rows, List.getElem?_map, ec] at z
            exact Option.some.inj z
          have dg : DGet H3 D (.int (1 + (j : Int))) (some (.ref c.1)) := by
            have z := DGet.k (k := .inl (1 + (j : Int))) m4.top
            rw [kvO_at 1 cs j _ ec] at z
            exact z
          have ew : H3 c.1 = some (.lst (r.map V.int)) := by
            rw [← cr]
            exact (m4.each c mc).1
          have ep3 : H3 pb = some (.lst ((baseB (famB is i) x).map V.int)) := gr _ _ np (Grows.new hL _ _ ep)
          have same : G r = r → ∃ (cs : List (Addr × List Int)) (p5 p6 : Option V), [some (.ref a), some (.ref D), some (.int ((i : Nat) : Int)), some (.int x), some (.ref pb), some (.int (1 + (j : Int))), some (.ref c.1)] = [some (.ref a), some (.ref D), some (.int ((i : Nat) : Int)), some (.int x), some (.ref pb), p5, p6] ∧ Mad H D cs (mixB G (famB is i) (j + 1)) H3 ∧ Gr D (upd H2 L (.lst ((kvO 1 bs).map fun kv => kV kv.1))) H3 := fun e => ⟨cs, _, _, rfl, by rw [mix_same er e]; exact m4, gr⟩
          refine ⟨_, rfl, _, rfl, D, _, rfl, dg, ?_⟩
          refine ⟨_, rfl, c.1, _, rfl, .inl (SqL.of ew), _, rfl, pb, _, rfl, .inl (SqL.of ep3), _, _, rfl, rfl, _, rfl, iteN _ (fun c1 => ?_) fun c1 => ?_⟩
          · have c1 := of_decide_eq_true c1
            rw [List.length_map, List.length_map] at c1
            have B := (famB_ok hb i (Nat.le_of_lt il)).bas (item := x) (by rw [li]; exact bx.1) (by rw [li]; exact bx.2)
            obtain ⟨h, t, eb⟩ := B.ne
            refine ⟨_, rfl, pb, _, 0, .int h, rfl, rfl, SqL.of ep3, (by rw [eb]; exact atI_nat (j := 0) rfl), _, rfl, c.1, _, rfl, .inl (SqL.of ew), rfl, flat_ints r, _, rfl, iteN _ (fun c2 => ?_) fun c2 => ?_⟩
            · rw [if_neg Bool.false_ne_true, inV_ints] at c2
              have c2 := of_decide_eq_true c2
              have eGr : G r = r ++ [(i : Int) + 1] := by
                rw [eG]
                unfold growB inB
                rw [decide_eq_true (show (baseB (famB is i) x).length < r.length by omega), decide_eq_true (show (baseB (famB is i) x).headD 0 ∈ r by rw [eb]; exact c2)]
                rfl
              refine ⟨_, rfl, _, rfl, _, _, rfl, rfl, (by show 1 ≤ sizeLine; decide), fun q hq => ⟨c.1, q, _, _, rfl, rfl, Grows.new hq _ _ ew, upd_same, ?_, fun y hy => ⟨_, rfl, _, rfl, D, _, rfl, DPut.k (k := .inl (1 + (j : Int))) ((Grows.new hq).trans (Grows.new hy) _ _ m4.top) (by rw [kvO_len, lc]; exact small1000 (by omega)), ?_⟩⟩⟩
              · rw [List.length_map]
                have := len_sub (xs := r) (ys := (List.range (i + 1)).map fun z => ((z : Nat) : Int)) (up_nodup ((famB_ok hb i (Nat.le_of_lt il)).up r (List.mem_of_getElem? er))) fun z hz => by
                  have q := (famB_ok hb i (Nat.le_of_lt il)).rng r (List.mem_of_getElem? er) z hz
                  rw [li] at q
                  exact List.mem_map.mpr ⟨z.toNat, List.mem_range.mpr (by omega), by omega⟩
                rw [List.length_map, List.length_range] at this
                exact Nat.le_trans (show r.length + 1 ≤ 100 by omega) (by decide)
              · have gg : Grows H3 (upd (upd H3 q (.lst [V.int ((i : Int) + 1)])) y (.lst (r.map V.int ++ [V.int ((i : Int) + 1)]))) := (Grows.new hq).trans (Grows.new hy)
                have ny : y ≠ D := (ne_of_none (Grows.new hq _ _ m4.top) hy).symm
                rw [put_at (r ++ [(i : Int) + 1]) jc]
                refine ⟨cs.set j (y, r ++ [(i : Int) + 1]), _, _, rfl, ?_, fun b o n e => by rw [upd_ne n]; exact gg _ _ (gr b o n e)⟩
                rw [← mix_set er, eGr]
                exact m4.set hD gg (by rw [upd_same, List.map_append]; rfl) ny (none_back (m4.grow.trans (Grows.new hq)) hy)
            · rw [if_neg Bool.false_ne_true, inV_ints] at c2
              refine same ?_
              rw [eG]
              unfold growB inB
              rw [decide_eq_false (show ¬ (baseB (famB is i) x).headD 0 ∈ r by rw [eb]; exact of_decide_eq_false c2), Bool.and_false, if_neg Bool.false_ne_true]
          · have c1 := of_decide_eq_false c1
            rw [List.length_map, List.length_map] at c1
            refine same ?_
            rw [eG]
            unfold growB inB
            rw [decide_eq_false (show ¬ (baseB (famB is i) x).length < r.length by omega), Bool.false_and, if_neg Bool.false_ne_true]
        · subst e
          have lk : ((kvO 1 bs).map fun kv => kV kv.1).length = (famB is i).length := by rw [List.length_map, kvO_len, m2.len]
          rw [lk, mix_all] at m4
          have lc : cs.length = i := by rw [m4.len, List.length_map, li]
          have ep3 : H3 pb = some (.lst ((baseB (famB is i) x).map V.int)) := gr _ _ np (Grows.new hL _ _ ep)
          refine ⟨_, rfl, _, rfl, _, _, rfl, rfl, (by show 1 ≤ sizeLine; decide), fun q hq => ⟨pb, q, _, _, rfl, rfl, Grows.new hq _ _ ep3, upd_same, ?_, fun y hy => ⟨_, rfl, _, rfl, _, _, rfl, rfl, D, _, rfl, DPut.k (k := .inl ((i : Int) + 1)) ((Grows.new hq).trans (Grows.new hy) _ _ m4.top) (by rw [kvO_len, lc]; exact small1000 (by omega)), ?_⟩⟩⟩
          · have B := (famB_ok hb i (Nat.le_of_lt il)).bas (item := x) (by rw [li]; exact bx.1) (by rw [li]; exact bx.2)
            rw [List.length_map]
            have := len_sub (xs := baseB (famB is i) x) (ys := (List.range (i + 1)).map fun z => ((z : Nat) : Int)) (up_nodup B.up) fun z hz => by
              have q := B.rng z hz
              rw [li] at q
              exact List.mem_map.mpr ⟨z.toNat, List.mem_range.mpr (by omega), by omega⟩
            rw [List.length_map, List.length_range] at this
            exact Nat.le_trans (show (baseB (famB is i) x).length + 1 ≤ 100 by omega) (by decide)
          · have gg : Grows H3 (upd (upd H3 q (.lst [V.int ((i : Int) + 1)])) y (.lst ((baseB (famB is i) x).map V.int ++ [V.int ((i : Int) + 1)]))) := (Grows.new hq).trans (Grows.new hy)
            have ny : y ≠ D := (ne_of_none (Grows.new hq _ _ m4.top) hy).symm
            have ke : ((i : Int) + 1) = 1 + ((cs.length : Nat) : Int) := by rw [lc]; omega
            have pe : putK (kvO 1 cs) (.inl ((i : Int) + 1)) (.ref y) = kvO 1 (cs ++ [(y, baseB (famB is i) x ++ [(i : Int) + 1])]) := by
              rw [show (.inl ((i : Int) + 1) : Key) = .inl (1 + ((cs.length : Nat) : Int)) from congrArg Sum.inl ke]
              exact put_end _
            rw [pe]
            refine ⟨cs ++ [(y, baseB (famB is i) x ++ [(i : Int) + 1])], _, _, _, _, _, rfl, ?_⟩
            have e : famB is (i + 1) = (famB is i).map G ++ [baseB (famB is i) x ++ [(i : Int) + 1]] := by
              show stepB (famB is i) (is.getD i 0) = _
              unfold stepB
              rw [← ex, li, eG]
            rw [e]
            exact m4.add hD gg (by rw [upd_same, List.map_append]; rfl) ny (none_back (m4.grow.trans (Grows.new hq)) hy)
      · refine ⟨_, rfl, _, _, rfl, rfl, _, rfl, iteN _ (fun c => ?_) fun c => ?_⟩
        · have c := of_decide_eq_true c
          refine ⟨_, rfl, (by show 1 ≤ sizeLine; decide), fun q hq => k2 _ _ ⟨q, rfl, Grows.new hq, ?_, (ne_of_none m1.top hq).symm⟩⟩
          rw [upd_same]
          unfold baseB
          rw [if_pos c]
          rfl
        · have c := of_decide_eq_false c
          have lj : (0 - x - 1).toNat < bs.length := by
            rw [m1.len, li]
            omega
          have eb := List.getElem?_eq_getElem lj
          have dg : DGet H1 D (.int (0 - x)) (some (.ref bs[(0 - x - 1).toNat].1)) := by
            have z := DGet.k (k := .inl (1 + (((0 - x - 1).toNat : Nat) : Int))) m1.top
            rw [kvO_at 1 bs _ _ eb] at z
            have e : (1 + (((0 - x - 1).toNat : Nat) : Int)) = 0 - x := by omega
            have z2 : DGet H1 D (.int (1 + (((0 - x - 1).toNat : Nat) : Int))) (some (.ref bs[(0 - x - 1).toNat].1)) := z
            generalize hg : (1 + (((0 - x - 1).toNat : Nat) : Int)) = u at e z2
            rw [e] at z2
            exact z2
          have mem := List.getElem_mem lj
          refine ⟨_, rfl, _, rfl, _, _, rfl, rfl, D, _, rfl, dg, k2 _ _ ⟨_, rfl, .refl, ?_, (m1.each _ mem).2⟩⟩
          rw [(m1.each _ mem).1]
          unfold baseB
          rw [if_neg c, ← m1.rows, List.getD_eq_getElem?_getD, List.getElem?_map, eb]
          rfl
    · subst e
      rw [List.length_map] at m
      refine ⟨_, rfl, D, _, bs, rfl, m.top, kvO_vals 1 bs, fun b h => (m.each b h).1, fun p hp => ?_⟩
      have g := m.grow.trans (Grows.new (o := .lst ((bs.mergeSort rowLe).map fun b => V.ref b.1)) hp)
      refine k p (bs.mergeSort rowLe) _ g (none_back m.grow hp) upd_same (fun c h => ?_) (by rw [sort_snd, m.rows])
      exact ⟨Grows.new hp _ _ (m.each c (List.mem_mergeSort.mp h)).1, m.new c (List.mem_mergeSort.mp h)⟩
end
end K33

namespace K33
open PySem PySem.Spec PyProof.Rows L2 SortR LcM
/-! ### both parts of each group of a family that grows newcomer by newcomer -/
def Half (rs : List (List Int)) (x : List Int) : Prop := x ∈ rs ∨ ∃ p : Int, x = [p] ∧ 0 ≤ p ∧ p ≤ (rs.length : Int)
structure Cut2 (rs : List (List Int)) (g a b : List Int) : Prop where
  ha : Half rs a
  hb : Half rs b
  mem : ∀ z, z ∈ g ↔ z ∈ a ∨ z ∈ b
  dis : ∀ z ∈ a, z ∉ b
def Bin (rs : List (List Int)) : Prop := ∀ g ∈ rs, ∃ a b, Cut2 rs g a b
theorem Cut2.swap {rs : List (List Int)} {g a b : List Int} (c : Cut2 rs g a b) : Cut2 rs g b a := ⟨c.hb, c.ha, fun z => (c.mem z).trans or_comm, fun z p q => c.dis z q p⟩
theorem up_same : ∀ {xs ys : List Int}, xs.Pairwise (· < ·) → ys.Pairwise (· < ·) → (∀ z, z ∈ xs ↔ z ∈ ys) → xs = ys
  | [], [], _, _, _ => rfl
  | [], y :: ys, _, _, h => nomatch (h y).mpr List.mem_cons_self
  | x :: xs, [], _, _, h => nomatch (h x).mp List.mem_cons_self
  | x :: xs, y :: ys, a, b, h => by
    obtain ⟨a1, a2⟩ := List.pairwise_cons.mp a
    obtain ⟨b1, b2⟩ := List.pairwise_cons.mp b
    have e : x = y := by
      rcases List.mem_cons.mp ((h x).mp List.mem_cons_self) with e | m
      · exact e
      · rcases List.mem_cons.mp ((h y).mpr List.mem_cons_self) with e | m2
        · exact e.symm
        · have := a1 _ m2
          have := b1 _ m
          omega
    subst e
    rw [up_same a2 b2 fun z => ⟨fun m => ?_, fun m => ?_⟩]
    · rcases List.mem_cons.mp ((h z).mp (List.mem_cons_of_mem _ m)) with e | q
      · subst e
        have := a1 _ m
        omega
      · exact q
    · rcases List.mem_cons.mp ((h z).mpr (List.mem_cons_of_mem _ m)) with e | q
      · subst e
        have := b1 _ m
        omega
      · exact q
theorem Half.up {rs : List (List Int)} (u : ∀ r ∈ rs, r.Pairwise (· < ·)) {x : List Int} (h : Half rs x) : x.Pairwise (· < ·) := by
  rcases h with h | ⟨p, rfl, _⟩
  · exact u _ h
  · exact List.pairwise_singleton _ _
theorem Half.ne {rs : List (List Int)} (two : ∀ r ∈ rs, 2 ≤ r.length) {x : List Int} (h : Half rs x) : ∃ z, z ∈ x := by
  rcases h with h | ⟨p, rfl, _⟩
  · have := two _ h
    cases x with
    | nil => exact absurd this (by decide)
    | cons z _ => exact ⟨z, List.mem_cons_self⟩
  · exact ⟨p, List.mem_cons_self⟩
/-- what lies nicely by all groups lies nicely by one person too -/
theorem Half.nice {rs : List (List Int)} {b x : List Int} (n : ∀ w ∈ rs, Nice b w) (h : Half rs x) : Nice b x := by
  rcases h with h | ⟨p, rfl, _⟩
  · exact n _ h
  · by_cases m : p ∈ b
    · exact .inr (.inr fun z hz => by rw [List.mem_singleton.mp hz]; exact m)
    · exact .inl fun z hz q => m (by rw [← List.mem_singleton.mp q]; exact hz)
theorem Bin.step {rs : List (List Int)} (N : Bin rs) (F : Fam rs) {item : Int} (h0 : -(rs.length : Int) ≤ item) (h1 : item ≤ rs.length) : Bin (stepB rs item) := by
  have B := F.bas h0 h1
  obtain ⟨f, ef⟩ : ∃ f : Int, f = (rs.length : Int) + 1 := ⟨_, rfl⟩
  obtain ⟨b, eb⟩ : ∃ b : List Int, b = baseB rs item := ⟨_, rfl⟩
  have es : stepB rs item = rs.map (growB f b) ++ [b ++ [f]] := by
    unfold stepB
    rw [← ef, ← eb]
  have big : ((stepB rs item).length : Int) = f := by
    rw [stepB_len, ef]
    rfl
  have B0 : Bas rs b := by rw [eb]; exact B
  have old : ∀ {x : List Int}, Half rs x → inB b x = false → Half (stepB rs item) x := fun {x} h i => by
    rcases h with h | ⟨p, rfl, p0, p1⟩
    · refine .inl ?_
      rw [es]
      refine List.mem_append.mpr (.inl (List.mem_map.mpr ⟨x, h, ?_⟩))
      unfold growB
      rw [i, if_neg Bool.false_ne_true]
    · exact .inr ⟨p, rfl, p0, by rw [big, ef]; omega⟩
  have notin : ∀ {x : List Int}, Half rs x → f ∉ x := fun {x} h z => by
    rcases h with h | ⟨p, rfl, p0, p1⟩
    · have := (F.rng x h f z).2
      omega
    · rw [List.mem_singleton] at z
      omega
  have hf : Half (stepB rs item) [f] := .inr ⟨f, rfl, by omega, by rw [big]; exact Int.le_refl _⟩
  have new : b ++ [f] ∈ stepB rs item := by
    rw [es]
    exact List.mem_append.mpr (.inr List.mem_cons_self)
  have bb : inB b b = false := by
    unfold inB
    rw [decide_eq_false (Nat.lt_irrefl _), Bool.false_and]
  have hb : Half (stepB rs item) b := by
    refine old ?_ bb
    rw [eb]
    unfold baseB
    by_cases p : 0 ≤ item
    · rw [if_pos p]
      exact .inr ⟨item, rfl, p, h1⟩
    · rw [if_neg p]
      have lt : (0 - item - 1).toNat < rs.length := by omega
      refine .inl ?_
      rw [List.getD_eq_getElem?_getD, List.getElem?_eq_getElem lt]
      exact List.getElem_mem lt
  intro r hr
  rw [es] at hr
  rcases List.mem_append.mp hr with q | q
  · obtain ⟨w, hw, e⟩ := List.mem_map.mp q
    obtain ⟨x, y, c⟩ := N w hw
    have uw := F.up w hw
    have len : ∀ {x : List Int}, Half rs x → (∀ z ∈ x, z ∈ w) → x.length ≤ w.length := fun h s => len_sub (up_nodup (h.up F.up)) s
    unfold growB at e
    cases i : inB b w with
    | false =>
      rw [i, if_neg Bool.false_ne_true] at e
      subst e
      have out : ∀ {x : List Int}, Half rs x → (∀ z ∈ x, z ∈ w) → inB b x = false := fun {x} h s => by
        cases j : inB b x with
        | false => rfl
        | true =>
          unfold inB at i j
          simp only [Bool.and_eq_true, decide_eq_true_eq] at j
          rw [decide_eq_true (show b.length < w.length by have := len h s; omega), decide_eq_true (s _ j.2)] at i
          cases i
      exact ⟨x, y, old c.ha (out c.ha fun z hz => (c.mem z).mpr (.inl hz)), old c.hb (out c.hb fun z hz => (c.mem z).mpr (.inr hz)), c.mem, c.dis⟩
    | true =>
      rw [i, if_pos rfl] at e
      subst e
      obtain ⟨sub, lt⟩ := B0.sub F hw i
      have hm := sub _ B0.head
      -- the part x is that with the head of b
      have main : ∀ x y, Cut2 rs w x y → b.headD 0 ∈ x → ∃ a b', Cut2 (stepB rs item) (w ++ [f]) a b' := fun x y c hx => by
        have ny : inB b y = false := by
          unfold inB
          rw [decide_eq_false (c.dis _ hx), Bool.and_false]
        have hy := old c.hb ny
        have memf : ∀ {a : List Int}, (∀ z, z ∈ a ↔ z ∈ x) → ∀ z, z ∈ w ++ [f] ↔ z ∈ a ++ [f] ∨ z ∈ y := fun {a} ea z => by
          rw [List.mem_append, List.mem_append, c.mem, ea]
          exact ⟨fun h => h.elim (fun h => h.elim (fun q => .inl (.inl q)) .inr) fun q => .inl (.inr q), fun h => h.elim (fun h => h.elim (fun q => .inl (.inl q)) .inr) fun q => .inl (.inr q)⟩
        have disf : ∀ {a : List Int}, (∀ z, z ∈ a ↔ z ∈ x) → ∀ z ∈ a ++ [f], z ∉ y := fun {a} ea z hz hzy => by
          rcases List.mem_append.mp hz with q | q
          · exact c.dis z ((ea z).mp q) hzy
          · rw [List.mem_singleton.mp q] at hzy
            exact notin c.hb hzy
        cases ix : inB b x with
        | true =>
          refine ⟨x ++ [f], y, .inl ?_, hy, memf fun z => Iff.rfl, disf fun z => Iff.rfl⟩
          rcases c.ha with h | ⟨p, rfl, _⟩
          · rw [es]
            refine List.mem_append.mpr (.inl (List.mem_map.mpr ⟨x, h, ?_⟩))
            unfold growB
            rw [ix, if_pos rfl]
          · unfold inB at ix
            simp only [Bool.and_eq_true, decide_eq_true_eq] at ix
            obtain ⟨h, t, e⟩ := B0.ne
            have := ix.1
            rw [e, List.length_cons, List.length_singleton] at this
            omega
        | false =>
          have lx : x.length ≤ b.length := by
            apply Classical.byContradiction
            intro l
            unfold inB at ix
            rw [decide_eq_true (show b.length < x.length by omega), decide_eq_true hx] at ix
            cases ix
          have e : ∀ z, z ∈ b ↔ z ∈ x := by
            rcases c.ha.nice B0.nice with n | n | n
            · exact absurd hx (n _ B0.head)
            · exact fun z => ⟨n z, sub_back (up_nodup B0.up) n lx z⟩
            · refine fun z => ⟨fun hz => ?_, n z⟩
              rcases (c.mem z).mp (sub z hz) with q | q
              · exact q
              · rcases c.hb.nice B0.nice with m | m | m
                · exact absurd q (m _ hz)
                · exact absurd (m _ B0.head) (c.dis _ hx)
                · have : w.length ≤ b.length := len_sub (up_nodup uw) fun z hz => ((c.mem z).mp hz).elim (n z) (m z)
                  omega
          exact ⟨b ++ [f], y, .inl new, hy, memf e, disf e⟩
      rcases (c.mem _).mp hm with q | q
      · exact main x y c q
      · exact main y x c.swap q
  · rw [List.mem_singleton.mp q]
    exact ⟨b, [f], hb, hf, fun z => List.mem_append, fun z hz q => by
      rw [List.mem_singleton.mp q] at hz
      have := (B0.rng f hz).2
      omega⟩
theorem famB_bin {is : List Int} (h : Bnd is) : ∀ n, n ≤ is.length → Bin (famB is n)
  | 0, _ => fun _ h => nomatch h
  | n + 1, hn => by
    have e : is[n]? = some is[n] := List.getElem?_eq_getElem hn
    have b := h n _ e
    have eg : is.getD n 0 = is[n] := by rw [List.getD_eq_getElem?_getD, e]; rfl
    have L := famB_len is n
    exact (famB_bin h n (Nat.le_of_succ_le hn)).step (famB_ok h n (Nat.le_of_succ_le hn)) (by rw [L, eg]; exact b.1) (by rw [L, eg]; exact b.2)
/-! ### what both_parts makes of them -/
/-- the part with the least person: the greatest one that begins alike -/
def firstN (rs : List (List Int)) (g : List Int) : Nat → List Int
  | 0 => [g.getD 0 0]
  | n + 1 => let f := firstN rs g n; let r := rs.getD n []
    if r.getD 0 0 = g.getD 0 0 ∧ f.length < r.length ∧ r.length < g.length then r else f
def firR (rs : List (List Int)) (g : List Int) : List Int := firstN rs g rs.length
def secR (rs : List (List Int)) (g : List Int) : List Int := g.filter fun x => decide (x ∉ firR rs g)
theorem firR_eq {rs : List (List Int)} {g A : List Int} (two : ∀ r ∈ rs, 2 ≤ r.length) (hA : A = [g.getD 0 0] ∨ (A ∈ rs ∧ A.getD 0 0 = g.getD 0 0 ∧ A.length < g.length))
    (k : ∀ r ∈ rs, r.getD 0 0 = g.getD 0 0 → r.length < g.length → r.length ≤ A.length ∧ (r.length = A.length → r = A)) : firR rs g = A := by
  have inv : ∀ n, n ≤ rs.length → (firstN rs g n = [g.getD 0 0] ∨ (firstN rs g n ∈ rs ∧ (firstN rs g n).getD 0 0 = g.getD 0 0 ∧ (firstN rs g n).length < g.length)) ∧
      ∀ i, i < n → (rs.getD i []).getD 0 0 = g.getD 0 0 → (rs.getD i []).length < g.length → (rs.getD i []).length ≤ (firstN rs g n).length := by
    intro n
    induction n with
    | zero => exact fun _ => ⟨.inl rfl, fun i hi => absurd hi (Nat.not_lt_zero i)⟩
    | succ n ih =>
      intro hn
      obtain ⟨a, b⟩ := ih (by omega)
      have mem : rs.getD n [] ∈ rs := by
        rw [List.getD_eq_getElem?_getD, List.getElem?_eq_getElem (by omega : n < rs.length)]
        exact List.getElem_mem _
      have e : firstN rs g (n + 1) = if (rs.getD n []).getD 0 0 = g.getD 0 0 ∧ (firstN rs g n).length < (rs.getD n []).length ∧ (rs.getD n []).length < g.length then rs.getD n [] else firstN rs g n := rfl
      rw [e]
      split
      · rename_i c
        refine ⟨.inr ⟨mem, c.1, c.2.2⟩, fun i hi h1 h2 => ?_⟩
        by_cases q : i = n
        · rw [q]
          exact Nat.le_refl _
        · have := b i (by omega) h1 h2
          omega
      · rename_i c
        refine ⟨a, fun i hi h1 h2 => ?_⟩
        by_cases q : i = n
        · subst q
          rcases Nat.lt_or_ge (firstN rs g i).length (rs.getD i []).length with l | l
          · exact absurd ⟨h1, l, h2⟩ c
          · exact l
        · exact b i (by omega) h1 h2
  obtain ⟨a, b⟩ := inv rs.length (Nat.le_refl _)
  unfold firR
  rcases hA with hA | ⟨m, h1, h2⟩
  · rcases a with a | ⟨a1, a2, a3⟩
    · rw [a, hA]
    · have := (k _ a1 a2 a3).1
      have := two _ a1
      rw [hA] at *
      simp only [List.length_cons, List.length_nil] at *
      omega
  · obtain ⟨i, hi, ei⟩ := List.getElem_of_mem m
    have ei2 : rs.getD i [] = A := by
      rw [List.getD_eq_getElem?_getD, List.getElem?_eq_getElem hi]
      exact ei
    have q := b i hi (by rw [ei2]; exact h1) (by rw [ei2]; exact h2)
    rw [ei2] at q
    rcases a with a | ⟨a1, a2, a3⟩
    · rw [a] at q
      have := two A m
      simp only [List.length_cons, List.length_nil] at q
      omega
    · have z := k _ a1 a2 a3
      exact z.2 (by omega)
/-- all that the program needs of a parting's parts -/
def halfB (rs : List (List Int)) (x : List Int) : Bool := decide (x ∈ rs) || (decide (x.length = 1) && decide (0 ≤ x.getD 0 0) && decide (x.getD 0 0 ≤ (rs.length : Int)))
def partsB (rs : List (List Int)) (g : List Int) : Bool := halfB rs (firR rs g) && halfB rs (secR rs g) && decide ((firR rs g).length < g.length) && decide ((secR rs g).length < g.length)
def hvB (rs : List (List Int)) : Bool := rs.all (partsB rs)
theorem Half.b {rs : List (List Int)} {x : List Int} (h : Half rs x) : halfB rs x = true := by
  unfold halfB
  rcases h with h | ⟨p, rfl, p0, p1⟩
  · rw [decide_eq_true h, Bool.true_or]
  · rw [show decide (([p] : List Int).length = 1) = true from rfl, decide_eq_true (show 0 ≤ ([p] : List Int).getD 0 0 from p0), decide_eq_true (show ([p] : List Int).getD 0 0 ≤ (rs.length : Int) from p1)]
    exact Bool.or_true _
theorem Half.of {rs : List (List Int)} {x : List Int} (h : halfB rs x = true) : Half rs x := by
  unfold halfB at h
  simp only [Bool.or_eq_true, Bool.and_eq_true, decide_eq_true_eq] at h
  rcases h with h | ⟨⟨l, p0⟩, p1⟩
  · exact .inl h
  · match x, l with
    | [p], _ => exact .inr ⟨p, rfl, p0, p1⟩
theorem hd_mem {xs : List Int} {z : Int} (h : z ∈ xs) : xs.getD 0 0 ∈ xs := by
  cases xs with
  | nil => cases h
  | cons x xs => exact List.mem_cons_self
theorem hd_le {xs : List Int} (u : xs.Pairwise (· < ·)) {z : Int} (h : z ∈ xs) : xs.getD 0 0 ≤ z := by
  cases xs with
  | nil => cases h
  | cons x xs =>
    rcases List.mem_cons.mp h with e | e
    · rw [e]
      exact Int.le_refl _
    · exact Int.le_of_lt ((List.pairwise_cons.mp u).1 z e)
theorem bin_parts {rs : List (List Int)} (up : ∀ r ∈ rs, r.Pairwise (· < ·)) (two : ∀ r ∈ rs, 2 ≤ r.length) (nice : ∀ a ∈ rs, ∀ b ∈ rs, Nice a b) {g a b : List Int} (hg : g ∈ rs) (c : Cut2 rs g a b) (low : g.getD 0 0 ∈ a) : firR rs g = a ∧ secR rs g = b := by
  have ua := c.ha.up up
  have ub := c.hb.up up
  have ug := up g hg
  have ag : ∀ z ∈ a, z ∈ g := fun z hz => (c.mem z).mpr (.inl hz)
  have ha0 : a.getD 0 0 = g.getD 0 0 := by
    have h1 := hd_le ua low
    have h2 := hd_le ug (ag _ (hd_mem low))
    omega
  obtain ⟨zb, hzb⟩ := c.hb.ne two
  have lt : a.length < g.length := by
    have : (zb :: a).length ≤ g.length := len_sub (List.nodup_cons.mpr ⟨fun q => c.dis _ q hzb, up_nodup ua⟩) fun w hw => by
      rcases List.mem_cons.mp hw with e | e
      · rw [e]
        exact (c.mem _).mpr (.inr hzb)
      · exact ag _ e
    rw [List.length_cons] at this
    omega
  have e1 : firR rs g = a := by
    refine firR_eq two ?_ fun r hr h1 h2 => ?_
    · rcases c.ha with h | ⟨p, rfl, _⟩
      · exact .inr ⟨h, ha0, lt⟩
      · refine .inl ?_
        rw [← ha0]
        rfl
    · have ur := up r hr
      have rne : r.getD 0 0 ∈ r := by
        have := two r hr
        cases r with
        | nil => exact absurd this (by decide)
        | cons x _ => exact List.mem_cons_self
      have gr : g.getD 0 0 ∈ r := by
        rw [← h1]
        exact rne
      have small : ¬ ∀ z ∈ g, z ∈ r := fun z => by
        have := len_sub (up_nodup ug) z
        omega
      have rg : ∀ z ∈ r, z ∈ g := by
        rcases nice r hr g hg with q | q | q
        · exact absurd (ag _ low) (q _ gr)
        · exact q
        · exact absurd q small
      have ra : ∀ z ∈ r, z ∈ a := by
        rcases c.hb.nice (nice r hr) with q | q | q
        · exact fun z hz => ((c.mem z).mp (rg z hz)).resolve_right (q z hz)
        · exact absurd (q _ gr) (c.dis _ low)
        · rcases c.ha.nice (nice r hr) with p | p | p
          · exact absurd low (p _ gr)
          · exact p
          · exact absurd (fun z hz => ((c.mem z).mp hz).elim (p z) (q z)) small
      exact ⟨len_sub (up_nodup ur) ra, fun e => up_same ur ua fun z => ⟨ra z, sub_back (up_nodup ur) ra (by omega) z⟩⟩
  refine ⟨e1, ?_⟩
  unfold secR
  rw [e1]
  refine up_same (ug.filter _) ub fun z => ?_
  rw [List.mem_filter, decide_eq_true_eq, c.mem]
  exact ⟨fun h => h.1.resolve_left h.2, fun h => ⟨.inr h, fun q => c.dis z q h⟩⟩
theorem hv_of {rs : List (List Int)} (up : ∀ r ∈ rs, r.Pairwise (· < ·)) (two : ∀ r ∈ rs, 2 ≤ r.length) (nice : ∀ a ∈ rs, ∀ b ∈ rs, Nice a b) (N : Bin rs) : hvB rs = true := by
  refine List.all_eq_true.mpr fun g hg => ?_
  obtain ⟨a, b, c⟩ := N g hg
  have main : ∀ a b, Cut2 rs g a b → g.getD 0 0 ∈ a → partsB rs g = true := fun a b c low => by
    obtain ⟨e1, e2⟩ := bin_parts up two nice hg c low
    have ag : ∀ z ∈ a, z ∈ g := fun z hz => (c.mem z).mpr (.inl hz)
    have bg : ∀ z ∈ b, z ∈ g := fun z hz => (c.mem z).mpr (.inr hz)
    have lt : ∀ x y : List Int, Half rs x → Half rs y → (∀ z ∈ x, z ∈ g) → (∀ z ∈ y, z ∈ g) → (∀ z ∈ x, z ∉ y) → x.length < g.length := fun x y hx hy xg yg dis => by
      obtain ⟨zb, hzb⟩ := hy.ne two
      have : (zb :: x).length ≤ g.length := len_sub (List.nodup_cons.mpr ⟨fun q => dis _ q hzb, up_nodup (hx.up up)⟩) fun w hw => by
        rcases List.mem_cons.mp hw with e | e
        · rw [e]
          exact yg _ hzb
        · exact xg _ e
      rw [List.length_cons] at this
      omega
    unfold partsB
    rw [e1, e2, c.ha.b, c.hb.b, decide_eq_true (lt a b c.ha c.hb ag bg c.dis), decide_eq_true (lt b a c.hb c.ha bg ag fun z p q => c.dis z q p)]
    rfl
  have gne : g.getD 0 0 ∈ g := by
    have := two g hg
    cases g with
    | nil => exact absurd this (by decide)
    | cons x _ => exact List.mem_cons_self
  rcases (c.mem _).mp gne with q | q
  · exact main a b c q
  · exact main b a c.swap q
theorem hv_fam {rs : List (List Int)} (F : Fam rs) (N : Bin rs) : hvB (sortB rs) = true := by
  have perm : (sortB rs).Perm rs := List.mergeSort_perm _ _
  have len : (sortB rs).length = rs.length := perm.length_eq
  have mem : ∀ r, r ∈ sortB rs ↔ r ∈ rs := fun r => perm.mem_iff
  have half : ∀ {x}, Half rs x → Half (sortB rs) x := fun {x} h => by
    rcases h with h | ⟨p, e, p0, p1⟩
    · exact .inl ((mem _).mpr h)
    · exact .inr ⟨p, e, p0, by rw [len]; exact p1⟩
  refine hv_of (fun r hr => F.up r ((mem r).mp hr)) (fun r hr => F.two r ((mem r).mp hr)) (fun a ha b hb => F.two_nice ((mem a).mp ha) ((mem b).mp hb)) fun g hg => ?_
  obtain ⟨a, b, c⟩ := N g ((mem g).mp hg)
  exact ⟨a, b, half c.ha, half c.hb, c.mem, c.dis⟩
end K33

namespace K33
open PySem PySem.Spec PyProof.Rows L2 SortR LcM
/-! ### a parting as it falls apart -/
def upto (k : Nat) : List Int := (List.range k).map fun i : Nat => (i : Int)
theorem upto_len (k : Nat) : (upto k).length = k := by
  unfold upto
  rw [List.length_map, List.length_range]
theorem upto_in {k : Nat} {x : Int} : x ∈ upto k ↔ 0 ≤ x ∧ x < (k : Int) := by
  constructor
  · intro h
    obtain ⟨i, hi, rfl⟩ := List.mem_map.mp h
    have := List.mem_range.mp hi
    omega
  · intro h
    exact List.mem_map.mpr ⟨x.toNat, List.mem_range.mpr (by omega), by omega⟩
theorem upto_up (k : Nat) : (upto k).Pairwise (· < ·) := by
  unfold upto
  rw [List.pairwise_map]
  exact List.pairwise_lt_range.imp fun {a b} h => by omega
structure Par (rs : List (List Int)) : Prop where
  up : ∀ r ∈ rs, r.Pairwise (· < ·)
  two : ∀ r ∈ rs, 2 ≤ r.length
  nd : rs.Nodup
  nice : ∀ a ∈ rs, ∀ b ∈ rs, Nice a b
  cut : ∀ g ∈ rs, Cut2 rs g (firR rs g) (secR rs g)
  rng : ∀ r ∈ rs, ∀ x ∈ r, 0 ≤ x ∧ x ≤ (rs.length : Int)
  com : rs ≠ [] → upto (rs.length + 1) ∈ rs
section
variable {rs : List (List Int)}
theorem Half.len (p : Par rs) {x : List Int} (h : Half rs x) : 1 ≤ x.length := by
  obtain ⟨z, hz⟩ := h.ne p.two
  exact List.length_pos_of_mem hz
theorem half_one (p : Par rs) {x : List Int} (h : Half rs x) (l : x ∉ rs) : ∃ q : Int, x = [q] ∧ 0 ≤ q ∧ q ≤ (rs.length : Int) := h.resolve_left l
theorem one_not (p : Par rs) (q : Int) : [q] ∉ rs := fun h => absurd (p.two _ h) (by decide : ¬ 2 ≤ 1)
theorem cut_len (p : Par rs) {g : List Int} (hg : g ∈ rs) : (firR rs g).length + (secR rs g).length = g.length := by
  have c := p.cut g hg
  have ua := up_nodup (c.ha.up p.up)
  have ub := up_nodup (c.hb.up p.up)
  have nd : (firR rs g ++ secR rs g).Nodup := List.nodup_append.mpr ⟨ua, ub, fun x hx y hy e => c.dis x hx (by rw [e]; exact hy)⟩
  have l1 := len_sub nd (ys := g) fun z hz => (c.mem z).mpr (List.mem_append.mp hz)
  have l2 := len_sub (up_nodup (p.up g hg)) (ys := firR rs g ++ secR rs g) fun z hz => List.mem_append.mpr ((c.mem z).mp hz)
  rw [List.length_append] at l1 l2
  omega
theorem cut_lt (p : Par rs) {g : List Int} (hg : g ∈ rs) : (firR rs g).length < g.length ∧ (secR rs g).length < g.length := by
  have := cut_len p hg
  have c := p.cut g hg
  have := c.ha.len p
  have := c.hb.len p
  omega
/-- what holds of persons, and of a group if of its parts, holds of all -/
theorem half_ind (p : Par rs) {M : List Int → Prop} (leaf : ∀ q : Int, 0 ≤ q → q ≤ (rs.length : Int) → M [q]) (node : ∀ g ∈ rs, M (firR rs g) → M (secR rs g) → M g) {x : List Int} (h : Half rs x) : M x := by
  obtain ⟨k, hk⟩ : ∃ k, x.length ≤ k := ⟨_, Nat.le_refl _⟩
  induction k generalizing x with
  | zero => exact absurd (h.len p) (by omega)
  | succ k ih =>
    rcases h with m | ⟨q, rfl, q0, q1⟩
    · have c := p.cut x m
      have l := cut_lt p m
      exact node x m (ih c.ha (by omega)) (ih c.hb (by omega))
    · exact leaf q q0 q1
end
/-- a tree -/
inductive Tr where
  | leaf (q : Int)
  | node (g : List Int) (l r : Tr)
def trN (rs : List (List Int)) : Nat → List Int → Tr
  | 0, x => .leaf (x.headD 0)
  | k + 1, x => if x ∈ rs then .node x (trN rs k (firR rs x)) (trN rs k (secR rs x)) else .leaf (x.headD 0)
def trR (rs : List (List Int)) (x : List Int) : Tr := trN rs x.length x
section
variable {rs : List (List Int)}
theorem tr_same (p : Par rs) : ∀ {j k : Nat} {x : List Int}, Half rs x → x.length ≤ j → x.length ≤ k → trN rs j x = trN rs k x
  | 0, _, x, h, l, _ => absurd (h.len p) (by omega)
  | _ + 1, 0, x, h, _, l => absurd (h.len p) (by omega)
  | j + 1, k + 1, x, h, l1, l2 => by
    show (if x ∈ rs then _ else _) = if x ∈ rs then _ else _
    by_cases m : x ∈ rs
    · have c := p.cut x m
      have l := cut_lt p m
      rw [if_pos m, if_pos m, tr_same p (k := k) c.ha (by omega) (by omega), tr_same p (k := k) c.hb (by omega) (by omega)]
    · rw [if_neg m, if_neg m]
theorem tr_leaf (p : Par rs) (q : Int) : trR rs [q] = .leaf q := by
  show (if [q] ∈ rs then _ else _) = _
  rw [if_neg (one_not p q)]
  rfl
theorem tr_node (p : Par rs) {g : List Int} (hg : g ∈ rs) : trR rs g = .node g (trR rs (firR rs g)) (trR rs (secR rs g)) := by
  have c := p.cut g hg
  have l := cut_lt p hg
  have e : g.length = (g.length - 1) + 1 := by omega
  unfold trR
  rw [e]
  show (if g ∈ rs then _ else _) = _
  rw [if_pos hg, tr_same p c.ha (Nat.le_refl _) (show (firR rs g).length ≤ g.length - 1 by omega), tr_same p c.hb (Nat.le_refl _) (show (secR rs g).length ≤ g.length - 1 by omega)]
end
namespace Tr
def top : Tr → List Int
  | leaf q => [q]
  | node g _ _ => g
def lanes : Tr → List (List Int)
  | leaf q => [[q]]
  | node g l r => g :: (l.lanes ++ r.lanes)
/-- what a tree costs at least, its top so marked -/
def cost (A : List Int) : Tr → Bool → Int
  | leaf q, m => if decide (q ∈ A) = m then 0 else 99
  | node _ l r, m => min (cost A l m) (cost A l (!m) + 1) + min (cost A r m) (cost A r (!m) + 1)
/-- the marks of least cost, as bits -/
def mark (A : List Int) : Tr → Int
  | leaf q => if q ∈ A then 2 else 1
  | node _ l r => if Builtin.bitAnd (mark A l) (mark A r) = 0 then 3 else Builtin.bitAnd (mark A l) (mark A r)
def conf (A : List Int) : Tr → Int
  | leaf _ => 0
  | node _ l r => conf A l + conf A r + if Builtin.bitAnd (mark A l) (mark A r) = 0 then 1 else 0
/-- how many changes a marking has -/
def tot (P : List Int → Bool) : Tr → Int
  | leaf _ => 0
  | node g l r => tot P l + tot P r + (if P l.top = P g then 0 else 1) + (if P r.top = P g then 0 else 1)
end Tr
def hasM (x : Int) (m : Bool) : Prop := x = 3 ∨ x = if m then 2 else 1
instance (x : Int) (m : Bool) : Decidable (hasM x m) := by unfold hasM; exact inferInstance
section
variable {A : List Int}
theorem mark_in : ∀ t : Tr, t.mark A = 1 ∨ t.mark A = 2 ∨ t.mark A = 3
  | .leaf q => by
    unfold Tr.mark
    split <;> simp
  | .node g l r => by
    unfold Tr.mark
    rcases mark_in l with h1 | h1 | h1 <;> rcases mark_in r with h2 | h2 | h2 <;> rw [h1, h2] <;> decide
/-- Fitch's marks are those of least cost -/
theorem cost_conf : ∀ t : Tr, ∀ m : Bool, (hasM (t.mark A) m → t.cost A m = t.conf A) ∧ (¬ hasM (t.mark A) m → t.conf A + 1 ≤ t.cost A m)
  | .leaf q, m => by
    unfold Tr.mark Tr.cost Tr.conf hasM
    by_cases h : q ∈ A
    · rw [if_pos h, decide_eq_true h]
      cases m <;> simp
    · rw [if_neg h, decide_eq_false h]
      cases m <;> simp
  | .node g l r, m => by
    have hl0 := cost_conf l m
    have hl1 := cost_conf l (!m)
    have hr0 := cost_conf r m
    have hr1 := cost_conf r (!m)
    unfold Tr.mark Tr.cost Tr.conf
    rcases mark_in (A := A) l with h1 | h1 | h1 <;> rcases mark_in (A := A) r with h2 | h2 | h2 <;> rw [h1] at hl0 hl1 ⊢ <;> rw [h2] at hr0 hr1 ⊢ <;> cases m <;> simp [hasM, Builtin.bitAnd] at hl0 hl1 hr0 hr1 ⊢ <;> omega
theorem min_conf (t : Tr) : min (t.cost A false) (t.cost A true) = t.conf A := by
  have h0 := cost_conf (A := A) t false
  have h1 := cost_conf (A := A) t true
  rcases mark_in (A := A) t with h | h | h <;> rw [h] at h0 h1 <;> simp [hasM] at h0 h1 <;> omega
theorem conf_nn : ∀ t : Tr, 0 ≤ t.conf A
  | .leaf _ => Int.le_refl 0
  | .node g l r => by
    have := conf_nn l
    have := conf_nn r
    unfold Tr.conf
    split <;> omega
/-- no marking has fewer changes -/
theorem cost_tot {P : List Int → Bool} (hP : ∀ q, P [q] = decide (q ∈ A)) : ∀ t : Tr, t.cost A (P t.top) ≤ t.tot P
  | .leaf q => by
    unfold Tr.cost Tr.tot Tr.top
    rw [hP, if_pos rfl]
    exact Int.le_refl 0
  | .node g l r => by
    have hl := cost_tot hP l
    have hr := cost_tot hP r
    unfold Tr.cost Tr.tot
    show min (l.cost A (P g)) (l.cost A (!P g) + 1) + min (r.cost A (P g)) (r.cost A (!P g) + 1) ≤ _
    cases h1 : P g <;> cases h2 : P l.top <;> cases h3 : P r.top <;> rw [h2] at hl <;> rw [h3] at hr <;> simp <;> omega
theorem tot_cong {P R : List Int → Bool} : ∀ t : Tr, (∀ x ∈ t.lanes, P x = R x) → t.tot P = t.tot R
  | .leaf _, _ => rfl
  | .node g l r, h => by
    have top_in : ∀ t : Tr, t.top ∈ t.lanes := fun t => by cases t <;> exact List.mem_cons_self
    have hl : ∀ x ∈ l.lanes, P x = R x := fun x hx => h x (List.mem_cons_of_mem _ (List.mem_append.mpr (.inl hx)))
    have hr : ∀ x ∈ r.lanes, P x = R x := fun x hx => h x (List.mem_cons_of_mem _ (List.mem_append.mpr (.inr hx)))
    unfold Tr.tot
    rw [tot_cong l hl, tot_cong r hr, hl _ (top_in l), hr _ (top_in r), h g List.mem_cons_self]
theorem top_in (t : Tr) : t.top ∈ t.lanes := by cases t <;> exact List.mem_cons_self
def Tr.wf : Tr → Prop
  | .leaf _ => True
  | .node g l r => 2 ≤ g.length ∧ l.wf ∧ r.wf
/-- a marking that is as good as can be -/
theorem best : ∀ t : Tr, t.lanes.Nodup → t.wf → ∀ m : Bool, (∃ P : List Int → Bool, (∀ q, [q] ∈ t.lanes → P [q] = decide (q ∈ A)) ∧ t.tot P + (if P t.top = m then 0 else 1) ≤ min (t.cost A m) (t.cost A (!m) + 1)) ∧
    ((∃ g l r, t = .node g l r) → ∃ P : List Int → Bool, (∀ q, [q] ∈ t.lanes → P [q] = decide (q ∈ A)) ∧ P t.top = m ∧ t.tot P ≤ t.cost A m)
  | .leaf q, _, _, m => by
    refine ⟨⟨fun _ => decide (q ∈ A), fun z hz => ?_, ?_⟩, fun ⟨_, _, _, e⟩ => nomatch e⟩
    · have e : [z] = [q] := List.mem_singleton.mp hz
      rw [(List.cons.inj e).1]
    · unfold Tr.tot Tr.cost
      cases h : decide (q ∈ A) <;> cases m <;> simp <;> omega
  | .node g l r, nd, w, m => by
    obtain ⟨gn, nd2⟩ := List.nodup_cons.mp nd
    obtain ⟨nl, nr, dis⟩ := List.nodup_append.mp nd2
    obtain ⟨g2, wl, wr⟩ := w
    have main : ∀ m : Bool, ∃ P : List Int → Bool, (∀ q, [q] ∈ (Tr.node g l r).lanes → P [q] = decide (q ∈ A)) ∧ P g = m ∧ (Tr.node g l r).tot P ≤ (Tr.node g l r).cost A m := fun m => by
      obtain ⟨Pl, al, cl⟩ := (best l nl wl m).1
      obtain ⟨Pr, ar, cr⟩ := (best r nr wr m).1
      obtain ⟨P, eP⟩ : ∃ P : List Int → Bool, P = fun x => if x = g then m else if x ∈ l.lanes then Pl x else Pr x := ⟨_, rfl⟩
      have Pg : P g = m := by
        rw [eP]
        exact if_pos rfl
      have Pl' : ∀ x ∈ l.lanes, P x = Pl x := fun x hx => by
        have ne : x ≠ g := fun e => gn (by rw [← e]; exact List.mem_append.mpr (.inl hx))
        rw [eP]
        show (if x = g then m else if x ∈ l.lanes then Pl x else Pr x) = Pl x
        rw [if_neg ne, if_pos hx]
      have Pr' : ∀ x ∈ r.lanes, P x = Pr x := fun x hx => by
        have ne : x ≠ g := fun e => gn (by rw [← e]; exact List.mem_append.mpr (.inr hx))
        have nx : x ∉ l.lanes := fun h => dis x h x hx rfl
        rw [eP]
        show (if x = g then m else if x ∈ l.lanes then Pl x else Pr x) = Pr x
        rw [if_neg ne, if_neg nx]
      refine ⟨P, fun q hq => ?_, Pg, ?_⟩
      · rcases List.mem_cons.mp hq with e | hq
        · rw [← e] at g2
          exact absurd g2 (by decide : ¬ 2 ≤ 1)
        · rcases List.mem_append.mp hq with h | h
          · rw [Pl' _ h]
            exact al q h
          · rw [Pr' _ h]
            exact ar q h
      · unfold Tr.tot Tr.cost
        rw [tot_cong l Pl', tot_cong r Pr', Pl' _ (top_in l), Pr' _ (top_in r), Pg]
        omega
    refine ⟨?_, fun _ => main m⟩
    obtain ⟨P, a, e, c⟩ := main m
    obtain ⟨R, b, e2, d⟩ := main (!m)
    rcases Int.le_total ((Tr.node g l r).cost A m) ((Tr.node g l r).cost A (!m) + 1) with h | h
    · refine ⟨P, a, ?_⟩
      rw [show P (Tr.node g l r).top = m from e, if_pos rfl]
      omega
    · refine ⟨R, b, ?_⟩
      rw [show R (Tr.node g l r).top = (!m) from e2, if_neg (by cases m <;> decide)]
      omega
end
/-! ### the tree of a parting -/
section
variable {rs : List (List Int)}
theorem tr_top (p : Par rs) {x : List Int} (h : Half rs x) : (trR rs x).top = x := by
  rcases h with m | ⟨q, rfl, _⟩
  · rw [tr_node p m]
    rfl
  · rw [tr_leaf p]
    rfl
theorem tr_wf (p : Par rs) {x : List Int} (h : Half rs x) : (trR rs x).wf :=
  half_ind p (M := fun x => (trR rs x).wf) (fun q _ _ => by rw [tr_leaf p]; trivial) (fun g hg h1 h2 => by rw [tr_node p hg]; exact ⟨p.two g hg, h1, h2⟩) h
theorem lanes_half (p : Par rs) {x : List Int} (h : Half rs x) : ∀ y ∈ (trR rs x).lanes, Half rs y :=
  half_ind p (M := fun x => ∀ y ∈ (trR rs x).lanes, Half rs y) (fun q q0 q1 y hy => by
    rw [tr_leaf p] at hy
    rw [List.mem_singleton.mp hy]
    exact .inr ⟨q, rfl, q0, q1⟩) (fun g hg h1 h2 y hy => by
    rw [tr_node p hg] at hy
    rcases List.mem_cons.mp hy with e | hy
    · rw [e]
      exact .inl hg
    · exact (List.mem_append.mp hy).elim (h1 y) (h2 y)) h
theorem lanes_sub (p : Par rs) {x : List Int} (h : Half rs x) : ∀ y ∈ (trR rs x).lanes, ∀ z ∈ y, z ∈ x :=
  half_ind p (M := fun x => ∀ y ∈ (trR rs x).lanes, ∀ z ∈ y, z ∈ x) (fun q _ _ y hy z hz => by
    rw [tr_leaf p] at hy
    rw [List.mem_singleton.mp hy] at hz
    exact hz) (fun g hg h1 h2 y hy z hz => by
    have c := p.cut g hg
    rw [tr_node p hg] at hy
    rcases List.mem_cons.mp hy with e | hy
    · rw [← e]
      exact hz
    · exact (c.mem z).mpr ((List.mem_append.mp hy).imp (fun q => h1 y q z hz) fun q => h2 y q z hz)) h
theorem lanes_nd (p : Par rs) {x : List Int} (h : Half rs x) : (trR rs x).lanes.Nodup :=
  half_ind p (M := fun x => (trR rs x).lanes.Nodup) (fun q _ _ => by rw [tr_leaf p]; exact List.pairwise_singleton _ _) (fun g hg h1 h2 => by
    have c := p.cut g hg
    have l := cut_lt p hg
    rw [tr_node p hg]
    have small : ∀ {w y : List Int}, Half rs w → w.length < g.length → y ∈ (trR rs w).lanes → y ≠ g := fun {w y} hw lt hy e => by
      have s := lanes_sub p hw y hy
      rw [e] at s
      have := len_sub (up_nodup (p.up g hg)) s
      omega
    refine List.nodup_cons.mpr ⟨fun z => (List.mem_append.mp z).elim (fun q => small c.ha l.1 q rfl) fun q => small c.hb l.2 q rfl, List.nodup_append.mpr ⟨h1, h2, fun y hy w hw e => ?_⟩⟩
    subst e
    obtain ⟨z, hz⟩ := (lanes_half p c.ha y hy).ne p.two
    exact c.dis z (lanes_sub p c.ha y hy z hz) (lanes_sub p c.hb y hw z hz)) h
theorem lanes_len (p : Par rs) {x : List Int} (h : Half rs x) : (trR rs x).lanes.length + 1 = 2 * x.length :=
  half_ind p (M := fun x => (trR rs x).lanes.length + 1 = 2 * x.length) (fun q _ _ => by rw [tr_leaf p]; rfl) (fun g hg h1 h2 => by
    have l := cut_len p hg
    rw [tr_node p hg]
    show (g :: (_ ++ _)).length + 1 = _
    rw [List.length_cons, List.length_append]
    omega) h
theorem conf_le (p : Par rs) {A : List Int} {x : List Int} (h : Half rs x) : (trR rs x).conf A + 1 ≤ (x.length : Int) :=
  half_ind p (M := fun x => (trR rs x).conf A + 1 ≤ (x.length : Int)) (fun q _ _ => by rw [tr_leaf p]; exact Int.le_refl 1) (fun g hg h1 h2 => by
    have l := cut_len p hg
    rw [tr_node p hg]
    unfold Tr.conf
    split <;> omega) h
end
/-- one person each -/
def singles (n : Nat) : List (List Int) := (List.range n).map fun p : Nat => [(p : Int)]
theorem singles_len (n : Nat) : (singles n).length = n := by
  unfold singles
  rw [List.length_map, List.length_range]
theorem singles_more (n : Nat) : singles (n + 1) = singles n ++ [[(n : Int)]] := by
  unfold singles
  rw [List.range_succ, List.map_append]
  rfl
theorem singles_mem {n : Nat} {m : List Int} : m ∈ singles n ↔ ∃ q : Int, 0 ≤ q ∧ q < (n : Int) ∧ m = [q] := by
  constructor
  · intro h
    obtain ⟨p, hp, e⟩ := List.mem_map.mp h
    have := List.mem_range.mp hp
    exact ⟨p, by omega, by omega, e.symm⟩
  · intro ⟨q, q0, q1, e⟩
    exact List.mem_map.mpr ⟨q.toNat, List.mem_range.mpr (by omega), by rw [e, Int.toNat_of_nonneg q0]⟩
section
variable {rs : List (List Int)}
/-- the company, or the only person -/
def allR (rs : List (List Int)) : List Int := upto (rs.length + 1)
theorem all_half (p : Par rs) : Half rs (allR rs) := by
  by_cases e : rs = []
  · subst e
    exact .inr ⟨0, rfl, Int.le_refl 0, Int.le_refl 0⟩
  · exact .inl (p.com e)
theorem nd_perm {xs ys : List (List Int)} (h : xs.Nodup) (s : ∀ x ∈ xs, x ∈ ys) (l : ys.length ≤ xs.length) : xs.Perm ys := by
  induction xs generalizing ys with
  | nil =>
    rw [List.length_eq_zero_iff.mp (Nat.le_zero.mp l)]
  | cons x xs ih =>
    obtain ⟨nx, n⟩ := List.nodup_cons.mp h
    have m : x ∈ ys := s x List.mem_cons_self
    refine (List.Perm.cons x (ih n (ys := ys.erase x) (fun y hy => (List.mem_erase_of_ne fun e => nx (by rw [← e]; exact hy)).mpr (s y (List.mem_cons_of_mem _ hy))) ?_)).trans (List.perm_cons_erase m).symm
    rw [List.length_erase_of_mem m]
    rw [List.length_cons] at l
    omega
/-- all persons and groups are in the tree, each once -/
theorem lanes_all (p : Par rs) : (trR rs (allR rs)).lanes.Perm (singles (rs.length + 1) ++ rs) := by
  have h := all_half p
  refine nd_perm (lanes_nd p h) (fun y hy => ?_) ?_
  · rcases lanes_half p h y hy with m | ⟨q, rfl, q0, q1⟩
    · exact List.mem_append.mpr (.inr m)
    · exact List.mem_append.mpr (.inl (singles_mem.mpr ⟨q, q0, by omega, rfl⟩))
  · have l := lanes_len p h
    unfold allR at l
    rw [upto_len] at l
    unfold allR
    rw [List.length_append, singles_len]
    omega
end
end K33

namespace K33
open PySem PySem.Spec PyProof.Rows L2 SortR LcM
/-! ### what comes newcomer by newcomer falls apart so -/
theorem up_head {xs : List Int} {h : Int} {t : List Int} (e : xs = h :: t) : xs.headD 0 ∈ xs := by
  rw [e]
  exact List.mem_cons_self
theorem com_fam {is : List Int} (b : Bnd is) : ∀ n, 1 ≤ n → n ≤ is.length → upto (n + 1) ∈ famB is n
  | 0, h, _ => absurd h (by decide)
  | n + 1, _, hn => by
    have e : is[n]? = some is[n] := List.getElem?_eq_getElem hn
    have bd := b n _ e
    have eg : is.getD n 0 = is[n] := by rw [List.getD_eq_getElem?_getD, e]; rfl
    have L := famB_len is n
    have F := famB_ok b n (Nat.le_of_succ_le hn)
    obtain ⟨item, ei⟩ : ∃ item, item = is.getD n 0 := ⟨_, rfl⟩
    have B : Bas (famB is n) (baseB (famB is n) item) := F.bas (by rw [L, ei, eg]; exact bd.1) (by rw [L, ei, eg]; exact bd.2)
    show upto (n + 2) ∈ stepB (famB is n) (is.getD n 0)
    rw [← ei]
    obtain ⟨q, eq⟩ : ∃ q, q = baseB (famB is n) item := ⟨_, rfl⟩
    rw [← eq] at B
    have more : ∀ k : Nat, upto (k + 1) = upto k ++ [(k : Int)] := fun k => by
      unfold upto
      rw [List.range_succ, List.map_append]
      rfl
    unfold stepB
    rw [← eq, L]
    have sub : ∀ z ∈ q, z ∈ upto (n + 1) := fun z hz => by
      have r := B.rng z hz
      rw [L] at r
      exact upto_in.mpr ⟨r.1, by omega⟩
    by_cases same : q = upto (n + 1)
    · refine List.mem_append.mpr (.inr ?_)
      rw [same, more (n + 1)]
      exact List.mem_cons_self
    · have ne : n ≠ 0 := fun z => same (by
        subst z
        obtain ⟨h, t, eh⟩ := B.ne
        refine up_same B.up (upto_up 1) fun z => ⟨sub z, fun hz => ?_⟩
        have z0 : z = 0 := by
          have := upto_in.mp hz
          omega
        have h0 : h = 0 := by
          have m := sub h (by rw [eh]; exact List.mem_cons_self)
          have := upto_in.mp m
          omega
        rw [z0, ← h0, eh]
        exact List.mem_cons_self)
      refine List.mem_append.mpr (.inl (List.mem_map.mpr ⟨upto (n + 1), com_fam b n (Nat.pos_of_ne_zero ne) (Nat.le_of_succ_le hn), ?_⟩))
      have lt : q.length < (upto (n + 1)).length := by
        have := len_sub (up_nodup B.up) sub
        rcases Nat.lt_or_ge q.length (upto (n + 1)).length with l | l
        · exact l
        · exact absurd (up_same B.up (upto_up _) fun z => ⟨sub z, sub_back (up_nodup B.up) sub l z⟩) same
      unfold growB inB
      rw [decide_eq_true lt, decide_eq_true (sub _ B.head), Bool.true_and, if_pos rfl, more (n + 1)]
      rfl
theorem cut_parts {rs : List (List Int)} (up : ∀ r ∈ rs, r.Pairwise (· < ·)) (two : ∀ r ∈ rs, 2 ≤ r.length) (nice : ∀ a ∈ rs, ∀ b ∈ rs, Nice a b) (N : Bin rs) : ∀ g ∈ rs, Cut2 rs g (firR rs g) (secR rs g) := fun g hg => by
  obtain ⟨a, b, c⟩ := N g hg
  have gne : g.getD 0 0 ∈ g := by
    have := two g hg
    cases g with
    | nil => exact absurd this (by decide)
    | cons x _ => exact List.mem_cons_self
  rcases (c.mem _).mp gne with q | q
  · obtain ⟨e1, e2⟩ := bin_parts up two nice hg c q
    rw [e1, e2]
    exact c
  · obtain ⟨e1, e2⟩ := bin_parts up two nice hg c.swap q
    rw [e1, e2]
    exact c.swap
theorem par_fam {is : List Int} (b : Bnd is) {n : Nat} (hn : n ≤ is.length) : Par (sortB (famB is n)) := by
  have F := famB_ok b n hn
  have N := famB_bin b n hn
  have perm : (sortB (famB is n)).Perm (famB is n) := List.mergeSort_perm _ _
  have len : (sortB (famB is n)).length = n := perm.length_eq.trans (famB_len is n)
  have mem : ∀ r, r ∈ sortB (famB is n) ↔ r ∈ famB is n := fun r => perm.mem_iff
  have half : ∀ {x}, Half (famB is n) x → Half (sortB (famB is n)) x := fun {x} h => by
    rcases h with h | ⟨p, e, p0, p1⟩
    · exact .inl ((mem _).mpr h)
    · exact .inr ⟨p, e, p0, by rw [perm.length_eq]; exact p1⟩
  have up : ∀ r ∈ sortB (famB is n), r.Pairwise (· < ·) := fun r hr => F.up r ((mem r).mp hr)
  have two : ∀ r ∈ sortB (famB is n), 2 ≤ r.length := fun r hr => F.two r ((mem r).mp hr)
  have nice : ∀ a ∈ sortB (famB is n), ∀ b ∈ sortB (famB is n), Nice a b := fun a ha b hb => F.two_nice ((mem a).mp ha) ((mem b).mp hb)
  refine ⟨up, two, perm.nodup_iff.mpr (F.nice.imp fun {a b} z => z.2), nice, cut_parts up two nice fun g hg => ?_, fun r hr x hx => ?_, fun ne => ?_⟩
  · obtain ⟨a, b, c⟩ := N g ((mem g).mp hg)
    exact ⟨a, b, half c.ha, half c.hb, c.mem, c.dis⟩
  · rw [perm.length_eq]
    exact F.rng r ((mem r).mp hr) x hx
  · rw [len]
    refine (mem _).mpr (com_fam b n ?_ hn)
    rcases Nat.eq_zero_or_pos n with z | z
    · subst z
      exact absurd (List.length_eq_zero_iff.mp len) ne
    · exact z
/-! ### the least group around -/
def Cand (rs : List (List Int)) (x w : List Int) : Prop := w ∈ rs ∧ x.length < w.length ∧ x.headD 0 ∈ w
section
variable {rs : List (List Int)}
theorem headD_mem {x : List Int} (h : 1 ≤ x.length) : x.headD 0 ∈ x := by
  cases x with
  | nil => exact absurd h (by decide)
  | cons z _ => exact List.mem_cons_self
theorem par_up (p : Par rs) {g : List Int} (hg : g ∈ rs) {x : List Int} (hx : x = firR rs g ∨ x = secR rs g) : Cand rs x g ∧ ∀ w, Cand rs x w → g.length ≤ w.length ∧ (w.length = g.length → w = g) := by
  have c0 := p.cut g hg
  have l0 := cut_lt p hg
  obtain ⟨y, c, lx⟩ : ∃ y, Cut2 rs g x y ∧ x.length < g.length := by
    rcases hx with e | e
    · exact ⟨secR rs g, by rw [e]; exact c0, by rw [e]; exact l0.1⟩
    · exact ⟨firR rs g, by rw [e]; exact c0.swap, by rw [e]; exact l0.2⟩
  have hd := headD_mem (c.ha.len p)
  have ux := up_nodup (c.ha.up p.up)
  refine ⟨⟨hg, lx, (c.mem _).mpr (.inl hd)⟩, fun w ⟨hw, lw, mw⟩ => ?_⟩
  have uw := up_nodup (p.up w hw)
  have xw : ∀ z ∈ x, z ∈ w := by
    rcases c.ha.nice (p.nice w hw) with n | n | n
    · exact absurd hd (n _ mw)
    · have := len_sub uw n
      omega
    · exact n
  have big : ∀ z ∈ g, z ∈ w := by
    rcases c.hb.nice (p.nice w hw) with n | n | n
    · -- w without y: within x, if it is within g
      rcases p.nice w hw g hg with m | m | m
      · exact absurd ((c.mem _).mpr (.inl hd)) (m _ mw)
      · have : ∀ z ∈ w, z ∈ x := fun z hz => ((c.mem z).mp (m z hz)).resolve_right (n z hz)
        have := len_sub uw this
        omega
      · exact m
    · exact absurd (n _ mw) (c.dis _ hd)
    · exact fun z hz => ((c.mem z).mp hz).elim (xw z) (n z)
  have l := len_sub (up_nodup (p.up g hg)) big
  exact ⟨l, fun e => up_same (p.up w hw) (p.up g hg) fun z => ⟨sub_back (up_nodup (p.up g hg)) big (by omega) z, big z⟩⟩
theorem par_top (p : Par rs) : ∀ w, ¬ Cand rs (allR rs) w := fun w ⟨hw, lw, _⟩ => by
  have l := len_sub (up_nodup (p.up w hw)) (ys := allR rs) fun z hz => by
    have := p.rng w hw z hz
    exact upto_in.mpr ⟨this.1, by omega⟩
  omega
end
/-! ### sums over all persons and groups -/
theorem perm_sum {α : Type} {f : α → Int} {xs ys : List α} (h : xs.Perm ys) : (xs.map f).sum = (ys.map f).sum := by
  induction h with
  | nil => rfl
  | cons x _ ih => rw [List.map_cons, List.map_cons, List.sum_cons, List.sum_cons, ih]
  | swap x y l =>
    simp only [List.map_cons, List.sum_cons]
    omega
  | trans _ _ a b => exact a.trans b
def chg (P : List Int → Bool) (u : List Int → Option (List Int)) (x : List Int) : Int := match u x with
  | none => 0
  | some w => if P x = P w then 0 else 1
/-- as the law looks for the least group around -/
structure Abv (rs : List (List Int)) (u : List Int → Option (List Int)) : Prop where
  yes : ∀ x w, u x = some w → Cand rs x w ∧ ∀ v, Cand rs x v → w.length ≤ v.length
  no : ∀ x, u x = none → ∀ w, ¬ Cand rs x w
section
variable {rs : List (List Int)} {u : List Int → Option (List Int)} {P : List Int → Bool} {A : List Int}
theorem Abv.up (a : Abv rs u) (p : Par rs) {g : List Int} (hg : g ∈ rs) {x : List Int} (hx : x = firR rs g ∨ x = secR rs g) : u x = some g := by
  obtain ⟨c, k⟩ := par_up p hg hx
  cases e : u x with
  | none => exact absurd c (a.no x e g)
  | some w =>
    obtain ⟨cw, l⟩ := a.yes x w e
    have h := k w cw
    have := l g c
    rw [h.2 (by omega)]
theorem Abv.top (a : Abv rs u) (p : Par rs) : u (allR rs) = none := by
  cases e : u (allR rs) with
  | none => rfl
  | some w => exact absurd (a.yes _ w e).1 (par_top p w)
theorem lanes_chg (p : Par rs) (a : Abv rs u) {x : List Int} (h : Half rs x) : ((trR rs x).lanes.map (chg P u)).sum = chg P u x + (trR rs x).tot P :=
  half_ind p (M := fun x => ((trR rs x).lanes.map (chg P u)).sum = chg P u x + (trR rs x).tot P) (fun q _ _ => by
    rw [tr_leaf p]
    show ([chg P u [q]]).sum = _ + 0
    simp) (fun g hg h1 h2 => by
    have c := p.cut g hg
    rw [tr_node p hg]
    show ((g :: (_ ++ _)).map (chg P u)).sum = _ + Tr.tot P (.node g _ _)
    unfold Tr.tot
    rw [List.map_cons, List.map_append, List.sum_cons, List.sum_append, h1, h2, tr_top p c.ha, tr_top p c.hb]
    have e1 : chg P u (firR rs g) = if P (firR rs g) = P g then 0 else 1 := by
      unfold chg
      rw [a.up p hg (.inl rfl)]
    have e2 : chg P u (secR rs g) = if P (secR rs g) = P g then 0 else 1 := by
      unfold chg
      rw [a.up p hg (.inr rfl)]
    rw [e1, e2]
    omega) h
theorem all_chg (p : Par rs) (a : Abv rs u) {L : List (List Int)} (hL : L.Perm (singles (rs.length + 1) ++ rs)) : (L.map (chg P u)).sum = (trR rs (allR rs)).tot P := by
  rw [perm_sum (hL.trans (lanes_all p).symm), lanes_chg p a (all_half p)]
  have e : chg P u (allR rs) = 0 := by
    unfold chg
    rw [a.top p]
  omega
/-- whether a group's parts have no mark in common -/
def kap (A : List Int) (rs : List (List Int)) (x : List Int) : Int := if x ∈ rs ∧ Builtin.bitAnd ((trR rs (firR rs x)).mark A) ((trR rs (secR rs x)).mark A) = 0 then 1 else 0
theorem lanes_kap (p : Par rs) {x : List Int} (h : Half rs x) : ((trR rs x).lanes.map (kap A rs)).sum = (trR rs x).conf A :=
  half_ind p (M := fun x => ((trR rs x).lanes.map (kap A rs)).sum = (trR rs x).conf A) (fun q _ _ => by
    rw [tr_leaf p]
    show ([kap A rs [q]]).sum = 0
    unfold kap
    rw [if_neg fun z => one_not p q z.1]
    rfl) (fun g hg h1 h2 => by
    rw [tr_node p hg]
    show ((g :: (_ ++ _)).map (kap A rs)).sum = Tr.conf A (.node g _ _)
    unfold Tr.conf
    rw [List.map_cons, List.map_append, List.sum_cons, List.sum_append, h1, h2]
    have e : kap A rs g = if Builtin.bitAnd ((trR rs (firR rs g)).mark A) ((trR rs (secR rs g)).mark A) = 0 then 1 else 0 := by
      unfold kap
      by_cases z : Builtin.bitAnd ((trR rs (firR rs g)).mark A) ((trR rs (secR rs g)).mark A) = 0
      · rw [if_pos ⟨hg, z⟩, if_pos z]
      · rw [if_neg fun q => z q.2, if_neg z]
    rw [e]
    omega) h
theorem all_kap (p : Par rs) {L : List (List Int)} (hL : L.Perm (singles (rs.length + 1) ++ rs)) : (L.map (kap A rs)).sum = (trR rs (allR rs)).conf A := by
  rw [perm_sum (hL.trans (lanes_all p).symm), lanes_kap p (all_half p)]
end
/-! ### all ways to mark the groups -/
def signs (rs : List (List Int)) : Nat → List (List (List Int))
  | 0 => [[]]
  | i + 1 => signs rs i ++ (signs rs i).map fun l => l ++ [rs.getD i []]
theorem signs_len (rs : List (List Int)) : ∀ i, (signs rs i).length = 2 ^ i
  | 0 => rfl
  | i + 1 => by
    show (signs rs i ++ (signs rs i).map fun l => l ++ [rs.getD i []]).length = _
    rw [List.length_append, List.length_map, signs_len rs i, Nat.pow_succ]
    omega
theorem signs_sub {rs : List (List Int)} : ∀ {i : Nat}, i ≤ rs.length → ∀ l ∈ signs rs i, (∀ r ∈ l, r ∈ rs) ∧ l.length ≤ i
  | 0, _, l, hl => by
    rw [List.mem_singleton.mp hl]
    exact ⟨(fun _ h => nomatch h), Nat.le_refl 0⟩
  | i + 1, h, l, hl => by
    rcases List.mem_append.mp hl with q | q
    · obtain ⟨a, b⟩ := signs_sub (Nat.le_of_succ_le h) l q
      exact ⟨a, by omega⟩
    · obtain ⟨k, hk, rfl⟩ := List.mem_map.mp q
      obtain ⟨a, b⟩ := signs_sub (Nat.le_of_succ_le h) k hk
      refine ⟨fun r hr => ?_, by rw [List.length_append]; exact Nat.succ_le_succ b⟩
      rcases List.mem_append.mp hr with z | z
      · exact a r z
      · rw [List.mem_singleton.mp z, List.getD_eq_getElem?_getD, List.getElem?_eq_getElem h]
        exact List.getElem_mem h
theorem signs_flt {rs : List (List Int)} (R : List Int → Bool) : ∀ {i : Nat}, i ≤ rs.length → (rs.take i).filter R ∈ signs rs i
  | 0, _ => by
    rw [List.take_zero]
    exact List.mem_cons_self
  | i + 1, h => by
    have e : rs.take (i + 1) = rs.take i ++ [rs.getD i []] := by
      rw [List.take_succ, List.getD_eq_getElem?_getD, List.getElem?_eq_getElem h]
      rfl
    have ih := signs_flt R (Nat.le_of_succ_le h)
    rw [e, List.filter_append]
    refine List.mem_append.mpr ?_
    cases q : R (rs.getD i []) with
    | true =>
      refine .inr (List.mem_map.mpr ⟨_, ih, ?_⟩)
      rw [List.filter_cons, q]
      rfl
    | false =>
      refine .inl ?_
      rw [List.filter_cons, q]
      show _ ++ [] ∈ _
      rw [List.append_nil]
      exact ih
/-- the marking that is given by a list of groups, the persons marked as they are -/
def mkd (A : List Int) (l : List (List Int)) (x : List Int) : Bool := decide (x ∈ l ++ A.map fun q => [q])
section
variable {rs : List (List Int)} {A : List Int}
theorem mkd_one (p : Par rs) {l : List (List Int)} (hl : ∀ r ∈ l, r ∈ rs) (q : Int) : mkd A l [q] = decide (q ∈ A) := by
  unfold mkd
  refine decide_eq_decide.mpr ⟨fun h => ?_, fun h => List.mem_append.mpr (.inr (List.mem_map.mpr ⟨q, h, rfl⟩))⟩
  rcases List.mem_append.mp h with z | z
  · exact absurd (hl _ z) (one_not p q)
  · obtain ⟨w, hw, e⟩ := List.mem_map.mp z
    rw [← (List.cons.inj e).1]
    exact hw
theorem sign_low (p : Par rs) {l : List (List Int)} (hl : l ∈ signs rs rs.length) : (trR rs (allR rs)).conf A ≤ (trR rs (allR rs)).tot (mkd A l) := by
  have h := cost_tot (A := A) (P := mkd A l) (mkd_one p (signs_sub (Nat.le_refl _) l hl).1) (trR rs (allR rs))
  have m := min_conf (A := A) (trR rs (allR rs))
  cases e : mkd A l (trR rs (allR rs)).top <;> rw [e] at h <;> omega
theorem sign_best (p : Par rs) : ∃ l ∈ signs rs rs.length, (trR rs (allR rs)).tot (mkd A l) ≤ (trR rs (allR rs)).conf A := by
  have h := all_half p
  by_cases e : rs = []
  · subst e
    exact ⟨[], List.mem_cons_self, by rw [show trR [] (allR []) = .leaf 0 from rfl]; exact Int.le_refl 0⟩
  · have hg := p.com e
    have node := tr_node p hg
    have nd := lanes_nd p h
    have wf := tr_wf p h
    have key : ∃ P : List Int → Bool, (∀ q, [q] ∈ (trR rs (allR rs)).lanes → P [q] = decide (q ∈ A)) ∧ (trR rs (allR rs)).tot P ≤ (trR rs (allR rs)).conf A := by
      obtain ⟨P, a, _, c⟩ := (best (A := A) _ nd wf false).2 ⟨_, _, _, node⟩
      obtain ⟨R, b, _, d⟩ := (best (A := A) _ nd wf true).2 ⟨_, _, _, node⟩
      have m := min_conf (A := A) (trR rs (allR rs))
      rcases Int.le_total ((trR rs (allR rs)).cost A false) ((trR rs (allR rs)).cost A true) with l | l
      · exact ⟨P, a, by omega⟩
      · exact ⟨R, b, by omega⟩
    obtain ⟨P, a, c⟩ := key
    refine ⟨rs.filter P, by have q := signs_flt (rs := rs) P (Nat.le_refl _); rwa [List.take_length] at q, ?_⟩
    rw [tot_cong (R := P) _ fun x hx => ?_]
    · exact c
    · rcases lanes_half p h x hx with m | ⟨q, rfl, q0, q1⟩
      · unfold mkd
        cases z : P x with
        | true => exact decide_eq_true (List.mem_append.mpr (.inl (List.mem_filter.mpr ⟨m, z⟩)))
        | false =>
          refine decide_eq_false fun y => ?_
          rcases List.mem_append.mp y with y | y
          · rw [(List.mem_filter.mp y).2] at z
            cases z
          · obtain ⟨w, _, e⟩ := List.mem_map.mp y
            rw [← e] at m
            exact one_not p w m
      · rw [mkd_one p (fun r hr => (List.mem_filter.mp hr).1) q, a q hx]
end
end K33

namespace K33
open PySem PySem.Spec PyProof.Rows L2 SortR LcM RepA
abbrev sBoth : Stmt := top 18
abbrev sPbS : Stmt := top 19
abbrev sChg : Stmt := top 23
structure MkF (K : PySem.W.Frag) (mg : Str → Option Value) where
  (fBoth fPbS fChg : Addr)
  (dBoth dPbS dChg : FuncData)
  FBoth : Fun K "both_parts" "both_parts" sBoth fBoth dBoth
  FPbS : Fun K "parts_by_size" "parts_by_size" sPbS fPbS dPbS
  FChg : Fun K "changes_of" "changes_of" sChg fChg dChg
  gBoth : mg "both_parts" = some (.ref fBoth)
  gPbS : mg "parts_by_size" = some (.ref fPbS)
  gChg : mg "changes_of" = some (.ref fChg)
  bBoth : Binds K dBoth ["parting", "group"] []
  bPbS : Binds K dPbS ["parting"] []
  bChg : Binds K dChg ["parting", "some"] []
  (markT unmT : Tok)
  gMarked : mg "MARKED" = some (.int 2 markT)
  gUnmarked : mg "UNMARKED" = some (.int 1 unmT)
/-- a new list of two new lists of ints -/
structure Two (H H' : Hp) (p q1 q2 : Addr) (x y : List Int) : Prop where
  top : H' p = some (.lst [.ref q1, .ref q2])
  e1 : H' q1 = some (.lst (x.map V.int))
  e2 : H' q2 = some (.lst (y.map V.int))
  np : H p = none
  n1 : H q1 = none
  n2 : H q2 = none
def spBoth (K : PySem.W.Frag) : Sp := fun vs H Q _ => ∃ (a b : Addr) (bs : List (Addr × List Int)) (g : List Int), vs = [.ref a, .ref b] ∧ Rw K H a bs ∧ SqL K H b (g.map V.int) ∧ g ≠ [] ∧ (∀ r ∈ bs.map (·.2), r ≠ []) ∧ g.length ≤ 1000 ∧ bs.length ≤ 1000 ∧
  ∀ (p q1 q2 : Addr) (H' : Hp), Grows H H' → Two H H' p q1 q2 (firR (bs.map (·.2)) g) (secR (bs.map (·.2)) g) → Q (.ref p) H'
theorem filt {α : Type} (d : α) (p : α → Bool) (cs : List α) : ((List.range cs.length).filter fun i => p (cs.getD i d)).map (fun i => cs.getD i d) = cs.filter p := by
  have e : (fun i => p (cs.getD i d)) = p ∘ (fun i => cs.getD i d) := rfl
  rw [e, ← List.filter_map]
  congr 1
  refine List.ext_getElem (by rw [List.length_map, List.length_range]) fun i h1 h2 => ?_
  rw [List.getElem_map, List.getElem_range, List.getD_eq_getElem?_getD, List.getElem?_eq_getElem h2]
  rfl
theorem at_head {r : List Int} (h : r ≠ []) : atI (r.map V.int) 0 = some (V.int (r.getD 0 0)) := by
  have pz : 0 < r.length := List.length_pos_iff.mpr h
  refine atI_nat (j := 0) ?_
  rw [List.getElem?_map, List.getD_eq_getElem?_getD, List.getElem?_eq_getElem pz]
  rfl
section
variable {P : Program} {w : World} {K : PySem.W.Frag} {mg : Str → Option Value} {base : Heap}
theorem scBoth : FnScope ["parting", "group", "first", "inner", "person"] ["parting", "group"] (defScope sBoth) := ⟨rfl, rfl, rfl, by decide +kernel, rfl, by decide +kernel, by decide +kernel⟩
theorem scPbS : FnScope ["parting", "parts", "person", "group", "part"] ["parting"] (defScope sPbS) := ⟨rfl, rfl, rfl, by decide +kernel, rfl, by decide +kernel, by decide +kernel⟩
theorem ok_both (T : TxtP mg) (Y : MkF K mg) : FnOk P w K mg base CX0 1 Y.fBoth Y.dBoth ["parting", "group"] (spBoth K) := by
  refine Y.FBoth.ok scBoth (fun vs H Q E h => ?_) (fun cdv A outer s H vs Q E hr h => ?_)
  · obtain ⟨a, b, bs, g, rfl, _⟩ := h
    rfl
  · obtain ⟨a, b, bs, g, rfl, hB, hb, hne, hrs, hgl, hbl, k⟩ := h
    refine ⟨_, (pss_cons (ps_set (i := 2) scBoth.nd rfl (.inr rfl) (pe_lst (pa_cons (pe_ix (r := rIxL K) ix_list (pv 1) pe_int (fun _ _ => rfl)) pa_nil)))
      (pss_cons (ps_for PassesOwn.never rfl (pi_list (pv 0)) (pg_name (i := 3) scBoth.nd rfl (.inl rfl))
      (pss_one (ps_if (PW.pt (pw_and (pt_cmpR op_eq (pe_ix (r := rIxL K) ix_list (pv 3) pe_int (fun _ _ => rfl)) (pe_ix (r := rIxL K) ix_list (pv 1) pe_int (fun _ _ => rfl)) (nomark _)) (pw_and1 (pt_chain op_lt op_lt (pe_callB call_len_seq (by rfl) T.len (by decide +kernel) (pa_cons (pv 2) pa_nil)) (pe_callB call_len_seq (by rfl) T.len (by decide +kernel) (pa_cons (pv 3) pa_nil)) (pe_callB call_len_seq (by rfl) T.len (by decide +kernel) (pa_cons (pv 1) pa_nil)))))) (pss_one (ps_set (i := 2) scBoth.nd rfl (.inr rfl) (pv 3))) pss_nil)))
      (pss_one (ps_ret (pe_lst (pa_cons (pe_callTy call_list_of (by rfl) T.list (by decide +kernel) (pa_cons (pv 2) pa_nil)) (pa_cons (pe_lc (own := [("person", 4)]) (g := gName 4)  rfl scBoth.nd (pi_list (pv 1)) (blkOk_by (own := [("person", 4)]) (N := ["parting", "group", "first", "inner", "person"]) (sc := defScope sBoth) (by decide +kernel)) (fun _ _ _ _ _ => pg_name (i := 4) scBoth.nd rfl (Or.inl rfl)) (fun _ _ _ _ _ => (pts_one (pt_cmpR (r := rIn K true) (by exact op_notIn_seq) (pv 4) (pv 2) (by rfl)))) (fun _ _ _ _ _ => (pv 4))) pa_nil))))))), ?_⟩
    refine ⟨_, rfl, b, _, 0, _, rfl, rfl, hb, at_head hne, (by show 1 ≤ sizeLine; decide), fun f0 hf0 => ?_⟩
    have g0 : Grows H (upd H f0 (.lst [V.int (g.getD 0 0)])) := Grows.new hf0
    refine ⟨_, rfl, a, rfl, ⟨_, (hB.keep g0).top⟩, for_list (K := K) (a := a) (xs := bs.map fun b => V.ref b.1) (fun i σ G => ∃ f o, σ = [some (.ref a), some (.ref b), some (.ref f), o, none] ∧ Grows H G ∧ SqL K G f ((firstN (bs.map (·.2)) g i).map V.int))
      ⟨f0, none, rfl, g0, SqL.of upd_same⟩ (fun i σ G _ ⟨_, _, _, g', _⟩ => (hB.keep g').top) (fun i x σ G hx ⟨f, o, e, g', ef⟩ => ?_) fun σ G ⟨f, o, e, g', ef⟩ => ?_⟩
    · subst e
      have il := (List.getElem?_eq_some_iff.mp hx).1
      rw [List.length_map] at il
      obtain rfl := at_map (d := (0, [])) hx
      have ei := (hB.keep g').at il
      have ne := hrs _ (mem_at il)
      have eb := g'.seq hb
      refine ⟨_, rfl, _, _, 0, _, rfl, rfl, ei, at_head ne, _, rfl, b, _, 0, _, rfl, rfl, eb, at_head hne, rfl, _, rfl, ?_⟩
      have same : ¬ ((bs.getD i (0, [])).2.getD 0 0 = g.getD 0 0 ∧ (firstN (bs.map (·.2)) g i).length < (bs.getD i (0, [])).2.length ∧ (bs.getD i (0, [])).2.length < g.length) → firstN (bs.map (·.2)) g (i + 1) = firstN (bs.map (·.2)) g i := fun z => by
        show (if _ then _ else _) = _
        rw [snd_at]
        exact if_neg z
      by_cases h1 : (bs.getD i (0, [])).2.getD 0 0 = g.getD 0 0
      · rw [decide_eq_true (congrArg V.int h1)]
        refine iteT ⟨_, rfl, f, _, rfl, .inl ef, _, rfl, _, _, rfl, .inl ei, _, _, rfl, rfl, _, rfl, ?_⟩
        rw [List.length_map, List.length_map]
        by_cases h2 : (firstN (bs.map (·.2)) g i).length < (bs.getD i (0, [])).2.length
        · rw [if_pos (decide_eq_true (show (((firstN (bs.map (·.2)) g i).length : Nat) : Int) < ((bs.getD i (0, [])).2.length : Nat) by omega))]
          refine ⟨_, rfl, b, _, rfl, .inl eb, _, _, rfl, rfl, _, rfl, ?_⟩
          rw [List.length_map]
          by_cases h3 : (bs.getD i (0, [])).2.length < g.length
          · rw [decide_eq_true (show (((bs.getD i (0, [])).2.length : Nat) : Int) < (g.length : Nat) by omega)]
            refine iteT ⟨_, rfl, _, _, rfl, g', ?_⟩
            have e : firstN (bs.map (·.2)) g (i + 1) = (bs.getD i (0, [])).2 := by
              show (if _ then _ else _) = _
              rw [snd_at]
              exact if_pos ⟨h1, h2, h3⟩
            rw [e]
            exact ei
          · rw [decide_eq_false (show ¬ (((bs.getD i (0, [])).2.length : Nat) : Int) < (g.length : Nat) by omega)]
            exact iteF ⟨f, _, rfl, g', by rw [same fun z => h3 z.2.2]; exact ef⟩
        · rw [if_neg (by rw [decide_eq_false (show ¬ (((firstN (bs.map (·.2)) g i).length : Nat) : Int) < ((bs.getD i (0, [])).2.length : Nat) by omega)]; exact Bool.false_ne_true)]
          refine ⟨_, rfl, iteF ⟨f, _, rfl, g', by rw [same fun z => h2 z.2.1]; exact ef⟩⟩
      · rw [decide_eq_false fun z => h1 (V.int.inj z)]
        exact iteF (iteF ⟨f, _, rfl, g', by rw [same fun z => h1 z.1]; exact ef⟩)
    · subst e
      rw [List.length_map, show firstN (bs.map (·.2)) g bs.length = firR (bs.map (·.2)) g by unfold firR; rw [List.length_map]] at ef
      have eb := g'.seq hb
      refine ⟨_, rfl, f, _, rfl, .inl ef, fun q1 hq1 => ?_⟩
      have g1 : Grows G (upd G q1 (.lst ((firR (bs.map (·.2)) g).map V.int))) := Grows.new hq1
      have eq1 : (upd G q1 (.lst ((firR (bs.map (·.2)) g).map V.int))) q1 = some (.lst ((firR (bs.map (·.2)) g).map V.int)) := upd_same
      refine ⟨_, rfl, b, rfl, ⟨_, g1.seq eb⟩, fun D hD => lc_listT (K := K) (fun i => decide (g.getD i 0 ∉ firR (bs.map (·.2)) g)) (fun i => V.int (g.getD i 0)) hD (g1.seq eb) (by rw [List.length_map]; omega) (fun i x G2 Ry Rn hx sm ky kn => ?_) fun G2 sm eD => ?_⟩
      · obtain rfl := at_map (d := 0) hx
        refine ⟨rfl, _, rfl, _, rfl, f, _, rfl, .inl ((g1.trans sm).seq ef), rfl, flat_ints _, _, rfl, ?_⟩
        show if (!inV (V.int (g.getD i 0)) ((firR (bs.map (·.2)) g).map V.int)) = true then _ else _
        rw [inV_ints]
        by_cases m : g.getD i 0 ∈ firR (bs.map (·.2)) g
        · rw [decide_eq_true m]
          exact iteF (kn (decide_eq_false fun z => z m) _ .refl)
        · rw [decide_eq_false m]
          exact iteT ⟨_, rfl, ky (decide_eq_true m) _ .refl⟩
      · rw [List.length_map] at eD
        have ek : kept (fun i => decide (g.getD i 0 ∉ firR (bs.map (·.2)) g)) (fun i => V.int (g.getD i 0)) g.length = (secR (bs.map (·.2)) g).map V.int := by
          unfold kept secR
          rw [← filt 0 (fun x => decide (x ∉ firR (bs.map (·.2)) g)) g, List.map_map]
          rfl
        rw [ek] at eD
        refine ⟨(by show 2 ≤ sizeLine; decide), fun p hp => ?_⟩
        have gp : Grows G2 (upd G2 p (.lst [V.ref q1, V.ref D])) := Grows.new hp
        have gall := ((g'.trans g1).trans sm).trans gp
        have e1p := sm _ _ eq1
        exact k p q1 D _ gall ⟨upd_same, gp _ _ e1p, gp _ _ eD, none_back ((g'.trans g1).trans sm) hp, none_back g' hq1, none_back (g'.trans g1) hD⟩
end
end K33

namespace K33
open PySem PySem.Spec PyProof.Rows L2 SortR LcM RepA
/-! ### the dict of all parts -/
def keyI (m : List Int) : List L2.Key := m.map Sum.inl
theorem keyI_V (m : List Int) : (keyI m).map kV = m.map V.int := by
  unfold keyI
  rw [List.map_map]
  rfl
theorem keyI_inj {m n : List Int} (h : keyI m = keyI n) : m = n := inl_inj h
/-- what stands for the part's halves: nothing, or two tuples that stand ahead -/
def HalfV (rs : List (List Int)) (H : Hp) (ms : List (List Int)) (i : Nat) (v : V) : Prop := ∃ z, v = .ref z ∧ ((ms.getD i [] ∉ rs ∧ H z = some (.tup [])) ∨ (ms.getD i [] ∈ rs ∧ ∃ z1 z2 i1 i2, H z = some (.tup [.ref z1, .ref z2]) ∧ i1 < i ∧ i2 < i ∧ ms.getD i1 [] = firR rs (ms.getD i []) ∧ ms.getD i2 [] = secR rs (ms.getD i []) ∧ H z1 = some (.tup ((firR rs (ms.getD i [])).map V.int)) ∧ H z2 = some (.tup ((secR rs (ms.getD i [])).map V.int))))
structure PbS (rs : List (List Int)) (H : Hp) (ms : List (List Int)) (kvs : List (List L2.Key × V)) : Prop where
  keys : kvs.map (·.1) = ms.map keyI
  ne : ∀ m ∈ ms, m ≠ []
  vals : ∀ i k v, kvs[i]? = some (k, v) → HalfV rs H ms i v
theorem PbS.len {rs : List (List Int)} {H : Hp} {ms : List (List Int)} {kvs : List (List L2.Key × V)} (p : PbS rs H ms kvs) : kvs.length = ms.length := by
  have := congrArg List.length p.keys
  rwa [List.length_map, List.length_map] at this
theorem HalfV.keep {rs : List (List Int)} {H H' : Hp} {ms ns : List (List Int)} {i : Nat} {v : V} (t : ∀ b xs, H b = some (.tup xs) → H' b = some (.tup xs)) (l : i < ms.length) (h : HalfV rs H ms i v) : HalfV rs H' (ms ++ ns) i v := by
  obtain ⟨z, e, h⟩ := h
  have at_ : ∀ {j : Nat}, j < ms.length → (ms ++ ns).getD j [] = ms.getD j [] := fun {j} hj => by
    rw [List.getD_eq_getElem?_getD, List.getElem?_append_left hj, ← List.getD_eq_getElem?_getD]
  refine ⟨z, e, ?_⟩
  rw [at_ l]
  refine h.imp (fun q => ⟨q.1, t _ _ q.2⟩) fun ⟨m, z1, z2, i1, i2, q, l1, l2, e1, e2, q1, q2⟩ => ⟨m, z1, z2, i1, i2, t _ _ q, l1, l2, ?_, ?_, t _ _ q1, t _ _ q2⟩
  · rw [at_ (by omega), e1]
  · rw [at_ (by omega), e2]
theorem put_new {kvs : List (List L2.Key × V)} {k : List L2.Key} {v : V} (h : k ∉ kvs.map (·.1)) : putK kvs k v = kvs ++ [(k, v)] := by
  unfold putK
  rw [if_neg fun z => ?_]
  obtain ⟨kv, m, e⟩ := List.any_eq_true.mp z
  exact h (List.mem_map.mpr ⟨kv, m, of_decide_eq_true e⟩)
theorem PbS.add {rs : List (List Int)} {H H' : Hp} {ms : List (List Int)} {kvs : List (List L2.Key × V)} {m : List Int} {v : V} (p : PbS rs H ms kvs) (t : ∀ b xs, H b = some (.tup xs) → H' b = some (.tup xs)) (new : m ∉ ms) (ne : m ≠ []) (hv : HalfV rs H' (ms ++ [m]) ms.length v) : PbS rs H' (ms ++ [m]) (putK kvs (keyI m) v) := by
  have nk : keyI m ∉ kvs.map (·.1) := fun z => by
    rw [p.keys] at z
    obtain ⟨n, hn, e⟩ := List.mem_map.mp z
    rw [keyI_inj e] at hn
    exact new hn
  rw [put_new nk]
  refine ⟨by rw [List.map_append, p.keys, List.map_append]; rfl, fun x hx => ?_, fun i k u e => ?_⟩
  · rcases List.mem_append.mp hx with q | q
    · exact p.ne x q
    · rw [List.mem_singleton.mp q]
      exact ne
  · rcases Nat.lt_or_ge i kvs.length with l | l
    · rw [List.getElem?_append_left l] at e
      exact (p.vals i k u e).keep t (by rw [← p.len]; omega)
    · rw [List.getElem?_append_right l] at e
      have z : i - kvs.length = 0 := by
        have := (List.getElem?_eq_some_iff.mp e).1
        rw [List.length_singleton] at this
        omega
      rw [z, List.getElem?_cons_zero] at e
      have ei : i = ms.length := by
        have := p.len
        omega
      cases e
      rw [ei]
      exact hv
theorem PbS.keep {rs : List (List Int)} {H H' : Hp} {ms : List (List Int)} {kvs : List (List L2.Key × V)} (p : PbS rs H ms kvs) (t : ∀ b xs, H b = some (.tup xs) → H' b = some (.tup xs)) : PbS rs H' ms kvs :=
  ⟨p.keys, p.ne, fun i k v e => by
    have l := (List.getElem?_eq_some_iff.mp e).1
    have q := (p.vals i k v e).keep (ns := []) t (by rw [← p.len]; omega)
    rwa [List.append_nil] at q⟩
theorem singles_at {n p : Nat} (h : p < n) : (singles n)[p]? = some [(p : Int)] := by
  unfold singles
  rw [List.getElem?_map, List.getElem?_range h]
  rfl
/-- a new dict of all parts, those within ahead -/
def spPbS (K : PySem.W.Frag) : Sp := fun vs H Q _ => ∃ (a : Addr) (bs : List (Addr × List Int)), vs = [.ref a] ∧ Rw K H a bs ∧ Sz (bs.map (·.2)) ∧ Par (bs.map (·.2)) ∧ bs.length < 20 ∧
  ∀ (d : Addr) (ms : List (List Int)) (kvs : List (List L2.Key × V)) (H' : Hp), Grows H H' → H d = none → H' d = some (.dT kvs) → PbS (bs.map (·.2)) H' ms kvs → ms.Perm (singles (bs.length + 1) ++ bs.map (·.2)) → ms.Nodup → ms.length ≤ 100 → Q (.ref d) H'
theorem at_last (ms : List (List Int)) (m : List Int) : (ms ++ [m]).getD ms.length [] = m := by
  rw [List.getD_eq_getElem?_getD, List.getElem?_append_right (Nat.le_refl _), Nat.sub_self]
  rfl
theorem at_half {rs : List (List Int)} {x : List Int} (h : halfB rs x = true) {cs : List (List Int)} (pm : cs.Perm rs) (up : cs.Pairwise fun x y => x.length ≤ y.length) {i : Nat} (hi : i < cs.length) (l : x.length < (cs.getD i []).length) :
    ∃ j, j < rs.length + 1 + i ∧ (singles (rs.length + 1) ++ cs.take i)[j]? = some x := by
  rcases Half.of h with m | ⟨p, rfl, p0, p1⟩
  · obtain ⟨j, hj, e⟩ := List.getElem_of_mem (pm.mem_iff.mpr m)
    have ji : j < i := by
      rcases Nat.lt_or_ge j i with z | z
      · exact z
      · have gi : cs.getD i [] = cs[i] := by rw [List.getD_eq_getElem?_getD, List.getElem?_eq_getElem hi]; rfl
        rcases Nat.lt_or_ge i j with q | q
        · have := List.pairwise_iff_getElem.mp up i j hi hj q
          rw [gi] at l
          rw [e] at this
          omega
        · have ej : j = i := by omega
          subst ej
          rw [gi, e] at l
          omega
    refine ⟨rs.length + 1 + j, by omega, ?_⟩
    have ls : (singles (rs.length + 1)).length = rs.length + 1 := by
      unfold singles
      rw [List.length_map, List.length_range]
    rw [List.getElem?_append_right (by omega), ls, show rs.length + 1 + j - (rs.length + 1) = j by omega, List.getElem?_take_of_lt ji, List.getElem?_eq_getElem hj, e]
  · refine ⟨p.toNat, by omega, ?_⟩
    have ls : (singles (rs.length + 1)).length = rs.length + 1 := by
      unfold singles
      rw [List.length_map, List.length_range]
    rw [List.getElem?_append_left (by omega), singles_at (by omega)]
    congr 2
    omega
section
variable {P : Program} {w : World} {K : PySem.W.Frag} {mg : Str → Option Value} {base : Heap}
theorem ok_pbs (T : TxtP mg) (U : MkF K mg) : FnOk P w K mg base CX0 2 U.fPbS U.dPbS ["parting"] (spPbS K) := by
  have GBoth : FnOk P w K mg base CX0 1 U.fBoth U.dBoth ["parting", "group"] (spBoth K) := ok_both T U
  refine U.FPbS.ok scPbS (fun vs H Q E h => ?_) (fun cdv A outer s H vs Q E hr h => ?_)
  · obtain ⟨a, bs, rfl, _⟩ := h
    rfl
  · obtain ⟨a, bs, rfl, hB, hz, hp, few, k⟩ := h
    refine ⟨_, (pss_cons (DcT.ps_setDcT (i := 1) (own := [("person", 2)]) (g := gName 2) (tt := tYes) (by exact hr.units) rfl scPbS.nd rfl rfl (DcT.sw_dict rfl rfl rfl (by decide +kernel)) (pi_range1 (by rfl) T.range (pa_cons (pe_op op_add (pe_callB call_len_seq (by rfl) T.len (by decide +kernel) (pa_cons (pv 0) pa_nil)) pe_int) pa_nil)) (blkOk_by (own := [("person", 2)]) (N := ["parting", "parts", "person", "group", "part"]) (sc := defScope sPbS) (by decide +kernel)) (fun _ _ _ _ _ => pg_name (i := 2) scPbS.nd rfl (Or.inl rfl)) (fun _ _ _ _ _ => pts_nil) (fun _ _ _ _ _ => pe_tup (pa_cons (pv 2) pa_nil)) (fun _ _ _ _ _ => pe_tup pa_nil))
      (pss_cons (ps_for PassesOwn.never rfl (pi_list (pe_sortLen rfl (by rfl) T.sorted (by rfl) T.len (pv 0))) (pg_name (i := 3) scPbS.nd rfl (.inl rfl))
      (pss_one (ps_dput (hu_of hr) (pv 1) (pe_callTy (T := "tuple") (r := rTup K) (by exact call_tupK) (by rfl) T.tuple (by decide +kernel) (pa_cons (pv 3) pa_nil)) (pe_callTy (T := "tuple") (r := rTup K) (by exact call_tupK) (by rfl) T.tuple (by decide +kernel) (pa_cons (pe_lc (own := [("part", 4)]) (g := gName 4) (tt := tYes) rfl scPbS.nd (pi_list (pe_call GBoth (hr.mono (by decide)) rfl U.gBoth U.FBoth.kp U.bBoth .nil pass0 (pa_cons (pv 0) (pa_cons (pv 3) pa_nil)))) (blkOk_by (own := [("part", 4)]) (N := ["parting", "parts", "person", "group", "part"]) (sc := defScope sPbS) (by decide +kernel)) (fun _ _ _ _ _ => pg_name (i := 4) scPbS.nd rfl (Or.inl rfl)) (fun _ _ _ _ _ => pts_nil) (fun _ _ _ _ _ => (pe_callTy (T := "tuple") (r := rTup K) (by exact call_tupK) (by rfl) T.tuple (by decide +kernel) (pa_cons (pv 4) pa_nil)))) pa_nil)) rfl)))
      (pss_one (ps_ret (pv 1))))), ?_⟩
    have nd := hp.nd
    refine ⟨_, rfl, a, _, rfl, .inl hB.top, _, _, rfl, rfl, ?_⟩
    obtain ⟨n, en⟩ : ∃ n : Nat, n = ((((bs.map fun b => V.ref b.1).length : Nat) : Int) + 1).toNat := ⟨_, rfl⟩
    have en2 : n = bs.length + 1 := by
      rw [en, List.length_map]
      omega
    refine ⟨_, rfl, by rw [List.length_map]; omega, by rw [List.length_map]; omega, fun D hD => ?_⟩
    have tk : ∀ {G : Hp} {u : HO} {kvs : List (List L2.Key × V)}, G D = some (.dT kvs) → ∀ b xs, G b = some (.tup xs) → upd G D u b = some (.tup xs) := fun {G u kvs} e b xs eb => by
      rw [upd_ne fun z => by rw [z, e] at eb; cases eb]
      exact eb
    have gD : ∀ {G : Hp} {u : HO}, Grows H G → Grows H (upd G D u) := fun {G u} g b o eb => by
      rw [upd_ne (ne_of_none eb hD)]
      exact g _ _ eb
    refine dc_rangeT (lo := 0) (n := _) (fun i G => Grows H G ∧ ∃ kvs, G D = some (.dT kvs) ∧ PbS (bs.map (·.2)) G (singles i) kvs) ⟨Grows.new hD, [], upd_same, rfl, (fun _ z => nomatch z), fun i k v z => nomatch z⟩ (fun i G hi ⟨gg, kvs, eD, pb⟩ => ?_) fun G ⟨gg, kvs, eD, pb⟩ => ?_
    · refine ⟨rfl, ?_⟩
      unfold tYes
      dsimp only
      rw [if_pos rfl]
      refine ⟨_, rfl, (by show 1 ≤ sizeLine; decide), fun t ht => ⟨(by show 0 ≤ sizeLine; decide), fun z hz => ?_⟩⟩
      have g1 := Grows.new (o := .tup [V.int (0 + (i : Int))]) ht
      have g2 := g1.trans (Grows.new (o := .tup []) hz)
      have l2 : i < 100 := by rw [← en] at hi; omega
      have lk : kvs.length = i := by
        rw [pb.len]
        unfold singles
        rw [List.length_map, List.length_range]
      have at_D := g2 _ _ eD
      refine ⟨t, kvs, keyI [(i : Int)], rfl, ?_, at_D, ?_, gD (gg.trans g2), _, upd_same, ?_⟩
      · rw [keyI_V, upd_ne (fun q => by rw [← q, upd_same] at hz; cases hz), upd_same, Int.zero_add]
        rfl
      · rw [lk]
        exact Nat.lt_of_lt_of_le l2 (by decide)
      · rw [singles_more]
        refine pb.add (fun b xs eb => tk at_D b xs (g2 _ _ eb)) (fun m => ?_) (fun e => nomatch e) ⟨z, rfl, .inl ⟨?_, tk at_D _ _ upd_same⟩⟩
        · obtain ⟨p, _, lp, e⟩ := singles_mem.mp m
          have := List.cons.inj e
          omega
        · have q := at_last (singles i) [(i : Int)]
          rw [singles_len] at q
          rw [singles_len, q]
          exact one_not hp _
    · rw [← en, en2] at pb
      have gl : ∀ b ∈ bs, 2 ≤ b.2.length := fun b hb => hp.two b.2 (List.mem_map.mpr ⟨b, hb, rfl⟩)
      have allne : ∀ r ∈ bs.map (·.2), r ≠ [] := fun r hr e => by
        obtain ⟨b, hb, rfl⟩ := List.mem_map.mp hr
        have := gl b hb
        rw [e] at this
        exact absurd this (by decide)
      refine ⟨_, rfl, a, bs, rfl, (hB.keep gg).top, (hB.keep gg).each, by omega, fun cs p pm srt hp0 => ?_⟩
      have pD : p ≠ D := fun z => by
        rw [z, eD] at hp0
        cases hp0
      obtain ⟨G1, eG1⟩ : ∃ G1, G1 = upd G p (.lst (cs.map fun b => V.ref b.1)) := ⟨_, rfl⟩
      have g01 : Grows G G1 := by
        rw [eG1]
        exact Grows.new hp0
      have at_p : G1 p = some (.lst (cs.map fun b => V.ref b.1)) := by
        rw [eG1]
        exact upd_same
      rw [← eG1]
      have pm2 : (cs.map (·.2)).Perm (bs.map (·.2)) := pm.map _
      have nd2 : (cs.map (·.2)).Nodup := pm2.nodup_iff.mpr nd
      have srt2 : (cs.map (·.2)).Pairwise fun x y => x.length ≤ y.length := by
        rw [List.pairwise_map]
        exact srt
      have cl : cs.length = bs.length := pm.length_eq
      have disj : ∀ r ∈ cs.map (·.2), r ∉ singles (bs.length + 1) := fun r hr z => by
        obtain ⟨b, hb, rfl⟩ := List.mem_map.mp hr
        have := gl b (pm.mem_iff.mp hb)
        obtain ⟨q, _, _, e⟩ := singles_mem.mp z
        rw [e] at this
        exact absurd this (by show ¬ 2 ≤ 1; decide)
      refine ⟨p, rfl, ⟨_, SqL.of at_p⟩, for_list (K := K) (a := p) (xs := cs.map fun b => V.ref b.1) (fun i σ G2 => ∃ o kvs2, σ = [some (.ref a), some (.ref D), none, o, none] ∧ Grows H G2 ∧ (∀ b u, b ≠ D → G1 b = some u → G2 b = some u) ∧ G2 D = some (.dT kvs2) ∧ PbS (bs.map (·.2)) G2 (singles (bs.length + 1) ++ (cs.map (·.2)).take i) kvs2)
        ⟨none, kvs, rfl, gg.trans g01, fun _ _ _ e => e, g01 _ _ eD, by rw [List.take_zero, List.append_nil]; exact pb.keep fun b xs e => g01 _ _ e⟩ (fun i σ G2 _ ⟨o, kvs2, e, g2, kp, e2, pb2⟩ => SqL.of (kp _ _ pD at_p)) (fun i x σ G2 hx ⟨o, kvs2, e, g2, kp, e2, pb2⟩ => ?_) fun σ G2 ⟨o, kvs2, e, g2, kp, e2, pb2⟩ => ?_⟩
      · subst e
        have il := (List.getElem?_eq_some_iff.mp hx).1
        rw [List.length_map] at il
        obtain rfl := at_map (d := (0, [])) hx
        obtain ⟨b, eb⟩ : ∃ b, b = cs.getD i (0, []) := ⟨_, rfl⟩
        rw [← eb]
        have ebi : cs[i]? = some b := by
          rw [eb, List.getD_eq_getElem?_getD, List.getElem?_eq_getElem il]
          rfl
        have mc : b ∈ cs := List.mem_of_getElem? ebi
        have mb : b ∈ bs := pm.mem_iff.mp mc
        have sb : SqL K H b.1 (b.2.map V.int) := hB.each b mb
        have rb : b.2 ∈ bs.map (·.2) := List.mem_map.mpr ⟨b, mb, rfl⟩
        have hf1 := (hp.cut _ rb).ha.b
        have hs1 := (hp.cut _ rb).hb.b
        obtain ⟨lf, ls⟩ := cut_lt hp rb
        refine ⟨_, rfl, _, rfl, a, b.1, bs, b.2, rfl, hB.keep g2, g2.seq sb, allne _ rb, allne, hz.2 _ rb, by omega, fun pp q1 q2 G3 g3 two => ⟨pp, rfl, ⟨_, SqL.of two.top⟩, fun D2 hD2 => ?_⟩⟩
        refine lc_listX (K := K) (fun j y G => ∃ q, y = .ref q ∧ G q = some (.tup ((if j = 0 then firR (bs.map (·.2)) b.2 else secR (bs.map (·.2)) b.2).map V.int))) (fun j y Ha Hb g ⟨q, e1, e2⟩ => ⟨q, e1, g _ _ e2⟩) (fun j y Ha zs ⟨q, e1, e2⟩ e3 u => ⟨q, e1, by rw [upd_ne (fun z => by rw [z, e3] at e2; cases e2)]; exact e2⟩) hD2 (SqL.of two.top) (by show 2 ≤ 1000000; decide) (fun j x Ga Rk hx gr _ kR => ?_) fun G4 ys mx => ?_
        · match j, hx with
          | 0, hx =>
            cases hx
            exact ⟨rfl, _, rfl, q1, _, rfl, SqL.of (gr _ _ two.e1), fun t ht => kR _ _ (Grows.new ht) ⟨t, rfl, upd_same⟩⟩
          | 1, hx =>
            cases hx
            exact ⟨rfl, _, rfl, q2, _, rfl, SqL.of (gr _ _ two.e2), fun t ht => kR _ _ (Grows.new ht) ⟨t, rfl, upd_same⟩⟩
          | j + 2, hx => cases hx
        · refine ⟨D2, ys, rfl, SqL.of mx.top, fun t ht => ?_⟩
          have g4 := mx.grow
          have g24 := g3.trans g4
          have gt := Grows.new (o := .tup ys) ht
          have gall := g24.trans gt
          refine ⟨_, rfl, _, rfl, b.1, _, rfl, (g2.trans gall).seq sb, fun t2 ht2 => ?_⟩
          have gt2 := Grows.new (o := .tup (b.2.map V.int)) ht2
          have gfin := gall.trans gt2
          have at_D := gfin _ _ e2
          have len2 : kvs2.length ≤ 100 := by
            rw [pb2.len, List.length_append, List.length_take]
            unfold singles
            rw [List.length_map, List.length_range]
            omega
          refine ⟨D, _, rfl, DPut.t (k := keyI b.2) at_D (by rw [keyI_V]; exact upd_same) (Nat.lt_of_le_of_lt len2 (by decide)), ?_⟩
          have tk2 := tk (u := .dT (putK kvs2 (keyI b.2) (.ref t))) at_D
          refine ⟨_, _, rfl, gD (g2.trans gfin), fun b' u ne e => by rw [upd_ne ne]; exact gfin _ _ (kp _ _ ne e), upd_same, ?_⟩
          have lys : ys.length = 2 := mx.len
          obtain ⟨y0, y1, eys⟩ : ∃ y0 y1, ys = [y0, y1] := by
            match ys, lys with
            | [y0, y1], _ => exact ⟨y0, y1, rfl⟩
          obtain ⟨z1, ez1, tz1⟩ := mx.rel 0 y0 (by rw [eys]; rfl)
          obtain ⟨z2, ez2, tz2⟩ := mx.rel 1 y1 (by rw [eys]; rfl)
          rw [if_pos rfl] at tz1
          rw [if_neg (by decide)] at tz2
          have gi : (cs.map (·.2)).getD i [] = b.2 := by
            rw [List.getD_eq_getElem?_getD, List.getElem?_map, ebi]
            rfl
          have hci : i < (cs.map (·.2)).length := by rw [List.length_map]; exact il
          obtain ⟨i1, l1, a1⟩ := at_half hf1 pm2 srt2 hci (by rw [gi]; exact lf)
          obtain ⟨i2, l2, a2⟩ := at_half hs1 pm2 srt2 hci (by rw [gi]; exact ls)
          rw [List.length_map] at l1 l2 a1 a2
          have lms : (singles (bs.length + 1) ++ (cs.map (·.2)).take i).length = bs.length + 1 + i := by
            rw [List.length_append, List.length_take]
            unfold singles
            rw [List.length_map, List.length_range, List.length_map]
            omega
          have es : singles (bs.length + 1) ++ (cs.map (·.2)).take (i + 1) = (singles (bs.length + 1) ++ (cs.map (·.2)).take i) ++ [b.2] := by
            rw [List.take_succ, List.getElem?_map, ebi, List.append_assoc]
            rfl
          rw [es]
          have at_ms : ∀ {j : Nat} {x : List Int}, (singles (bs.length + 1) ++ (cs.map (·.2)).take i)[j]? = some x → ((singles (bs.length + 1) ++ (cs.map (·.2)).take i) ++ [b.2]).getD j [] = x := fun {j x} e => by
            rw [List.getD_eq_getElem?_getD, List.getElem?_append_left (List.getElem?_eq_some_iff.mp e).1, e]
            rfl
          refine pb2.add (fun b xs eb => tk2 b xs (gfin _ _ eb)) (fun m => ?_) (allne _ rb) ⟨t, rfl, .inr ⟨by rw [at_last]; exact rb, z1, z2, i1, i2, ?_, by rw [lms]; exact l1, by rw [lms]; exact l2, by rw [at_last]; exact at_ms a1, by rw [at_last]; exact at_ms a2, ?_, ?_⟩⟩
          · rcases List.mem_append.mp m with q | q
            · exact disj _ (pm2.mem_iff.mpr rb) q
            · have q0 : i < (cs.map (·.2)).length := hci
              obtain ⟨j, hj, e⟩ := List.getElem_of_mem q
              rw [List.length_take] at hj
              rw [List.getElem_take] at e
              have gi2 : (cs.map (·.2))[i] = b.2 := by
                rw [List.getD_eq_getElem?_getD, List.getElem?_eq_getElem hci] at gi
                exact gi
              have := (List.nodup_iff_pairwise_ne.mp nd2)
              exact List.pairwise_iff_getElem.mp this j i (by omega) hci (by omega) (e.trans gi2.symm)
          · refine tk2 _ _ (gt2 _ _ ?_)
            rw [upd_same, eys, ez1, ez2]
          · rw [at_last]
            exact tk2 _ _ (gt2 _ _ (gt _ _ tz1))
          · rw [at_last]
            exact tk2 _ _ (gt2 _ _ (gt _ _ tz2))
      · subst e
        refine ⟨_, rfl, ?_⟩
        rw [List.length_map, List.take_of_length_le (by rw [List.length_map]; omega)] at pb2
        refine k D _ kvs2 _ g2 hD e2 pb2 (List.Perm.append_left _ pm2) ?_ ?_
        · refine List.nodup_append.mpr ⟨?_, nd2, fun x hx y hy e => disj y hy (by rw [← e]; exact hx)⟩
          unfold singles
          rw [List.nodup_iff_pairwise_ne, List.pairwise_map]
          exact List.nodup_range.imp fun {x y} h e => h (by have := (List.cons.inj e).1; omega)
        · rw [List.length_append, List.length_map]
          unfold singles
          rw [List.length_map, List.length_range]
          omega
end
end K33

namespace K33
open PySem PySem.Spec PyProof.Rows L2 SortR LcM RepA
/-- the least number of changes, some being marked -/
def spChg (K : PySem.W.Frag) : Sp := fun vs H Q _ => ∃ (a y : Addr) (bs : List (Addr × List Int)) (ns : List Int), vs = [.ref a, .ref y] ∧ Rw K H a bs ∧ Sz (bs.map (·.2)) ∧ isP (bs.map (·.2)) = true ∧ Par (bs.map (·.2)) ∧ bs.length < 20 ∧ SqL K H y (ns.map L2.V.int) ∧ ns.length ≤ 1000 ∧ plist ((bs.length : Int) + 1) ns = true ∧
  ∀ H', Grows H H' → Q (.int ((trR (bs.map (·.2)) (allR (bs.map (·.2)))).conf ns)) H'
theorem shaped_none : SeqAt.shaped (PyData.tuple []) = true := by decide +kernel
theorem shaped_halves (m n : List Int) : SeqAt.shaped (PyData.tuple [.tuple (m.map .int), .tuple (n.map .int)]) = true := by
  unfold SeqAt.shaped
  simp only [PyData.canLay0, PyData.canLayAll0, lay_ints, PyData.depth, PyData.depthAll, PySem.W.depth_ints]
  decide
theorem sum_next {f : List Int → Int} {ms : List (List Int)} {i : Nat} {m : List Int} (e : ms[i]? = some m) : ((ms.take (i + 1)).map f).sum = ((ms.take i).map f).sum + f m := by
  rw [List.take_succ, e, List.map_append, List.sum_append]
  simp
section
variable {P : Program} {w : World} {K : PySem.W.Frag} {mg : Str → Option Value} {base : Heap}
theorem dp_ints {H : Hp} (ns : List Int) : DpAll K H (ns.map V.int) (ns.map .int) := by
  induction ns with
  | nil => exact .nil
  | cons n ns ih => exact .cons (.int n) ih
theorem scChg : FnScope ["parting", "some", "changes", "marks", "part", "halves"] ["parting", "some"] (defScope sChg) := ⟨rfl, rfl, rfl, by decide +kernel, rfl, by decide +kernel, by decide +kernel⟩
theorem ok_chg (Z : ProgF K mg) (T : TxtP mg) (U : MkF K mg) : FnOk P w K mg base CX0 7 U.fChg U.dChg ["parting", "some"] (spChg K) := by
  have GPs := ok_persons (P := P) (w := w) (base := base) Z T
  have GPbS := ok_pbs (P := P) (w := w) (base := base) T U
  have GPL := ok_plist (P := P) (w := w) (base := base) Z T
  refine U.FChg.ok scChg (fun vs H Q E h => ?_) (fun cdv A outer s H vs Q E hr h => ?_)
  · obtain ⟨a, y, bs, ns, rfl, _⟩ := h
    rfl
  · obtain ⟨a, ya, bs, ns, rfl, hB, hz, hp, par, few, sq, nl, yes, k⟩ := h
    refine ⟨_, (pss_cons (ps_if (pt_not (pt_val (pe_call GPL (hr.mono (by decide)) rfl Z.gPL Z.FPL.kp Z.bPL .nil pass0 (pa_cons (pv 1) (pa_cons (pe_call GPs (hr.mono (by decide)) rfl Z.gPs Z.FPs.kp Z.bPs .nil pass0 (pa_cons (pv 0) pa_nil)) pa_nil))))) (pss_one ps_never) pss_nil)
      (pss_cons (ps_set (i := 2) scChg.nd rfl (.inl rfl) pe_int)
      (pss_cons (ps_set (i := 3) scChg.nd rfl (.inl rfl) pe_dnewT)
      (pss_cons (ps_for PassesOwn.never rfl (ItT.pi_itemsT (pe_call GPbS (hr.mono (by decide)) rfl U.gPbS U.FPbS.kp U.bPbS .nil pass0 (pa_cons (pv 0) pa_nil))) (pg_tup (by rfl) (pgs_cons (pg_name (i := 4) scChg.nd rfl (.inl rfl)) (pgs_cons (pg_name (i := 5) scChg.nd rfl (.inl rfl)) pgs_nil)))
      (pss_one (ps_if (pt_cmpR (op_eqD hr.units) (pv 5) (pe_tup pa_nil) (nomark _)) (pss_one (ps_dput (hu_of hr) (pv 3) (pv 4) (pe_ifExp (pt_cmpR (r := rIn K false) (by exact op_in_seq) (pe_ix (r := rIxT K) ix_tup (pv 4) pe_int (fun _ _ => rfl)) (pv 1) (by rfl)) (pe_glob (v := .int 2) rfl U.gMarked ⟨_, rfl⟩) (pe_glob (v := .int 1) rfl U.gUnmarked ⟨_, rfl⟩)) rfl)) (pss_one (ps_if (pt_truth (pe_op op_and (pe_dget (hu_of hr) (pv 3) (pe_ix (r := rIxT K) ix_tup (pv 5) pe_int (fun _ _ => rfl)) (fun _ _ => rfl)) (pe_dget (hu_of hr) (pv 3) (pe_ix (r := rIxT K) ix_tup (pv 5) pe_int (fun _ _ => rfl)) (fun _ _ => rfl))) (by intro _; rfl)) (pss_one (ps_dput (hu_of hr) (pv 3) (pv 4) (pe_op op_and (pe_dget (hu_of hr) (pv 3) (pe_ix (r := rIxT K) ix_tup (pv 5) pe_int (fun _ _ => rfl)) (fun _ _ => rfl)) (pe_dget (hu_of hr) (pv 3) (pe_ix (r := rIxT K) ix_tup (pv 5) pe_int (fun _ _ => rfl)) (fun _ _ => rfl))) rfl)) (pss_cons (ps_dput (hu_of hr) (pv 3) (pv 4) (pe_op op_or (pe_glob (v := .int 2) rfl U.gMarked ⟨_, rfl⟩) (pe_glob (v := .int 1) rfl U.gUnmarked ⟨_, rfl⟩)) rfl)
      (pss_one (ps_set (i := 2) scChg.nd rfl (.inl rfl) (pe_op op_add (pv 2) pe_int)))))))))
      (pss_one (ps_ret (pv 2))))))), ?_⟩
    obtain ⟨rs, ers⟩ : ∃ rs, rs = bs.map (·.2) := ⟨_, rfl⟩
    have rl : rs.length = bs.length := by rw [ers, List.length_map]
    rw [← ers] at k par
    refine ⟨_, rfl, _, rfl, a, bs, rfl, hB, hz, hp, fun H1 g1 => ⟨ya, _, ns, rfl, g1.seq sq, nl, fun H2 g2 => ⟨_, rfl, ?_⟩⟩⟩
    rw [yes]
    have g12 := g1.trans g2
    refine iteF fun M hM => ?_
    have gM := g12.trans (Grows.new (o := .dT []) hM)
    have HM : H M = none := none_back g12 hM
    have tk : ∀ {G : Hp} {u : HO} {kvs : List (List L2.Key × L2.V)}, G M = some (.dT kvs) → ∀ b xs, G b = some (.tup xs) → upd G M u b = some (.tup xs) := fun {G u kvs} e b xs eb => by
      rw [upd_ne fun z => by rw [z, e] at eb; cases eb]
      exact eb
    have gU : ∀ {G : Hp} {u : HO}, Grows H G → Grows H (upd G M u) := fun {G u} g b o eb => by
      rw [upd_ne (ne_of_none eb HM)]
      exact g _ _ eb
    obtain ⟨G0, eG0⟩ : ∃ G0, G0 = upd H2 M (.dT []) := ⟨_, rfl⟩
    have at_M : G0 M = some (.dT []) := by
      rw [eG0]
      exact upd_same
    rw [← eG0] at gM ⊢
    refine ⟨_, rfl, a, bs, rfl, hB.keep gM, hz, by rw [← ers]; exact par, few, fun d ms kvs H3 g3 hd3 ed pb pms _ lm => ⟨d, kvs, rfl, ed, fun o => ?_⟩⟩
    rw [← ers] at pb pms
    have dM : M ≠ d := fun z => by
      rw [← z, at_M] at hd3
      cases hd3
    have Hd : H d = none := none_back gM hd3
    obtain ⟨H4, eH4⟩ : ∃ H4, H4 = upd H3 d (.frz o (.dT kvs)) := ⟨_, rfl⟩
    have tf : ∀ b u, b ≠ d → H3 b = some u → H4 b = some u := fun b u ne e => by
      rw [eH4, upd_ne ne]
      exact e
    have g4 : Grows H H4 := fun b u e => tf b u (ne_of_none e Hd) (g3 _ _ (gM _ _ e))
    have td : ∀ b xs, H3 b = some (.tup xs) → H4 b = some (.tup xs) := fun b xs e => tf b _ (fun z => by rw [z, ed] at e; cases e) e
    rw [← eH4]
    refine ItT.for_itemsT (fun i σ G => ∃ (o4 o5 : Option L2.V) (mk : List (List L2.Key × L2.V)), σ = [some (.ref a), some (.ref ya), some (.int ((ms.take i).map (kap ns rs)).sum), some (.ref M), o4, o5] ∧ Grows H G ∧ (∀ b u, b ≠ M → H4 b = some u → G b = some u) ∧ G M = some (.dT mk) ∧ mk.length ≤ i ∧ ∀ j, j < i → valV mk (keyI (ms.getD j [])) = some (.int ((trR rs (ms.getD j [])).mark ns)))
      ⟨none, none, [], rfl, g4, fun _ _ _ e => e, tf M _ dM (g3 _ _ at_M), Nat.le_refl _, fun j hj => absurd hj (Nat.not_lt_zero j)⟩ (fun i σ G ⟨o4, o5, mk, e, g, kp, em, lk, vs⟩ => kp d _ (fun z => dM z.symm) (by rw [eH4]; exact upd_same)) (fun i kk v Tt q σ G hk ⟨o4, o5, mk, e, g, kp, em, lk, vs⟩ hT hq => ?_) fun σ G ⟨o4, o5, mk, e, g, kp, em, lk, vs⟩ => ?_
    · subst e
      have gT := Grows.new (o := .tup [.ref q, v]) hT
      obtain ⟨GT, eGT⟩ : ∃ GT, GT = upd G Tt (.tup [.ref q, v]) := ⟨_, rfl⟩
      have at_T : GT Tt = some (.tup [.ref q, v]) := by
        rw [eGT]
        exact upd_same
      rw [← eGT] at gT ⊢
      have l4 : H4 M = some (.dT []) := tf M _ dM (g3 _ _ at_M)
      have tG : ∀ b xs, H3 b = some (.tup xs) → GT b = some (.tup xs) := fun b xs e => gT _ _ (kp b _ (fun z => by have := td b xs e; rw [z, l4] at this; cases this) (td b xs e))
      have il := (List.getElem?_eq_some_iff.mp hk).1
      rw [pb.len] at il
      obtain ⟨m, em0⟩ : ∃ m, m = ms.getD i [] := ⟨_, rfl⟩
      have em1 : ms[i]? = some m := by
        rw [em0, List.getD_eq_getElem?_getD, List.getElem?_eq_getElem il]
        rfl
      have ek : kk = keyI m := by
        have z := congrArg (fun l => l[i]?) pb.keys
        rw [List.getElem?_map, List.getElem?_map, hk, em1] at z
        exact Option.some.inj z
      have mm : m ∈ ms := List.mem_of_getElem? em1
      have mne : m ≠ [] := pb.ne m mm
      rw [ek, keyI_V] at hq
      have hqT := gT _ _ hq
      have at_M1 := gT _ _ em
      have sq1 := (g.trans gT).seq sq
      obtain ⟨z, ez, hzv⟩ := pb.vals i kk v hk
      rw [← em0] at hzv
      -- what stands in the dict behind the turn
      have put : ∀ {G2 : Hp} (x : Int), Grows GT G2 → x = (trR rs m).mark ns → ∃ G5 : Hp, DPut G2 M (.ref q) (.int x) G5 ∧ ∀ (c : Int) (o4 o5 : Option L2.V), c = ((ms.take (i + 1)).map (kap ns rs)).sum → ∃ (p4 p5 : Option L2.V) (mk : List (List L2.Key × L2.V)), [some (L2.V.ref a), some (.ref ya), some (.int c), some (.ref M), o4, o5] = [some (.ref a), some (.ref ya), some (.int ((ms.take (i + 1)).map (kap ns rs)).sum), some (.ref M), p4, p5] ∧ Grows H G5 ∧ (∀ b u, b ≠ M → H4 b = some u → G5 b = some u) ∧ G5 M = some (.dT mk) ∧ mk.length ≤ i + 1 ∧ ∀ j, j < i + 1 → valV mk (keyI (ms.getD j [])) = some (.int ((trR rs (ms.getD j [])).mark ns)) := fun {G2} x s2 ex => by
        have e2 := s2 _ _ at_M1
        refine ⟨_, DPut.t (k := keyI m) e2 (by rw [keyI_V]; exact s2 _ _ hqT) ?_, fun c o4 o5 ec => ⟨o4, o5, _, by rw [ec], gU ((g.trans gT).trans s2), fun b u ne e => by rw [upd_ne ne]; exact s2 _ _ (gT _ _ (kp b u ne e)), upd_same, Nat.le_trans (length_putK _ _ _) (Nat.succ_le_succ lk), fun j hj => ?_⟩⟩
        · exact Nat.lt_of_le_of_lt (show mk.length ≤ 100 by omega) (by decide)
        · rw [valV_put]
          by_cases q : keyI (ms.getD j []) = keyI m
          · rw [if_pos q, keyI_inj q, ex]
          · rw [if_neg q]
            have : j ≠ i := fun z => q (by rw [z, em0])
            exact vs j (by omega)
      subst ez
      refine ⟨Tt, _, rfl, SqT.of at_T, rfl, _, _, rfl, _, _, rfl, rfl, ?_⟩
      refine ⟨_, rfl, (by show 0 ≤ sizeLine; decide), fun e he => ?_⟩
      have g6 := Grows.new (o := .tup []) he
      have nx := sum_next (f := kap ns rs) em1
      rcases hzv with ⟨nm, hz0⟩ | ⟨ym, z1, z2, i1, i2, hz0, l1, l2, e1, e2, hz1, hz2⟩
      · refine ⟨.tuple [], .tuple [], .tup (SqT.of (g6 _ _ (tG _ _ hz0))) .nil, .tup (SqT.of upd_same) .nil, shaped_none, shaped_none, _, rfl, ?_⟩
        rw [show PyData.eqv (.tuple []) (.tuple []) = true from by decide +kernel]
        obtain ⟨u, _, _, eu⟩ : ∃ u : Int, 0 ≤ u ∧ u < ((rs.length + 1 : Nat) : Int) ∧ m = [u] := by
          rcases List.mem_append.mp (pms.mem_iff.mp mm) with h | h
          · rw [← rl] at h
            exact singles_mem.mp h
          · exact absurd h nm
        have kz : kap ns rs m = 0 := by
          unfold kap
          exact if_neg fun q => nm q.1
        have tm : (trR rs m).mark ns = if u ∈ ns then 2 else 1 := by
          rw [eu, tr_leaf par]
          rfl
        refine iteT ⟨_, rfl, q, _, 0, _, rfl, rfl, SqT.of (g6 _ _ hqT), at_head mne, _, rfl, ya, _, rfl, .inl (g6.seq sq1), rfl, flat_ints _, _, rfl, ?_⟩
        have hd : m.getD 0 0 = u := by rw [eu]; rfl
        rw [hd]
        show if inV (.int u) (ns.map V.int) = true then _ else _
        rw [inV_ints]
        by_cases un : u ∈ ns
        · rw [if_pos un] at tm
          obtain ⟨A2, a2, b2⟩ := put (G2 := upd GT e (.tup [])) 2 g6 tm.symm
          rw [decide_eq_true un]
          exact iteT ⟨_, rfl, _, rfl, M, A2, rfl, a2, b2 _ _ _ (by rw [nx, kz, Int.add_zero])⟩
        · rw [if_neg un] at tm
          obtain ⟨A1, a1, b1⟩ := put (G2 := upd GT e (.tup [])) 1 g6 tm.symm
          rw [decide_eq_false un]
          exact iteF ⟨_, rfl, _, rfl, M, A1, rfl, a1, b1 _ _ _ (by rw [nx, kz, Int.add_zero])⟩
      · have h0 := g6 _ _ (tG _ _ hz0)
        have h1 := g6 _ _ (tG _ _ hz1)
        have h2 := g6 _ _ (tG _ _ hz2)
        refine ⟨.tuple [.tuple ((firR rs m).map .int), .tuple ((secR rs m).map .int)], .tuple [], .tup (SqT.of h0) (.cons (.tup (SqT.of h1) (dp_ints _)) (.cons (.tup (SqT.of h2) (dp_ints _)) .nil)), .tup (SqT.of upd_same) .nil, shaped_halves _ _, shaped_none, _, rfl, ?_⟩
        rw [show ∀ x y, PyData.eqv (.tuple [x, y]) (.tuple []) = false from fun x y => by simp only [PyData.eqv, PyData.eqvAll]]
        obtain ⟨x1, ex1⟩ : ∃ x, x = (trR rs (firR rs m)).mark ns := ⟨_, rfl⟩
        obtain ⟨x2, ex2⟩ : ∃ x, x = (trR rs (secR rs m)).mark ns := ⟨_, rfl⟩
        have v1 : valV mk (keyI (firR rs m)) = some (.int x1) := by
          have := vs i1 l1
          rwa [e1, ← ex1] at this
        have v2 : valV mk (keyI (secR rs m)) = some (.int x2) := by
          have := vs i2 l2
          rwa [e2, ← ex2] at this
        have eM := g6 _ _ at_M1
        have d1 : DGet (upd GT e (.tup [])) M (.ref z1) (some (.int x1)) := v1 ▸ DGet.t eM (by rw [keyI_V]; exact h1)
        have d2 : DGet (upd GT e (.tup [])) M (.ref z2) (some (.int x2)) := v2 ▸ DGet.t eM (by rw [keyI_V]; exact h2)
        have tm : (trR rs m).mark ns = if Builtin.bitAnd x1 x2 = 0 then 3 else Builtin.bitAnd x1 x2 := by
          rw [tr_node par ym, ex1, ex2]
          rfl
        have km : kap ns rs m = if Builtin.bitAnd x1 x2 = 0 then 1 else 0 := by
          unfold kap
          rw [← ex1, ← ex2]
          by_cases z : Builtin.bitAnd x1 x2 = 0
          · rw [if_pos ⟨ym, z⟩, if_pos z]
          · rw [if_neg fun q => z q.2, if_neg z]
        refine iteF ⟨_, rfl, _, rfl, z, _, 0, .ref z1, rfl, rfl, SqT.of h0, rfl, M, _, rfl, d1, _, rfl, _, rfl, z, _, 1, .ref z2, rfl, rfl, SqT.of h0, rfl, M, _, rfl, d2, _, _, rfl, rfl, _, rfl, iteN _ (fun nz => ?_) fun nz => ?_⟩
        · have ne : Builtin.bitAnd x1 x2 ≠ 0 := fun z => by
            rw [z] at nz
            cases nz
          rw [if_neg ne] at tm km
          obtain ⟨A2, a2, b2⟩ := put (G2 := upd GT e (.tup [])) (Builtin.bitAnd x1 x2) g6 tm.symm
          exact ⟨_, rfl, _, rfl, z, _, 0, .ref z1, rfl, rfl, SqT.of h0, rfl, M, _, rfl, d1, _, rfl, _, rfl, z, _, 1, .ref z2, rfl, rfl, SqT.of h0, rfl, M, _, rfl, d2, _, _, rfl, rfl, _, rfl, _, rfl, M, A2, rfl, a2, b2 _ _ _ (by rw [nx, km, Int.add_zero])⟩
        · have ez : Builtin.bitAnd x1 x2 = 0 := Classical.byContradiction fun z => by
            rw [bne_iff_ne.mpr z] at nz
            cases nz
          rw [if_pos ez] at tm km
          obtain ⟨A2, a2, b2⟩ := put (G2 := upd GT e (.tup [])) (Builtin.bitOr 2 1) g6 tm.symm
          exact ⟨_, _, rfl, rfl, _, rfl, _, rfl, M, A2, rfl, a2, _, rfl, _, _, rfl, rfl, b2 _ _ _ (by rw [nx, km])⟩
    · subst e
      have ml : kvs.length = ms.length := pb.len
      have tot : ((ms.take kvs.length).map (kap ns rs)).sum = (trR rs (allR rs)).conf ns := by
        rw [ml, List.take_length]
        exact all_kap par (by rw [rl]; exact pms)
      refine ⟨_, rfl, ?_⟩
      rw [tot]
      exact k _ g
end
end K33

namespace K33
open PySem PySem.Spec PyProof.Rows L2 SortR LcM RepA
abbrev sHalves : Stmt := top 31
abbrev sAbove : Stmt := top 29
theorem units65 {A : Around} {k : Nat} (hr : Room k A) : A.units + 65 < cLine := by
  have := hr.un
  omega
theorem cut_take (xs : List V) {z : Int} (h : 0 ≤ z) : cutV xs none (some z) = xs.take z.toNat := by
  unfold cutV HT.sIx
  show List.take ((if z < 0 then (z + (xs.length : Nat)).toNat else min z.toNat xs.length) - 0) (List.drop 0 xs) = _
  rw [if_neg (by omega), List.drop_zero, Nat.sub_zero]
  rcases Nat.le_total z.toNat xs.length with l | l
  · rw [Nat.min_eq_left l]
  · rw [Nat.min_eq_right l, List.take_length, List.take_of_length_le l]
/-- a tuple of two ints that stands -/
def TwoI (Pr : Int → Int → Prop) (y : V) (H : Hp) : Prop := ∃ (t : Addr) (u v : Int), y = .ref t ∧ H t = some (.tup [.int u, .int v]) ∧ Pr u v
theorem nm_d {i : Nat} {v : L2.V} {t : TS} {D : Ends} {σ : L2.St} {H : Hp} (h : t D (σ.set i (some v)) H) : gName i v σ H (fun σ2 H2 => t D σ2 H2) := h
/-- a new list of both parts of a group -/
def spHalves (K : PySem.W.Frag) : Sp := fun vs H Q _ => ∃ (a b : Addr) (bs : List (Addr × List Int)) (g : List Int), vs = [.ref a, .ref b] ∧ Rw K H a bs ∧ SqL K H b (g.map V.int) ∧ Par (bs.map (·.2)) ∧ g ∈ bs.map (·.2) ∧ bs.length < 20 ∧
  ∀ (p q1 q2 : Addr) (H' : Hp), Grows H H' → H' p = some (.lst [.ref q1, .ref q2]) → SqL K H' q1 ((firR (bs.map (·.2)) g).map V.int) → SqL K H' q2 ((secR (bs.map (·.2)) g).map V.int) → Q (.ref p) H'
theorem Par.len20 {rs : List (List Int)} (p : Par rs) {g : List Int} (hg : g ∈ rs) : g.length ≤ rs.length + 1 := by
  have l := len_sub (up_nodup (p.up g hg)) (ys := upto (rs.length + 1)) fun z hz => by
    have := p.rng g hg z hz
    exact upto_in.mpr ⟨this.1, by omega⟩
  rwa [upto_len] at l
/-- the law looks for the first part otherwise; it is the same -/
theorem same_first {rs : List (List Int)} (p : Par rs) {g r : List Int} (hg : g ∈ rs) (hr : r ∈ rs) (l : r.length < g.length) : r.getD 0 0 = g.getD 0 0 ↔ g.getD 0 0 ∈ r := by
  have g1 : g.getD 0 0 ∈ g := by
    have := p.two g hg
    cases g with
    | nil => exact absurd this (by decide)
    | cons x _ => exact List.mem_cons_self
  have r1 : r.getD 0 0 ∈ r := by
    have := p.two r hr
    cases r with
    | nil => exact absurd this (by decide)
    | cons x _ => exact List.mem_cons_self
  constructor
  · intro e
    rw [← e]
    exact r1
  · intro m
    have rg : ∀ z ∈ r, z ∈ g := by
      rcases p.nice r hr g hg with n | n | n
      · exact absurd g1 (n _ m)
      · exact n
      · have := len_sub (up_nodup (p.up g hg)) n
        omega
    have h1 := hd_le (p.up r hr) m
    have h2 := hd_le (p.up g hg) (rg _ r1)
    omega
section
variable {P : Program} {w : World} {K : PySem.W.Frag} {mg : Str → Option Value} {base : Heap}
theorem scHalves : FnScope ["lot", "row", "first", "inner", "who"] ["lot", "row"] (defScope sHalves) := ⟨rfl, rfl, rfl, by decide +kernel, rfl, by decide +kernel, by decide +kernel⟩
theorem ok_halves {f : Addr} {fd : FuncData} (F : Fun K "_law_halves" "_law_halves" sHalves f fd) (T : TxtP mg) : FnOk P w K mg base CX0 1 f fd ["lot", "row"] (spHalves K) := by
  refine F.ok scHalves (fun vs H Q E h => ?_) (fun cdv A outer s H vs Q E hr h => ?_)
  · obtain ⟨a, b, bs, g, rfl, _⟩ := h
    rfl
  · obtain ⟨a, b, bs, g, rfl, hB, hb, par, hg, few, k⟩ := h
    refine ⟨_, (pss_cons (ps_set (i := 2) scHalves.nd rfl (.inr rfl) (pe_slice (r := rSlL K) sl_list (pv 1) po_none (po_some pe_int)))
      (pss_cons (ps_for PassesOwn.never rfl (pi_list (pv 0)) (pg_name (i := 3) scHalves.nd rfl (.inl rfl))
      (pss_one (ps_if (PW.pt (pw_and (pt_chain op_lt op_lt (pe_callB call_len_seq (by rfl) T.len (by decide +kernel) (pa_cons (pv 2) pa_nil)) (pe_callB call_len_seq (by rfl) T.len (by decide +kernel) (pa_cons (pv 3) pa_nil)) (pe_callB call_len_seq (by rfl) T.len (by decide +kernel) (pa_cons (pv 1) pa_nil))) (pw_and1 (pt_cmpR (r := rIn K false) (by exact op_in_seq) (pe_ix (r := rIxL K) ix_list (pv 1) pe_int (fun _ _ => rfl)) (pv 3) (by rfl))))) (pss_one (ps_set (i := 2) scHalves.nd rfl (.inr rfl) (pv 3))) pss_nil)))
      (pss_one (ps_ret (pe_lst (pa_cons (pv 2) (pa_cons (pe_lc (own := [("who", 4)]) (g := gName 4)  rfl scHalves.nd (pi_list (pv 1)) (blkOk_by (own := [("who", 4)]) (N := ["lot", "row", "first", "inner", "who"]) (sc := defScope sHalves) (by decide +kernel)) (fun _ _ _ _ _ => pg_name (i := 4) scHalves.nd rfl (Or.inl rfl)) (fun _ _ _ _ _ => (pts_one (pt_cmpR (r := rIn K true) (by exact op_notIn_seq) (pv 4) (pv 2) (by rfl)))) (fun _ _ _ _ _ => (pv 4))) pa_nil))))))), ?_⟩
    have gl := par.len20 hg
    rw [List.length_map] at gl
    have hne : g ≠ [] := fun e => absurd (par.two g hg) (by rw [e]; decide)
    refine ⟨_, rfl, _, rfl, b, _, rfl, hb, fun f0 hf0 => ?_⟩
    have et : cutV (g.map V.int) none (some 1) = [V.int (g.getD 0 0)] := by
      rw [cut_take _ (by decide)]
      cases g with
      | nil => exact absurd rfl hne
      | cons x t => rfl
    rw [et]
    have g0 : Grows H (upd H f0 (.lst [V.int (g.getD 0 0)])) := Grows.new hf0
    refine ⟨_, rfl, a, rfl, ⟨_, (hB.keep g0).top⟩, for_list (K := K) (a := a) (xs := bs.map fun b => V.ref b.1) (fun i σ G => ∃ f o, σ = [some (.ref a), some (.ref b), some (.ref f), o, none] ∧ Grows H G ∧ SqL K G f ((firstN (bs.map (·.2)) g i).map V.int))
      ⟨f0, none, rfl, g0, SqL.of upd_same⟩ (fun i σ G _ ⟨_, _, _, g', _⟩ => (hB.keep g').top) (fun i x σ G hx ⟨f, o, e, g', ef⟩ => ?_) fun σ G ⟨f, o, e, g', ef⟩ => ?_⟩
    · subst e
      have il := (List.getElem?_eq_some_iff.mp hx).1
      rw [List.length_map] at il
      obtain rfl := at_map (d := (0, [])) hx
      have ei := (hB.keep g').at il
      have mi := mem_at il
      have eb := g'.seq hb
      have same : ¬ ((firstN (bs.map (·.2)) g i).length < (bs.getD i (0, [])).2.length ∧ (bs.getD i (0, [])).2.length < g.length ∧ g.getD 0 0 ∈ (bs.getD i (0, [])).2) → firstN (bs.map (·.2)) g (i + 1) = firstN (bs.map (·.2)) g i := fun z => by
        show (if _ then _ else _) = _
        rw [snd_at]
        exact if_neg fun y => z ⟨y.2.1, y.2.2, (same_first par hg mi y.2.2).mp y.1⟩
      refine ⟨_, rfl, f, _, rfl, .inl ef, _, rfl, _, _, rfl, .inl ei, _, _, rfl, rfl, _, rfl, ?_⟩
      rw [List.length_map, List.length_map]
      by_cases h2 : (firstN (bs.map (·.2)) g i).length < (bs.getD i (0, [])).2.length
      · rw [if_pos (decide_eq_true (show (((firstN (bs.map (·.2)) g i).length : Nat) : Int) < ((bs.getD i (0, [])).2.length : Nat) by omega))]
        refine ⟨_, rfl, b, _, rfl, .inl eb, _, _, rfl, rfl, _, rfl, ?_⟩
        rw [List.length_map]
        by_cases h3 : (bs.getD i (0, [])).2.length < g.length
        · rw [decide_eq_true (show (((bs.getD i (0, [])).2.length : Nat) : Int) < (g.length : Nat) by omega)]
          refine iteT ⟨_, rfl, _, _, 0, _, rfl, rfl, eb, at_head hne, _, rfl, _, _, rfl, .inl ei, rfl, flat_ints _, _, rfl, ?_⟩
          show if inV (V.int (g.getD 0 0)) ((bs.getD i (0, [])).2.map V.int) = true then _ else _
          rw [inV_ints]
          by_cases h1 : g.getD 0 0 ∈ (bs.getD i (0, [])).2
          · rw [decide_eq_true h1]
            refine iteT ⟨_, rfl, _, _, rfl, g', ?_⟩
            have e : firstN (bs.map (·.2)) g (i + 1) = (bs.getD i (0, [])).2 := by
              show (if _ then _ else _) = _
              rw [snd_at]
              exact if_pos ⟨(same_first par hg mi h3).mpr h1, h2, h3⟩
            rw [e]
            exact ei
          · rw [decide_eq_false h1]
            exact iteF ⟨f, _, rfl, g', by rw [same fun z => h1 z.2.2]; exact ef⟩
        · rw [decide_eq_false (show ¬ (((bs.getD i (0, [])).2.length : Nat) : Int) < (g.length : Nat) by omega)]
          exact iteF (iteF ⟨f, _, rfl, g', by rw [same fun z => h3 z.2.1]; exact ef⟩)
      · rw [if_neg (by rw [decide_eq_false (show ¬ (((firstN (bs.map (·.2)) g i).length : Nat) : Int) < ((bs.getD i (0, [])).2.length : Nat) by omega)]; exact Bool.false_ne_true)]
        exact ⟨_, rfl, iteF (iteF ⟨f, _, rfl, g', by rw [same fun z => h2 z.1]; exact ef⟩)⟩
    · subst e
      rw [List.length_map, show firstN (bs.map (·.2)) g bs.length = firR (bs.map (·.2)) g by unfold firR; rw [List.length_map]] at ef
      have eb := g'.seq hb
      refine ⟨_, rfl, _, rfl, b, rfl, ⟨_, eb⟩, fun D hD => lc_listT (K := K) (fun i => decide (g.getD i 0 ∉ firR (bs.map (·.2)) g)) (fun i => V.int (g.getD i 0)) hD eb (by rw [List.length_map]; omega) (fun i x G2 Ry Rn hx sm ky kn => ?_) fun G2 sm eD => ?_⟩
      · obtain rfl := at_map (d := 0) hx
        refine ⟨rfl, _, rfl, _, rfl, f, _, rfl, .inl (sm.seq ef), rfl, flat_ints _, _, rfl, ?_⟩
        show if (!inV (V.int (g.getD i 0)) ((firR (bs.map (·.2)) g).map V.int)) = true then _ else _
        rw [inV_ints]
        by_cases m : g.getD i 0 ∈ firR (bs.map (·.2)) g
        · rw [decide_eq_true m]
          exact iteF (kn (decide_eq_false fun z => z m) _ .refl)
        · rw [decide_eq_false m]
          exact iteT ⟨_, rfl, ky (decide_eq_true m) _ .refl⟩
      · rw [List.length_map] at eD
        have ek : kept (fun i => decide (g.getD i 0 ∉ firR (bs.map (·.2)) g)) (fun i => V.int (g.getD i 0)) g.length = (secR (bs.map (·.2)) g).map V.int := by
          unfold kept secR
          rw [← filt 0 (fun x => decide (x ∉ firR (bs.map (·.2)) g)) g, List.map_map]
          rfl
        rw [ek] at eD
        refine ⟨(by show 2 ≤ sizeLine; decide), fun p hp => ?_⟩
        have gp : Grows G2 (upd G2 p (.lst [V.ref f, V.ref D])) := Grows.new hp
        exact k p f D _ ((g'.trans sm).trans gp) upd_same ((sm.trans gp).seq ef) (SqL.of (gp _ _ eD))
end
end K33

namespace K33
open PySem PySem.Spec PyProof.Rows L2 SortR LcM RepA
theorem lay_prs : ∀ bs : List Pr, PyData.canLayAll0 (bs.map SortR.prD) = true
  | [] => by simp only [List.map_nil, PyData.canLayAll0]
  | r :: rs => by simp only [List.map_cons, PyData.canLayAll0, SortR.prD, PyData.canLay0, lay_ints r.2.2, lay_prs rs, Bool.and_self]
theorem shaped_prs (bs : List Pr) : SeqAt.shaped (PyData.list (bs.map SortR.prD)) = true := by
  have d := prS_depth bs
  have e : (PyData.list (bs.map SortR.prD)).depth ≤ 64 := by
    simp only [PyData.depth]
    omega
  unfold SeqAt.shaped
  rw [decide_eq_true e, Bool.and_true]
  simp only [PyData.canLay0, lay_prs]
theorem eqv_prs_nil (bs : List Pr) : PyData.eqv (.list (bs.map SortR.prD)) (.list []) = decide (bs = []) := by
  cases bs with
  | nil => simp [PyData.eqv, PyData.eqvAll]
  | cons b bs => simp [PyData.eqv, PyData.eqvAll]
/-- the least group around, or None -/
def spAbove (K : PySem.W.Frag) : Sp := fun vs H Q _ => ∃ (a b : Addr) (bs : List (Addr × List Int)) (x : List Int), vs = [.ref a, .ref b] ∧ Rw K H a bs ∧ SqL K H b (x.map V.int) ∧ x ≠ [] ∧ bs.length < 20 ∧
  ∀ H', Grows H H' → ((∀ w, ¬ Cand (bs.map (·.2)) x w) → Q .non H') ∧ ∀ c ∈ bs, Cand (bs.map (·.2)) x c.2 → (∀ v, Cand (bs.map (·.2)) x v → c.2.length ≤ v.length) → Q (.ref c.1) H'
section
variable {P : Program} {w : World} {K : PySem.W.Frag} {mg : Str → Option Value} {base : Heap}
theorem scAbove : FnScope ["lot", "lane", "some_here", "row"] ["lot", "lane"] (defScope sAbove) := ⟨rfl, rfl, rfl, by decide +kernel, rfl, by decide +kernel, by decide +kernel⟩
theorem ok_above {f : Addr} {fd : FuncData} (F : Fun K "_law_least_above" "_law_least_above" sAbove f fd) (T : TxtP mg) (T0 : Txt0 mg) : FnOk P w K mg base CX0 1 f fd ["lot", "lane"] (spAbove K) := by
  refine F.ok scAbove (fun vs H Q E h => ?_) (fun cdv A outer s H vs Q E hr h => ?_)
  · obtain ⟨a, b, bs, x, rfl, _⟩ := h
    rfl
  · obtain ⟨a, b, bs, x, rfl, hB, hb, hne, few, k⟩ := h
    refine ⟨_, (pss_cons (ps_setLc (i := 2) (own := [("row", 3)]) (g := gName 3) rfl scAbove.nd rfl rfl (sw_true rfl rfl rfl (by decide +kernel)) (pi_list (pv 0)) (blkOk_by (own := [("row", 3)]) (N := ["lot", "lane", "some_here", "row"]) (sc := defScope sAbove) (by decide +kernel)) (fun _ _ _ _ _ => pg_name (i := 3) scAbove.nd rfl (Or.inl rfl)) (fun _ _ _ _ _ => pts_one (PW.pt (pw_and (pt_cmpR op_gt (pe_callB (id := "len") (r := rLenS K) (by exact call_lenK) (by rfl) T.len (by decide +kernel) (pa_cons (pv 3) pa_nil)) (pe_callB (id := "len") (r := rLenS K) (by exact call_lenK) (by rfl) T.len (by decide +kernel) (pa_cons (pv 1) pa_nil)) (nomark _)) (pw_and1 (pt_cmpR (r := rIn K false) (by exact op_in_seq) (pe_ix (r := rIxL K) ix_list (pv 1) pe_int (fun _ _ => rfl)) (pv 3) (by rfl)))))) (fun _ _ _ _ _ => pe_tup (pa_cons (pe_callB (id := "len") (r := rLenS K) (by exact call_lenK) (by rfl) T.len (by decide +kernel) (pa_cons (pv 3) pa_nil)) (pa_cons (pv 3) pa_nil))))
      (pss_one (ps_ret (pe_ifExp (pt_cmpR (op_neD hr.units) (pv 2) (pe_lst pa_nil) (nomark _)) (pe_ix (r := rIxT K) ix_tup (pe_callB (id := "min") (by exact cr_minS rfl (units65 hr)) (by rfl) T0.min (by decide +kernel) (pa_cons (pv 2) pa_nil)) pe_int (fun _ _ => rfl)) pe_non)))), ?_⟩
    have hd : x.headD 0 = x.getD 0 0 := by cases x <;> rfl
    refine ⟨_, rfl, a, rfl, ⟨_, hB.top⟩, fun D hD => lc_listP (K := K) (fun t => decide (x.length < (bs.getD t (0, [])).2.length) && decide (x.getD 0 0 ∈ (bs.getD t (0, [])).2)) (fun t => bs.getD t (0, [])) hD hB.top (by rw [List.length_map]; omega) (fun t y G Ry Rn hx sm ky kn => ?_) fun G ds sm eds tops eD => ?_⟩
    · have il := (List.getElem?_eq_some_iff.mp hx).1
      rw [List.length_map] at il
      obtain rfl := at_map (d := (0, [])) hx
      have ei := (hB.keep sm).at il
      have eb := sm.seq hb
      refine ⟨rfl, _, rfl, _, _, rfl, .inl ei, _, rfl, b, _, rfl, .inl eb, ?_⟩
      dsimp only
      refine ⟨_, _, rfl, rfl, _, rfl, ?_⟩
      rw [List.length_map, List.length_map]
      by_cases h1 : x.length < (bs.getD t (0, [])).2.length
      · rw [decide_eq_true (show ((x.length : Nat) : Int) < ((bs.getD t (0, [])).2.length : Nat) by omega)]
        refine iteT ⟨_, rfl, _, _, 0, _, rfl, rfl, eb, at_head hne, _, rfl, _, _, rfl, .inl ei, rfl, flat_ints _, _, rfl, ?_⟩
        show if inV (V.int (x.getD 0 0)) ((bs.getD t (0, [])).2.map V.int) = true then _ else _
        rw [inV_ints]
        by_cases h2 : x.getD 0 0 ∈ (bs.getD t (0, [])).2
        · rw [decide_eq_true h2]
          refine iteT ⟨_, rfl, _, _, rfl, .inl ei, _, rfl, (by show 2 ≤ sizeLine; decide), fun T hT => ky (by rw [decide_eq_true h1, decide_eq_true h2]; rfl) T _ (Grows.new hT) hT ?_⟩
          rw [upd_same, List.length_map]
        · rw [decide_eq_false h2]
          exact iteF (kn (by rw [decide_eq_false h2, Bool.and_false]) _ .refl)
      · rw [decide_eq_false (show ¬ ((x.length : Nat) : Int) < ((bs.getD t (0, [])).2.length : Nat) by omega)]
        exact iteF (iteF (kn (by rw [decide_eq_false h1, Bool.false_and]) _ .refl))
    · rw [List.length_map] at eds
      have mem : ∀ d ∈ ds, ∃ t, t < bs.length ∧ d.2 = bs.getD t (0, []) ∧ x.length < d.2.2.length ∧ x.getD 0 0 ∈ d.2.2 := fun d hd => by
        have m : d.2 ∈ ds.map (·.2) := List.mem_map.mpr ⟨d, hd, rfl⟩
        rw [eds] at m
        obtain ⟨t, ht, e⟩ := List.mem_map.mp m
        obtain ⟨t1, t2⟩ := List.mem_filter.mp ht
        rw [Bool.and_eq_true, decide_eq_true_eq, decide_eq_true_eq, e] at t2
        exact ⟨t, List.mem_range.mp t1, e.symm, t2.1, t2.2⟩
      have inb : ∀ d ∈ ds, d.2 ∈ bs := fun d hd => by
        obtain ⟨t, ht, e, _⟩ := mem d hd
        rw [e, List.getD_eq_getElem?_getD, List.getElem?_eq_getElem ht]
        exact List.getElem_mem ht
      have each : ∀ d ∈ ds, SqT K G d.1 [V.int (d.2.2.length : Nat), V.ref d.2.1] ∧ SqL K G d.2.1 (d.2.2.map V.int) := fun d hd => ⟨SqT.of (tops d hd), (hB.keep sm).each _ (inb d hd)⟩
      have all : ∀ c ∈ bs, Cand (bs.map (·.2)) x c.2 → ∃ d ∈ ds, d.2 = c := fun c hc ⟨_, c1, c2⟩ => by
        obtain ⟨t, ht, e⟩ := List.getElem_of_mem hc
        have gd : bs.getD t (0, []) = c := by
          rw [List.getD_eq_getElem?_getD, List.getElem?_eq_getElem ht]
          exact e
        have m : c ∈ ds.map (·.2) := by
          rw [eds]
          refine List.mem_map.mpr ⟨t, List.mem_filter.mpr ⟨List.mem_range.mpr ht, ?_⟩, gd⟩
          rw [gd, decide_eq_true c1, decide_eq_true (show x.getD 0 0 ∈ c.2 by rw [← hd]; exact c2)]
          rfl
        obtain ⟨d, hd', e2⟩ := List.mem_map.mp m
        exact ⟨d, hd', e2⟩
      dsimp only
      refine nm_d ?_
      show _
      refine ⟨_, rfl, (by show 0 ≤ sizeLine; decide), fun e he => ?_⟩
      have ge := Grows.new (o := .lst []) he
      have each2 : ∀ d ∈ ds, SqT K (upd G e (.lst [])) d.1 [V.int (d.2.2.length : Nat), V.ref d.2.1] ∧ SqL K (upd G e (.lst [])) d.2.1 (d.2.2.map V.int) := fun d hd => ⟨ge.tup (each d hd).1, ge.seq (each d hd).2⟩
      have eD2 := ge _ _ eD
      refine ⟨.list (ds.map SortR.prD), .list [], .lst (SqL.of eD2) (dp_prS each2), .lst (SqL.of upd_same) .nil, shaped_prs ds, by decide +kernel, _, rfl, ?_⟩
      rw [eqv_prs_nil]
      have kk := k _ (sm.trans ge)
      by_cases em : ds = []
      · rw [decide_eq_true em]
        refine iteF (kk.1 fun v cv => ?_)
        obtain ⟨c, hc, e⟩ := List.mem_map.mp cv.1
        rw [← e] at cv
        obtain ⟨d, hd', _⟩ := all c hc cv
        rw [em] at hd'
        cases hd'
      · rw [decide_eq_false em]
        refine iteT ⟨_, rfl, D, ds, rfl, SqL.of eD2, each2, em, fun b hb lo => ⟨b.1, _, 1, .ref b.2.1, rfl, rfl, (each2 b hb).1, rfl, ?_⟩⟩
        obtain ⟨t, _, _, l1, l2⟩ := mem b hb
        refine kk.2 b.2 (inb b hb) ⟨List.mem_map.mpr ⟨_, inb b hb, rfl⟩, l1, by rw [hd]; exact l2⟩ fun v cv => ?_
        obtain ⟨c, hc, e⟩ := List.mem_map.mp cv.1
        rw [← e] at cv ⊢
        obtain ⟨d, hd', e2⟩ := all c hc cv
        have := lo d hd'
        rwa [e2] at this
end
end K33

namespace K33
open PySem PySem.Spec PyProof.Rows L2 SortR LcM RepA
abbrev sAll : Stmt := top 30
theorem nm_b {i : Nat} {v : L2.V} {t u : TS} {D : Ends} {σ : L2.St} {H : Hp} (h : tSeq t u D (σ.set i (some v)) H) : gName i v σ H (fun σ2 H2 => tSeq t u D σ2 H2) := h
theorem seq_c {i : Nat} {c : L2.V} {rest : TS} {D : Ends} {σ : L2.St} {H : Hp} (h : rest D (σ.set i (some c)) H) : tSeq (tAsg (tC c) (gName i)) rest D σ H := h
/-- rows that stand -/
structure Rl (H : Hp) (a : Addr) (bs : List (Addr × List Int)) : Prop where
  top : H a = some (.lst (bs.map fun b => V.ref b.1))
  each : ∀ b ∈ bs, H b.1 = some (.lst (b.2.map V.int))
theorem Rl.grow {H H' : Hp} {a : Addr} {bs : List (Addr × List Int)} (h : Rl H a bs) (g : Grows H H') : Rl H' a bs := ⟨g _ _ h.top, fun b hb => g _ _ (h.each b hb)⟩
theorem Rl.rw {K : PySem.W.Frag} {H : Hp} {a : Addr} {bs : List (Addr × List Int)} (h : Rl H a bs) : Rw K H a bs := ⟨SqL.of h.top, fun b hb => SqL.of (h.each b hb)⟩
/-- rows as data -/
abbrev rowP (r : List Int) : PyData := .list (r.map .int)
abbrev rowsP (rs : List (List Int)) : List PyData := rs.map fun r => .list (r.map .int)
theorem eqv_any {r : List Int} : ∀ T : List (List Int), ((rowsP T).any fun z => PyData.eqv z (rowP r)) = decide (r ∈ T)
  | [] => rfl
  | t :: T => by
    have q : PyData.eqv (rowP t) (rowP r) = decide (t = r) := eqv_ints t r
    show (PyData.eqv (rowP t) (rowP r) || (rowsP T).any fun z => PyData.eqv z (rowP r)) = _
    rw [q, eqv_any T]
    by_cases e : t = r
    · rw [decide_eq_true e, Bool.true_or, decide_eq_true (by rw [e]; exact List.mem_cons_self)]
    · rw [decide_eq_false e, Bool.false_or]
      exact decide_eq_decide.mpr ⟨fun h => List.mem_cons_of_mem _ h, fun h => (List.mem_cons.mp h).resolve_left fun z => e z.symm⟩
/-! ### the least group around, as one that is chosen -/
theorem min_cand {rs : List (List Int)} {x : List Int} : ∀ (k : Nat) (w : List Int), w.length ≤ k → Cand rs x w → ∃ m, Cand rs x m ∧ ∀ v, Cand rs x v → m.length ≤ v.length
  | 0, w, l, c => absurd c.2.1 (by omega)
  | k + 1, w, l, c => by
    by_cases h : ∃ v, Cand rs x v ∧ v.length < w.length
    · obtain ⟨v, cv, lv⟩ := h
      exact min_cand k v (by omega) cv
    · refine ⟨w, c, fun v cv => ?_⟩
      apply Classical.byContradiction
      intro q
      exact h ⟨v, cv, by omega⟩
open Classical in
noncomputable def upF (rs : List (List Int)) (x : List Int) : Option (List Int) := if h : ∃ w, Cand rs x w ∧ ∀ v, Cand rs x v → w.length ≤ v.length then some h.choose else none
theorem upF_abv (rs : List (List Int)) : Abv rs (upF rs) := by
  refine ⟨fun x w e => ?_, fun x e w c => ?_⟩
  · unfold upF at e
    split at e
    · rename_i h
      cases e
      exact h.choose_spec
    · cases e
  · unfold upF at e
    split at e
    · cases e
    · rename_i h
      exact h (min_cand w.length w (Nat.le_refl _) c)
theorem upF_eq {rs : List (List Int)} (p : Par rs) {x w : List Int} (c : Cand rs x w) (lo : ∀ v, Cand rs x v → w.length ≤ v.length) : upF rs x = some w := by
  cases e : upF rs x with
  | none => exact absurd c ((upF_abv rs).no x e w)
  | some v =>
    obtain ⟨cv, lv⟩ := (upF_abv rs).yes x v e
    have l1 := lo v cv
    have l2 := lv w c
    have uw := p.up w c.1
    have uv := p.up v cv.1
    congr 1
    rcases p.nice w c.1 v cv.1 with n | n | n
    · exact absurd cv.2.2 (n _ c.2.2)
    · exact up_same uv uw fun z => ⟨sub_back (up_nodup uw) n (by omega) z, n z⟩
    · exact up_same uv uw fun z => ⟨n z, sub_back (up_nodup uv) n (by omega) z⟩
theorem upF_none {rs : List (List Int)} {x : List Int} (h : ∀ w, ¬ Cand rs x w) : upF rs x = none := by
  cases e : upF rs x with
  | none => rfl
  | some v => exact absurd ((upF_abv rs).yes x v e).1 (h v)
/-- what the law finds around a person or group -/
def AbV (bs : List (Addr × List Int)) (x : List Int) (v : L2.V) : Prop := (v = .non ∧ upF (bs.map (·.2)) x = none) ∨ ∃ c ∈ bs, v = .ref c.1 ∧ upF (bs.map (·.2)) x = some c.2
/-- all ways to mark so many of the groups, as they stand -/
structure SgOk (G : Hp) (S : Addr) (bs : List (Addr × List Int)) (sgs : List (Addr × List (Addr × List Int))) (i : Nat) : Prop where
  top : G S = some (.lst (sgs.map fun s => V.ref s.1))
  each : ∀ s ∈ sgs, G s.1 = some (.lst (s.2.map fun c => V.ref c.1)) ∧ ∀ c ∈ s.2, c ∈ bs
  rows : sgs.map (fun s => s.2.map (·.2)) = signs (bs.map (·.2)) i
theorem SgOk.len {G : Hp} {S : Addr} {bs : List (Addr × List Int)} {sgs : List (Addr × List (Addr × List Int))} {i : Nat} (h : SgOk G S bs sgs i) (l : i ≤ (bs.map (·.2)).length) (l7 : i ≤ 7) : ∀ s ∈ sgs, s.2.length ≤ 7 := fun s hs => by
  have m : s.2.map (·.2) ∈ signs (bs.map (·.2)) i := by
    rw [← h.rows]
    exact List.mem_map.mpr ⟨s, hs, rfl⟩
  have q := (signs_sub l _ m).2
  rw [List.length_map] at q
  omega
theorem SgOk.grow {G G' : Hp} {S : Addr} {bs : List (Addr × List Int)} {sgs : List (Addr × List (Addr × List Int))} {i : Nat} (h : SgOk G S bs sgs i) (g : Grows G G') : SgOk G' S bs sgs i := ⟨g _ _ h.top, fun s hs => ⟨g _ _ (h.each s hs).1, (h.each s hs).2⟩, h.rows⟩
/-- the least number of changes, by all ways to mark -/
def spAll (K : PySem.W.Frag) : Sp := fun vs H Q _ => ∃ (a b : Addr) (bs : List (Addr × List Int)) (gs : List Int), vs = [.ref a, .int ((bs.length : Int) + 1), .ref b] ∧ Rl H a bs ∧ Par (bs.map (·.2)) ∧ bs.length < 7 ∧ H b = some (.lst (gs.map V.int)) ∧ gs.length ≤ 100 ∧
  ∀ H', Grows H H' → Q (.int ((trR (bs.map (·.2)) (allR (bs.map (·.2)))).conf gs)) H'
section
variable {P : Program} {w : World} {K : PySem.W.Frag} {mg : Str → Option Value} {base : Heap}
theorem scAll : FnScope ["lot", "many_here", "gang", "lanes", "who", "least", "signs", "row", "line", "above", "lane", "marked", "marks", "total", "wide"] ["lot", "many_here", "gang"] (defScope sAll) := ⟨rfl, rfl, rfl, by decide +kernel, rfl, by decide +kernel, by decide +kernel⟩
theorem ok_all {f fAbove : Addr} {fd dAbove : FuncData} (F : Fun K "_law_by_all" "_law_by_all" sAll f fd) (T : TxtP mg) (T0 : Txt0 mg) (GAbove : FnOk P w K mg base CX0 1 fAbove dAbove ["lot", "lane"] (spAbove K)) (FAbove : Fun K "_law_least_above" "_law_least_above" sAbove fAbove dAbove) (gAbove : mg "_law_least_above" = some (.ref fAbove)) (bAbove : Binds K dAbove ["lot", "lane"] []) : FnOk P w K mg base CX0 2 f fd ["lot", "many_here", "gang"] (spAll K) := by
  refine F.ok scAll (fun vs H Q E h => ?_) (fun cdv A outer s H vs Q E hr h => ?_)
  · obtain ⟨a, b, bs, gs, rfl, _⟩ := h
    rfl
  · obtain ⟨a, b, bs, gs, rfl, hB, par, few, hb, gl, k⟩ := h
    refine ⟨_, (pss_cons (ps_set (i := 3) scAll.nd rfl (.inl rfl) (pe_op op_cat (pe_lc (own := [("who", 4)]) (g := gName 4) (tt := tYes) rfl scAll.nd (pi_range1 (by rfl) T.range (pa_cons (pv 1) pa_nil)) (blkOk_by (own := [("who", 4)]) (N := ["lot", "many_here", "gang", "lanes", "who", "least", "signs", "row", "line", "above", "lane", "marked", "marks", "total", "wide"]) (sc := defScope sAll) (by decide +kernel)) (fun _ _ _ _ _ => pg_name (i := 4) scAll.nd rfl (Or.inl rfl)) (fun _ _ _ _ _ => pts_nil) (fun _ _ _ _ _ => (pe_lst (pa_cons (pv 4) pa_nil)))) (pv 0)))
      (pss_cons (ps_par (i := 5) (j := 6) (by rfl) scAll.nd rfl rfl (by decide) rfl rfl (pa_cons (pv 1) (pa_cons (pe_lst (pa_cons (pe_lst pa_nil) pa_nil)) pa_nil)) (by rfl))
      (pss_cons (ps_for PassesOwn.never rfl (pi_list (pv 0)) (pg_name (i := 7) scAll.nd rfl (.inr rfl))
      (pss_one (ps_set (i := 6) scAll.nd rfl (.inl rfl) (pe_op op_cat (pv 6) (pe_lc (own := [("line", 8)]) (g := gName 8) (tt := tYes) rfl scAll.nd (pi_list (pv 6)) (blkOk_by (own := [("line", 8)]) (N := ["lot", "many_here", "gang", "lanes", "who", "least", "signs", "row", "line", "above", "lane", "marked", "marks", "total", "wide"]) (sc := defScope sAll) (by decide +kernel)) (fun _ _ _ _ _ => pg_name (i := 8) scAll.nd rfl (Or.inl rfl)) (fun _ _ _ _ _ => pts_nil) (fun _ _ _ _ _ => (pe_op op_cat (pv 8) (pe_lst (pa_cons (pv 7) pa_nil)))))))))
      (pss_cons (ps_setLc (i := 9) (own := [("lane", 10)]) (g := gName 10) (tt := tYes) rfl scAll.nd rfl rfl (sw_true rfl rfl rfl (by decide +kernel)) (pi_list (pv 3)) (blkOk_by (own := [("lane", 10)]) (N := ["lot", "many_here", "gang", "lanes", "who", "least", "signs", "row", "line", "above", "lane", "marked", "marks", "total", "wide"]) (sc := defScope sAll) (by decide +kernel)) (fun _ _ _ _ _ => pg_name (i := 10) scAll.nd rfl (Or.inl rfl)) (fun _ _ _ _ _ => pts_nil) (fun _ _ _ _ _ => (pe_call GAbove (hr.mono (by decide)) rfl gAbove FAbove.kp bAbove .nil pass0 (pa_cons (pv 0) (pa_cons (pv 10) pa_nil)))))
      (pss_cons (ps_for PassesOwn.never rfl (pi_list (pv 6)) (pg_name (i := 11) scAll.nd rfl (.inl rfl))
      (pss_cons (ps_set (i := 12) scAll.nd rfl (.inl rfl) (pe_op op_cat (pv 11) (pe_lc (own := [("who", 4)]) (g := gName 4) (tt := tYes) rfl scAll.nd (pi_list (pv 2)) (blkOk_by (own := [("who", 4)]) (N := ["lot", "many_here", "gang", "lanes", "who", "least", "signs", "row", "line", "above", "lane", "marked", "marks", "total", "wide"]) (sc := defScope sAll) (by decide +kernel)) (fun _ _ _ _ _ => pg_name (i := 4) scAll.nd rfl (Or.inl rfl)) (fun _ _ _ _ _ => pts_nil) (fun _ _ _ _ _ => (pe_lst (pa_cons (pv 4) pa_nil))))))
      (pss_cons (ps_set (i := 13) scAll.nd rfl (.inl rfl) pe_int)
      (pss_cons (ps_for PassesOwn.never rfl (pi_zip (by rfl) T.zip (pa_cons (pv 3) (pa_cons (pv 9) pa_nil))) (pg_tup (by rfl) (pgs_cons (pg_name (i := 10) scAll.nd rfl (.inl rfl)) (pgs_cons (pg_name (i := 14) scAll.nd rfl (.inl rfl)) pgs_nil)))
      (pss_one (ps_if (PW.pt (pw_and (pt_cmpR op_notN (pv 14) pe_non (nomark _)) (pw_and1 (pt_cmpR op_ne (pe_cmpR (r := rInD K) (by exact op_inD (units65 hr)) (pv 10) (pv 12) (by rfl)) (pe_cmpR (r := rInD K) (by exact op_inD (units65 hr)) (pv 14) (pv 12) (by rfl)) (nomark _))))) (pss_one (ps_set (i := 13) scAll.nd rfl (.inl rfl) (pe_op op_add (pv 13) pe_int))) pss_nil)))
      (pss_one (ps_set (i := 5) scAll.nd rfl (.inl rfl) (pe_callB (call_min2 rfl) (by rfl) T0.min (by decide +kernel) (pa_cons (pv 5) (pa_cons (pv 13) pa_nil)))))))))
      (pss_one (ps_ret (pv 5)))))))), ?_⟩
    obtain ⟨rs, ers⟩ : ∃ rs, rs = bs.map (·.2) := ⟨_, rfl⟩
    have rl : rs.length = bs.length := by rw [ers, List.length_map]
    rw [← ers] at k par
    have en : (bs.length : Int) + 1 = ((bs.length + 1 : Nat) : Int) := by omega
    rw [en]
    refine ⟨_, rfl, _, rfl, by omega, by omega, fun D hD => ?_⟩
    rw [Int.toNat_natCast]
    refine lc_range (lo := 0) (n := bs.length + 1) (fun i G => Grows H G ∧ ∃ cs : List (Addr × List Int), G D = some (.lst (cs.map fun c => .ref c.1)) ∧ cs.map (·.2) = singles i ∧ ∀ c ∈ cs, G c.1 = some (.lst (c.2.map V.int)) ∧ c.1 ≠ D)
      ⟨Grows.new hD, [], upd_same, rfl, fun _ z => nomatch z⟩ (fun i G hi ⟨gg, cs, eD, ec, each⟩ => ?_) fun G ⟨gg, cs, eD, ec, each⟩ => ?_
    · refine ⟨rfl, ?_⟩
      unfold tYes
      dsimp only
      rw [if_pos rfl]
      refine ⟨_, rfl, (by show 1 ≤ sizeLine; decide), fun q hq => ?_⟩
      have gq := Grows.new (o := .lst [V.int (0 + (i : Int))]) hq
      have qD : q ≠ D := (ne_of_none eD hq).symm
      have cl : cs.length = i := by
        have := congrArg List.length ec
        rwa [List.length_map, singles_len] at this
      refine ⟨_, gq _ _ eD, ?_, fun b' o e => ?_, cs ++ [(q, [(i : Int)])], ?_, ?_, fun c hc => ?_⟩
      · rw [List.length_map, cl]
        exact Nat.lt_of_lt_of_le hi (Nat.le_trans (show bs.length + 1 ≤ 100 by omega) (by decide))
      · rw [upd_ne (ne_of_none e hD)]
        exact gq _ _ (gg _ _ e)
      · rw [upd_same, List.map_append]
        rfl
      · rw [List.map_append, ec, singles_more]
        rfl
      · rcases List.mem_append.mp hc with z | z
        · rw [upd_ne (each c z).2]
          exact ⟨gq _ _ (each c z).1, (each c z).2⟩
        · rw [List.mem_singleton.mp z, upd_ne qD, upd_same, Int.zero_add]
          exact ⟨rfl, qD⟩
    · have cl : cs.length = bs.length + 1 := by
        have := congrArg List.length ec
        rwa [List.length_map, singles_len] at this
      refine ⟨_, rfl, D, a, _, _, rfl, rfl, eD, gg _ _ hB.top, by rw [List.length_map, List.length_map, cl]; exact Nat.le_trans (show bs.length + 1 + bs.length ≤ 100 by omega) (by decide), fun L hL => ?_⟩
      have gL := Grows.new (o := .lst ((cs.map fun c => V.ref c.1) ++ bs.map fun b => V.ref b.1)) hL
      obtain ⟨las, elas⟩ : ∃ las, las = cs ++ bs := ⟨_, rfl⟩
      have hL1 : Rl (upd G L (.lst ((cs.map fun c => V.ref c.1) ++ bs.map fun b => V.ref b.1))) L las := ⟨by rw [upd_same, elas, List.map_append], fun c hc => by
        rw [elas] at hc
        exact (List.mem_append.mp hc).elim (fun z => gL _ _ (each c z).1) fun z => gL _ _ (gg _ _ (hB.each c z))⟩
      have lap : las.map (·.2) = singles (rs.length + 1) ++ rs := by
        rw [elas, List.map_append, ec, rl, ers]
      have g1 := gg.trans gL
      generalize upd G L (.lst ((cs.map fun c => V.ref c.1) ++ bs.map fun b => V.ref b.1)) = H1 at hL1 g1
      clear gL hL eD ec each gg elas
      show tSeq _ _ _ [some (.ref a), some (.int ((bs.length + 1 : Nat) : Int)), some (.ref b), some (.ref L), none, none, none, none, none, none, none, none, none, none, none] H1
      refine ⟨_, rfl, (by show 0 ≤ sizeLine; decide), fun e0 he0 => ⟨(by show 1 ≤ sizeLine; decide), fun S0 hS0 => ?_⟩⟩
      refine ⟨_, _, rfl, ?_⟩
      have sg0 : SgOk (upd (upd H1 e0 (.lst [])) S0 (.lst [V.ref e0])) S0 bs [(e0, [])] 0 := ⟨upd_same, fun c hc => by
        rw [List.mem_singleton.mp hc]
        exact ⟨Grows.new hS0 _ _ upd_same, fun _ h => nomatch h⟩, rfl⟩
      have g2 := (Grows.new (o := .lst []) he0).trans (Grows.new (o := .lst [V.ref e0]) hS0)
      generalize upd (upd H1 e0 (.lst [])) S0 (.lst [V.ref e0]) = H2 at sg0 g2
      clear hS0 he0
      show tSeq _ _ _ [some (.ref a), some (.int ((bs.length + 1 : Nat) : Int)), some (.ref b), some (.ref L), none, some (.int ((bs.length + 1 : Nat) : Int)), some (.ref S0), none, none, none, none, none, none, none, none] H2
      have hB2 := (hB.grow g1).grow g2
      refine ⟨_, rfl, a, rfl, ⟨_, SqL.of hB2.top⟩, for_list (K := K) (a := a) (xs := bs.map fun b => V.ref b.1) (fun i σ G => ∃ (S : Addr) (sgs : List (Addr × List (Addr × List Int))) (o7 : Option L2.V), σ = [some (.ref a), some (.int ((bs.length + 1 : Nat) : Int)), some (.ref b), some (.ref L), none, some (.int ((bs.length + 1 : Nat) : Int)), some (.ref S), o7, none, none, none, none, none, none, none] ∧ Grows H2 G ∧ SgOk G S bs sgs i)
        ⟨S0, [(e0, [])], none, rfl, .refl, sg0⟩ (fun i σ G _ ⟨_, _, _, _, g, _⟩ => SqL.of (g _ _ hB2.top)) (fun i x σ G hx ⟨S, sgs, o7, e, g, sg⟩ => ?_) fun σ G ⟨S, sgs, o7, e, g, sg⟩ => ?_⟩
      · subst e
        have il := (List.getElem?_eq_some_iff.mp hx).1
        rw [List.length_map] at il
        obtain rfl := at_map (d := (0, [])) hx
        obtain ⟨r, er⟩ : ∃ r, r = bs.getD i (0, []) := ⟨_, rfl⟩
        rw [← er]
        have rm : r ∈ bs := by
          rw [er, List.getD_eq_getElem?_getD, List.getElem?_eq_getElem il]
          exact List.getElem_mem il
        have sl : sgs.length ≤ 64 := by
          have q := congrArg List.length sg.rows
          rw [List.length_map, signs_len] at q
          rw [q]
          exact Nat.pow_le_pow_right (by decide) (show i ≤ 6 by omega)
        refine nm_d ?_
        dsimp only [List.set_cons_succ, List.set_cons_zero]
        refine ⟨_, rfl, _, rfl, S, rfl, ⟨_, SqL.of sg.top⟩, fun D hD => lc_list (K := K) (a := S) (xs := sgs.map fun s => V.ref s.1) (fun m G' => Grows G G' ∧ ∃ ns : List (Addr × List (Addr × List Int)), G' D = some (.lst (ns.map fun s => V.ref s.1)) ∧ ns.map (·.2) = (sgs.take m).map (fun s => s.2 ++ [r]) ∧ ∀ s ∈ ns, G' s.1 = some (.lst (s.2.map fun c => V.ref c.1)) ∧ s.1 ≠ D)
          ⟨Grows.new hD, [], upd_same, rfl, fun _ z => nomatch z⟩ (fun m G' _ ⟨gg, _⟩ => SqL.of (gg _ _ sg.top)) (fun m x G' hx' ⟨gg, ns, eD, en, each⟩ => ?_) fun G' ⟨gg, ns, eD, en, each⟩ => ?_⟩
        · have ml := (List.getElem?_eq_some_iff.mp hx').1
          rw [List.length_map] at ml
          obtain rfl := at_map (d := (0, [])) hx'
          obtain ⟨s, es⟩ : ∃ s, s = sgs.getD m (0, []) := ⟨_, rfl⟩
          have es2 : sgs[m]? = some s := by
            rw [es, List.getD_eq_getElem?_getD, List.getElem?_eq_getElem ml]
            rfl
          rw [← es]
          have sm := List.mem_of_getElem? es2
          refine ⟨rfl, ?_⟩
          unfold tYes
          dsimp only
          rw [if_pos rfl]
          have nl : ns.length ≤ m := by
            have q := congrArg List.length en
            rw [List.length_map, List.length_map, List.length_take] at q
            omega
          have sl2 : s.2.length ≤ 7 := sg.len (by rw [List.length_map]; omega) (by omega) s sm
          refine ⟨_, rfl, _, rfl, (by show 1 ≤ sizeLine; decide), fun q hq => ⟨s.1, q, _, _, rfl, rfl, Grows.new hq _ _ (gg _ _ (sg.each s sm).1), upd_same, ?_, fun y hy => ?_⟩⟩
          · rw [List.length_map]
            exact Nat.le_trans (show s.2.length + 1 ≤ 8 by omega) (by decide)
          · have gy := (Grows.new (o := .lst [V.ref r.1]) hq).trans (Grows.new (o := .lst ((s.2.map fun c => V.ref c.1) ++ [V.ref r.1])) hy)
            have yD : y ≠ D := (ne_of_none (Grows.new (o := .lst [V.ref r.1]) hq _ _ eD) hy).symm
            refine ⟨_, gy _ _ eD, ?_, fun b' o e => ?_, ns ++ [(y, s.2 ++ [r])], ?_, ?_, fun c hc => ?_⟩
            · rw [List.length_map]
              exact Nat.lt_of_le_of_lt (show ns.length ≤ 64 by omega) (by decide)
            · rw [upd_ne (ne_of_none e hD)]
              exact gy _ _ (gg _ _ e)
            · rw [upd_same, List.map_append]
              rfl
            · rw [List.map_append, en, List.take_succ, es2, List.map_append]
              rfl
            · rcases List.mem_append.mp hc with z | z
              · rw [upd_ne (each c z).2]
                exact ⟨gy _ _ (each c z).1, (each c z).2⟩
              · rw [List.mem_singleton.mp z, upd_ne yD, upd_same, List.map_append]
                exact ⟨rfl, yD⟩
        · rw [List.length_map, List.take_length] at en
          have nl : ns.length = sgs.length := by
            have q := congrArg List.length en
            rwa [List.length_map, List.length_map] at q
          refine ⟨S, D, _, _, rfl, rfl, gg _ _ sg.top, eD, by rw [List.length_map, List.length_map, nl]; exact Nat.le_trans (show sgs.length + sgs.length ≤ 128 by omega) (by decide), fun y hy => ?_⟩
          have gy := Grows.new (o := .lst ((sgs.map fun s => V.ref s.1) ++ ns.map fun s => V.ref s.1)) hy
          refine ⟨y, sgs ++ ns, _, rfl, g.trans (gg.trans gy), by rw [upd_same, List.map_append], fun c hc => ?_, ?_⟩
          · rcases List.mem_append.mp hc with z | z
            · exact ⟨gy _ _ (gg _ _ (sg.each c z).1), (sg.each c z).2⟩
            · refine ⟨gy _ _ (each c z).1, fun d hd => ?_⟩
              have m2 : c.2 ∈ ns.map (·.2) := List.mem_map.mpr ⟨c, z, rfl⟩
              rw [en] at m2
              obtain ⟨s, hs, e2⟩ := List.mem_map.mp m2
              rw [← e2] at hd
              rcases List.mem_append.mp hd with q | q
              · exact (sg.each s hs).2 d q
              · rw [List.mem_singleton.mp q]
                exact rm
          · rw [List.map_append, sg.rows]
            have e1 : ns.map (fun s => s.2.map (·.2)) = (ns.map (·.2)).map fun l => l.map (·.2) := by
              rw [List.map_map]
              rfl
            have gd : (bs.map (·.2)).getD i [] = r.2 := by rw [er, snd_at]
            show _ = signs (bs.map (·.2)) i ++ (signs (bs.map (·.2)) i).map fun l => l ++ [(bs.map (·.2)).getD i []]
            rw [e1, en, ← sg.rows, List.map_map, List.map_map, gd]
            congr 1
            refine List.map_congr_left fun s _ => ?_
            show (s.2 ++ [r]).map (·.2) = s.2.map (·.2) ++ [r.2]
            rw [List.map_append]
            rfl
      · subst e
        rw [List.length_map] at sg
        have hL2 := (hL1.grow g2).grow g
        have hB3 := hB2.grow g
        have hb3 := ((g1.trans g2).trans g) _ _ hb
        have ll : las.length = 2 * bs.length + 1 := by
          have q := congrArg List.length lap
          rw [List.length_map, List.length_append, singles_len, rl] at q
          omega
        have ne : ∀ c ∈ las, c.2 ≠ [] := fun c hc e => by
          have m : c.2 ∈ las.map (·.2) := List.mem_map.mpr ⟨c, hc, rfl⟩
          rw [lap, e] at m
          rcases List.mem_append.mp m with z | z
          · obtain ⟨q, _, _, e2⟩ := singles_mem.mp z
            cases e2
          · exact absurd (par.two _ z) (by decide)
        refine ⟨_, rfl, L, rfl, ⟨_, SqL.of hL2.top⟩, fun D hD => lc_list (K := K) (a := L) (xs := las.map fun c => V.ref c.1) (fun m G' => Grows G G' ∧ ∃ vs : List L2.V, G' D = some (.lst vs) ∧ vs.length = m ∧ ∀ (j : Nat) (x : Addr × List Int) (v : L2.V), las[j]? = some x → vs[j]? = some v → AbV bs x.2 v)
          ⟨Grows.new hD, [], upd_same, rfl, fun j x v _ z => by simp at z⟩ (fun m G' _ ⟨gg, _⟩ => SqL.of (gg _ _ hL2.top)) (fun m x G' hx' ⟨gg, vs, eD, vl, ab⟩ => ?_) fun G' ⟨gg, vs, eD, vl, ab⟩ => ?_⟩
        · have ml := (List.getElem?_eq_some_iff.mp hx').1
          rw [List.length_map] at ml
          obtain rfl := at_map (d := (0, [])) hx'
          obtain ⟨s, es⟩ : ∃ s, s = las.getD m (0, []) := ⟨_, rfl⟩
          have es2 : las[m]? = some s := by
            rw [es, List.getD_eq_getElem?_getD, List.getElem?_eq_getElem ml]
            rfl
          rw [← es]
          have sm := List.mem_of_getElem? es2
          refine ⟨rfl, ?_⟩
          unfold tYes
          dsimp only
          rw [if_pos rfl]
          have next : ∀ (v : L2.V) (H' : Hp), Grows G' H' → AbV bs s.2 v → ∃ acc, H' D = some (.lst acc) ∧ acc.length < sizeLine ∧ Grows G (upd H' D (.lst (acc ++ [v]))) ∧ ∃ vs : List L2.V, upd H' D (.lst (acc ++ [v])) D = some (.lst vs) ∧ vs.length = m + 1 ∧ ∀ (j : Nat) (x : Addr × List Int) (v : L2.V), las[j]? = some x → vs[j]? = some v → AbV bs x.2 v := fun v H' g' av => by
            refine ⟨vs, g' _ _ eD, ?_, fun b' o e => ?_, vs ++ [v], upd_same, by rw [List.length_append, vl]; rfl, fun j x u hj hu => ?_⟩
            · rw [vl]
              exact Nat.lt_of_lt_of_le ml (Nat.le_trans (show las.length ≤ 100 by omega) (by decide))
            · rw [upd_ne (ne_of_none e hD)]
              exact g' _ _ (gg _ _ e)
            · rcases Nat.lt_or_ge j vs.length with l | l
              · rw [List.getElem?_append_left l] at hu
                exact ab j x u hj hu
              · rw [List.getElem?_append_right l] at hu
                have jz : j - vs.length = 0 := by
                  have := (List.getElem?_eq_some_iff.mp hu).1
                  rw [List.length_singleton] at this
                  omega
                have jm : j = m := by omega
                rw [jz] at hu
                cases hu
                rw [jm, es2] at hj
                cases hj
                exact av
          exact ⟨_, rfl, _, rfl, a, s.1, bs, s.2, rfl, (hB3.grow gg).rw, SqL.of (gg _ _ (hL2.each s sm)), ne s sm, by omega, fun H' g' => ⟨fun no => next _ H' g' (.inl ⟨rfl, upF_none no⟩), fun c hc cd lo => next _ H' g' (.inr ⟨c, hc, rfl, upF_eq (by rw [← ers]; exact par) cd lo⟩)⟩⟩
        · rw [List.length_map] at vl
          have sg4 := sg.grow gg
          have hL4 := hL2.grow gg
          have hB4 := hB3.grow gg
          have hb4 := gg _ _ hb3
          have gH4 := ((g1.trans g2).trans g).trans gg
          have conf_n := conf_le (A := gs) par (all_half par)
          rw [show (allR rs).length = bs.length + 1 by unfold allR; rw [upto_len, rl]] at conf_n
          have ssl : sgs.length ≤ 64 := by
            have q := congrArg List.length sg.rows
            rw [List.length_map, signs_len] at q
            rw [q]
            exact Nat.pow_le_pow_right (by decide) (show bs.length ≤ 6 by omega)
          obtain ⟨cf, ecf⟩ : ∃ cf, cf = (trR rs (allR rs)).conf gs := ⟨_, rfl⟩
          rw [← ecf] at k conf_n
          show tSeq _ _ _ [some (.ref a), some (.int ((bs.length + 1 : Nat) : Int)), some (.ref b), some (.ref L), none, some (.int ((bs.length + 1 : Nat) : Int)), some (.ref S), o7, none, some (.ref D), none, none, none, none, none] G'
          refine ⟨_, rfl, S, rfl, ⟨_, SqL.of sg4.top⟩, for_list (K := K) (a := S) (xs := sgs.map fun s => V.ref s.1) (fun i σ G => ∃ (le : Int) (o10 o11 o12 o13 o14 : Option L2.V), σ = [some (.ref a), some (.int ((bs.length + 1 : Nat) : Int)), some (.ref b), some (.ref L), none, some (.int le), some (.ref S), o7, none, some (.ref D), o10, o11, o12, o13, o14] ∧ Grows G' G ∧ cf ≤ le ∧ ∀ (j : Nat) (s : Addr × List (Addr × List Int)), j < i → sgs[j]? = some s → le ≤ (trR rs (allR rs)).tot (mkd gs (s.2.map (·.2))))
            ⟨_, none, none, none, none, none, rfl, .refl, by omega, fun j s hj => absurd hj (Nat.not_lt_zero j)⟩ (fun i σ G _ ⟨_, _, _, _, _, _, _, g, _⟩ => SqL.of (g _ _ sg4.top)) (fun i x σ G5 hx ⟨le, o10, o11, o12, o13, o14, e, g5, lo, all⟩ => ?_) fun σ G5 ⟨le, o10, o11, o12, o13, o14, e, g5, lo, all⟩ => ?_⟩
          · subst e
            have il := (List.getElem?_eq_some_iff.mp hx).1
            rw [List.length_map] at il
            obtain rfl := at_map (d := (0, [])) hx
            obtain ⟨s, es⟩ : ∃ s, s = sgs.getD i (0, []) := ⟨_, rfl⟩
            have es2 : sgs[i]? = some s := by
              rw [es, List.getD_eq_getElem?_getD, List.getElem?_eq_getElem il]
              rfl
            have sm := List.mem_of_getElem? es2
            rw [← es]
            refine nm_b ?_
            dsimp only [List.set_cons_succ, List.set_cons_zero]
            have hb5 := g5 _ _ hb4
            have sl2 : s.2.length ≤ 7 := sg.len (by rw [List.length_map]; exact Nat.le_refl _) (by omega) s sm
            refine ⟨_, rfl, _, rfl, b, rfl, ⟨_, SqL.of hb5⟩, fun D2 hD2 => lc_list (K := K) (a := b) (xs := gs.map L2.V.int) (fun m G6 => Grows G5 G6 ∧ ∃ cs : List (Addr × List Int), G6 D2 = some (.lst (cs.map fun c => .ref c.1)) ∧ cs.map (·.2) = (gs.take m).map (fun q => [q]) ∧ ∀ c ∈ cs, G6 c.1 = some (.lst (c.2.map V.int)) ∧ c.1 ≠ D2)
              ⟨Grows.new hD2, [], upd_same, rfl, fun _ z => nomatch z⟩ (fun m G6 _ ⟨gg6, _⟩ => SqL.of (gg6 _ _ hb5)) (fun m x G6 hx' ⟨gg6, cs, eD2, ec, each⟩ => ?_) fun G6 ⟨gg6, cs, eD2, ec, each⟩ => ?_⟩
            · have ml := (List.getElem?_eq_some_iff.mp hx').1
              rw [List.length_map] at ml
              obtain rfl := at_map (d := 0) hx'
              obtain ⟨u, eu⟩ : ∃ u, u = gs.getD m 0 := ⟨_, rfl⟩
              have eu2 : gs[m]? = some u := by
                rw [eu, List.getD_eq_getElem?_getD, List.getElem?_eq_getElem ml]
                rfl
              rw [← eu]
              refine ⟨rfl, ?_⟩
              unfold tYes
              dsimp only
              rw [if_pos rfl]
              refine ⟨_, rfl, (by show 1 ≤ sizeLine; decide), fun q hq => ?_⟩
              have gq := Grows.new (o := .lst [V.int u]) hq
              have qD : q ≠ D2 := (ne_of_none eD2 hq).symm
              have cl : cs.length ≤ m := by
                have q := congrArg List.length ec
                rw [List.length_map, List.length_map, List.length_take] at q
                omega
              refine ⟨_, gq _ _ eD2, ?_, fun b' o e => ?_, cs ++ [(q, [u])], ?_, ?_, fun c hc => ?_⟩
              · rw [List.length_map]
                exact Nat.lt_of_le_of_lt (show cs.length ≤ 100 by omega) (by decide)
              · rw [upd_ne (ne_of_none e hD2)]
                exact gq _ _ (gg6 _ _ e)
              · rw [upd_same, List.map_append]
                rfl
              · rw [List.map_append, ec, List.take_succ, eu2, List.map_append]
                rfl
              · rcases List.mem_append.mp hc with z | z
                · rw [upd_ne (each c z).2]
                  exact ⟨gq _ _ (each c z).1, (each c z).2⟩
                · rw [List.mem_singleton.mp z, upd_ne qD, upd_same]
                  exact ⟨rfl, qD⟩
            · rw [List.length_map, List.take_length] at ec
              have cl : cs.length = gs.length := by
                have q := congrArg List.length ec
                rwa [List.length_map, List.length_map] at q
              have gg56 := g5.trans gg6
              have sg6 := sg4.grow gg56
              refine ⟨s.1, D2, _, _, rfl, rfl, (sg6.each s sm).1, eD2, by rw [List.length_map, List.length_map, cl]; exact Nat.le_trans (show s.2.length + gs.length ≤ 107 by omega) (by decide), fun M hM => ?_⟩
              have gM := Grows.new (o := .lst ((s.2.map fun c => V.ref c.1) ++ cs.map fun c => V.ref c.1)) hM
              have eM : (upd G6 M (.lst ((s.2.map fun c => V.ref c.1) ++ cs.map fun c => V.ref c.1))) M = some (.lst ((s.2 ++ cs).map fun c => V.ref c.1)) := by rw [upd_same, List.map_append]
              have eachM : ∀ c ∈ s.2 ++ cs, (upd G6 M (.lst ((s.2.map fun c => V.ref c.1) ++ cs.map fun c => V.ref c.1))) c.1 = some (.lst (c.2.map V.int)) := fun c hc => (List.mem_append.mp hc).elim (fun z => gM _ _ ((hB4.grow gg56).each c ((sg6.each s sm).2 c z))) fun z => gM _ _ (each c z).1
              have g7 := gg56.trans gM
              generalize upd G6 M (.lst ((s.2.map fun c => V.ref c.1) ++ cs.map fun c => V.ref c.1)) = G7 at eM eachM g7
              obtain ⟨ML, eML⟩ : ∃ ML, ML = (s.2 ++ cs).map (·.2) := ⟨_, rfl⟩
              have eP : ∀ x, mkd gs (s.2.map (·.2)) x = decide (x ∈ ML) := fun x => by
                unfold mkd
                rw [eML, List.map_append, ec]
              obtain ⟨Pm, ePm⟩ : ∃ Pm, Pm = mkd gs (s.2.map (·.2)) := ⟨_, rfl⟩
              rw [← ePm] at eP
              have dM : ∀ {G : Hp}, Grows G7 G → Dp K G (.ref M) (.list (rowsP ML)) := fun g => by
                rw [eML]
                exact .lst (SqL.of (g _ _ eM)) (rows_data fun c hc => SqL.of (g _ _ (eachM c hc)))
              show tSeq _ _ _ [some (.ref a), some (.int ((bs.length + 1 : Nat) : Int)), some (.ref b), some (.ref L), none, some (.int le), some (.ref S), o7, none, some (.ref D), o10, some (.ref s.1), some (.ref M), o13, o14] G7
              refine seq_c ?_
              dsimp only [List.set_cons_succ, List.set_cons_zero]
              have hL7 := hL4.grow g7
              have hB7 := hB4.grow g7
              have eD7 := g7 _ _ eD
              refine ⟨_, rfl, _, rfl, L, D, _, _, rfl, SqL.of hL7.top, SqL.of eD7, RZ.for_zipL (K := K) (a := L) (b := D) (by rw [List.length_map, vl]) (fun j σ G => ∃ (o10 o14 : Option L2.V), σ = [some (.ref a), some (.int ((bs.length + 1 : Nat) : Int)), some (.ref b), some (.ref L), none, some (.int le), some (.ref S), o7, none, some (.ref D), o10, some (.ref s.1), some (.ref M), some (.int (((las.map (·.2)).take j).map (chg Pm (upF rs))).sum), o14] ∧ Grows G7 G)
                ⟨_, _, rfl, .refl⟩ (fun j σ G ⟨_, _, _, g⟩ => ⟨SqL.of (g _ _ hL7.top), SqL.of (g _ _ eD7)⟩) (fun j x y T σ G hx' hy' ⟨o10, o14, e, g⟩ hT => ?_) fun σ G ⟨o10, o14, e, g⟩ => ?_⟩
              · subst e
                have jl := (List.getElem?_eq_some_iff.mp hx').1
                rw [List.length_map] at jl
                obtain rfl := at_map (d := (0, [])) hx'
                obtain ⟨c, ec'⟩ : ∃ c, c = las.getD j (0, []) := ⟨_, rfl⟩
                have ec2 : las[j]? = some c := by
                  rw [ec', List.getD_eq_getElem?_getD, List.getElem?_eq_getElem jl]
                  rfl
                rw [← ec']
                have cm := List.mem_of_getElem? ec2
                have nx := sum_next (f := chg Pm (upF rs)) (ms := las.map (·.2)) (i := j) (m := c.2) (by rw [List.getElem?_map, ec2]; rfl)
                refine ⟨T, _, rfl, SqT.of upd_same, rfl, _, _, rfl, _, _, rfl, rfl, ?_⟩
                dsimp only [List.set_cons_succ, List.set_cons_zero]
                have gT := g.trans (Grows.new (o := .tup [V.ref c.1, y]) hT)
                generalize upd G T (.tup [V.ref c.1, y]) = G8 at gT
                refine ⟨_, rfl, rfl, _, rfl, ?_⟩
                have cx : chg Pm (upF rs) c.2 = match upF rs c.2 with
                  | none => 0
                  | some w => if Pm c.2 = Pm w then 0 else 1 := rfl
                rcases ab j c y ec2 hy' with ⟨rfl, un⟩ | ⟨d, hd, rfl, us⟩
                · rw [← ers] at un
                  rw [un] at cx
                  rw [decide_eq_true rfl]
                  exact iteF (iteF ⟨some (.ref c.1), some .non, by rw [nx, cx, Int.add_zero], gT⟩)
                · rw [← ers] at us
                  rw [us] at cx
                  have cx' : chg Pm (upF rs) c.2 = if Pm c.2 = Pm d.2 then 0 else 1 := cx
                  have dc : Dp K G8 (.ref c.1) (rowP c.2) := .lst (SqL.of (gT _ _ (hL7.each c cm))) (rows_dp _)
                  have dd : Dp K G8 (.ref d.1) (rowP d.2) := .lst (SqL.of (gT _ _ (hB7.each d hd))) (rows_dp _)
                  rw [decide_eq_false (fun z => nomatch z)]
                  refine iteT ⟨_, rfl, _, rfl, rowP c.2, rowsP ML, dc, dM gT, shaped_ints _, shaped_rows _, _, rfl, _, rfl, rowP d.2, rowsP ML, dd, dM gT, shaped_ints _, shaped_rows _, rfl, _, rfl, ?_⟩
                  rw [eqv_any, eqv_any, ← eP, ← eP]
                  by_cases same : Pm c.2 = Pm d.2
                  · rw [same, decide_eq_true rfl]
                    exact iteF ⟨some (.ref c.1), some (.ref d.1), by rw [nx, cx', if_pos same, Int.add_zero], gT⟩
                  · rw [decide_eq_false fun z => same (V.bl.inj z)]
                    exact iteT ⟨_, rfl, _, _, rfl, rfl, some (.ref c.1), some (.ref d.1), by rw [nx, cx', if_neg same]; rfl, gT⟩
              · subst e
                have tot : (((las.map (·.2)).take (las.map fun c => V.ref c.1).length).map (chg Pm (upF rs))).sum = (trR rs (allR rs)).tot Pm := by
                  rw [List.take_of_length_le (by rw [List.length_map, List.length_map]; exact Nat.le_refl _)]
                  exact all_chg par (upF_abv rs) (by rw [lap])
                rw [tot]
                have low : cf ≤ (trR rs (allR rs)).tot Pm := by
                  rw [ePm, ecf]
                  refine sign_low par ?_
                  have m : s.2.map (·.2) ∈ sgs.map (fun s => s.2.map (·.2)) := List.mem_map.mpr ⟨s, sm, rfl⟩
                  rw [sg.rows, ← ers, ← rl] at m
                  exact m
                refine ⟨_, rfl, _, rfl, le, _, rfl, _, _, _, _, _, _, rfl, g7.trans g, ?_, fun j' s' hj' hs' => ?_⟩
                · split <;> omega
                · rcases Nat.lt_or_ge j' i with l | l
                  · have q := all j' s' l hs'
                    split <;> omega
                  · obtain rfl : j' = i := by omega
                    rw [es2] at hs'
                    cases hs'
                    rw [← ePm]
                    split <;> omega
          · subst e
            refine ⟨_, rfl, ?_⟩
            obtain ⟨l, hl, bl⟩ := sign_best (A := gs) par
            have ml : l ∈ sgs.map (fun s => s.2.map (·.2)) := by
              rw [sg.rows, ← ers, ← rl]
              exact hl
            obtain ⟨s, hs, e2⟩ := List.mem_map.mp ml
            obtain ⟨j, hj, ej⟩ := List.getElem_of_mem hs
            have q := all j s (by rw [List.length_map]; exact hj) (by rw [List.getElem?_eq_getElem hj, ej])
            rw [e2] at q
            have el : le = cf := by omega
            rw [el]
            exact k _ (gH4.trans g5)
end
end K33

namespace K33
open PySem PySem.Spec PyProof.Rows L2 SortR LcM RepA
abbrev sCosts : Stmt := top 32
theorem rg_upto (k : Nat) : rgV 0 (k : Int) = (upto k).map L2.V.int := by
  rw [rg_ints, Int.toNat_natCast]
  unfold upto
  rw [List.map_map, List.map_map]
  refine List.map_congr_left fun i _ => ?_
  show L2.V.int (0 + (i : Nat)) = L2.V.int (i : Nat)
  rw [Int.zero_add]
/-- repr of a row of small numbers -/
def txt (r : List Int) : Str := (PyData.list (r.map .int)).shown
def rReprI (K : PySem.W.Frag) : List V → Hp → VK → Prop := fun xs H Q => ∃ (a : Addr) (r : List Int), xs = [V.ref a] ∧ SqL K H a (r.map V.int) ∧ r.length ≤ 100 ∧ (∀ x ∈ r, 0 ≤ x ∧ x < 20) ∧ Q (.str (txt r)) H
theorem cr_reprI {X : Cx} (hg : X.A.guards = some []) (hu : X.A.units + 64 < cLine) : CallR X (.builtin "repr") (rReprI X.K) := by
  intro pins s σ H xs us Q I r h
  obtain ⟨a, ns, e, hs, hl, hn, q⟩ := h
  have sm : Smalls ns := fun x hx => by
    have := hn x hx
    exact Nat.lt_of_le_of_lt (show x.natAbs ≤ 20 by omega) (by decide)
  have br := brief_ints sm
  refine call_reprL hg hu pins s σ H xs us Q I r ⟨a, _, _, e, hs, DdAll.of_dp (rows_dp ns), show_ints ns sm, ?_, ?_, q⟩
  · rw [PySem.W.depth_ints]
    decide
  · have e : (PyData.list (ns.map .int)).shown = listText (PyData.shownAll (ns.map .int)) := by simp only [PyData.shown]
    rw [← e]
    refine PyData.shown_fits (B := 13) (by decide) (by decide) br.lv ?_
    have := br.wt
    omega
theorem txt_inj {r s : List Int} (nr : r ≠ []) (ns : s ≠ []) (hr : ∀ x ∈ r, 0 ≤ x ∧ x < 20) (hs : ∀ x ∈ s, 0 ≤ x ∧ x < 20) (e : txt r = txt s) : r = s := shown_inj nr ns hr hs e
/-- what the table holds of some persons and groups -/
structure TbOk (G : Hp) (t : Addr) (gs : List Int) (rs : List (List Int)) (ms : List (List Int)) (kvs : List (L2.Key × L2.V)) : Prop where
  top : G t = some (.dK kvs)
  len : kvs.length ≤ ms.length
  val : ∀ x ∈ ms, ∃ q, valV kvs (Sum.inr (txt x)) = some (.ref q) ∧ G q = some (.lst [.int ((trR rs x).cost gs false), .int ((trR rs x).cost gs true)])
theorem TbOk.grow {G G' : Hp} {t : Addr} {gs : List Int} {rs ms : List (List Int)} {kvs : List (L2.Key × L2.V)} (h : TbOk G t gs rs ms kvs) (g : Grows G G') : TbOk G' t gs rs ms kvs :=
  ⟨g _ _ h.top, h.len, fun x hx => by
    obtain ⟨q, e1, e2⟩ := h.val x hx
    exact ⟨q, e1, g _ _ e2⟩⟩
theorem half_key {rs : List (List Int)} (p : Par rs) (few : rs.length < 20) {x : List Int} (h : Half rs x) : x ≠ [] ∧ x.length ≤ 100 ∧ ∀ z ∈ x, 0 ≤ z ∧ z < 20 := by
  have l := h.len p
  rcases h with m | ⟨q, rfl, q0, q1⟩
  · have l2 := p.len20 m
    exact ⟨fun e => by rw [e] at l; exact absurd l (by decide), by omega, fun z hz => by have := p.rng x m z hz; omega⟩
  · refine ⟨(fun e => nomatch e), by show 1 ≤ 100; decide, fun z hz => ?_⟩
    rw [List.mem_singleton.mp hz]
    omega
theorem TbOk.put {G : Hp} {t q : Addr} {gs x : List Int} {rs ms : List (List Int)} {kvs : List (L2.Key × L2.V)} (h : TbOk G t gs rs ms kvs) (p : Par rs) (few : rs.length < 20) (allH : ∀ y ∈ ms, Half rs y) (hx : Half rs x) (eq : G q = some (.lst [.int ((trR rs x).cost gs false), .int ((trR rs x).cost gs true)])) :
    TbOk (upd G t (.dK (putK kvs (Sum.inr (txt x)) (.ref q)))) t gs rs (ms ++ [x]) (putK kvs (Sum.inr (txt x)) (.ref q)) := by
  have ne : ∀ {q' : Addr} {xs : List L2.V}, G q' = some (.lst xs) → q' ≠ t := fun e z => by
    rw [z, h.top] at e
    cases e
  refine ⟨upd_same, ?_, fun y hy => ?_⟩
  · have := length_putK kvs (Sum.inr (txt x)) (.ref q)
    have := h.len
    rw [List.length_append, List.length_singleton]
    omega
  · rw [valV_put]
    by_cases e : txt y = txt x
    · have hy2 : Half rs y := (List.mem_append.mp hy).elim (allH y) fun z => by rw [List.mem_singleton.mp z]; exact hx
      have k1 := half_key p few hy2
      have k2 := half_key p few hx
      have exy : y = x := txt_inj k1.1 k2.1 k1.2.2 k2.2.2 e
      rw [exy, if_pos rfl]
      exact ⟨q, rfl, (upd_ne (ne eq)).trans eq⟩
    · rw [if_neg fun z => e (Sum.inr.inj z)]
      rcases List.mem_append.mp hy with z | z
      · obtain ⟨q', e1, e2⟩ := h.val y z
        exact ⟨q', e1, (upd_ne (ne e2)).trans e2⟩
      · exact absurd (congrArg txt (List.mem_singleton.mp z)) e
/-- the least number of changes, by what groups cost -/
def spCosts (K : PySem.W.Frag) : Sp := fun vs H Q _ => ∃ (a b : Addr) (bs : List (Addr × List Int)) (gs : List Int), vs = [.ref a, .int ((bs.length : Int) + 1), .ref b] ∧ Rl H a bs ∧ Par (bs.map (·.2)) ∧ bs.length < 20 ∧ H b = some (.lst (gs.map V.int)) ∧
  ∀ H', Grows H H' → Q (.int ((trR (bs.map (·.2)) (allR (bs.map (·.2)))).conf gs)) H'
section
variable {P : Program} {w : World} {K : PySem.W.Frag} {mg : Str → Option Value} {base : Heap}
theorem scCosts : FnScope ["lot", "many_here", "gang", "table", "who", "size_here", "row", "costs", "mark", "below", "half", "cost"] ["lot", "many_here", "gang"] (defScope sCosts) := ⟨rfl, rfl, rfl, by decide +kernel, rfl, by decide +kernel, by decide +kernel⟩
theorem ok_costs {f fHalves : Addr} {fd dHalves : FuncData} (F : Fun K "_law_by_costs" "_law_by_costs" sCosts f fd) (T : TxtP mg) (T0 : Txt0 mg) (gRepr : mg "repr" = none) (GHalves : FnOk P w K mg base CX0 1 fHalves dHalves ["lot", "row"] (spHalves K)) (FHalves : Fun K "_law_halves" "_law_halves" sHalves fHalves dHalves) (gHalves : mg "_law_halves" = some (.ref fHalves)) (bHalves : Binds K dHalves ["lot", "row"] []) : FnG P w K mg base CX0 2 f fd ["lot", "many_here", "gang"] (spCosts K) := by
  refine okG F scCosts (fun vs H Q E h => ?_) (fun cdv A outer s H vs Q E hr noG h => ?_)
  · obtain ⟨a, b, bs, gs, rfl, _⟩ := h
    rfl
  · obtain ⟨a, b, bs, gs, rfl, hB, par, few, hb, k⟩ := h
    refine ⟨_, (pss_cons (ps_set (i := 3) scCosts.nd rfl (.inr rfl) pe_dnewK)
      (pss_cons (ps_for PassesOwn.never rfl (pi_range1 (by rfl) T.range (pa_cons (pv 1) pa_nil)) (pg_name (i := 4) scCosts.nd rfl (.inl rfl))
      (pss_one (ps_dput (hu_of hr) (pv 3) (pe_callB (id := "repr") (r := rReprI K) (by exact cr_reprI noG hr.units) (by rfl) gRepr (by decide +kernel) (pa_cons (pe_lst (pa_cons (pv 4) pa_nil)) pa_nil)) (pe_ifExp (pt_cmpR (r := rIn K false) (by exact op_in_seq) (pv 4) (pv 2) (by rfl)) (pe_lst (pa_cons pe_int (pa_cons pe_int pa_nil))) (pe_lst (pa_cons pe_int (pa_cons pe_int pa_nil)))) rfl)))
      (pss_cons (ps_for PassesOwn.never rfl (pi_list (pe_callB (call_sortedP hr.units) (by rfl) T.sorted (by decide +kernel) (pa_cons (pe_lc (own := [("row", 6)]) (g := gName 6) (tt := tYes) rfl scCosts.nd (pi_list (pv 0)) (blkOk_by (own := [("row", 6)]) (N := ["lot", "many_here", "gang", "table", "who", "size_here", "row", "costs", "mark", "below", "half", "cost"]) (sc := defScope sCosts) (by decide +kernel)) (fun _ _ _ _ _ => pg_name (i := 6) scCosts.nd rfl (Or.inl rfl)) (fun _ _ _ _ _ => pts_nil) (fun _ _ _ _ _ => (pe_tup (pa_cons (pe_callB (id := "len") (r := rLenS K) (by exact call_lenK) (by rfl) T.len (by decide +kernel) (pa_cons (pv 6) pa_nil)) (pa_cons (pv 6) pa_nil))))) pa_nil))) (pg_tup (by rfl) (pgs_cons (pg_name (i := 5) scCosts.nd rfl (.inl rfl)) (pgs_cons (pg_name (i := 6) scCosts.nd rfl (.inl rfl)) pgs_nil)))
      (pss_cons (ps_set (i := 7) scCosts.nd rfl (.inl rfl) (pe_lst pa_nil))
      (pss_cons (ps_for PassesOwn.never rfl (pi_tup (pe_tup (pa_cons pe_int (pa_cons pe_int pa_nil)))) (pg_name (i := 8) scCosts.nd rfl (.inr rfl))
      (pss_cons (ps_setLc (i := 9) (own := [("half", 10)]) (g := gName 10) (tt := tYes) rfl scCosts.nd rfl rfl (sw_true rfl rfl rfl (by decide +kernel)) (pi_list (pe_call GHalves (hr.mono (by decide)) rfl gHalves FHalves.kp bHalves .nil pass0 (pa_cons (pv 0) (pa_cons (pv 6) pa_nil)))) (blkOk_by (own := [("half", 10)]) (N := ["lot", "many_here", "gang", "table", "who", "size_here", "row", "costs", "mark", "below", "half", "cost"]) (sc := defScope sCosts) (by decide +kernel)) (fun _ _ _ _ _ => pg_name (i := 10) scCosts.nd rfl (Or.inl rfl)) (fun _ _ _ _ _ => pts_nil) (fun _ _ _ _ _ => (pe_dget (hu_of hr) (pv 3) (pe_callB (id := "repr") (r := rReprI K) (by exact cr_reprI noG hr.units) (by rfl) gRepr (by decide +kernel) (pa_cons (pv 10) pa_nil)) (fun _ _ => rfl))))
      (pss_one (ps_expr (pe_bm PySem.F.plainAttrs_list PySem.F.slot_list_append PySem.F.type_list_append mt_append (pv 7) (pa_cons (pe_callB (id := "sum") (r := rSum K) (by exact cr_sum rfl) (by rfl) T.sum (by decide +kernel) (pa_cons (pe_lc (own := [("cost", 11)]) (g := gName 11) (tt := tYes) rfl scCosts.nd (pi_list (pv 9)) (blkOk_by (own := [("cost", 11)]) (N := ["lot", "many_here", "gang", "table", "who", "size_here", "row", "costs", "mark", "below", "half", "cost"]) (sc := defScope sCosts) (by decide +kernel)) (fun _ _ _ _ _ => pg_name (i := 11) scCosts.nd rfl (Or.inl rfl)) (fun _ _ _ _ _ => pts_nil) (fun _ _ _ _ _ => (pe_callB (call_min2 rfl) (by rfl) T0.min (by decide +kernel) (pa_cons (pe_ix (r := rIxL K) ix_list (pv 11) (pv 8) (fun _ _ => rfl)) (pa_cons (pe_op op_add (pe_ix (r := rIxL K) ix_list (pv 11) (pe_op op_sub pe_int (pv 8)) (fun _ _ => rfl)) pe_int) pa_nil))))) pa_nil)) pa_nil))))))
      (pss_one (ps_dput (hu_of hr) (pv 3) (pe_callB (id := "repr") (r := rReprI K) (by exact cr_reprI noG hr.units) (by rfl) gRepr (by decide +kernel) (pa_cons (pv 6) pa_nil)) (pv 7) rfl)))))
      (pss_one (ps_ret (pe_callB (id := "min") (r := rMin K) (by exact cr_min rfl) (by rfl) T0.min (by decide +kernel) (pa_cons (pe_dget (hu_of hr) (pv 3) (pe_callB (id := "repr") (r := rReprI K) (by exact cr_reprI noG hr.units) (by rfl) gRepr (by decide +kernel) (pa_cons (pe_listRg rfl (by rfl) T.list (prg_1 (by rfl) T.range (pv 1))) pa_nil)) (fun _ _ => rfl)) pa_nil))))))), ?_⟩
    obtain ⟨rs, ers⟩ : ∃ rs, rs = bs.map (·.2) := ⟨_, rfl⟩
    have rl : rs.length = bs.length := by rw [ers, List.length_map]
    rw [← ers] at k par
    have en : (bs.length : Int) + 1 = ((bs.length + 1 : Nat) : Int) := by omega
    rw [en]
    refine fun M hM => ?_
    show tSeq _ _ _ [some (.ref a), some (.int ((bs.length + 1 : Nat) : Int)), some (.ref b), some (.ref M), none, none, none, none, none, none, none, none] (upd H M (.dK []))
    have gM := Grows.new (o := .dK []) hM
    have tb0 : TbOk (upd H M (.dK [])) M gs rs (singles 0) [] := ⟨upd_same, Nat.le_refl _, fun x hx => nomatch hx⟩
    generalize upd H M (.dK []) = H1 at gM tb0
    refine ⟨_, rfl, _, rfl, by omega, by omega, for_range (lo := 0) (n := ((bs.length + 1 : Nat) : Int).toNat) (fun i σ G => ∃ (o4 : Option L2.V) (kvs : List (L2.Key × L2.V)), σ = [some (.ref a), some (.int ((bs.length + 1 : Nat) : Int)), some (.ref b), some (.ref M), o4, none, none, none, none, none, none, none] ∧ Grows H G ∧ TbOk G M gs rs (singles i) kvs)
      ⟨none, [], rfl, gM, tb0⟩ (fun i σ G hi ⟨o4, kvs, e, g, tb⟩ => ?_) fun σ G ⟨o4, kvs, e, g, tb⟩ => ?_⟩
    · subst e
      rw [Int.toNat_natCast] at hi
      have hb1 := g _ _ hb
      have allH : ∀ x ∈ singles i, Half rs x := fun x hx => by
        obtain ⟨q, q0, q1, e⟩ := singles_mem.mp hx
        exact .inr ⟨q, e, q0, by omega⟩
      refine nm_d ?_
      dsimp only [List.set_cons_succ, List.set_cons_zero]
      refine ⟨_, rfl, _, rfl, b, _, rfl, .inl (SqL.of hb1), rfl, flat_ints _, _, rfl, ?_⟩
      show if inV (V.int (0 + (i : Int))) (gs.map V.int) = true then _ else _
      rw [inV_ints, Int.zero_add]
      -- the list of both costs, new
      have hx : Half rs [(i : Int)] := .inr ⟨i, rfl, by omega, by omega⟩
      have next : ∀ (q : Addr) (G' : Hp), Grows G G' → G' q = some (.lst [.int ((trR rs [(i : Int)]).cost gs false), .int ((trR rs [(i : Int)]).cost gs true)]) → ∃ G5, DPut G' M (.str (txt [(i : Int)])) (.ref q) G5 ∧ ∃ (o4 : Option L2.V) (kvs : List (L2.Key × L2.V)), [some (L2.V.ref a), some (.int ((bs.length + 1 : Nat) : Int)), some (.ref b), some (.ref M), some (.int (i : Int)), none, none, none, none, none, none, none] = [some (.ref a), some (.int ((bs.length + 1 : Nat) : Int)), some (.ref b), some (.ref M), o4, none, none, none, none, none, none, none] ∧ Grows H G5 ∧ TbOk G5 M gs rs (singles (i + 1)) kvs := fun q G' g' eq => by
        refine ⟨_, DPut.k (k := Sum.inr (txt [(i : Int)])) (g' _ _ tb.top) ?_, _, putK kvs (Sum.inr (txt [(i : Int)])) (.ref q), rfl, fun b' o e => ?_, ?_⟩
        · have := tb.len
          rw [singles_len] at this
          exact Nat.lt_of_le_of_lt (show kvs.length ≤ 20 by omega) (by decide)
        · rw [upd_ne (ne_of_none e hM)]
          exact g' _ _ (g _ _ e)
        · rw [singles_more]
          exact (tb.grow g').put par (by omega) allH hx eq
      by_cases m : (i : Int) ∈ gs
      · rw [decide_eq_true m]
        refine iteT ⟨(by show 2 ≤ sizeLine; decide), fun q hq => ⟨_, rfl, _, rfl, (by show 1 ≤ sizeLine; decide), fun q2 hq2 => ⟨q2, [(i : Int)], rfl, SqL.of upd_same, (by show 1 ≤ 100; decide), fun z hz => by rw [List.mem_singleton.mp hz]; omega, ?_⟩⟩⟩
        obtain ⟨G5, d, nx⟩ := next q _ ((Grows.new (o := .lst [.int 99, .int 0]) hq).trans (Grows.new (o := .lst [V.int (i : Int)]) hq2)) (Grows.new hq2 _ _ (by
          rw [upd_same, tr_leaf par]
          unfold Tr.cost
          rw [decide_eq_true m]
          rfl))
        exact ⟨M, G5, rfl, d, nx⟩
      · rw [decide_eq_false m]
        refine iteF ⟨(by show 2 ≤ sizeLine; decide), fun q hq => ⟨_, rfl, _, rfl, (by show 1 ≤ sizeLine; decide), fun q2 hq2 => ⟨q2, [(i : Int)], rfl, SqL.of upd_same, (by show 1 ≤ 100; decide), fun z hz => by rw [List.mem_singleton.mp hz]; omega, ?_⟩⟩⟩
        obtain ⟨G5, d, nx⟩ := next q _ ((Grows.new (o := .lst [.int 0, .int 99]) hq).trans (Grows.new (o := .lst [V.int (i : Int)]) hq2)) (Grows.new hq2 _ _ (by
          rw [upd_same, tr_leaf par]
          unfold Tr.cost
          rw [decide_eq_false m]
          rfl))
        exact ⟨M, G5, rfl, d, nx⟩
    · subst e
      rw [Int.toNat_natCast] at tb
      have hB1 := hB.grow g
      refine ⟨_, rfl, a, rfl, ⟨_, SqL.of hB1.top⟩, fun D hD => lc_list (K := K) (a := a) (xs := bs.map fun b => V.ref b.1) (fun i G' => Grows G G' ∧ ∃ ds : List Pr, ds.map (·.2) = bs.take i ∧ (∀ d ∈ ds, G' d.1 = some (.tup [V.int (d.2.2.length : Nat), V.ref d.2.1]) ∧ d.1 ≠ D) ∧ G' D = some (.lst (ds.map fun d => V.ref d.1)))
        ⟨Grows.new hD, [], rfl, (fun _ z => nomatch z), upd_same⟩ (fun i G' _ ⟨gg, _⟩ => SqL.of (gg _ _ hB1.top)) (fun i x G' hx ⟨gg, ds, ed, each, eD⟩ => ?_) fun G' ⟨gg, ds, ed, each, eD⟩ => ?_⟩
      · have il := (List.getElem?_eq_some_iff.mp hx).1
        rw [List.length_map] at il
        obtain rfl := at_map (d := (0, [])) hx
        obtain ⟨c, ec⟩ : ∃ c, c = bs.getD i (0, []) := ⟨_, rfl⟩
        have ec2 : bs[i]? = some c := by
          rw [ec, List.getD_eq_getElem?_getD, List.getElem?_eq_getElem il]
          rfl
        rw [← ec]
        have row := gg _ _ (hB1.each c (List.mem_of_getElem? ec2))
        refine ⟨rfl, ?_⟩
        unfold tYes
        dsimp only
        rw [if_pos rfl]
        have dl : ds.length ≤ i := by
          have q := congrArg List.length ed
          rw [List.length_map, List.length_take] at q
          omega
        refine ⟨_, rfl, _, _, rfl, .inl (SqL.of row), _, rfl, (by show 2 ≤ sizeLine; decide), fun t ht => ?_⟩
        rw [List.length_map]
        have gt := Grows.new (o := .tup [V.int (c.2.length : Nat), V.ref c.1]) ht
        have tD : t ≠ D := (ne_of_none eD ht).symm
        refine ⟨_, gt _ _ eD, ?_, fun b' o e => ?_, ds ++ [(t, c)], ?_, fun d hd => ?_, ?_⟩
        · rw [List.length_map]
          exact Nat.lt_of_le_of_lt (show ds.length ≤ 20 by omega) (by decide)
        · rw [upd_ne (ne_of_none e hD)]
          exact gt _ _ (gg _ _ e)
        · rw [List.map_append, ed, List.take_succ, ec2]
          rfl
        · rcases List.mem_append.mp hd with z | z
          · rw [upd_ne (each d z).2]
            exact ⟨gt _ _ (each d z).1, (each d z).2⟩
          · rw [List.mem_singleton.mp z, upd_ne tD, upd_same]
            exact ⟨rfl, tD⟩
        · rw [upd_same, List.map_append]
          rfl
      · rw [List.length_map, List.take_length] at ed
        have inb : ∀ d ∈ ds, d.2 ∈ bs := fun d hd => by
          rw [← ed]
          exact List.mem_map.mpr ⟨d, hd, rfl⟩
        have hB2 := hB1.grow gg
        refine ⟨D, ds, rfl, SqL.of eD, fun d hd => ⟨SqT.of (each d hd).1, SqL.of (hB2.each _ (inb d hd))⟩, fun p hp => ?_⟩
        have gp := Grows.new (o := .lst ((ds.mergeSort lenLe).map fun d => V.ref d.1)) hp
        obtain ⟨cs, ecs⟩ : ∃ cs, cs = ds.mergeSort lenLe := ⟨_, rfl⟩
        have pcs : cs.Perm ds := by
          rw [ecs]
          exact List.mergeSort_perm _ _
        have srt : cs.Pairwise fun x y => x.2.2.length ≤ y.2.2.length := by
          rw [ecs]
          refine (List.pairwise_mergeSort (le := lenLe) len_trans len_total ds).imp fun {x y} h => ?_
          unfold lenLe at h
          rw [decide_eq_true_eq] at h
          omega
        rw [← ecs] at gp ⊢
        have eM1 := gg _ _ tb.top
        have pM : M ≠ p := ne_of_none eM1 hp
        have tb4 := (tb.grow gg).grow gp
        have each4 : ∀ d ∈ cs, (upd G' p (.lst (cs.map fun d => V.ref d.1))) d.1 = some (.tup [V.int (d.2.2.length : Nat), V.ref d.2.1]) := fun d hd => gp _ _ (each d (pcs.mem_iff.mp hd)).1
        have ep4 : (upd G' p (.lst (cs.map fun d => V.ref d.1))) p = some (.lst (cs.map fun d => V.ref d.1)) := upd_same
        have gH4 := (g.trans gg).trans gp
        generalize upd G' p (.lst (cs.map fun d => V.ref d.1)) = G4 at tb4 each4 ep4 gH4 ⊢
        have rows : (cs.map (·.2.2)).Perm rs := by
          rw [ers, ← ed, List.map_map]
          exact pcs.map _
        have csl : cs.length = bs.length := by
          have q := rows.length_eq
          rwa [List.length_map, rl] at q
        have nM : ∀ {q : Addr} {o : HO}, G4 q = some o → (∀ k, o ≠ .dK k) → q ≠ M := fun {q o} e n z => by
          rw [z, tb4.top] at e
          exact n _ (Option.some.inj e).symm
        refine ⟨p, rfl, ⟨_, SqL.of ep4⟩, for_list (K := K) (a := p) (xs := cs.map fun d => V.ref d.1) (fun i σ G => ∃ (o5 o6 o7 o8 o9 : Option L2.V) (kvs : List (L2.Key × L2.V)), σ = [some (.ref a), some (.int ((bs.length + 1 : Nat) : Int)), some (.ref b), some (.ref M), o4, o5, o6, o7, o8, o9, none, none] ∧ Gr M G4 G ∧ Grows H G ∧ TbOk G M gs rs (singles (bs.length + 1) ++ (cs.map (·.2.2)).take i) kvs)
          ⟨none, none, none, none, none, kvs, rfl, .refl, gH4, by rw [List.take_zero, List.append_nil]; exact tb4⟩ (fun i σ G _ ⟨_, _, _, _, _, _, _, gr, _⟩ => SqL.of (gr _ _ pM.symm ep4)) (fun i x σ G hx ⟨o5, o6, o7, o8, o9, kv, e, gr, gH, tbi⟩ => ?_) fun σ G ⟨o5, o6, o7, o8, o9, kv, e, gr, gH, tbi⟩ => ?_⟩
        · subst e
          have il := (List.getElem?_eq_some_iff.mp hx).1
          rw [List.length_map] at il
          obtain rfl := at_map (d := (0, 0, [])) hx
          obtain ⟨c, ec⟩ : ∃ c, c = cs.getD i (0, 0, []) := ⟨_, rfl⟩
          have ec2 : cs[i]? = some c := by
            rw [ec, List.getD_eq_getElem?_getD, List.getElem?_eq_getElem il]
            rfl
          rw [← ec]
          have cm := List.mem_of_getElem? ec2
          have cb : c.2 ∈ bs := inb c (pcs.mem_iff.mp cm)
          have cr : c.2.2 ∈ rs := by
            rw [ers]
            exact List.mem_map.mpr ⟨_, cb, rfl⟩
          have et := gr _ _ (nM (each4 c cm) fun k z => nomatch z) (each4 c cm)
          refine ⟨c.1, _, rfl, SqT.of et, rfl, _, _, rfl, _, _, rfl, rfl, ?_⟩
          dsimp only [List.set_cons_succ, List.set_cons_zero]
          refine ⟨(by show 0 ≤ sizeLine; decide), fun C hC => ?_⟩
          have gC := Grows.new (o := .lst []) hC
          have eC : (upd G C (.lst [])) C = some (.lst (([] : List Int).map V.int)) := upd_same
          generalize upd G C (.lst []) = G5 at gC eC
          show tSeq _ _ _ [some (.ref a), some (.int ((bs.length + 1 : Nat) : Int)), some (.ref b), some (.ref M), o4, some (.int (c.2.2.length : Nat)), some (.ref c.2.1), some (.ref C), o8, o9, none, none] G5
          -- both halves stand in the table
          have allms : ∀ y, Half rs y → y.length < c.2.2.length → y ∈ singles (bs.length + 1) ++ (cs.map (·.2.2)).take i := fun y hy ly => by
            rcases hy with m | ⟨q, rfl, q0, q1⟩
            · obtain ⟨d, hd, e⟩ := List.mem_map.mp (rows.mem_iff.mpr m)
              obtain ⟨j, hj, ej⟩ := List.getElem_of_mem hd
              refine List.mem_append.mpr (.inr ?_)
              have ji : j < i := by
                rcases Nat.lt_or_ge j i with z | z
                · exact z
                · exfalso
                  have ci : cs[i] = c := (List.getElem?_eq_some_iff.mp ec2).2
                  rcases Nat.lt_or_ge i j with q | q
                  · have := List.pairwise_iff_getElem.mp srt i j il hj q
                    rw [ci, ej, e] at this
                    omega
                  · obtain rfl : i = j := by omega
                    rw [ci] at ej
                    rw [ej, e] at ly
                    omega
              rw [← List.map_take]
              exact List.mem_map.mpr ⟨d, List.mem_take_iff_getElem.mpr ⟨j, by omega, ej⟩, e⟩
            · exact List.mem_append.mpr (.inl (singles_mem.mpr ⟨q, q0, by omega, rfl⟩))
          have cp := par.cut _ cr
          have cl := cut_lt par cr
          obtain ⟨t1, v1, w1⟩ := tbi.val _ (allms _ cp.ha cl.1)
          obtain ⟨t2, v2, w2⟩ := tbi.val _ (allms _ cp.hb cl.2)
          have tn := tr_node par cr
          obtain ⟨l0, el0⟩ : ∃ z, z = (trR rs (firR rs c.2.2)).cost gs false := ⟨_, rfl⟩
          obtain ⟨l1, el1⟩ : ∃ z, z = (trR rs (firR rs c.2.2)).cost gs true := ⟨_, rfl⟩
          obtain ⟨r0, er0⟩ : ∃ z, z = (trR rs (secR rs c.2.2)).cost gs false := ⟨_, rfl⟩
          obtain ⟨r1, er1⟩ : ∃ z, z = (trR rs (secR rs c.2.2)).cost gs true := ⟨_, rfl⟩
          rw [← el0, ← el1] at w1
          rw [← er0, ← er1] at w2
          have c0 : (trR rs c.2.2).cost gs false = min l0 (l1 + 1) + min r0 (r1 + 1) := by
            rw [tn, el0, el1, er0, er1]
            rfl
          have c1 : (trR rs c.2.2).cost gs true = min l1 (l0 + 1) + min r1 (r0 + 1) := by
            rw [tn, el0, el1, er0, er1]
            rfl
          refine ⟨(by show 2 ≤ sizeLine; decide), fun T hT => ⟨T, rfl, ⟨_, SqT.of upd_same⟩, for_tup (K := K) (a := T) (xs := [V.int 0, V.int 1]) (fun j σ G6 => ∃ (o8 o9 : Option L2.V), σ = [some (.ref a), some (.int ((bs.length + 1 : Nat) : Int)), some (.ref b), some (.ref M), o4, some (.int (c.2.2.length : Nat)), some (.ref c.2.1), some (.ref C), o8, o9, none, none] ∧ Grows G G6 ∧ G6 T = some (.tup [V.int 0, V.int 1]) ∧ G6 C = some (.lst ((([(trR rs c.2.2).cost gs false, (trR rs c.2.2).cost gs true]).take j).map V.int)))
            ⟨_, _, rfl, gC.trans (Grows.new hT), upd_same, Grows.new hT _ _ eC⟩ (fun j σ G6 _ ⟨_, _, _, _, e, _⟩ => SqT.of e) (fun j x σ G6 hx6 ⟨p8, p9, e, g6, eT, eC6⟩ => ?_) fun σ G6 ⟨p8, p9, e, g6, eT, eC6⟩ => ?_⟩⟩
          · subst e
            have jl := (List.getElem?_eq_some_iff.mp hx6).1
            obtain ⟨m, rfl, hm⟩ : ∃ m : Int, x = .int m ∧ ((j = 0 ∧ m = 0) ∨ (j = 1 ∧ m = 1)) := by
              match j, hx6 with
              | 0, hx6 => cases hx6; exact ⟨0, rfl, .inl ⟨rfl, rfl⟩⟩
              | 1, hx6 => cases hx6; exact ⟨1, rfl, .inr ⟨rfl, rfl⟩⟩
              | j + 2, hx6 => cases hx6
            refine nm_b ?_
            dsimp only [List.set_cons_succ, List.set_cons_zero]
            have hB6 := (hB.grow gH).grow g6
            have tb6 := tbi.grow g6
            refine ⟨_, rfl, _, rfl, a, c.2.1, bs, c.2.2, rfl, hB6.rw, SqL.of (hB6.each _ cb), by rw [← ers]; exact par, by rw [← ers]; exact cr, few, fun ph q1 q2 G7 g7 ep e1 e2 => ⟨ph, rfl, ⟨_, SqL.of ep⟩, fun D2 hD2 => lc_list (K := K) (a := ph) (xs := [V.ref q1, V.ref q2]) (fun m G8 => Grows G7 G8 ∧ G8 D2 = some (.lst ([V.ref t1, V.ref t2].take m)))
              ⟨Grows.new hD2, upd_same⟩ (fun m G8 _ ⟨gg, _⟩ => SqL.of (gg _ _ ep)) (fun k2 x G8 hx8 ⟨gg, eD2⟩ => ?_) fun G8 ⟨gg, eD2⟩ => ?_⟩⟩
            · rw [← ers] at e1 e2
              refine ⟨rfl, ?_⟩
              unfold tYes
              dsimp only
              rw [if_pos rfl]
              have tb8 := (tb6.grow g7).grow gg
              have k1 := half_key par (by omega) cp.ha
              have k2' := half_key par (by omega) cp.hb
              match k2, hx8 with
              | 0, hx8 =>
                cases hx8
                refine ⟨_, rfl, _, rfl, q1, firR rs c.2.2, rfl, gg.seq e1, k1.2.1, k1.2.2, M, .ref t1, rfl, v1 ▸ DGet.k (k := Sum.inr (txt (firR rs c.2.2))) tb8.top, _, eD2, by show 0 < sizeLine; decide, fun b' o e => ?_, upd_same⟩
                rw [upd_ne (ne_of_none e hD2)]
                exact gg _ _ e
              | 1, hx8 =>
                cases hx8
                refine ⟨_, rfl, _, rfl, q2, secR rs c.2.2, rfl, gg.seq e2, k2'.2.1, k2'.2.2, M, .ref t2, rfl, v2 ▸ DGet.k (k := Sum.inr (txt (secR rs c.2.2))) tb8.top, _, eD2, by show 1 < sizeLine; decide, fun b' o e => ?_, upd_same⟩
                rw [upd_ne (ne_of_none e hD2)]
                exact gg _ _ e
              | k2 + 2, hx8 => cases hx8
            · have eD2' : G8 D2 = some (.lst [V.ref t1, V.ref t2]) := eD2
              have g78 := g7.trans gg
              have g8 := g6.trans g78
              have eC8 := g78 _ _ eC6
              have eT8 := g78 _ _ eT
              have w18 := g8 _ _ w1
              have w28 := g8 _ _ w2
              obtain ⟨lm, ln, rm, rn, a1, a2, a3, a4, tot⟩ : ∃ lm ln rm rn : Int, atI [V.int l0, V.int l1] m = some (.int lm) ∧ atI [V.int l0, V.int l1] (1 - m) = some (.int ln) ∧ atI [V.int r0, V.int r1] m = some (.int rm) ∧ atI [V.int r0, V.int r1] (1 - m) = some (.int rn) ∧ [(trR rs c.2.2).cost gs false, (trR rs c.2.2).cost gs true].take (j + 1) = [(trR rs c.2.2).cost gs false, (trR rs c.2.2).cost gs true].take j ++ [min lm (ln + 1) + min rm (rn + 1)] := by
                rcases hm with ⟨rfl, rfl⟩ | ⟨rfl, rfl⟩
                · exact ⟨l0, l1, r0, r1, atI_nat (j := 0) rfl, atI_nat (j := 1) rfl, atI_nat (j := 0) rfl, atI_nat (j := 1) rfl, by rw [← c0]; rfl⟩
                · exact ⟨l1, l0, r1, r0, atI_nat (j := 1) rfl, atI_nat (j := 0) rfl, atI_nat (j := 1) rfl, atI_nat (j := 0) rfl, by rw [← c1]; rfl⟩
              have fin : ∀ x y : Int, (if y < x then y else x) = min x y := fun x y => by
                rw [Int.min_def]
                split <;> split <;> omega
              refine ⟨_, rfl, .inl ⟨rfl, _, SqL.of eC8⟩, _, rfl, D2, rfl, ⟨_, SqL.of eD2'⟩, fun D3 hD3 => lc_list (K := K) (a := D2) (xs := [V.ref t1, V.ref t2]) (fun k3 G9 => Grows G8 G9 ∧ G9 D3 = some (.lst (([min lm (ln + 1), min rm (rn + 1)].take k3).map V.int)))
                ⟨Grows.new hD3, upd_same⟩ (fun k3 G9 _ ⟨gg9, _⟩ => SqL.of (gg9 _ _ eD2')) (fun k3 x G9 hx9 ⟨gg9, eD3⟩ => ?_) fun G9 ⟨gg9, eD3⟩ => ?_⟩
              · refine ⟨rfl, ?_⟩
                unfold tYes
                dsimp only
                rw [if_pos rfl]
                match k3, hx9 with
                | 0, hx9 =>
                  cases hx9
                  have w := gg9 _ _ w18
                  refine ⟨_, rfl, _, rfl, t1, _, m, .int lm, rfl, rfl, SqL.of w, a1, _, rfl, _, rfl, _, _, rfl, rfl, t1, _, 1 - m, .int ln, rfl, rfl, SqL.of w, a2, _, _, rfl, rfl, lm, ln + 1, rfl, ?_⟩
                  rw [fin]
                  refine ⟨_, eD3, by show 0 < sizeLine; decide, fun b' o e => ?_, upd_same⟩
                  rw [upd_ne (ne_of_none e hD3)]
                  exact gg9 _ _ e
                | 1, hx9 =>
                  cases hx9
                  have w := gg9 _ _ w28
                  refine ⟨_, rfl, _, rfl, t2, _, m, .int rm, rfl, rfl, SqL.of w, a3, _, rfl, _, rfl, _, _, rfl, rfl, t2, _, 1 - m, .int rn, rfl, rfl, SqL.of w, a4, _, _, rfl, rfl, rm, rn + 1, rfl, ?_⟩
                  rw [fin]
                  refine ⟨_, eD3, by show 1 < sizeLine; decide, fun b' o e => ?_, upd_same⟩
                  rw [upd_ne (ne_of_none e hD3)]
                  exact gg9 _ _ e
                | k3 + 2, hx9 => cases hx9
              · have eD3' : G9 D3 = some (.lst ([min lm (ln + 1), min rm (rn + 1)].map V.int)) := eD3
                have eC9 := gg9 _ _ eC8
                have eT9 := gg9 _ _ eT8
                have sum2 : [min lm (ln + 1), min rm (rn + 1)].sum = min lm (ln + 1) + min rm (rn + 1) := by simp
                refine ⟨D3, _, rfl, SqL.of eD3', C, _, _, rfl, rfl, eC9, ?_, some (.int m), some (.ref D2), rfl, fun b' o e => ?_, ?_, ?_⟩
                · rw [List.length_map, List.length_take]
                  exact Nat.lt_of_le_of_lt (Nat.min_le_left _ _) (Nat.lt_of_lt_of_le (show j < 2 from jl) (by decide))
                · rw [upd_ne (ne_of_none e hC)]
                  exact gg9 _ _ (g8 _ _ e)
                · rw [upd_ne fun z => by rw [z, eC9] at eT9; cases eT9]
                  exact eT9
                · rw [upd_same, tot, List.map_append, sum2]
                  rfl
          · subst e
            have row := ((hB.grow gH).grow g6).each _ cb
            have kc := half_key par (by omega) (.inl cr)
            have tb6 := tbi.grow g6
            have allH : ∀ y ∈ singles (bs.length + 1) ++ (cs.map (·.2.2)).take i, Half rs y := fun y hy => by
              rcases List.mem_append.mp hy with z | z
              · obtain ⟨q, q0, q1, e⟩ := singles_mem.mp z
                exact .inr ⟨q, e, q0, by omega⟩
              · exact .inl (rows.mem_iff.mp (List.mem_of_mem_take z))
            refine ⟨_, rfl, _, rfl, _, rfl, c.2.1, c.2.2, rfl, SqL.of row, kc.2.1, kc.2.2, M, _, rfl, DPut.k (k := Sum.inr (txt c.2.2)) tb6.top ?_, _, _, _, _, _, putK kv (Sum.inr (txt c.2.2)) (.ref C), rfl, fun b' o ne e => ?_, fun b' o e => ?_, ?_⟩
            · have l := tb6.len
              rw [List.length_append, singles_len, List.length_take] at l
              exact Nat.lt_of_le_of_lt (show kv.length ≤ 100 by omega) (by decide)
            · rw [upd_ne ne]
              exact g6 _ _ (gr _ _ ne e)
            · rw [upd_ne (ne_of_none e hM)]
              exact g6 _ _ (gH _ _ e)
            · have nxt : singles (bs.length + 1) ++ (cs.map (·.2.2)).take (i + 1) = (singles (bs.length + 1) ++ (cs.map (·.2.2)).take i) ++ [c.2.2] := by
                rw [List.take_succ, List.getElem?_map, ec2, List.append_assoc]
                rfl
              rw [nxt]
              exact tb6.put par (by omega) allH (.inl cr) eC6
        · subst e
          rw [List.length_map, List.take_of_length_le (by rw [List.length_map]; exact Nat.le_refl _)] at tbi
          have ea : allR rs = upto (bs.length + 1) := by
            unfold allR
            rw [rl]
          have hall : allR rs ∈ singles (bs.length + 1) ++ cs.map (·.2.2) := by
            rcases all_half par with m | ⟨q, e, q0, q1⟩
            · exact List.mem_append.mpr (.inr (rows.mem_iff.mpr m))
            · rw [e]
              exact List.mem_append.mpr (.inl (singles_mem.mpr ⟨q, q0, by omega, rfl⟩))
          obtain ⟨q, v, e⟩ := tbi.val _ hall
          have mc := min_conf (A := gs) (trR rs (allR rs))
          rw [ea] at v
          refine ⟨_, rfl, _, rfl, _, rfl, .of_le (by decide) (by omega) (by decide) (by omega), fun q2 hq2 => ⟨q2, upto (bs.length + 1), rfl, SqL.of (by rw [upd_same, rg_upto]), by rw [upto_len]; omega, fun z hz => by have := upto_in.mp hz; omega, M, .ref q, rfl, v ▸ DGet.k (k := Sum.inr (txt (upto (bs.length + 1)))) (Grows.new hq2 _ _ tbi.top), q, [_, _], rfl, SqL.of (Grows.new hq2 _ _ e), (by show 0 < 2; decide), fun m hm lo => ?_⟩⟩
          have m0 := lo _ List.mem_cons_self
          have m1 := lo _ (List.mem_cons_of_mem _ List.mem_cons_self)
          have em : m = (trR rs (allR rs)).conf gs := by
            rcases List.mem_cons.mp hm with z | z
            · omega
            · have := List.mem_singleton.mp z
              omega
          rw [em]
          exact k _ (gH.trans (Grows.new hq2))
end
end K33

namespace K33
open PySem PySem.Spec PyProof.Rows L2 SortR LcM RepA
abbrev sRt : Stmt := top 33
/-! ### others marked in their place, none, all -/
def swp (x : Int) : Int := if x = 1 then 2 else if x = 2 then 1 else x
theorem conf_swap {A B : List Int} : ∀ t : Tr, (∀ q, [q] ∈ t.lanes → (q ∈ B ↔ q ∉ A)) → t.wf → t.mark B = swp (t.mark A) ∧ t.conf B = t.conf A
  | .leaf q, h, _ => by
    have z := h q List.mem_cons_self
    unfold Tr.mark Tr.conf swp
    by_cases m : q ∈ A
    · rw [if_pos m, if_neg fun y => z.mp y m]
      exact ⟨rfl, rfl⟩
    · rw [if_neg m, if_pos (z.mpr m)]
      exact ⟨rfl, rfl⟩
  | .node g l r, h, w => by
    obtain ⟨_, wl, wr⟩ := w
    obtain ⟨l1, l2⟩ := conf_swap l (fun q hq => h q (List.mem_cons_of_mem _ (List.mem_append.mpr (.inl hq)))) wl
    obtain ⟨r1, r2⟩ := conf_swap r (fun q hq => h q (List.mem_cons_of_mem _ (List.mem_append.mpr (.inr hq)))) wr
    unfold Tr.mark Tr.conf
    rw [l1, l2, r1, r2]
    rcases mark_in (A := A) l with h1 | h1 | h1 <;> rcases mark_in (A := A) r with h2 | h2 | h2 <;> rw [h1, h2] <;> exact ⟨by decide, by simp [swp, Builtin.bitAnd]⟩
theorem conf_none : ∀ t : Tr, t.mark [] = 1 ∧ t.conf [] = 0
  | .leaf q => ⟨rfl, rfl⟩
  | .node g l r => by
    obtain ⟨l1, l2⟩ := conf_none l
    obtain ⟨r1, r2⟩ := conf_none r
    unfold Tr.mark Tr.conf
    rw [l1, l2, r1, r2]
    exact ⟨by decide, by decide⟩
section
variable {rs : List (List Int)}
theorem conf_rest (p : Par rs) {A B : List Int} (h : ∀ q : Int, 0 ≤ q → q ≤ (rs.length : Int) → (q ∈ B ↔ q ∉ A)) : (trR rs (allR rs)).conf B = (trR rs (allR rs)).conf A := by
  refine (conf_swap (trR rs (allR rs)) (fun q hq => ?_) (tr_wf p (all_half p))).2
  rcases lanes_half p (all_half p) [q] hq with m | ⟨q', e, q0, q1⟩
  · exact absurd m (one_not p q)
  · rw [(List.cons.inj e).1]
    exact h q' q0 q1
theorem conf_all (p : Par rs) : (trR rs (allR rs)).conf (upto (rs.length + 1)) = 0 := by
  rw [conf_rest p (A := []) (B := upto (rs.length + 1)) fun q q0 q1 => ⟨(fun _ h => nomatch h), fun _ => upto_in.mpr ⟨q0, by omega⟩⟩]
  exact (conf_none _).2
end
/-- repr of rows of small numbers -/
def txtR (rs : List (List Int)) : Str := (PyData.list (rowsP rs)).shown
def rReprR (K : PySem.W.Frag) : List V → Hp → VK → Prop := fun xs H Q => ∃ (a : Addr) (bs : List (Addr × List Int)), xs = [V.ref a] ∧ Rw K H a bs ∧ bs.length ≤ 20 ∧ (∀ r ∈ bs.map (·.2), r.length ≤ 20 ∧ ∀ x ∈ r, 0 ≤ x ∧ x < 20) ∧ Q (.str (txtR (bs.map (·.2)))) H
theorem cr_reprR {X : Cx} (hg : X.A.guards = some []) (hu : X.A.units + 64 < cLine) : CallR X (.builtin "repr") (rReprR X.K) := by
  intro pins s σ H xs us Q I r h
  obtain ⟨a, bs, e, hs, hl, hn, q⟩ := h
  have sm : ∀ r ∈ bs.map (·.2), Smalls r ∧ r.length ≤ 20 := fun r hr => ⟨fun x hx => by
    have := (hn r hr).2 x hx
    exact Nat.lt_of_le_of_lt (show x.natAbs ≤ 20 by omega) (by decide), (hn r hr).1⟩
  have br := brief_rows sm
  refine call_reprL hg hu pins s σ H xs us Q I r ⟨a, _, _, e, hs.top, DdAll.of_dp (rows_data hs.each), show_rows _ fun r hr => (sm r hr).1, ?_, ?_, q⟩
  · exact Nat.le_trans (depth_rows _) (by decide)
  · have e : (PyData.list (rowsP (bs.map (·.2)))).shown = listText (PyData.shownAll (rowsP (bs.map (·.2)))) := by simp only [PyData.shown]
    rw [← e]
    refine PyData.shown_fits (B := 13) (by decide) (by decide) br.lv ?_
    have w : (PyData.list (rowsP (bs.map (·.2)))).weight ≤ (bs.map (·.2)).length * (20 * 42 + 1) := br.wt
    rw [List.length_map] at w
    have : bs.length * (20 * 42 + 1) ≤ 20 * (20 * 42 + 1) := Nat.mul_le_mul_right _ hl
    omega
theorem nm_e {i : Nat} {v : L2.V} {t u : TS} {D E' : Ends} {σ : L2.St} {H : Hp} (e : E'.nx = tSeq t u D) (h : tSeq t u D (σ.set i (some v)) H) : gName i v σ H E'.nx := by
  rw [e]
  exact h
theorem ends_e {t u : TS} {D E' : Ends} {σ : L2.St} {H : Hp} (e : E'.nx = tSeq t u D) (h : tSeq t u D σ H) : E'.nx σ H := by
  rw [e]
  exact h
theorem un_e {X : TS} {D : Ends} {σ : L2.St} {H : Hp} (h : X D σ H) : tSeq Ends.nx X D σ H := h
theorem seq_no {c : TT} {a rest : TS} {D : Ends} {σ : L2.St} {H : Hp} (h : ∀ R : Bool → Hp → Prop, (∀ G, Grows H G → R false G) → c σ H R) (k : ∀ G, Grows H G → rest D σ G) : tSeq (tIfS c a tNext) rest D σ H := h _ fun G g => iteF (k G g)
/-- all by place, or all by name -/
def selL {α : Type} : List α → List α → List α
  | [], ws => ws
  | us, [] => us
  | _, _ => []
structure LwF (P : Program) (w : World) (base : Heap) (K : PySem.W.Frag) (mg : Str → Option Value) where
  (fPick fCome fGroups fCosts fAll fChg : Addr)
  (dPick dCome dGroups dCosts dAll dChg : FuncData)
  FPick : Fun K "_law_pick" "_law_pick" sPick fPick dPick
  FCome : Fun K "_law_come" "_law_come" sCome fCome dCome
  FGroups : Fun K "_law_groups" "_law_groups" sGroups fGroups dGroups
  FCosts : Fun K "_law_by_costs" "_law_by_costs" sCosts fCosts dCosts
  FAll : Fun K "_law_by_all" "_law_by_all" sAll fAll dAll
  FChg : Fun K "changes_of" "changes_of" sChg fChg dChg
  gPick : mg "_law_pick" = some (.ref fPick)
  gCome : mg "_law_come" = some (.ref fCome)
  gGroups : mg "_law_groups" = some (.ref fGroups)
  gCosts : mg "_law_by_costs" = some (.ref fCosts)
  gAll : mg "_law_by_all" = some (.ref fAll)
  gChg : mg "changes_of" = some (.ref fChg)
  bPick : Binds K dPick ["store", "bound"] []
  bCome : Binds K dCome ["store", "many_here"] []
  bGroups : Binds K dGroups ["items"] []
  bCosts : Binds K dCosts ["lot", "many_here", "gang"] []
  bAll : Binds K dAll ["lot", "many_here", "gang"] []
  bChg : Binds K dChg ["parting", "some"] []
  kbChg : KBinds K dChg ["parting", "some"] ["parting", "some"] selL selL
  gRepr : mg "repr" = none
  GPick : FnOk P w K mg base CX0 1 fPick dPick ["store", "bound"] spPick
  GCome : FnOk P w K mg base CX0 2 fCome dCome ["store", "many_here"] spCome
  GGroups : FnOk P w K mg base CX0 1 fGroups dGroups ["items"] (spGroups K)
  GCosts : FnG P w K mg base CX0 2 fCosts dCosts ["lot", "many_here", "gang"] (spCosts K)
  GAll : FnOk P w K mg base CX0 2 fAll dAll ["lot", "many_here", "gang"] (spAll K)
  GChg : FnOk P w K mg base CX0 7 fChg dChg ["parting", "some"] (spChg K)
def spRt : Sp := fun vs H Q _ => ∃ (p : Addr) (n m : Int), vs = [.ref p, .int n] ∧ Pch H p m ∧ m < 2 ^ 40 ∧ 1 ≤ n ∧ n ≤ 20 ∧ ∀ H', Pch H' p (m + 1000) → Gr p H H' → Q (.bl true) H'
section
variable {P : Program} {w : World} {K : PySem.W.Frag} {mg : Str → Option Value} {base : Heap}
theorem scRt : FnScope ["store", "many_here", "lot", "rare", "kept", "gang", "who", "rest", "due", "saved", "shown"] ["store", "many_here"] (defScope sRt) := ⟨rfl, rfl, rfl, by decide +kernel, rfl, by decide +kernel, by decide +kernel⟩
theorem ok_rt {f : Addr} {fd : FuncData} (F : Fun K "_law_right" "_law_right" sRt f fd) (T : TxtP mg) (L : LwF P w base K mg) : FnG P w K mg base CX0 8 f fd ["store", "many_here"] spRt := by
  obtain ⟨fPick, fCome, fGroups, fCosts, fAll, fChg, dPick, dCome, dGroups, dCosts, dAll, dChg, FPick, FCome, FGroups, FCosts, FAll, FChg, gPick, gCome, gGroups, gCosts, gAll, gChg, bPick, bCome, bGroups, bCosts, bAll, bChg, kbChg, gRepr, GPick, GCome, GGroups, GCosts, GAll, GChg⟩ := L
  refine okG F scRt (fun vs H Q E h => ?_) (fun cdv A outer s0 H vs Q E hr noG h => ?_)
  · obtain ⟨p, n, m, rfl, _⟩ := h
    rfl
  · obtain ⟨p, n, m, rfl, hP, mb, n1, n2, k⟩ := h
    refine ⟨_, (pss_cons (ps_set (i := 2) scRt.nd rfl (.inl rfl) (pe_call GGroups (hr.mono (by decide)) rfl gGroups FGroups.kp bGroups .nil pass0 (pa_cons (pe_call GCome (hr.mono (by decide)) rfl gCome FCome.kp bCome .nil pass0 (pa_cons (pv 0) (pa_cons (pv 1) pa_nil))) pa_nil)))
      (pss_cons (ps_asg (pe_tup (pa_cons (pe_ix (r := rIxL K) ix_list (pe_lst (pa_cons pe_int (pa_cons pe_int (pa_cons pe_int (pa_cons pe_int pa_nil))))) (pe_call GPick (hr.mono (by decide)) rfl gPick FPick.kp bPick .nil pass0 (pa_cons (pv 0) (pa_cons pe_int pa_nil))) (fun _ _ => rfl)) (pa_cons (pe_callB (id := "repr") (r := rReprR K) (by exact cr_reprR noG hr.units) (by rfl) gRepr (by decide +kernel) (pa_cons (pv 2) pa_nil)) pa_nil))) (pg_tup (by rfl) (pgs_cons (pg_name (i := 3) scRt.nd rfl (.inr rfl)) (pgs_cons (pg_name (i := 4) scRt.nd rfl (.inl rfl)) pgs_nil))))
      (pss_cons (ps_set (i := 5) scRt.nd rfl (.inr rfl) (pe_lc (own := [("who", 6)]) (g := gName 6) rfl scRt.nd (pi_range1 (by rfl) T.range (pa_cons (pv 1) pa_nil)) (blkOk_by (own := [("who", 6)]) (N := ["store", "many_here", "lot", "rare", "kept", "gang", "who", "rest", "due", "saved", "shown"]) (sc := defScope sRt) (by decide +kernel)) (fun _ _ _ _ _ => pg_name (i := 6) scRt.nd rfl (Or.inl rfl)) (fun _ _ _ _ _ => (pts_one (pt_cmpR op_eq (pe_call GPick (hr.mono (by decide)) rfl gPick FPick.kp bPick .nil pass0 (pa_cons (pv 0) (pa_cons (pv 3) pa_nil))) pe_int (nomark _)))) (fun _ _ _ _ _ => (pv 6))))
      (pss_cons (ps_par (i := 7) (j := 8) (by rfl) scRt.nd rfl rfl (by decide) rfl rfl (pa_cons (pe_lc (own := [("who", 6)]) (g := gName 6) rfl scRt.nd (pi_range1 (by rfl) T.range (pa_cons (pv 1) pa_nil)) (blkOk_by (own := [("who", 6)]) (N := ["store", "many_here", "lot", "rare", "kept", "gang", "who", "rest", "due", "saved", "shown"]) (sc := defScope sRt) (by decide +kernel)) (fun _ _ _ _ _ => pg_name (i := 6) scRt.nd rfl (Or.inl rfl)) (fun _ _ _ _ _ => (pts_one (pt_cmpR (r := rIn K true) (by exact op_notIn_seq) (pv 6) (pv 5) (by rfl)))) (fun _ _ _ _ _ => (pv 6))) (pa_cons (pe_callG GCosts (hr.mono (by decide)) noG rfl gCosts FCosts.kp bCosts .nil pass0 (pa_cons (pv 2) (pa_cons (pv 1) (pa_cons (pv 5) pa_nil)))) pa_nil)) (by rfl))
      (pss_cons (ps_set (i := 9) scRt.nd rfl (.inl rfl) (pe_callB (id := "repr") (r := rReprI K) (by exact cr_reprI noG hr.units) (by rfl) gRepr (by decide +kernel) (pa_cons (pv 5) pa_nil)))
      (pss_cons (ps_if (PW.pt (pw_and (pt_cmpR op_lt (pv 1) pe_int (nomark _)) (pw_and1 (pt_cmpR op_ne (pv 8) (pe_call GAll (hr.mono (by decide)) rfl gAll FAll.kp bAll .nil pass0 (pa_cons (pv 2) (pa_cons (pv 1) (pa_cons (pv 5) pa_nil)))) (nomark _))))) (pss_one (ps_ret pe_bl)) pss_nil)
      (pss_cons (ps_set (i := 10) scRt.nd rfl (.inl rfl) (pe_lst (pa_cons (pe_callKw GChg (hr.mono (by decide)) rfl gChg FChg.kp kbChg pass0 (pk_cons (pv 2) (pk_cons (pv 5) pk_nil))) (pa_cons (pe_call GChg (hr.mono (by decide)) rfl gChg FChg.kp bChg .nil pass0 (pa_cons (pv 2) (pa_cons (pv 7) pa_nil))) (pa_cons (pe_call GChg (hr.mono (by decide)) rfl gChg FChg.kp bChg .nil pass0 (pa_cons (pv 2) (pa_cons (pe_callTy call_list_of (by rfl) T.list (by decide +kernel) (pa_cons (pv 5) pa_nil)) pa_nil))) pa_nil)))))
      (pss_cons (ps_if (PW.pt (pw_or (pt_cmpR op_ne (pe_callB (id := "repr") (r := rReprI K) (by exact cr_reprI noG hr.units) (by rfl) gRepr (by decide +kernel) (pa_cons (pv 10) pa_nil)) (pe_callB (id := "repr") (r := rReprI K) (by exact cr_reprI noG hr.units) (by rfl) gRepr (by decide +kernel) (pa_cons (pe_op op_rep (pe_lst (pa_cons (pv 8) pa_nil)) pe_int) pa_nil)) (nomark _)) (pw_or (pt_cmpR op_ne (pe_callB (id := "repr") (r := rReprR K) (by exact cr_reprR noG hr.units) (by rfl) gRepr (by decide +kernel) (pa_cons (pv 2) pa_nil)) (pv 4) (nomark _)) (pw_or1 (pt_cmpR op_ne (pe_callB (id := "repr") (r := rReprI K) (by exact cr_reprI noG hr.units) (by rfl) gRepr (by decide +kernel) (pa_cons (pv 5) pa_nil)) (pv 9) (nomark _)))))) (pss_one (ps_ret pe_bl)) pss_nil)
      (pss_one (ps_ret (pe_and (pe_cmpR op_eq (pe_call GChg (hr.mono (by decide)) rfl gChg FChg.kp bChg .nil pass0 (pa_cons (pv 2) (pa_cons (pe_lst pa_nil) pa_nil))) pe_int (nomark _)) (pe_one (pe_cmpR op_eq (pe_call GChg (hr.mono (by decide)) rfl gChg FChg.kp bChg .nil pass0 (pa_cons (pv 2) (pa_cons (pe_listRg rfl (by rfl) T.list (prg_1 (by rfl) T.range (pv 1))) pa_nil))) pe_int (nomark _)))))))))))))), ?_⟩
    refine ⟨_, rfl, _, rfl, p, n, m, rfl, hP, Int.lt_of_lt_of_le mb (by decide), by omega, n2, fun l0 xs H1 lx bx hP1 g1 nl el => ⟨l0, xs, rfl, SqL.of el, bx, by omega, fun a cs H2 g2 na ea each ecs => ?_⟩⟩
    dsimp only
    have ap : a ≠ p := pch_ne hP1 na
    have cp : ∀ b ∈ cs, b.1 ≠ p := fun b hb => pch_ne hP1 (each b hb).2
    have hP2 := hP1.same g2
    have fam := famB_ok bx xs.length (Nat.le_refl _)
    have fl := famB_len xs xs.length
    have par : Par (cs.map (·.2)) := by
      rw [ecs]
      exact par_fam bx (Nat.le_refl _)
    have csl : cs.length = xs.length := by
      have q := congrArg List.length ecs
      rw [List.length_map] at q
      rw [q]
      exact (List.mergeSort_perm _ _).length_eq.trans fl
    have few : cs.length < 20 := by omega
    have isp : isP (cs.map (·.2)) = true := by
      rw [ecs]
      exact isP_fam fam (by rw [fl]; omega)
    obtain rfl : n = (cs.length : Int) + 1 := by omega
    obtain ⟨rs, ers⟩ : ∃ rs, rs = cs.map (·.2) := ⟨_, rfl⟩
    have rl : rs.length = cs.length := by rw [ers, List.length_map]
    rw [← ers] at par isp
    have rlim : ∀ r ∈ rs, r.length ≤ 20 ∧ ∀ x ∈ r, 0 ≤ x ∧ x < 20 := fun r hr => by
      have l := par.len20 hr
      exact ⟨by omega, fun x hx => by have := par.rng r hr x hx; omega⟩
    have hB2 : Rl H2 a cs := ⟨ea, fun b hb => (each b hb).1⟩
    show tSeq _ _ _ [some (.ref p), some (.int ((cs.length : Int) + 1)), some (.ref a), none, none, none, none, none, none, none, none] H2
    -- how rare, and the text
    refine ⟨(by show 4 ≤ sizeLine; decide), fun q0 hq0 => ⟨_, rfl, p, 4, _, rfl, hP2.same (.new hq0), Int.lt_of_lt_of_le (show m + 100 < 2 ^ 50 by omega) (by decide), by decide, by decide, fun v H3 v0 v1 hP3 but3 => ?_⟩⟩
    have n0p := pch_ne hP2 hq0
    have g23 : Gr p H2 H3 := (Gr.new hq0).trans (but_gr but3)
    have e0 : H3 q0 = some (.lst [.int 2, .int 2, .int 5, .int 1]) := (but3 q0 n0p).trans upd_same
    obtain ⟨z, hz, az⟩ := at_in (xs := [V.int 2, .int 2, .int 5, .int 1]) v0 (by show v < 4; omega)
    obtain ⟨rr, er, r1, r9⟩ : ∃ rr : Int, z = .int rr ∧ 1 ≤ rr ∧ rr ≤ 5 := by
      simp only [List.mem_cons, List.not_mem_nil, or_false] at hz
      rcases hz with rfl | rfl | rfl | rfl
      · exact ⟨2, rfl, by decide, by decide⟩
      · exact ⟨2, rfl, by decide, by decide⟩
      · exact ⟨5, rfl, by decide, by decide⟩
      · exact ⟨1, rfl, by decide, by decide⟩
    subst er
    have hB3 : Rl H3 a cs := ⟨g23 _ _ ap hB2.top, fun b hb => g23 _ _ (cp b hb) (hB2.each b hb)⟩
    refine ⟨q0, _, v, _, rfl, rfl, SqL.of e0, az, _, rfl, a, cs, rfl, hB3.rw, by omega, by rw [← ers]; exact rlim, (by show 2 ≤ sizeLine; decide), fun T3 hT3 => ⟨T3, _, rfl, SqT.of upd_same, rfl, _, _, rfl, _, _, rfl, rfl, ?_⟩⟩
    rw [← ers]
    dsimp only [List.set_cons_succ, List.set_cons_zero]
    have gT := Grows.new (o := .tup [V.int rr, V.str (txtR rs)]) hT3
    have hB4 := hB3.grow gT
    have hP4 := hP3.same gT
    have g24 := g23.trans (gT.gr (p := p))
    generalize upd H3 T3 (.tup [V.int rr, V.str (txtR rs)]) = H4 at hB4 hP4 g24
    -- the marked ones
    refine ⟨_, rfl, (cs.length : Int) + 1, rfl, by omega, by omega, fun D hD => ?_⟩
    have nDp : D ≠ p := pch_ne hP4 hD
    refine lc_range (lo := 0) (n := ((cs.length : Int) + 1).toNat) (fun i G => ∃ gs : List Int, Pch G p (m + 200 + i) ∧ Gr p H4 G ∧ G D = some (.lst (gs.map L2.V.int)) ∧ gs.length ≤ i ∧ gs.Pairwise (· < ·) ∧ ∀ x ∈ gs, 0 ≤ x ∧ x < (i : Int))
      ⟨[], (hP4.same (Grows.new hD)).le (by omega), Gr.new hD, upd_same, Nat.le_refl _, List.Pairwise.nil, fun _ h => nomatch h⟩ (fun i G hi ⟨gs, hPi, gr, eD, ln, up, rg⟩ => ?_) fun G ⟨gs, hPi, gr, eD, ln, up, rg⟩ => ?_
    · refine ⟨rfl, _, rfl, _, rfl, p, rr, _, rfl, hPi, Int.lt_of_lt_of_le (show m + 200 + (i : Int) < 2 ^ 50 by omega) (by decide), by omega, Nat.lt_of_le_of_lt (show rr.natAbs ≤ 5 by omega) (by decide), fun v G2 v0 v1 hP5 but => ⟨rfl, _, rfl, ?_⟩⟩
      refine ite2 (fun _ => ?_) fun _ => ?_
      · have eD2 := but_at but eD nDp
        refine ⟨_, rfl, _, eD2, ?_, gs ++ [0 + (i : Int)], ?_, ?_, by rw [upd_same, List.map_append]; rfl, by rw [List.length_append]; exact Nat.succ_le_succ ln, ?_, fun x hx => ?_⟩
        · rw [List.length_map]
          exact Nat.lt_of_le_of_lt (show gs.length ≤ 100 by omega) (by decide)
        · obtain ⟨d, b, nn, e, r⟩ := hP5.le (show m + 200 + (i : Int) + 1 ≤ m + 200 + ((i + 1 : Nat) : Int) by omega)
          exact ⟨d, b, nn, by rw [upd_ne nDp.symm]; exact e, r⟩
        · exact fun b o nb e => by
            rw [upd_ne (ne_of_none e hD)]
            exact but_gr but b o nb (gr b o nb e)
        · refine List.pairwise_append.mpr ⟨up, List.pairwise_singleton _ _, fun x hx y hy => ?_⟩
          rw [List.mem_singleton.mp hy]
          have := rg x hx
          omega
        · rcases List.mem_append.mp hx with z | z
          · have := rg x z
            omega
          · rw [List.mem_singleton.mp z]
            omega
      · exact ⟨gs, hP5.le (by omega), gr.trans (but_gr but), but_at but eD nDp, by omega, up, fun x hx => by have := rg x hx; omega⟩
    have hB5 : Rl G a cs := ⟨gr _ _ ap hB4.top, fun b hb => gr _ _ (cp b hb) (hB4.each b hb)⟩
    have rgn : ∀ x ∈ gs, 0 ≤ x ∧ x < (cs.length : Int) + 1 := fun x hx => by have := rg x hx; omega
    have gsl : gs.length ≤ 20 := by omega
    have glim : ∀ x ∈ gs, 0 ≤ x ∧ x < 20 := fun x hx => by have := rgn x hx; omega
    have fin : ∀ H', Grows G H' → Q (.bl true) H' := fun H' g => k H' ((hPi.same g).le (by omega)) (g1.trans ((g2.gr (p := p)).trans (g24.trans (gr.trans g.gr))))
    refine nm_e rfl ?_
    show tSeq _ _ _ [some (.ref p), some (.int ((cs.length : Int) + 1)), some (.ref a), some (.int rr), some (.str (txtR rs)), some (.ref D), none, none, none, none, none] G
    refine ⟨_, rfl, (cs.length : Int) + 1, rfl, by omega, by omega, fun D2 hD2 => ?_⟩
    refine lc_range (lo := 0) (n := ((cs.length : Int) + 1).toNat) (fun i G' => Grows G G' ∧ G' D2 = some (.lst (((upto i).filter fun x => decide (x ∉ gs)).map L2.V.int))) ⟨Grows.new hD2, upd_same⟩ (fun i G' hi ⟨gg, e2⟩ => ?_) fun G' ⟨gg, e2⟩ => ?_
    · have more : upto (i + 1) = upto i ++ [(i : Int)] := by
        unfold upto
        rw [List.range_succ, List.map_append]
        rfl
      refine ⟨rfl, _, rfl, _, rfl, D, _, rfl, .inl (SqL.of (gg _ _ eD)), rfl, flat_ints _, _, rfl, ?_⟩
      show if (!inV (V.int (0 + (i : Int))) (gs.map V.int)) = true then _ else _
      rw [inV_ints, Int.zero_add]
      by_cases mem : (i : Int) ∈ gs
      · rw [decide_eq_true mem]
        refine iteF ⟨gg, ?_⟩
        rw [e2, more, List.filter_append, List.filter_cons, decide_eq_false fun z => z mem]
        simp
      · rw [decide_eq_false mem]
        refine iteT ⟨_, rfl, _, e2, ?_, fun b o e => ?_, ?_⟩
        · rw [List.length_map]
          exact Nat.lt_of_le_of_lt (Nat.le_trans (List.length_filter_le _ _) (show (upto i).length ≤ 100 by rw [upto_len]; omega)) (by decide)
        · rw [upd_ne (ne_of_none e hD2)]
          exact gg _ _ e
        · rw [upd_same, more, List.filter_append, List.filter_cons, decide_eq_true mem]
          simp
    · have nn : ((cs.length : Int) + 1).toNat = rs.length + 1 := by omega
      rw [nn] at e2
      obtain ⟨rt, ert⟩ : ∃ rt, rt = (upto (rs.length + 1)).filter fun x => decide (x ∉ gs) := ⟨_, rfl⟩
      rw [← ert] at e2
      have rtr : ∀ x ∈ rt, 0 ≤ x ∧ x < (cs.length : Int) + 1 := fun x hx => by
        rw [ert] at hx
        have := upto_in.mp (List.mem_filter.mp hx).1
        omega
      have rtu : rt.Pairwise (· < ·) := by
        rw [ert]
        exact (upto_up _).filter _
      have rtl : rt.length ≤ 20 := by
        rw [ert]
        refine Nat.le_trans (List.length_filter_le _ _) ?_
        rw [upto_len]
        omega
      obtain ⟨cf, ecf⟩ : ∃ cf, cf = (trR rs (allR rs)).conf gs := ⟨_, rfl⟩
      have crt : (trR rs (allR rs)).conf rt = cf := by
        rw [ecf]
        refine conf_rest par fun q q0 q1 => ?_
        rw [ert, List.mem_filter, decide_eq_true_eq]
        exact ⟨fun h => h.2, fun h => ⟨upto_in.mpr ⟨q0, by omega⟩, h⟩⟩
      have cf0 : 0 ≤ cf ∧ cf < 20 := by
        have h1 := conf_nn (A := gs) (trR rs (allR rs))
        have h2 := conf_le (A := gs) par (all_half par)
        rw [show (allR rs).length = rs.length + 1 by unfold allR; rw [upto_len]] at h2
        omega
      refine ⟨_, rfl, _, rfl, _, rfl, a, D, cs, gs, rfl, hB5.grow gg, by rw [← ers]; exact par, few, gg _ _ eD, fun H6 g6 => ⟨_, _, rfl, ?_⟩⟩
      rw [← ers, ← ecf]
      have gA := gg.trans g6
      have hB6 := hB5.grow gA
      have eD6 := gA _ _ eD
      have e26 := g6 _ _ e2
      refine ends_e rfl ?_
      show tSeq _ _ _ [some (.ref p), some (.int ((cs.length : Int) + 1)), some (.ref a), some (.int rr), some (.str (txtR rs)), some (.ref D), none, some (.ref D2), some (.int cf), none, none] H6
      refine ⟨_, rfl, D, gs, rfl, SqL.of eD6, by omega, glim, ?_⟩
      refine nm_e rfl ?_
      show tSeq _ _ _ [some (.ref p), some (.int ((cs.length : Int) + 1)), some (.ref a), some (.int rr), some (.str (txtR rs)), some (.ref D), none, some (.ref D2), some (.int cf), some (.str (txt gs)), none] H6
      refine un_e (seq_no (fun R kR => ?_) fun H7 g7 => ?_)
      · refine ⟨_, rfl, _, _, rfl, rfl, _, rfl, ?_⟩
        by_cases lt : (cs.length : Int) + 1 < 8
        · rw [decide_eq_true lt]
          refine iteT ⟨_, rfl, _, rfl, _, rfl, _, rfl, a, D, cs, gs, rfl, hB6, by rw [← ers]; exact par, by omega, eD6, by omega, fun H7 g7 => ⟨rfl, _, rfl, ?_⟩⟩
          rw [← ers, ← ecf, decide_eq_true rfl]
          exact kR H7 g7
        · rw [decide_eq_false lt]
          exact iteF (kR H6 .refl)
      · have gB := gA.trans g7
        have hB7 := hB5.grow gB
        have eD7 := gB _ _ eD
        have e27 := g7 _ _ e26
        have sz : Sz (cs.map (·.2)) := ⟨by rw [List.length_map]; omega, fun r hr => by have := (rlim r (by rw [ers]; exact hr)).1; omega⟩
        have isp' : isP (cs.map (·.2)) = true := by rw [← ers]; exact isp
        have par' : Par (cs.map (·.2)) := by rw [← ers]; exact par
        refine ⟨_, rfl, _, rfl, a, D, cs, gs, rfl, hB7.rw, sz, isp', par', few, SqL.of eD7, by omega, plist_of up rgn, fun H8 g8 => ⟨_, rfl, _, rfl, a, D2, cs, rt, rfl, (hB7.grow g8).rw, sz, isp', par', few, SqL.of (g8 _ _ e27), by omega, plist_of rtu rtr, fun H9 g9 => ⟨_, rfl, _, rfl, D, _, rfl, .inl (SqL.of (g9 _ _ (g8 _ _ eD7))), fun l hl => ?_⟩⟩⟩
        have gl := Grows.new (o := .lst (gs.map L2.V.int)) hl
        refine ⟨a, l, cs, gs, rfl, (((hB7.grow g8).grow g9).grow gl).rw, sz, isp', par', few, SqL.of upd_same, by omega, plist_of up rgn, fun H10 g10 => ⟨(by show 3 ≤ sizeLine; decide), fun S hS => ?_⟩⟩
        rw [← ers, crt, ← ecf]
        have gS := Grows.new (o := .lst [.int cf, .int cf, .int cf]) hS
        have eS : (upd H10 S (.lst [.int cf, .int cf, .int cf])) S = some (.lst ([cf, cf, cf].map L2.V.int)) := upd_same
        have gC := ((((gB.trans g8).trans g9).trans gl).trans g10).trans gS
        generalize upd H10 S (.lst [.int cf, .int cf, .int cf]) = H11 at eS gC
        have lim3 : ∀ x ∈ [cf, cf, cf], 0 ≤ x ∧ x < 20 := fun x hx => by
          simp only [List.mem_cons, List.not_mem_nil, or_false, or_self] at hx
          rw [hx]
          exact cf0
        refine nm_e rfl ?_
        show tSeq _ _ _ [some (.ref p), some (.int ((cs.length : Int) + 1)), some (.ref a), some (.int rr), some (.str (txtR rs)), some (.ref D), none, some (.ref D2), some (.int cf), some (.str (txt gs)), some (.ref S)] H11
        refine un_e (seq_no (fun R kR => ?_) fun H12 g12 => ?_)
        · refine ⟨_, rfl, S, [cf, cf, cf], rfl, SqL.of eS, by show 3 ≤ 100; decide, lim3, _, rfl, (by show 1 ≤ sizeLine; decide), fun q hq => ⟨q, 3, _, rfl, rfl, upd_same, by decide, by decide, (by show 1 * 3 ≤ sizeLine; decide), fun y hy => ?_⟩⟩
          have gy := (Grows.new (o := .lst [.int cf]) hq).trans (Grows.new (o := .lst (List.replicate (3 : Int).toNat [L2.V.int cf]).flatten) hy)
          refine ⟨y, [cf, cf, cf], rfl, SqL.of upd_same, by show 3 ≤ 100; decide, lim3, rfl, _, rfl, ?_⟩
          rw [decide_eq_true rfl]
          have gy' := gC.trans gy
          have hBy := hB5.grow gy'
          have eDy := gy' _ _ eD
          refine iteF ⟨_, rfl, a, cs, rfl, hBy.rw, by omega, by rw [← ers]; exact rlim, _, rfl, rfl, _, rfl, ?_⟩
          rw [← ers, decide_eq_true rfl]
          refine iteF ⟨_, rfl, D, gs, rfl, SqL.of eDy, by omega, glim, _, rfl, rfl, _, rfl, ?_⟩
          rw [decide_eq_true rfl]
          exact kR _ gy
        · have gD := gC.trans g12
          have hBz := hB5.grow gD
          have no := (conf_none (trR rs (allR rs))).2
          have whole := conf_all par
          refine ⟨_, rfl, (by show 0 ≤ sizeLine; decide), fun e he => ?_⟩
          have ge := Grows.new (o := .lst []) he
          refine ⟨a, e, cs, [], rfl, (hBz.grow ge).rw, sz, isp', par', few, SqL.of upd_same, by decide, plist_of List.Pairwise.nil (fun _ h => nomatch h), fun H13 g13 => ?_⟩
          rw [← ers, no]
          refine ⟨rfl, _, rfl, ?_⟩
          rw [decide_eq_true rfl, if_pos rfl]
          have gE := gD.trans (ge.trans g13)
          refine ⟨_, rfl, _, rfl, _, rfl, .of_le (by decide) (by omega) (by decide) (by omega), fun q2 hq2 => ?_⟩
          have g2' := Grows.new (o := .lst (rgV 0 ((cs.length : Int) + 1))) hq2
          have eU : (upd H13 q2 (.lst (rgV 0 ((cs.length : Int) + 1)))) q2 = some (.lst ((upto (rs.length + 1)).map L2.V.int)) := by
            rw [upd_same, ← rg_upto]
            congr 3
            omega
          refine ⟨a, q2, cs, upto (rs.length + 1), rfl, ((hB5.grow gE).grow g2').rw, sz, isp', par', few, SqL.of eU, by rw [upto_len]; omega, plist_of (upto_up _) (fun x hx => by have := upto_in.mp hx; omega), fun H14 g14 => ?_⟩
          rw [← ers, whole]
          refine ⟨rfl, ?_⟩
          rw [decide_eq_true rfl]
          exact fin _ (gE.trans (g2'.trans g14))
end
end K33

namespace K33
open PySem PySem.Spec PyProof.Rows L2 SortR LcM RepA
abbrev sLaw : Stmt := top 34
/-! ### chains -/
section
variable {g : TG} {te : TE} {vs : List Nat} {σ : L2.St} {H0 : Hp} {D : Addr} {Qd : Hp → Prop}
theorem lc_upto {n : Nat} (hD : H0 D = none) (small : n ≤ 100)
    (turn : ∀ (i : Nat) (H : Hp) (Ry : L2.V → Hp → Prop), i < n → (∀ q, H q = none → Ry (.ref q) (upd H q (.lst ((upto (i + 2)).map L2.V.int)))) → g (.int (0 + i)) (wipe σ vs) H fun σ2 H2 => wipe σ2 vs = wipe σ vs ∧ te σ2 H2 Ry)
    (done : ∀ (H : Hp) (cs : List (Addr × List Int)), Grows H0 H → cs.map (·.2) = (List.range n).map (fun k => upto (k + 2)) → H D = some (.lst (cs.map fun c => .ref c.1)) → (∀ c ∈ cs, H c.1 = some (.lst (c.2.map L2.V.int))) → Qd H) :
    ∃ W : Nat → Nat → Hp → Prop, (∃ m, W 0 m (upd H0 D (.lst []))) ∧ ∀ i m H, W i m H →
      ((Itr 0 n).stop i H ∧ Qd H) ∨ ((Itr 0 n).go i H ∧ ∃ Nx : Hp → Prop, (∀ H', Nx H' → ∃ m', m' < m ∧ W (i + 1) m' H') ∧ ∀ x H', (Itr 0 n).yld i H x H' → g x (wipe σ vs) H' fun σ2 H2 => wipe σ2 vs = wipe σ vs ∧ tYes σ2 H2 fun b H3 =>
        if b = true then te σ2 H3 fun y H4 => ∃ acc, H4 D = some (.lst acc) ∧ acc.length < sizeLine ∧ Nx (upd H4 D (.lst (acc ++ [y]))) else Nx H3) := by
  refine lc_range (lo := 0) (n := n) (fun i G => ∃ cs : List (Addr × List Int), Grows H0 G ∧ cs.map (·.2) = (List.range i).map (fun k => upto (k + 2)) ∧ G D = some (.lst (cs.map fun c => .ref c.1)) ∧ (∀ c ∈ cs, G c.1 = some (.lst (c.2.map L2.V.int))) ∧ ∀ c ∈ cs, c.1 ≠ D) ⟨[], Grows.new hD, rfl, upd_same, (fun _ h => nomatch h), fun _ h => nomatch h⟩ (fun i G hi ⟨cs, gr, ec, top, each, nw⟩ => ?_) fun G ⟨cs, gr, ec, top, each, nw⟩ => done G cs gr ec top each
  rw [yes_eq (A := fun σ2 => wipe σ2 vs = wipe σ vs)]
  refine turn i G _ hi fun q hq => ?_
  have lc : cs.length = i := by
    have := congrArg List.length ec
    rw [List.length_map, List.length_map, List.length_range] at this
    exact this
  have qD : q ≠ D := (ne_of_none top hq).symm
  have gq : Grows G (upd G q (.lst ((upto (i + 2)).map L2.V.int))) := Grows.new hq
  refine ⟨_, gq _ _ top, ?_, cs ++ [(q, upto (i + 2))], fun b o e => ?_, ?_, ?_, fun c hc => ?_, fun c hc => ?_⟩
  · rw [List.length_map, lc]
    exact Nat.lt_of_le_of_lt (show i ≤ 100 by omega) (by decide)
  · rw [upd_ne (ne_of_none e hD)]
    exact (gr.trans gq) _ _ e
  · rw [List.map_append, ec, List.range_succ, List.map_append]
    rfl
  · rw [upd_same, List.map_append]
    rfl
  · rcases List.mem_append.mp hc with m | m
    · rw [upd_ne (nw c m)]
      exact gq _ _ (each c m)
    · rw [List.mem_singleton.mp m, upd_ne qD]
      exact upd_same
  · rcases List.mem_append.mp hc with m | m
    · exact nw c m
    · rw [List.mem_singleton.mp m]
      exact qD
end
def spLaw (K : PySem.W.Frag) : Sp := fun vs H Q _ => ∃ (a : Addr) (ns : List Int), vs = [.ref a] ∧ SqL K H a (ns.map L2.V.int) ∧ ns.length ≤ 63 ∧ ∀ H', Q (.bl true) H'
theorem mm (k : Int) : ∃ J : Int, 1 ≤ J ∧ J ≤ 4 ∧ (if (if k < 4 then k else 4) > 1 then (if k < 4 then k else 4) else 1) = J := by
  refine ⟨_, ?_, ?_, rfl⟩
  · split <;> omega
  · split <;> split <;> omega
theorem gr_grows {sd : Addr} {H H0 H1 G : Hp} (g0 : Grows H H0) (n : H sd = none) (g : Gr sd H1 G) (g1 : Grows H0 H1) : Grows H G := fun b o e => g b o (fun z => by rw [z, n] at e; cases e) (g1 _ _ (g0 b o e))
/-! ### partings that are written out -/
theorem par_fam0 {is : List Int} (b : Bnd is) {n : Nat} (hn : n ≤ is.length) : Par (famB is n) := by
  have F := famB_ok b n hn
  have nice : ∀ a ∈ famB is n, ∀ b ∈ famB is n, Nice a b := fun a ha b hb => F.two_nice ha hb
  refine ⟨F.up, F.two, F.nice.imp fun {a b} z => z.2, nice, cut_parts F.up F.two nice (famB_bin b n hn), F.rng, fun ne => ?_⟩
  rw [famB_len]
  refine com_fam b n ?_ hn
  rcases Nat.eq_zero_or_pos n with z | z
  · subst z
    exact absurd rfl ne
  · exact z
abbrev chainR : List (List Int) := (List.range 19).map fun k => upto (k + 2)
def chainI : List Int := (List.range 19).map fun k : Nat => -(k : Int)
theorem chain_bnd : Bnd chainI := fun i x h => by
  unfold chainI at h
  rw [List.getElem?_map] at h
  rcases Nat.lt_or_ge i 19 with l | g
  · rw [List.getElem?_range l] at h
    have e : -(i : Int) = x := Option.some.inj h
    constructor <;> omega
  · rw [List.getElem?_eq_none (by rw [List.length_range]; exact g)] at h
    cases h
theorem chain_par : Par chainR := by
  have e : chainR = famB chainI 19 := by decide +kernel
  rw [e]
  exact par_fam0 chain_bnd (by decide)
theorem chain_isp : isP chainR = true := by decide +kernel
abbrev fourR : List (List Int) := [[0, 1], [0, 1, 2, 3], [2, 3]]
theorem four_bnd : Bnd [0, -1, 2] := fun i x h => by
  match i, h with
  | 0, h => cases h; decide
  | 1, h => cases h; decide
  | 2, h => cases h; decide
  | i + 3, h => cases h
theorem four_par : Par fourR := by
  have e : fourR = famB [0, -1, 2] 3 := by decide +kernel
  rw [e]
  exact par_fam0 four_bnd (by decide)
theorem four_isp : isP fourR = true := by decide +kernel
theorem none_par : Par [] := par_fam0 (is := []) (fun i x h => by simp at h) (n := 0) (Nat.le_refl _)
theorem none_isp : isP [] = true := by decide +kernel
theorem val1 : (trR chainR (allR chainR)).conf [0] = 1 := by decide +kernel
theorem val2 : (trR chainR (allR chainR)).conf ((List.range 10).map fun k : Nat => 0 + (k : Int) * 2) = 10 := by decide +kernel
theorem val3 : (trR chainR (allR chainR)).conf [0, 1, 2, 3] = 1 := by decide +kernel
theorem val4 : (trR [] (allR [])).conf [0] = 0 := by decide +kernel
theorem val5 : (trR fourR (allR fourR)).conf [0, 2] = 2 := by decide +kernel
section
variable {P : Program} {w : World} {K : PySem.W.Frag} {mg : Str → Option Value} {base : Heap}
theorem scLaw : FnScope ["script", "k", "store", "top", "turn", "chain", "who", "shown"] ["script"] (defScope sLaw) := ⟨rfl, rfl, rfl, by decide +kernel, rfl, by decide +kernel, by decide +kernel⟩
theorem ok_law {f fStore fRight : Addr} {fd dStore dRight : FuncData} (F : Fun K "law" "law" sLaw f fd) (T : TxtP mg) (T0 : Txt0 mg) (L : LwF P w base K mg)
    (GStore : FnOk P w K mg base CX0 1 fStore dStore ["script", "k"] (spStore K)) (FStore : Fun K "_law_store" "_law_store" sStore fStore dStore) (gStore : mg "_law_store" = some (.ref fStore)) (bStore : Binds K dStore ["script", "k"] [])
    (FRight : Fun K "_law_right" "_law_right" sRt fRight dRight) (gRight : mg "_law_right" = some (.ref fRight)) (bRight : Binds K dRight ["store", "many_here"] []) : FnG P w K mg base CX0 9 f fd ["script"] (spLaw K) := by
  have GRight : FnG P w K mg base CX0 8 fRight dRight ["store", "many_here"] spRt := ok_rt FRight T L
  obtain ⟨fPick, fCome, fGroups, fCosts, fAll, fChg, dPick, dCome, dGroups, dCosts, dAll, dChg, FPick, FCome, FGroups, FCosts, FAll, FChg, gPick, gCome, gGroups, gCosts, gAll, gChg, bPick, bCome, bGroups, bCosts, bAll, bChg, kbChg, gRepr, GPick, GCome, GGroups, GCosts, GAll, GChg⟩ := L
  refine okG F scLaw (fun vs H Q E h => ?_) (fun cdv A outer s H vs Q E hr noG h => ?_)
  · obtain ⟨a, ns, rfl, _⟩ := h
    rfl
  · obtain ⟨a, ns, rfl, hS, hl, kq⟩ := h
    refine ⟨_, (pss_cons (ps_for PassesOwn.never rfl (pi_range1 (by rfl) T.range (pa_cons (pe_callB (call_max2 rfl) (by rfl) T0.max (by decide +kernel) (pa_cons pe_int (pa_cons (pe_callB (call_min2 rfl) (by rfl) T0.min (by decide +kernel) (pa_cons pe_int (pa_cons (pe_callB call_len_seq (by rfl) T.len (by decide +kernel) (pa_cons (pv 0) pa_nil)) pa_nil))) pa_nil))) pa_nil)) (pg_name (i := 1) scLaw.nd rfl (.inl rfl))
      (pss_cons (ps_set (i := 2) scLaw.nd rfl (.inl rfl) (pe_call GStore (hr.mono (by decide)) rfl gStore FStore.kp bStore .nil pass0 (pa_cons (pv 0) (pa_cons (pv 1) pa_nil))))
      (pss_one (ps_for PassesOwn.never rfl (pi_tup (pe_tup (pa_cons pe_int (pa_cons pe_int (pa_cons pe_int (pa_cons pe_int pa_nil)))))) (pg_name (i := 3) scLaw.nd rfl (.inl rfl))
      (pss_one (ps_for PassesOwn.never rfl (pi_range1 (by rfl) T.range (pa_cons pe_int pa_nil)) (pg_name (i := 4) scLaw.nd rfl (.inl rfl))
      (pss_one (ps_if (pt_not (pt_val (pe_callG GRight (hr.mono (by decide)) noG rfl gRight FRight.kp bRight .nil pass0 (pa_cons (pv 2) (pa_cons (pe_op op_sub (pv 3) (pe_call GPick (hr.mono (by decide)) rfl gPick FPick.kp bPick .nil pass0 (pa_cons (pv 2) (pa_cons (pe_ix (r := rIxL K) ix_list (pe_lst (pa_cons pe_int (pa_cons (pv 3) pa_nil))) (pe_call GPick (hr.mono (by decide)) rfl gPick FPick.kp bPick .nil pass0 (pa_cons (pv 2) (pa_cons pe_int pa_nil))) (fun _ _ => rfl)) pa_nil)))) pa_nil))))) (pss_one (ps_ret pe_bl)) pss_nil))))))))
      (pss_cons (ps_setLc (i := 5) (own := [("who", 6)]) (g := gName 6) (tt := tYes) rfl scLaw.nd rfl rfl (sw_true rfl rfl rfl (by decide +kernel)) (pi_range1 (by rfl) T.range (pa_cons pe_int pa_nil)) (blkOk_by (own := [("who", 6)]) (N := ["script", "k", "store", "top", "turn", "chain", "who", "shown"]) (sc := defScope sLaw) (by decide +kernel)) (fun _ _ _ _ _ => pg_name (i := 6) scLaw.nd rfl (Or.inl rfl)) (fun _ _ _ _ _ => pts_nil) (fun _ _ _ _ _ => (pe_listRg rfl (by rfl) T.list (prg_1 (by rfl) T.range (pe_op op_add (pv 6) pe_int)))))
      (pss_cons (ps_set (i := 7) scLaw.nd rfl (.inl rfl) (pe_lst (pa_cons (pe_call GChg (hr.mono (by decide)) rfl gChg FChg.kp bChg .nil pass0 (pa_cons (pv 5) (pa_cons (pe_lst (pa_cons pe_int pa_nil)) pa_nil))) (pa_cons (pe_call GChg (hr.mono (by decide)) rfl gChg FChg.kp bChg .nil pass0 (pa_cons (pv 5) (pa_cons (pe_listRg3 rfl (by rfl) T.list (by rfl) T.range (pa_cons pe_int (pa_cons pe_int (pa_cons pe_int pa_nil)))) pa_nil))) (pa_cons (pe_call GChg (hr.mono (by decide)) rfl gChg FChg.kp bChg .nil pass0 (pa_cons (pv 5) (pa_cons (pe_lst (pa_cons pe_int (pa_cons pe_int (pa_cons pe_int (pa_cons pe_int pa_nil))))) pa_nil))) pa_nil)))))
      (pss_one (ps_ret (pe_and (pe_cmpR (op_eqD hr.units) (pv 7) (pe_lst (pa_cons pe_int (pa_cons pe_int (pa_cons pe_int pa_nil)))) (nomark _)) (pe_and (pe_cmpR op_eq (pe_call GChg (hr.mono (by decide)) rfl gChg FChg.kp bChg .nil pass0 (pa_cons (pe_lst pa_nil) (pa_cons (pe_lst (pa_cons pe_int pa_nil)) pa_nil))) pe_int (nomark _)) (pe_one (pe_cmpR op_eq (pe_call GChg (hr.mono (by decide)) rfl gChg FChg.kp bChg .nil pass0 (pa_cons (pe_lst (pa_cons (pe_lst (pa_cons pe_int (pa_cons pe_int pa_nil))) (pa_cons (pe_lst (pa_cons pe_int (pa_cons pe_int (pa_cons pe_int (pa_cons pe_int pa_nil))))) (pa_cons (pe_lst (pa_cons pe_int (pa_cons pe_int pa_nil))) pa_nil)))) (pa_cons (pe_lst (pa_cons pe_int (pa_cons pe_int pa_nil))) pa_nil))) pe_int (nomark _)))))))))), ?_⟩
    obtain ⟨J, J1, J4, eJ⟩ := mm ((ns.map L2.V.int).length : Nat)
    refine ⟨_, rfl, a, _, rfl, .inl hS, 4, _, rfl, 1, _, rfl, J, congrArg (fun z => [L2.V.int z]) eJ, by omega, by omega, for_range (fun i σ H' => ∃ o1 o2 o3 o4, σ = [some (.ref a), o1, o2, o3, o4, none, none, none] ∧ Grows H H') ⟨none, none, none, none, rfl, .refl⟩ (fun i σ H1 hi ⟨o1, o2, o3, o4, e, g1⟩ => ?_) fun σ H1 ⟨o1, o2, o3, o4, e, g1⟩ => ?_⟩
    · subst e
      refine ⟨_, rfl, _, rfl, a, _, ns, rfl, g1.seq hS, by omega, by omega, fun p H2 np g2 hP2 => ?_⟩
      have Hp0 : H p = none := none_back g1 np
      have g2' := g1.trans g2
      refine ⟨(by show 4 ≤ sizeLine; decide), fun t ht => ⟨t, rfl, ⟨_, SqT.of upd_same⟩, ?_⟩⟩
      have tp : t ≠ p := fun z => by
        obtain ⟨_, _, _, eo, _⟩ := hP2
        rw [z, eo] at ht
        cases ht
      have gt := Grows.new (o := .tup [L2.V.int 20, L2.V.int 7, L2.V.int 20, L2.V.int 5]) ht
      have hPt := hP2.same gt
      have et : (upd H2 t (.tup [L2.V.int 20, L2.V.int 7, L2.V.int 20, L2.V.int 5])) t = some (.tup [L2.V.int 20, L2.V.int 7, L2.V.int 20, L2.V.int 5]) := upd_same
      generalize upd H2 t (.tup [L2.V.int 20, L2.V.int 7, L2.V.int 20, L2.V.int 5]) = H5 at gt hPt et
      have g25 := g2'.trans gt
      refine for_tup (K := K) (xs := [L2.V.int 20, L2.V.int 7, L2.V.int 20, L2.V.int 5]) (fun j σ G => ∃ o3 o4, σ = [some (.ref a), some (.int (0 + (i : Nat))), some (.ref p), o3, o4, none, none, none] ∧ Gr p H5 G ∧ Pch G p (2 + 5000 * j)) ⟨_, _, rfl, .refl, hPt.le (by omega)⟩ (fun j σ G _ ⟨_, _, _, g, _⟩ => SqT.of (g _ _ tp et)) (fun j x σ G hx ⟨o3, o4, e, g, hp⟩ => ?_) fun σ G ⟨o3, o4, e, g, hp⟩ => ?_
      · subst e
        have hj : j < 4 := (List.getElem?_eq_some_iff.mp hx).1
        obtain ⟨n, rfl, n2, n20⟩ : ∃ n, x = L2.V.int n ∧ 5 ≤ n ∧ n ≤ 20 := by
          have hm := List.mem_of_getElem? hx
          simp only [List.mem_cons, List.not_mem_nil, or_false] at hm
          rcases hm with rfl | rfl | rfl | rfl <;> exact ⟨_, rfl, by omega, by omega⟩
        refine nm_d ?_
        dsimp only [List.set_cons_succ, List.set_cons_zero]
        refine ⟨2, rfl, by decide, by decide, for_range (lo := 0) (n := 2) (fun u σ G' => ∃ o4, σ = [some (.ref a), some (.int (0 + (i : Nat))), some (.ref p), some (.int n), o4, none, none, none] ∧ Gr p H5 G' ∧ Pch G' p (2 + 5000 * j + 2000 * u)) ⟨_, rfl, g, hp.le (by omega)⟩ (fun u σ G' hu ⟨o4, e, g, hp⟩ => ?_) fun σ G' ⟨o4, e, g, hp⟩ => ⟨_, _, e, g, hp.le (by omega)⟩⟩
        subst e
        refine nm_d ?_
        dsimp only [List.set_cons_succ, List.set_cons_zero]
        refine ⟨_, rfl, _, rfl, _, rfl, _, rfl, (by show 2 ≤ sizeLine; decide), fun q hq => ⟨_, rfl, p, 2, _, rfl, hp.same (.new hq), Int.lt_of_le_of_lt (show (2 + 5000 * (j : Int) + 2000 * (u : Int)) ≤ 100000 by omega) (by decide), by decide, by decide, fun v G2 v0 v1 hp2 but2 => ?_⟩⟩
        have nqp := pch_ne hp hq
        have e0 : G2 q = some (.lst [.int 2, .int n]) := (but2 q nqp).trans upd_same
        have gr2 : Gr p G' G2 := (Gr.new hq).trans (but_gr but2)
        obtain ⟨z, hz, az⟩ := at_in (xs := [L2.V.int 2, .int n]) v0 (by show v < 2; omega)
        obtain ⟨wd, er, w2, wn⟩ : ∃ wd : Int, z = .int wd ∧ 2 ≤ wd ∧ wd ≤ n := by
          simp only [List.mem_cons, List.not_mem_nil, or_false] at hz
          rcases hz with rfl | rfl
          · exact ⟨2, rfl, by omega, by omega⟩
          · exact ⟨n, rfl, by omega, by omega⟩
        subst er
        refine ⟨q, _, v, _, rfl, rfl, SqL.of e0, az, p, wd, _, rfl, hp2, Int.lt_of_le_of_lt (show (2 + 5000 * (j : Int) + 2000 * (u : Int) + 1) ≤ 100000 by omega) (by decide), by omega, Nat.lt_of_le_of_lt (show wd.natAbs ≤ 20 by omega) (by decide), fun v2 G3 v20 v21 hp3 but3 => ⟨_, _, rfl, rfl, p, n - v2, _, rfl, hp3, Int.lt_of_le_of_lt (show (2 + 5000 * (j : Int) + 2000 * (u : Int) + 1 + 1) ≤ 100000 by omega) (by decide), by omega, by omega, fun G4 hp4 g4 => ⟨_, rfl, ?_⟩⟩⟩
        exact iteF ⟨_, rfl, g.trans (gr2.trans ((but_gr but3).trans g4)), hp4.le (by omega)⟩
      · exact ⟨_, _, _, _, e, gr_grows g25 Hp0 g .refl⟩
    · subst e
      dsimp only
      refine ⟨19, rfl, by decide, by decide, fun D hD => lc_upto (n := 19) hD (by decide) (fun i G2 Ry hi kR => ?_) fun G2 cs g2 ec top each => ?_⟩
      · refine ⟨rfl, _, rfl, _, _, rfl, rfl, _, rfl, .of_le (by decide) (by omega) (by decide) (by omega), fun q hq => ?_⟩
        rw [show (0 + (i : Int) + 2) = ((i + 2 : Nat) : Int) by omega, rg_upto]
        exact kR q hq
      · have lc : cs.length = 19 := by
          have q := congrArg List.length ec
          rw [List.length_map] at q
          exact q
        have rlc : Rl G2 D cs := ⟨top, each⟩
        have par : Par (cs.map (·.2)) := by
          rw [ec]
          exact chain_par
        have isp : isP (cs.map (·.2)) = true := by
          rw [ec]
          exact chain_isp
        have sz : Sz (cs.map (·.2)) := ⟨by rw [List.length_map]; omega, fun r hr => by
          have := par.len20 hr
          rw [List.length_map] at this
          omega⟩
        have few : cs.length < 20 := by omega
        have pl : ∀ {ns : List Int}, ns.Pairwise (· < ·) → (∀ x ∈ ns, 0 ≤ x ∧ x < 20) → plist ((cs.length : Int) + 1) ns = true := fun up rg => plist_of up fun x hx => by
          have := rg x hx
          omega
        refine ⟨_, rfl, (by show 1 ≤ sizeLine; decide), fun q1 hq1 => ⟨D, q1, cs, [0], rfl, (rlc.grow (Grows.new hq1)).rw, sz, isp, par, few, SqL.of upd_same, by decide, pl (by decide) (by decide), fun H3 g3 => ?_⟩⟩
        have gA := (Grows.new (o := .lst [L2.V.int 0]) hq1).trans g3
        refine ⟨_, rfl, 0, 20, 2, 10, rfl, ⟨by decide, by decide, by decide +kernel, by decide +kernel⟩, by decide, fun q2 hq2 => ⟨D, q2, cs, (List.range 10).map fun k : Nat => 0 + (k : Int) * 2, rfl, ((rlc.grow gA).grow (Grows.new hq2)).rw, sz, isp, par, few, SqL.of (by
          rw [upd_same]
          unfold rgC
          rw [List.map_map]
          rfl), by decide, pl (by decide) (by decide), fun H4 g4 => ?_⟩⟩
        have gB := gA.trans ((Grows.new (o := .lst (rgC 0 2 10)) hq2).trans g4)
        refine ⟨_, rfl, (by show 4 ≤ sizeLine; decide), fun q3 hq3 => ⟨D, q3, cs, [0, 1, 2, 3], rfl, ((rlc.grow gB).grow (Grows.new hq3)).rw, sz, isp, par, few, SqL.of upd_same, by decide, pl (by decide) (by decide), fun H5 g5 => ⟨(by show 3 ≤ sizeLine; decide), fun S hS => ?_⟩⟩⟩
        rw [ec, val1, val2, val3]
        have eS : (upd H5 S (.lst [L2.V.int 1, L2.V.int 10, L2.V.int 1])) S = some (.lst (([1, 10, 1] : List Int).map L2.V.int)) := upd_same
        generalize upd H5 S (.lst [L2.V.int 1, L2.V.int 10, L2.V.int 1]) = H6 at eS
        refine ⟨_, rfl, (by show 3 ≤ sizeLine; decide), fun q4 hq4 => ⟨rowP [1, 10, 1], rowP [1, 10, 1], .lst (SqL.of (Grows.new hq4 _ _ eS)) (rows_dp _), .lst (SqL.of upd_same) (rows_dp [1, 10, 1]), shaped_ints _, shaped_ints _, _, rfl, ?_⟩⟩
        rw [show PyData.eqv (rowP [1, 10, 1]) (rowP [1, 10, 1]) = true from (eqv_ints _ _).trans (decide_eq_true rfl), if_pos rfl]
        generalize upd H6 q4 _ = H7
        refine ⟨(by show 0 ≤ sizeLine; decide), fun q5 hq5 => ⟨(by show 1 ≤ sizeLine; decide), fun q6 hq6 => ⟨q5, q6, [], [0], rfl, ⟨SqL.of (Grows.new hq6 _ _ upd_same), fun _ h => nomatch h⟩, ⟨by decide, fun _ h => nomatch h⟩, none_isp, none_par, by decide, SqL.of upd_same, by decide, by decide +kernel, fun H8 g8 => ?_⟩⟩⟩
        refine ⟨rfl, _, rfl, ?_⟩
        rw [show (trR (List.map (fun x => x.2) ([] : List (Addr × List Int))) (allR (List.map (fun x => x.2) ([] : List (Addr × List Int))))).conf [0] = 0 from val4, decide_eq_true rfl, if_pos rfl]
        refine ⟨(by show 2 ≤ sizeLine; decide), fun r1 h1 => ⟨(by show 4 ≤ sizeLine; decide), fun r2 h2 => ⟨(by show 2 ≤ sizeLine; decide), fun r3 h3 => ⟨(by show 3 ≤ sizeLine; decide), fun a4 h4 => ⟨(by show 2 ≤ sizeLine; decide), fun g4 hg => ?_⟩⟩⟩⟩⟩
        have k2 := Grows.new (o := .lst [L2.V.int 0, L2.V.int 1, L2.V.int 2, L2.V.int 3]) h2
        have k3 := Grows.new (o := .lst [L2.V.int 2, L2.V.int 3]) h3
        have k4 := Grows.new (o := .lst [L2.V.ref r1, L2.V.ref r2, L2.V.ref r3]) h4
        have kg := Grows.new (o := .lst [L2.V.int 0, L2.V.int 2]) hg
        refine ⟨a4, g4, [(r1, [0, 1]), (r2, [0, 1, 2, 3]), (r3, [2, 3])], [0, 2], rfl, ⟨SqL.of (kg _ _ upd_same), fun c hc => ?_⟩, ⟨(by show 3 ≤ 1000; decide), fun r hr => ?_⟩, four_isp, four_par, by show 3 < 20; decide, SqL.of upd_same, by decide, (by show plist (((3 : Nat) : Int) + 1) [0, 2] = true; decide +kernel), fun H9 g9 => ?_⟩
        · rcases List.mem_cons.mp hc with rfl | hc
          · exact SqL.of (kg _ _ (k4 _ _ (k3 _ _ (k2 _ _ upd_same))))
          · rcases List.mem_cons.mp hc with rfl | hc
            · exact SqL.of (kg _ _ (k4 _ _ (k3 _ _ upd_same)))
            · rw [List.mem_singleton.mp hc]
              exact SqL.of (kg _ _ (k4 _ _ upd_same))
        · simp only [List.map_cons, List.map_nil, List.mem_cons, List.not_mem_nil, or_false] at hr
          rcases hr with rfl | rfl | rfl <;> decide
        · refine ⟨rfl, ?_⟩
          rw [show (trR (List.map (fun x => x.2) [(r1, [0, 1]), (r2, [0, 1, 2, 3]), (r3, [2, 3])]) (allR (List.map (fun x => x.2) [(r1, [0, 1]), (r2, [0, 1, 2, 3]), (r3, [2, 3])]))).conf [0, 2] = 2 from val5, decide_eq_true rfl]
          exact kq _
end
end K33

namespace K33
open PySem PySem.Spec PyProof.Rows L2 SortR LcM RepA
theorem kb_two {K : PySem.W.Frag} {fd : FuncData} (h2 : ∀ (s : Shared) (a b : Value), BindsTo s fd ⟨[], [("parting", a), ("some", b)]⟩ [("parting", a), ("some", b)]) (h0 : ∀ (s : Shared) (a b : Value), BindsTo s fd ⟨[a, b], []⟩ [("parting", a), ("some", b)]) :
    KBinds K fd ["parting", "some"] ["parting", "some"] selL selL := by
  refine ⟨fun s us ws _ h => ?_, fun r r2 => ?_⟩
  · match us, ws, h with
    | [], [_, _], _ => exact h2 _ _ _
    | [_, _], [], _ => exact h0 _ _ _
    | [], [], e => cases e
    | [], [_], e => cases e
    | [], _ :: _ :: _ :: _, e => cases e
    | [_], [], e => cases e
    | _ :: _ :: _ :: _, [], e => cases e
    | _ :: _, _ :: _, e => cases e
  · cases r with
    | nil => exact r2
    | cons a b =>
      cases r2 with
      | nil => exact .cons a b
      | cons c d => exact .nil
theorem all_mk {l : PySem.W.OpenLaw} {w : World} {K : PySem.W.Frag} {h : Heap} {mg : Str → Option Value} {fa fNum fPer fAsc fPL fGr fMask fCross fAny fIs fPs fBoth fPbS fChg fStore fPick fCome fGroups fAbove fAll fHalves fCosts fRt fL : Addr} (X : K.In h) (G : h.Ns mainGlobals mg) (hfa : mg "law" = some (.ref fa))
    {odNum anNum odPer anPer odAsc anAsc odPL anPL odGr anGr odMask anMask odCross anCross odAny anAny odIs anIs odPs anPs odBoth anBoth odPbS anPbS odChg anChg odStore anStore odPick anPick odCome anCome odGroups anGroups odAbove anAbove odAll anAll odHalves anHalves odCosts anCosts odRt anRt odL anL : Option Addr} {slNum slPer slAsc slPL slGr slMask slCross slAny slIs slPs slBoth slPbS slChg slStore slPick slCome slGroups slAbove slAll slHalves slCosts slRt slL : Array (Option Value)} {ocNum kVNum dcNum pmNum cvNum ctNum ocPer kVPer dcPer pmPer cvPer ctPer ocAsc kVAsc dcAsc pmAsc cvAsc ctAsc ocPL kVPL dcPL pmPL cvPL ctPL ocGr kVGr dcGr pmGr cvGr ctGr ocMask kVMask dcMask pmMask cvMask ctMask ocCross kVCross dcCross pmCross cvCross ctCross ocAny kVAny dcAny pmAny cvAny ctAny ocIs kVIs dcIs pmIs cvIs ctIs ocPs kVPs dcPs pmPs cvPs ctPs ocBoth kVBoth dcBoth pmBoth cvBoth ctBoth ocPbS kVPbS dcPbS pmPbS cvPbS ctPbS ocChg kVChg dcChg pmChg cvChg ctChg ocStore kVStore dcStore pmStore cvStore ctStore ocPick kVPick dcPick pmPick cvPick ctPick ocCome kVCome dcCome pmCome cvCome ctCome ocGroups kVGroups dcGroups pmGroups cvGroups ctGroups ocAbove kVAbove dcAbove pmAbove cvAbove ctAbove ocAll kVAll dcAll pmAll cvAll ctAll ocHalves kVHalves dcHalves pmHalves cvHalves ctHalves ocCosts kVCosts dcCosts pmCosts cvCosts ctCosts ocRt kVRt dcRt pmRt cvRt ctRt ocL kVL dcL pmL cvL ctL : Value} {mtok ktok utok : Tok}
    (aNum : PySem.W.nsIn K mainGlobals "is_number" = some (some (.ref fNum))) (lNum : K.lookup fNum = some ⟨ocNum, odNum, .func (PySem.W.fnOf "is_number" "is_number" (defArgs sNumber) (defBody sNumber) (defScope sNumber) .none kVNum dcNum pmNum anNum cvNum ctNum), slNum⟩) (xNum : PySem.W.codeIn K cvNum "is_number" = true) (kNum : PySem.W.keepIn K (.ref fNum) = true)
    (aPer : PySem.W.nsIn K mainGlobals "is_person" = some (some (.ref fPer))) (lPer : K.lookup fPer = some ⟨ocPer, odPer, .func (PySem.W.fnOf "is_person" "is_person" (defArgs sPerson) (defBody sPerson) (defScope sPerson) .none kVPer dcPer pmPer anPer cvPer ctPer), slPer⟩) (xPer : PySem.W.codeIn K cvPer "is_person" = true) (kPer : PySem.W.keepIn K (.ref fPer) = true)
    (aAsc : PySem.W.nsIn K mainGlobals "is_ascending" = some (some (.ref fAsc))) (lAsc : K.lookup fAsc = some ⟨ocAsc, odAsc, .func (PySem.W.fnOf "is_ascending" "is_ascending" (defArgs sAsc) (defBody sAsc) (defScope sAsc) .none kVAsc dcAsc pmAsc anAsc cvAsc ctAsc), slAsc⟩) (xAsc : PySem.W.codeIn K cvAsc "is_ascending" = true) (kAsc : PySem.W.keepIn K (.ref fAsc) = true)
    (aPL : PySem.W.nsIn K mainGlobals "is_person_list" = some (some (.ref fPL))) (lPL : K.lookup fPL = some ⟨ocPL, odPL, .func (PySem.W.fnOf "is_person_list" "is_person_list" (defArgs sPList) (defBody sPList) (defScope sPList) .none kVPL dcPL pmPL anPL cvPL ctPL), slPL⟩) (xPL : PySem.W.codeIn K cvPL "is_person_list" = true) (kPL : PySem.W.keepIn K (.ref fPL) = true)
    (aGr : PySem.W.nsIn K mainGlobals "is_group" = some (some (.ref fGr))) (lGr : K.lookup fGr = some ⟨ocGr, odGr, .func (PySem.W.fnOf "is_group" "is_group" (defArgs sGroup) (defBody sGroup) (defScope sGroup) .none kVGr dcGr pmGr anGr cvGr ctGr), slGr⟩) (xGr : PySem.W.codeIn K cvGr "is_group" = true) (kGr : PySem.W.keepIn K (.ref fGr) = true)
    (aMask : PySem.W.nsIn K mainGlobals "mask_of" = some (some (.ref fMask))) (lMask : K.lookup fMask = some ⟨ocMask, odMask, .func (PySem.W.fnOf "mask_of" "mask_of" (defArgs sMask) (defBody sMask) (defScope sMask) .none kVMask dcMask pmMask anMask cvMask ctMask), slMask⟩) (xMask : PySem.W.codeIn K cvMask "mask_of" = true) (kMask : PySem.W.keepIn K (.ref fMask) = true)
    (aCross : PySem.W.nsIn K mainGlobals "masks_cross" = some (some (.ref fCross))) (lCross : K.lookup fCross = some ⟨ocCross, odCross, .func (PySem.W.fnOf "masks_cross" "masks_cross" (defArgs sCross) (defBody sCross) (defScope sCross) .none kVCross dcCross pmCross anCross cvCross ctCross), slCross⟩) (xCross : PySem.W.codeIn K cvCross "masks_cross" = true) (kCross : PySem.W.keepIn K (.ref fCross) = true)
    (aAny : PySem.W.nsIn K mainGlobals "any_cross" = some (some (.ref fAny))) (lAny : K.lookup fAny = some ⟨ocAny, odAny, .func (PySem.W.fnOf "any_cross" "any_cross" (defArgs sAny) (defBody sAny) (defScope sAny) .none kVAny dcAny pmAny anAny cvAny ctAny), slAny⟩) (xAny : PySem.W.codeIn K cvAny "any_cross" = true) (kAny : PySem.W.keepIn K (.ref fAny) = true)
    (aIs : PySem.W.nsIn K mainGlobals "is_parting" = some (some (.ref fIs))) (lIs : K.lookup fIs = some ⟨ocIs, odIs, .func (PySem.W.fnOf "is_parting" "is_parting" (defArgs sParting) (defBody sParting) (defScope sParting) .none kVIs dcIs pmIs anIs cvIs ctIs), slIs⟩) (xIs : PySem.W.codeIn K cvIs "is_parting" = true) (kIs : PySem.W.keepIn K (.ref fIs) = true)
    (aPs : PySem.W.nsIn K mainGlobals "persons_of" = some (some (.ref fPs))) (lPs : K.lookup fPs = some ⟨ocPs, odPs, .func (PySem.W.fnOf "persons_of" "persons_of" (defArgs sPersons) (defBody sPersons) (defScope sPersons) .none kVPs dcPs pmPs anPs cvPs ctPs), slPs⟩) (xPs : PySem.W.codeIn K cvPs "persons_of" = true) (kPs : PySem.W.keepIn K (.ref fPs) = true)
    (aBoth : PySem.W.nsIn K mainGlobals "both_parts" = some (some (.ref fBoth))) (lBoth : K.lookup fBoth = some ⟨ocBoth, odBoth, .func (PySem.W.fnOf "both_parts" "both_parts" (defArgs sBoth) (defBody sBoth) (defScope sBoth) .none kVBoth dcBoth pmBoth anBoth cvBoth ctBoth), slBoth⟩) (xBoth : PySem.W.codeIn K cvBoth "both_parts" = true) (kBoth : PySem.W.keepIn K (.ref fBoth) = true)
    (aPbS : PySem.W.nsIn K mainGlobals "parts_by_size" = some (some (.ref fPbS))) (lPbS : K.lookup fPbS = some ⟨ocPbS, odPbS, .func (PySem.W.fnOf "parts_by_size" "parts_by_size" (defArgs sPbS) (defBody sPbS) (defScope sPbS) .none kVPbS dcPbS pmPbS anPbS cvPbS ctPbS), slPbS⟩) (xPbS : PySem.W.codeIn K cvPbS "parts_by_size" = true) (kPbS : PySem.W.keepIn K (.ref fPbS) = true)
    (aChg : PySem.W.nsIn K mainGlobals "changes_of" = some (some (.ref fChg))) (lChg : K.lookup fChg = some ⟨ocChg, odChg, .func (PySem.W.fnOf "changes_of" "changes_of" (defArgs sChg) (defBody sChg) (defScope sChg) .none kVChg dcChg pmChg anChg cvChg ctChg), slChg⟩) (xChg : PySem.W.codeIn K cvChg "changes_of" = true) (kChg : PySem.W.keepIn K (.ref fChg) = true)
    (aStore : PySem.W.nsIn K mainGlobals "_law_store" = some (some (.ref fStore))) (lStore : K.lookup fStore = some ⟨ocStore, odStore, .func (PySem.W.fnOf "_law_store" "_law_store" (defArgs sStore) (defBody sStore) (defScope sStore) .none kVStore dcStore pmStore anStore cvStore ctStore), slStore⟩) (xStore : PySem.W.codeIn K cvStore "_law_store" = true) (kStore : PySem.W.keepIn K (.ref fStore) = true)
    (aPick : PySem.W.nsIn K mainGlobals "_law_pick" = some (some (.ref fPick))) (lPick : K.lookup fPick = some ⟨ocPick, odPick, .func (PySem.W.fnOf "_law_pick" "_law_pick" (defArgs sPick) (defBody sPick) (defScope sPick) .none kVPick dcPick pmPick anPick cvPick ctPick), slPick⟩) (xPick : PySem.W.codeIn K cvPick "_law_pick" = true) (kPick : PySem.W.keepIn K (.ref fPick) = true)
    (aCome : PySem.W.nsIn K mainGlobals "_law_come" = some (some (.ref fCome))) (lCome : K.lookup fCome = some ⟨ocCome, odCome, .func (PySem.W.fnOf "_law_come" "_law_come" (defArgs sCome) (defBody sCome) (defScope sCome) .none kVCome dcCome pmCome anCome cvCome ctCome), slCome⟩) (xCome : PySem.W.codeIn K cvCome "_law_come" = true) (kCome : PySem.W.keepIn K (.ref fCome) = true)
    (aGroups : PySem.W.nsIn K mainGlobals "_law_groups" = some (some (.ref fGroups))) (lGroups : K.lookup fGroups = some ⟨ocGroups, odGroups, .func (PySem.W.fnOf "_law_groups" "_law_groups" (defArgs sGroups) (defBody sGroups) (defScope sGroups) .none kVGroups dcGroups pmGroups anGroups cvGroups ctGroups), slGroups⟩) (xGroups : PySem.W.codeIn K cvGroups "_law_groups" = true) (kGroups : PySem.W.keepIn K (.ref fGroups) = true)
    (aAbove : PySem.W.nsIn K mainGlobals "_law_least_above" = some (some (.ref fAbove))) (lAbove : K.lookup fAbove = some ⟨ocAbove, odAbove, .func (PySem.W.fnOf "_law_least_above" "_law_least_above" (defArgs sAbove) (defBody sAbove) (defScope sAbove) .none kVAbove dcAbove pmAbove anAbove cvAbove ctAbove), slAbove⟩) (xAbove : PySem.W.codeIn K cvAbove "_law_least_above" = true) (kAbove : PySem.W.keepIn K (.ref fAbove) = true)
    (aAll : PySem.W.nsIn K mainGlobals "_law_by_all" = some (some (.ref fAll))) (lAll : K.lookup fAll = some ⟨ocAll, odAll, .func (PySem.W.fnOf "_law_by_all" "_law_by_all" (defArgs sAll) (defBody sAll) (defScope sAll) .none kVAll dcAll pmAll anAll cvAll ctAll), slAll⟩) (xAll : PySem.W.codeIn K cvAll "_law_by_all" = true) (kAll : PySem.W.keepIn K (.ref fAll) = true)
    (aHalves : PySem.W.nsIn K mainGlobals "_law_halves" = some (some (.ref fHalves))) (lHalves : K.lookup fHalves = some ⟨ocHalves, odHalves, .func (PySem.W.fnOf "_law_halves" "_law_halves" (defArgs sHalves) (defBody sHalves) (defScope sHalves) .none kVHalves dcHalves pmHalves anHalves cvHalves ctHalves), slHalves⟩) (xHalves : PySem.W.codeIn K cvHalves "_law_halves" = true) (kHalves : PySem.W.keepIn K (.ref fHalves) = true)
    (aCosts : PySem.W.nsIn K mainGlobals "_law_by_costs" = some (some (.ref fCosts))) (lCosts : K.lookup fCosts = some ⟨ocCosts, odCosts, .func (PySem.W.fnOf "_law_by_costs" "_law_by_costs" (defArgs sCosts) (defBody sCosts) (defScope sCosts) .none kVCosts dcCosts pmCosts anCosts cvCosts ctCosts), slCosts⟩) (xCosts : PySem.W.codeIn K cvCosts "_law_by_costs" = true) (kCosts : PySem.W.keepIn K (.ref fCosts) = true)
    (aRt : PySem.W.nsIn K mainGlobals "_law_right" = some (some (.ref fRt))) (lRt : K.lookup fRt = some ⟨ocRt, odRt, .func (PySem.W.fnOf "_law_right" "_law_right" (defArgs sRt) (defBody sRt) (defScope sRt) .none kVRt dcRt pmRt anRt cvRt ctRt), slRt⟩) (xRt : PySem.W.codeIn K cvRt "_law_right" = true) (kRt : PySem.W.keepIn K (.ref fRt) = true)
    (aL : PySem.W.nsIn K mainGlobals "law" = some (some (.ref fL))) (lL : K.lookup fL = some ⟨ocL, odL, .func (PySem.W.fnOf "law" "law" (defArgs sLaw) (defBody sLaw) (defScope sLaw) .none kVL dcL pmL anL cvL ctL), slL⟩) (xL : PySem.W.codeIn K cvL "law" = true) (kL : PySem.W.keepIn K (.ref fL) = true)
    (y_isinstance : PySem.W.nsIn K mainGlobals "isinstance" = some none)
    (y_int : PySem.W.nsIn K mainGlobals "int" = some none)
    (y_bool : PySem.W.nsIn K mainGlobals "bool" = some none)
    (y_list : PySem.W.nsIn K mainGlobals "list" = some none)
    (y_len : PySem.W.nsIn K mainGlobals "len" = some none)
    (y_all : PySem.W.nsIn K mainGlobals "all" = some none)
    (y_any : PySem.W.nsIn K mainGlobals "any" = some none)
    (y_sum : PySem.W.nsIn K mainGlobals "sum" = some none)
    (y_zip : PySem.W.nsIn K mainGlobals "zip" = some none)
    (y_sorted : PySem.W.nsIn K mainGlobals "sorted" = some none)
    (y_tuple : PySem.W.nsIn K mainGlobals "tuple" = some none)
    (y_range : PySem.W.nsIn K mainGlobals "range" = some none)
    (y_enumerate : PySem.W.nsIn K mainGlobals "enumerate" = some none)
    (y_abs : PySem.W.nsIn K mainGlobals "abs" = some none)
    (y_max : PySem.W.nsIn K mainGlobals "max" = some none)
    (y_min : PySem.W.nsIn K mainGlobals "min" = some none)
    (y_repr : PySem.W.nsIn K mainGlobals "repr" = some none)
    (zComb : PySem.W.nsIn K mainGlobals "combinations" = some (some (.type "itertools.combinations"))) (zMost : PySem.W.nsIn K mainGlobals "MOST_PERSONS" = some (some (.int 20 mtok))) (zMark : PySem.W.nsIn K mainGlobals "MARKED" = some (some (.int 2 ktok))) (zUnm : PySem.W.nsIn K mainGlobals "UNMARKED" = some (some (.int 1 utok))) :
    ∃ fd : FuncData, (∀ (s : Shared) (v : Value), BindsTo s fd ⟨[v], []⟩ [("script", v)]) ∧ ∀ base : Heap, K.In base → base.Ns mainGlobals mg → FnG l.prog w K mg base CX0 9 fa fd ["script"] (spLaw K) := by
  have e := hfa.symm.trans (PySem.W.mg_of X G aL)
  cases e
  have FNum := fun_mk (st := sNumber) lNum xNum kNum
  have bNum := FNum.binds (ps := ["thing"]) fun _ _ _ _ _ _ us hl => match us, hl with | [_], _ => rfl
  have FPer := fun_mk (st := sPerson) lPer xPer kPer
  have bPer := FPer.binds (ps := ["thing", "persons"]) fun _ _ _ _ _ _ us hl => match us, hl with | [_, _], _ => rfl
  have FAsc := fun_mk (st := sAsc) lAsc xAsc kAsc
  have bAsc := FAsc.binds (ps := ["items"]) fun _ _ _ _ _ _ us hl => match us, hl with | [_], _ => rfl
  have FPL := fun_mk (st := sPList) lPL xPL kPL
  have bPL := FPL.binds (ps := ["thing", "persons"]) fun _ _ _ _ _ _ us hl => match us, hl with | [_, _], _ => rfl
  have FGr := fun_mk (st := sGroup) lGr xGr kGr
  have bGr := FGr.binds (ps := ["thing", "persons"]) fun _ _ _ _ _ _ us hl => match us, hl with | [_, _], _ => rfl
  have FMask := fun_mk (st := sMask) lMask xMask kMask
  have bMask := FMask.binds (ps := ["group"]) fun _ _ _ _ _ _ us hl => match us, hl with | [_], _ => rfl
  have FCross := fun_mk (st := sCross) lCross xCross kCross
  have bCross := FCross.binds (ps := ["one", "other"]) fun _ _ _ _ _ _ us hl => match us, hl with | [_, _], _ => rfl
  have FAny := fun_mk (st := sAny) lAny xAny kAny
  have bAny := FAny.binds (ps := ["groups"]) fun _ _ _ _ _ _ us hl => match us, hl with | [_], _ => rfl
  have FIs := fun_mk (st := sParting) lIs xIs kIs
  have bIs := FIs.binds (ps := ["thing"]) fun _ _ _ _ _ _ us hl => match us, hl with | [_], _ => rfl
  have FPs := fun_mk (st := sPersons) lPs xPs kPs
  have bPs := FPs.binds (ps := ["parting"]) fun _ _ _ _ _ _ us hl => match us, hl with | [_], _ => rfl
  have FBoth := fun_mk (st := sBoth) lBoth xBoth kBoth
  have bBoth := FBoth.binds (ps := ["parting", "group"]) fun _ _ _ _ _ _ us hl => match us, hl with | [_, _], _ => rfl
  have FPbS := fun_mk (st := sPbS) lPbS xPbS kPbS
  have bPbS := FPbS.binds (ps := ["parting"]) fun _ _ _ _ _ _ us hl => match us, hl with | [_], _ => rfl
  have FChg := fun_mk (st := sChg) lChg xChg kChg
  have bChg := FChg.binds (ps := ["parting", "some"]) fun _ _ _ _ _ _ us hl => match us, hl with | [_, _], _ => rfl
  have FStore := fun_mk (st := sStore) lStore xStore kStore
  have bStore := FStore.binds (ps := ["script", "k"]) fun _ _ _ _ _ _ us hl => match us, hl with | [_, _], _ => rfl
  have FPick := fun_mk (st := sPick) lPick xPick kPick
  have bPick := FPick.binds (ps := ["store", "bound"]) fun _ _ _ _ _ _ us hl => match us, hl with | [_, _], _ => rfl
  have FCome := fun_mk (st := sCome) lCome xCome kCome
  have bCome := FCome.binds (ps := ["store", "many_here"]) fun _ _ _ _ _ _ us hl => match us, hl with | [_, _], _ => rfl
  have FGroups := fun_mk (st := sGroups) lGroups xGroups kGroups
  have bGroups := FGroups.binds (ps := ["items"]) fun _ _ _ _ _ _ us hl => match us, hl with | [_], _ => rfl
  have FAbove := fun_mk (st := sAbove) lAbove xAbove kAbove
  have bAbove := FAbove.binds (ps := ["lot", "lane"]) fun _ _ _ _ _ _ us hl => match us, hl with | [_, _], _ => rfl
  have FAll := fun_mk (st := sAll) lAll xAll kAll
  have bAll := FAll.binds (ps := ["lot", "many_here", "gang"]) fun _ _ _ _ _ _ us hl => match us, hl with | [_, _, _], _ => rfl
  have FHalves := fun_mk (st := sHalves) lHalves xHalves kHalves
  have bHalves := FHalves.binds (ps := ["lot", "row"]) fun _ _ _ _ _ _ us hl => match us, hl with | [_, _], _ => rfl
  have FCosts := fun_mk (st := sCosts) lCosts xCosts kCosts
  have bCosts := FCosts.binds (ps := ["lot", "many_here", "gang"]) fun _ _ _ _ _ _ us hl => match us, hl with | [_, _, _], _ => rfl
  have FRt := fun_mk (st := sRt) lRt xRt kRt
  have bRt := FRt.binds (ps := ["store", "many_here"]) fun _ _ _ _ _ _ us hl => match us, hl with | [_, _], _ => rfl
  have FL := fun_mk (st := sLaw) lL xL kL
  have bL := FL.binds (ps := ["script"]) fun _ _ _ _ _ _ us hl => match us, hl with | [_], _ => rfl
  have T : TxtP mg := ⟨PySem.W.mg_none_of X G y_isinstance, PySem.W.mg_none_of X G y_int, PySem.W.mg_none_of X G y_bool, PySem.W.mg_none_of X G y_list, PySem.W.mg_none_of X G y_len, PySem.W.mg_none_of X G y_all, PySem.W.mg_none_of X G y_any, PySem.W.mg_none_of X G y_sum, PySem.W.mg_none_of X G y_zip, PySem.W.mg_none_of X G y_sorted, PySem.W.mg_none_of X G y_tuple, PySem.W.mg_none_of X G y_range, PySem.W.mg_none_of X G y_enumerate⟩
  have T0 : Txt0 mg := ⟨PySem.W.mg_none_of X G y_int, PySem.W.mg_none_of X G y_range, PySem.W.mg_none_of X G y_len, PySem.W.mg_none_of X G y_abs, PySem.W.mg_none_of X G y_max, PySem.W.mg_none_of X G y_min⟩
  have T1 : TxtP1 mg fPick := ⟨T0, PySem.W.mg_of X G aPick⟩
  have Z : ProgF K mg := { fNum := fNum, dNum := _, FNum := FNum, gNum := PySem.W.mg_of X G aNum, bNum := bNum, fPer := fPer, dPer := _, FPer := FPer, gPer := PySem.W.mg_of X G aPer, bPer := bPer, fAsc := fAsc, dAsc := _, FAsc := FAsc, gAsc := PySem.W.mg_of X G aAsc, bAsc := bAsc, fPL := fPL, dPL := _, FPL := FPL, gPL := PySem.W.mg_of X G aPL, bPL := bPL, fGr := fGr, dGr := _, FGr := FGr, gGr := PySem.W.mg_of X G aGr, bGr := bGr, fMask := fMask, dMask := _, FMask := FMask, gMask := PySem.W.mg_of X G aMask, bMask := bMask, fCross := fCross, dCross := _, FCross := FCross, gCross := PySem.W.mg_of X G aCross, bCross := bCross, fAny := fAny, dAny := _, FAny := FAny, gAny := PySem.W.mg_of X G aAny, bAny := bAny, fIs := fIs, dIs := _, FIs := FIs, gIs := PySem.W.mg_of X G aIs, bIs := bIs, fPs := fPs, dPs := _, FPs := FPs, gPs := PySem.W.mg_of X G aPs, bPs := bPs, gComb := PySem.W.mg_of X G zComb, mostT := _, gMost := PySem.W.mg_of X G zMost }
  refine ⟨PySem.W.fnOf "law" "law" (defArgs sLaw) (defBody sLaw) (defScope sLaw) .none kVL dcL pmL anL cvL ctL, fun s v => .of_eq rfl, fun base _ _ => ?_⟩
  have GAbove := ok_above (P := l.prog) (w := w) (base := base) FAbove T T0
  have GHalves := ok_halves (P := l.prog) (w := w) (base := base) FHalves T
  have L : LwF l.prog w base K mg := { fPick := fPick, dPick := _, FPick := FPick, gPick := PySem.W.mg_of X G aPick, bPick := bPick, fCome := fCome, dCome := _, FCome := FCome, gCome := PySem.W.mg_of X G aCome, bCome := bCome, fGroups := fGroups, dGroups := _, FGroups := FGroups, gGroups := PySem.W.mg_of X G aGroups, bGroups := bGroups, fAll := fAll, dAll := _, FAll := FAll, gAll := PySem.W.mg_of X G aAll, bAll := bAll, fCosts := fCosts, dCosts := _, FCosts := FCosts, gCosts := PySem.W.mg_of X G aCosts, bCosts := bCosts, fChg := fChg, dChg := _, FChg := FChg, gChg := PySem.W.mg_of X G aChg, bChg := bChg, kbChg := kb_two (fun s a b => .of_eq rfl) (fun s a b => .of_eq rfl), gRepr := PySem.W.mg_none_of X G y_repr, GPick := ok_pick FPick T0, GCome := ok_come FCome T1 FPick bPick, GGroups := ok_groups FGroups T, GCosts := ok_costs FCosts T T0 (PySem.W.mg_none_of X G y_repr) GHalves FHalves (PySem.W.mg_of X G aHalves) bHalves, GAll := ok_all FAll T T0 GAbove FAbove (PySem.W.mg_of X G aAbove) bAbove, GChg := ok_chg Z T ({ fBoth := fBoth, dBoth := _, FBoth := FBoth, gBoth := PySem.W.mg_of X G aBoth, bBoth := bBoth, fPbS := fPbS, dPbS := _, FPbS := FPbS, gPbS := PySem.W.mg_of X G aPbS, bPbS := bPbS, fChg := fChg, dChg := _, FChg := FChg, gChg := PySem.W.mg_of X G aChg, bChg := bChg, markT := _, unmT := _, gMarked := PySem.W.mg_of X G zMark, gUnmarked := PySem.W.mg_of X G zUnm } : MkF K mg) }
  exact ok_law FL T T0 L (ok_store FStore T0) FStore (PySem.W.mg_of X G aStore) bStore FRt (PySem.W.mg_of X G aRt) bRt
theorem walk {l : PySem.W.OpenLaw} {q : Program} {loose : List Str} {XP : (Str → Option Value) → Heap → Prop} {YP : World → Heap → Prop} {d : DefRec} {K : Params → PySem.W.Frag} (hn : l.most = some 63) (hdf : d.params.defaults = [])
    (hY : ∀ (w : World) (h : Heap), YP w h → (K w.params).In h)
    (F : ∀ (w : World) (mg : Str → Option Value) (fa : Addr) (h : Heap), (K w.params).In h → h.Ns mainGlobals mg → mg d.name = some (.ref fa) →
      ∃ fd : FuncData, (∀ (s : Shared) (u : Value), BindsTo s fd ⟨[u], []⟩ [("script", u)]) ∧ ∀ base : Heap, (K w.params).In base → base.Ns mainGlobals mg → FnG l.prog w (K w.params) mg base CX0 9 fa fd ["script"] (spLaw (K w.params))) :
    PySem.W.WalkO q loose XP YP l.row.toRowW d [] (fun f vs => PySem.call f vs) :=
  walk_ofG (n := 63) (lv := 9) (x := "script") (cx := fun _ => CX0) (prom := fun w => spLaw (K w.params)) hn (by decide) hdf ⟨rfl, by decide, by decide⟩ hY F (fun _ _ a ns hl _ _ hS => ⟨a, ns, rfl, hS, hl, fun _ => rfl⟩) fun _ _ _ _ _ z => z
end K33


open PySem PySem.W PyProof.Rows in
set_option maxRecDepth 100000 in
set_option maxHeartbeats 0 in
theorem PySem.Challenge.cw_twopartings_k33_changes_by_all_marks_holds : PySem.Challenge.rw_twopartings_k33_changes_by_all_marks.Holds := by
  w_on; o_law; k_head; (case hw => w_witness2)
  k_fill
  refine K33.walk (l := PySem.Challenge.rw_twopartings_k33_changes_by_all_marks) rfl rfl (fun w h Y => PySem.W.kIn_of Y) ?F
  case F =>
    intro w mg fa h KX G hmg
    refine' K33.all_mk KX G hmg ?aNum ?lNum ?xNum ?kNum ?aPer ?lPer ?xPer ?kPer ?aAsc ?lAsc ?xAsc ?kAsc ?aPL ?lPL ?xPL ?kPL ?aGr ?lGr ?xGr ?kGr ?aMask ?lMask ?xMask ?kMask ?aCross ?lCross ?xCross ?kCross ?aAny ?lAny ?xAny ?kAny ?aIs ?lIs ?xIs ?kIs ?aPs ?lPs ?xPs ?kPs ?aBoth ?lBoth ?xBoth ?kBoth ?aPbS ?lPbS ?xPbS ?kPbS ?aChg ?lChg ?xChg ?kChg ?aStore ?lStore ?xStore ?kStore ?aPick ?lPick ?xPick ?kPick ?aCome ?lCome ?xCome ?kCome ?aGroups ?lGroups ?xGroups ?kGroups ?aAbove ?lAbove ?xAbove ?kAbove ?aAll ?lAll ?xAll ?kAll ?aHalves ?lHalves ?xHalves ?kHalves ?aCosts ?lCosts ?xCosts ?kCosts ?aRt ?lRt ?xRt ?kRt ?aL ?lL ?xL ?kL ?y_isinstance ?y_int ?y_bool ?y_list ?y_len ?y_all ?y_any ?y_sum ?y_zip ?y_sorted ?y_tuple ?y_range ?y_enumerate ?y_abs ?y_max ?y_min ?y_repr ?zComb ?zMost ?zMark ?zUnm
    (case aNum => k_is)
    (case lNum => k_is)
    (case xNum => k_is)
    (case kNum => k_is)
    (case aPer => k_is)
    (case lPer => k_is)
    (case xPer => k_is)
    (case kPer => k_is)
    (case aAsc => k_is)
    (case lAsc => k_is)
    (case xAsc => k_is)
    (case kAsc => k_is)
    (case aPL => k_is)
    (case lPL => k_is)
    (case xPL => k_is)
    (case kPL => k_is)
    (case aGr => k_is)
    (case lGr => k_is)
    (case xGr => k_is)
    (case kGr => k_is)
    (case aMask => k_is)
    (case lMask => k_is)
    (case xMask => k_is)
    (case kMask => k_is)
    (case aCross => k_is)
    (case lCross => k_is)
    (case xCross => k_is)
    (case kCross => k_is)
    (case aAny => k_is)
    (case lAny => k_is)
    (case xAny => k_is)
    (case kAny => k_is)
    (case aIs => k_is)
    (case lIs => k_is)
    (case xIs => k_is)
    (case kIs => k_is)
    (case aPs => k_is)
    (case lPs => k_is)
    (case xPs => k_is)
    (case kPs => k_is)
    (case aBoth => k_is)
    (case lBoth => k_is)
    (case xBoth => k_is)
    (case kBoth => k_is)
    (case aPbS => k_is)
    (case lPbS => k_is)
    (case xPbS => k_is)
    (case kPbS => k_is)
    (case aChg => k_is)
    (case lChg => k_is)
    (case xChg => k_is)
    (case kChg => k_is)
    (case aStore => k_is)
    (case lStore => k_is)
    (case xStore => k_is)
    (case kStore => k_is)
    (case aPick => k_is)
    (case lPick => k_is)
    (case xPick => k_is)
    (case kPick => k_is)
    (case aCome => k_is)
    (case lCome => k_is)
    (case xCome => k_is)
    (case kCome => k_is)
    (case aGroups => k_is)
    (case lGroups => k_is)
    (case xGroups => k_is)
    (case kGroups => k_is)
    (case aAbove => k_is)
    (case lAbove => k_is)
    (case xAbove => k_is)
    (case kAbove => k_is)
    (case aAll => k_is)
    (case lAll => k_is)
    (case xAll => k_is)
    (case kAll => k_is)
    (case aHalves => k_is)
    (case lHalves => k_is)
    (case xHalves => k_is)
    (case kHalves => k_is)
    (case aCosts => k_is)
    (case lCosts => k_is)
    (case xCosts => k_is)
    (case kCosts => k_is)
    (case aRt => k_is)
    (case lRt => k_is)
    (case xRt => k_is)
    (case kRt => k_is)
    (case aL => k_is)
    (case lL => k_is)
    (case xL => k_is)
    (case kL => k_is)
    (case y_isinstance => k_is)
    (case y_int => k_is)
    (case y_bool => k_is)
    (case y_list => k_is)
    (case y_len => k_is)
    (case y_all => k_is)
    (case y_any => k_is)
    (case y_sum => k_is)
    (case y_zip => k_is)
    (case y_sorted => k_is)
    (case y_tuple => k_is)
    (case y_range => k_is)
    (case y_enumerate => k_is)
    (case y_abs => k_is)
    (case y_max => k_is)
    (case y_min => k_is)
    (case y_repr => k_is)
    (case zComb => k_is)
    (case zMost => k_is)
    (case zMark => k_is)
    (case zUnm => k_is)
