import PyProof.Rows.All
import Wide.All
import OpenK.AllK
import Wide.FinOn
import PySem.Challenge.RW_twopartings_k35_errors_of_families_and_m
import HandS.ForMost
import HandS.Wide
import HandS.WideBits
import PyProof.ReprRoads
import HandS.EndBits
import PyProof.ZipIter
import PyProof.CallType
import PyProof.Walk
import PyProof.WalkLemmas
import PyProof.RangeIter
import PyProof.RulesTry
import PyProof.TupleOfSeq
import KE.SortData
import KE.DataCmp
import HandS.DictComp
import HandS.Conv
import PyProof.ReprLen
import KE.KMinBuiltin
import KE.GoesEnumKw
import KE.KRevSl
import KE.KDictZip
import KE.GoesEnum
import PyProof.Rows.BitMore
import HandS.Sort
import KE.KDictSum
import HandS.HotCalls
import HandS.Comp
import HandS.Hot
import HandS.Gcd
import KE.KMathGC
import HandS.ExcCtx
import HandS.SetBool
import HandS.TupSets
import HandS.Iter
import HandS.DictTup
import KE.KSortKey
import HandS.ExcOwn
import PyProof.NeKinds
import HandS.IsInst
import HandS.ForExc
import HandS.ExcIs
import HandS.RaiseMore
import HandS.WordsExc
import HandS.FStr
import HandS.Deep
set_option Elab.async false
set_option linter.all false
set_option maxRecDepth 100000
set_option maxHeartbeats 40000000
namespace RepA
open PySem PySem.Spec PyProof.Rows L2

/-! ### data without a dict -/
mutual
theorem dp_nodict {K : PySem.W.Frag} {H : Hp} : ∀ (d : PyData) (v : V), Dp K H v d → d.hasDict = false
  | .none, _, _ => by simp only [PyData.hasDict]
  | .bool _, _, _ => by simp only [PyData.hasDict]
  | .int _, _, _ => by simp only [PyData.hasDict]
  | .str _, _, _ => by simp only [PyData.hasDict]
  | .list ds, _, h => by
    cases h with
    | lst hs ha =>
      simp only [PyData.hasDict]
      exact dpAll_nodict ds _ ha
  | .tuple ds, _, h => by
    cases h with
    | tup hs ha =>
      simp only [PyData.hasDict]
      exact dpAll_nodict ds _ ha
  | .dict _, _, h => by cases h
theorem dpAll_nodict {K : PySem.W.Frag} {H : Hp} : ∀ (ds : List PyData) (vs : List V), DpAll K H vs ds → PyData.hasDictAll ds = false
  | [], _, _ => by simp only [PyData.hasDictAll]
  | d :: ds, _, h => by
    cases h with
    | cons h1 h2 => simp only [PyData.hasDictAll, dp_nodict d _ h1, dpAll_nodict ds _ h2, Bool.or_self]
end

/-! ### an item: data, or an empty dict -/
def Dd (K : PySem.W.Frag) (H : Hp) (v : V) (d : PyData) : Prop := Dp K H v d ∨ ∃ a, v = .ref a ∧ H a = some (.dK []) ∧ d = .dict []
inductive DdAll (K : PySem.W.Frag) (H : Hp) : List V → List PyData → Prop
  | nil : DdAll K H [] []
  | cons {v : V} {vs : List V} {d : PyData} {ds : List PyData} : Dd K H v d → DdAll K H vs ds → DdAll K H (v :: vs) (d :: ds)
theorem DdAll.of_dp {K : PySem.W.Frag} {H : Hp} : ∀ {vs : List V} {ds : List PyData}, DpAll K H vs ds → DdAll K H vs ds
  | _, _, .nil => .nil
  | _, _, .cons h r => .cons (.inl h) (.of_dp r)

section
variable {X : Cx} {pins : List (Addr × Obj)} {σ : L2.St} {H : Hp} {s : Shared}
theorem dd_reads (I : Inv X pins σ H s) {v : V} {u : Value} {d : PyData} (h : Dd X.K H v d) (r : RelV v u) : ∃ as, Reads s.heap u d as ∧ (d.hasDict = true → sysModules ∉ as) := by
  rcases h with h | ⟨a, rfl, ha, rfl⟩
  · obtain ⟨as, q⟩ := Dp.reads I d v u h r
    exact ⟨as, q, fun e => by rw [dp_nodict d v h] at e; cases e⟩
  · obtain rfl : u = Value.ref a := r
    obtain ⟨_, hn, vs, rel, dd⟩ := dk_of I.hok ha
    obtain ⟨o, es, ep, e1, e2, e3, e4⟩ := dd
    cases rel
    have hes : es.toList = [] := by
      have q := e4.2.1
      generalize es.toList = l at q
      cases q
      rfl
    refine ⟨[a], ?_, fun _ hm => ?_⟩
    · refine Reads.dict (as := []) (bs := []) e1 e2.1 e3 ?_ ?_
      · rw [hes]
        exact ReadsAll.nil
      · rw [hes]
        exact ReadsAll.nil
    · rcases List.mem_cons.mp hm with q | q
      · rw [q] at hn
        rw [beq_self_eq_true] at hn
        cases hn
      · cases q

/-- all items, each by itself -/
theorem dd_all (I : Inv X pins σ H s) : ∀ {vs : List V} {ds : List PyData} {us : List Value}, DdAll X.K H vs ds → Vals vs us → PyData.showableAll ds = true → (∀ t ∈ PyData.shownAll ds, t.length ≤ sizeLine) →
    (∃ as, ReadsAll s.heap us ds as) ∧ ∃ bs, ReadAtMost s.heap (PyData.depthAll ds) bs ∧ ReprAllK X.prog X.w bs s.heap (PyData.depthAll ds) us (PyData.shownAll ds)
  | _, _, _, .nil, .nil, _, _ => ⟨⟨_, .nil⟩, [], (fun _ h => nomatch h), by simp only [PyData.shownAll]; exact .nil⟩
  | _, _, _, .cons (d := d) (ds := ds) h hr, .cons r rr, hs, hz => by
    obtain ⟨s1, s2⟩ : d.showable = true ∧ PyData.showableAll ds = true := by simpa [PyData.showableAll] using hs
    obtain ⟨a1, q1, n1⟩ := dd_reads I h r
    obtain ⟨b1, m1, k1⟩ := ReprK.of_reads (prog := X.prog) (w := X.w) q1 s1 n1 (hz _ (by simp only [PyData.shownAll]; exact List.mem_cons_self ..))
    obtain ⟨⟨a2, q2⟩, b2, m2, k2⟩ := dd_all I hr rr s2 fun t ht => hz t (by simp only [PyData.shownAll]; exact List.mem_cons_of_mem _ ht)
    have l1 : d.depth ≤ PyData.depthAll (d :: ds) := by simp only [PyData.depthAll]; omega
    have l2 : PyData.depthAll ds ≤ PyData.depthAll (d :: ds) := by simp only [PyData.depthAll]; omega
    refine ⟨⟨_, .cons q1 q2⟩, b1 ++ b2, fun b hb => ?_, ?_⟩
    · rcases List.mem_append.mp hb with hb | hb
      · obtain ⟨d', as', r', z⟩ := m1 b hb
        exact ⟨d', as', r', Nat.le_trans z l1⟩
      · obtain ⟨d', as', r', z⟩ := m2 b hb
        exact ⟨d', as', r', Nat.le_trans z l2⟩
    · simp only [PyData.shownAll]
      exact .cons ((k1.more fun b hb => List.mem_append.mpr (.inl hb)).level_le l1) (k2.more_le (fun b hb => List.mem_append.mpr (.inr hb)) l2)

/-- repr of a list of data and empty dicts, where no guard stands -/
theorem call_reprL (hg : X.A.guards = some []) (hu : X.A.units + 64 < cLine) : CallR X (.builtin "repr") (fun xs H Q => ∃ a ys ds, xs = [V.ref a] ∧ SqL X.K H a ys ∧ DdAll X.K H ys ds ∧ PyData.showableAll ds = true ∧ PyData.depthAll ds ≤ 40 ∧
    (listText (PyData.shownAll ds)).length ≤ sizeLine ∧ Q (.str (PyData.list ds).shown) H) := by
  intro pins s σ H xs us Q I r h
  obtain ⟨a, ys, ds, rfl, hs, hd, hw, hdp, hz, q⟩ := h
  obtain ⟨u, rfl, ru⟩ := vals1 r
  obtain rfl : u = Value.ref a := ru
  obtain ⟨its, rv, ⟨o, n, ho, hc, hne, hda⟩, hsz⟩ := I.list hs
  obtain ⟨⟨as, hR⟩, bs, hb, hk⟩ := dd_all I hd rv hw fun t ht => Nat.le_trans (listText_mem_le ht) hz
  have rd : Reads s.heap (.ref a) (.list ds) (a :: as) := .list ho hc hda hR
  have hna : a ∉ bs := not_mem_of_deeper rd (by simp only [PyData.depth]; omega) hb
  have fin : ∀ (t tk : Nat) (h' : Heap), (∀ b o, s.heap.get? b = some o → h'.get? b = some o) → EP X pins σ Q (.str (listText (PyData.shownAll ds)) t) { s with heap := h', toks := tk } := fun t tk h' k =>
    ⟨.str _, H, I.kept k, ⟨t, rfl⟩, by simpa only [PyData.shown] using q⟩
  refine call_repr_slot (by omega) ⟨o, ho, hc⟩ F.slot_list_repr.toG ?_
  obtain ⟨l⟩ : ∃ l, l = its := ⟨_, rfl⟩
  cases its with
  | nil =>
    cases hR
    exact call_list_repr_empty ⟨o, ho, hc⟩ ho hda ⟨_, _, rfl, by simpa only [PyData.shownAll, listText_nil] using fin s.toks (s.toks + 1) s.heap fun _ _ e => e⟩
  | cons x l =>
    refine call_list_reprK (h₀ := s.heap) ho hc hda hna (by simpa using hk.length_eq) (fun i y e => hk.item i y (by simpa using e)) hg (fun b _ => Clear.nil b) (by show X.A.units + 1 + (PyData.depthAll ds + 1) < cLine; omega) (fun _ _ e => e) (fun h' t tk k => ⟨_, _, rfl, fin t tk h' k⟩) hz
end
end RepA

namespace RepA
open PySem PySem.Spec PyProof.Rows L2

/-! ### the promise of a def that is called where no guard stands -/
structure FnG (Pg : Program) (wd : World) (Kf : PySem.W.Frag) (gl : Str → Option Value) (bs : Heap) (cx : CXT) (lv : Nat) (fa : Addr) (dat : FuncData) (names : List Str) (prom : Sp) : Prop where
  cnt : ∀ xs G Qv Ex, prom xs G Qv Ex → xs.length = names.length
  go : ∀ (Ar : Around) (fr : List Env) (sh : Shared) (G : Hp) (ar : Args) (us : List Value) (xs : List V) (Qv : VK) (Ex : XK), Room lv Ar → Ar.guards = some [] →
    Env0 Pg wd Kf gl bs Ar fr sh G → BindsTo sh dat ar (names.zip us) → Vals xs us → prom xs G Qv Ex →
    codeAny (model Pg wd) Ar (.call (.ref fa) ar) (CR cx fr Pg wd G sh Qv Ex) sh

theorem FnG.of {Pg : Program} {wd : World} {Kf : PySem.W.Frag} {gl : Str → Option Value} {bs : Heap} {cx : CXT} {lv : Nat} {fa : Addr} {dat : FuncData} {names : List Str} {prom : Sp}
    (f : FnOk Pg wd Kf gl bs cx lv fa dat names prom) : FnG Pg wd Kf gl bs cx lv fa dat names prom :=
  ⟨f.len, fun Ar fr sh G ar us xs Qv Ex r _ e b v p => f.run Ar fr sh G ar us xs Qv Ex r e b v p⟩

/-- a def of the text by its body, where no guard stands -/
theorem okG {Pg : Program} {wd : World} {Kf : PySem.W.Frag} {gl : Str → Option Value} {bs : Heap} {nm qn : Str} {st : Stmt} {fa : Addr} {dat : FuncData} {slots names : List Str} {lv : Nat} {prom : Sp}
    (F : Fun Kf nm qn st fa dat) (S : FnScope slots names (defScope st)) (cnt : ∀ xs G Qv Ex, prom xs G Qv Ex → xs.length = names.length)
    (body : ∀ (cd : Value) (Ar : Around) (fr : List Env) (sh : Shared) (G : Hp) (xs : List V) (Qv : VK) (Ex : XK), Room lv (Ar.deeper (envOfC qn (defScope st) sh.heap.objs.size fa cd)) → Ar.guards = some [] → prom xs G Qv Ex →
      ∃ t, PSs (cxOf CX0 Pg wd Kf gl bs slots qn (defScope st) fa cd Ar fr sh G Ex).nox (defBody st) t ∧ t { nx := fun _ G' => Qv .non G', rt := Qv } (start slots xs) G) :
    FnG Pg wd Kf gl bs CX0 (lv + 1) fa dat names prom := by
  obtain ⟨oc, od, kV, doc, pm, an, cd, ct, osl, rfl, look, code⟩ := F.ex
  refine ⟨cnt, fun Ar fr sh G ar us xs Qv Ex room noG env bind vals hp => ?_⟩
  have sz := cnt _ _ _ _ hp
  have inK : Kf.In sh.heap := env.mod.kin.keeps fun b o q => (env.bs b o q).1
  have noL : sh.heap.NoLimit := env.mod.nolimit.keeps fun b o q => (env.bs b o q).1
  have kinds : ∀ y ∈ names.zip us, (defScope st).names.lookup y.1 = some .local ∨ ((defScope st).names.lookup y.1 = some .cell ∧ ((cellsFrom (sh.heap.objs.size + 1) (defScope st).names []).lookup y.1).isSome = true) := by
    rintro ⟨n, v⟩ hy
    rcases S.par n (List.of_mem_zip hy).1 with z | z
    · exact .inl z
    · exact .inr ⟨z, PySem.W.cellsFrom_some _ _ _ (.inl z)⟩
  refine codeAny_call_function room.depth (inK _ _ look) rfl S.co S.gen rfl (PySem.W.codeRec_of inK code) (bind _ _ _ _ ?_)
  refine wpAny_newFunctionEnv_cells S.kind kinds fun en hen sh1 inC => ?_
  subst hen
  refine ⟨noL.keeps inC.toInCall.keep, codeAny_func ?_⟩
  obtain ⟨t, walk, read⟩ := body cd Ar fr sh G xs Qv Ex (room.deeper _) noG hp
  have I0 := inv_start (CX := CX0) (P := Pg) (w := wd) (K := Kf) (mg := gl) (base := bs) (E := Ex) S room.hd env sz vals inC
  refine wpAny_mono (walk.nox.run [] sh1 _ G _ I0 read) (fun fl sh2 out => ?_) fun _ _ x => x
  cases fl with
  | ret u =>
    obtain ⟨v, σ2, G2, J, rel, q⟩ := out
    exact ⟨v, G2, J.os, J.bare, J.base, J.hok, rel, q⟩
  | next =>
    obtain ⟨σ2, G2, J, q⟩ := out
    exact ⟨V.non, G2, J.os, J.bare, J.base, J.hok, (rfl : RelV V.non Value.none), q⟩
  | brk => exact out.elim fun _ z => z.elim fun _ z => z.2.elim
  | cont => exact out.elim fun _ z => z.elim fun _ z => z.2.elim

section
variable {X : Cx} {x : Str} {p pos : Pos} {e : Expr} {es : List Expr} {t : TA} {CX : CXT} {k : Nat} {f : Addr} {fd : FuncData} {ps : List Str} {sp : Sp} {ds : List Value} {dvs : List V} {E : XK}
/-- f(e, ..), f such a def -/
theorem pe_callG (F : FnG X.prog X.w X.K X.mg X.base CX k f fd ps sp) (room : Room k X.A) (noG : X.A.guards = some []) (hg : Gl X x) (hm : X.mg x = some (.ref f)) (kp : PySem.W.keepIn X.K (.ref f) = true) (bd : Binds X.K fd ps ds) (dv : Vals dvs ds) (ps' : Passes CX X E)
    (args : PA X (e :: es) t) (hdb : (x == ("__debug__" : Str)) = false := by decide) (h1 : starEach (e :: es) X.env = (false, eval e X.env) :: starEach es X.env := by rfl) (h2 : (backTo pos (starEach es X.env)).any (·.1) = false := by rfl) :
    PE X (.Call (.Name x p) (e :: es) [] pos) (tCall sp dvs E t) := by
  refine ⟨fun pins s σ H Q I rd => ?_⟩
  refine wpAny_Call_Name_kw (ld_glob I hg hm ?_ hdb)
  refine PySem.W.callWith_K (h₀ := X.base) I.ok.mod.kin kp (thn (args.run pos pins s σ H _ I rd) fun us s1 ⟨vs, H1, I1, rv, q⟩ => ⟨I1.kIn, ?_⟩) h1 h2
  have rv2 : Vals (vs ++ dvs) (us ++ ds) := rv.append dv
  have sz : (us ++ ds).length = ps.length := rv2.length.symm.trans (F.cnt _ _ _ _ q)
  refine wpAny_call (codeAny_mono (F.go X.A X.stack s1 H1 ⟨us, []⟩ _ _ Q E room noG I1.env0 (bd s1 us I1.kIn sz) rv2 q) fun r s2 out => ?_)
  match r, out with
  | .error er, out => exact ps' pins σ H1 s1 er s2 I1 out
  | .ok (.ret u), out => exact I1.after out
  | .ok .next, out => exact out.elim
  | .ok .brk, out => exact out.elim
  | .ok .cont, out => exact out.elim
end
end RepA

namespace RepA
open PySem PySem.Spec PyProof.Rows L2

/-- the law's call from the caller, over an abstract heap that holds at most the script -/
theorem from_caller {Pg : Program} {wd : World} {Kf : PySem.W.Frag} {gl mb : Str → Option Value} {cx : CXT} {lv : Nat} {fa a : Addr} {dat : FuncData} {x : Str} {prom : Sp} {sh : Shared} {ob : Obj} {n0 : Nat} {vals : Array Value}
    (inK : Kf.In sh.heap) (nG : sh.heap.Ns mainGlobals gl) (nB : sh.heap.Ns builtinsNs mb) (isB : ∀ y : Str, y ≠ "__name__" → mb y = bootBuiltins y) (noL : sh.heap.NoLimit) (noGen : sh.gens = #[]) (at_a : sh.heap.get? a = some ob) (list_a : ob.data = .seq vals n0)
    (room : Room lv callerA) (F : ∀ bs : Heap, Kf.In bs → bs.Ns mainGlobals gl → FnG Pg wd Kf gl bs cx lv fa dat [x] prom) (bd : ∀ (s : Shared) (u : Value), BindsTo s dat ⟨[u], []⟩ [(x, u)])
    (noX : ∀ G e s', cx [] G sh (fun _ _ _ => False) e s' → False) (G : Hp) (only : Only G) (keeps : HOk Pg wd G sh.heap) (justA : ∀ b, G b ≠ none → b = a) (notK : G a ≠ none → Kf.lookup a = none)
    (hp : prom [.ref a] G (fun v _ => v = .bl true) fun _ _ _ => False) :
    codeAny (model Pg wd) callerA (.call (.ref fa) ⟨[.ref a], []⟩) (fun r s' => r = .ok (.ret (.bool true)) ∧ OldK sh.heap s'.heap ∧ s'.os = sh.os ∧ AllBare s'.gens) sh := by
  have free : ∀ {b : Addr}, b ≠ a → G b = none := fun {b} ne => Classical.byContradiction fun z => ne (justA b z)
  have hides : ∀ {b : Addr} {o : Obj}, sh.heap.get? b = some o → G b = none → (hidT sh.heap G).get? b = some o := fun q z => hidT_get q z
  have ns : ∀ {b : Addr} {m : Str → Option Value}, sh.heap.Ns b m → (hidT sh.heap G).Ns b m := fun {b m} h => by
    obtain ⟨o, es, ep, q, dd, rest⟩ := h
    refine ⟨o, es, ep, hides q (free fun z => ?_), dd, rest⟩
    rw [z, at_a] at q
    cases q
    rw [list_a] at dd
    cases dd
  have inK' : Kf.In (hidT sh.heap G) := fun b o q => hides (inK b o q) (by
    rcases Option.eq_none_or_eq_some (G b) with z | ⟨u, z⟩
    · exact z
    · have ne : G b ≠ none := by rw [z]; exact fun c => nomatch c
      have ba := justA b ne
      rw [ba] at q ne
      rw [notK ne] at q
      cases q)
  have md : Mod Kf gl (hidT sh.heap G) := ⟨inK', ns nG, ⟨mb, ns nB, isB⟩, let ⟨mc, z1, z2⟩ := noL; ⟨mc, ns z1, z2⟩⟩
  have env : Env0 Pg wd Kf gl (hidT sh.heap G) callerA [] sh G := ⟨rfl, md, fun _ _ q => of_hidT q, Nat.le_of_eq (hidT_size _ _), trivial, (fun b hb => nomatch hb), keeps, .of_eq noGen⟩
  refine codeAny_mono ((F _ inK' (ns nG)).go callerA [] sh G ⟨[.ref a], []⟩ [.ref a] [.ref a] _ _ room rfl env (bd sh (.ref a)) (.cons rfl .nil) hp) fun r s' out => ?_
  match r, out with
  | .error er, out => exact (noX G er s' out).elim
  | .ok .next, out => exact out.elim
  | .ok .brk, out => exact out.elim
  | .ok .cont, out => exact out.elim
  | .ok (.ret u), out =>
    obtain ⟨v, G', hos, hbare, un, keeps', rel, ev⟩ := out
    have ev' : v = .bl true := ev
    subst ev'
    obtain rfl : u = Value.bool true := rel
    refine ⟨rfl, OldK.of_keep fun b o q => ?_, hos, hbare⟩
    rcases only b with z | ⟨o2, ys, z⟩
    · exact un.keep b o q z (fun c => nomatch c) (fun c => nomatch c)
    · obtain ⟨w1, _⟩ := keeps b _ z
      obtain ⟨w2, _⟩ := keeps' b _ (un.frzs b o2 _ z)
      rw [q] at w1
      cases w1
      exact w2

theorem law_callG {Pg : Program} {wd : World} {Kf : PySem.W.Frag} {gl mb : Str → Option Value} {cx : CXT} {lv : Nat} {fa a : Addr} {dat : FuncData} {x : Str} {prom : Sp} {sh : Shared} {vals : List Value} {ns : List Int}
    (inK : Kf.In sh.heap) (nG : sh.heap.Ns mainGlobals gl) (nB : sh.heap.Ns builtinsNs mb) (isB : ∀ y : Str, y ≠ "__name__" → mb y = bootBuiltins y) (noL : sh.heap.NoLimit) (noGen : sh.gens = #[])
    (at_a : sh.heap.get? a = some { cls := .type "list", data := .seq vals.toArray }) (inz : IntsAre vals ns) (short : ns.length ≤ sizeLine) (room : Room lv callerA)
    (F : ∀ bs : Heap, Kf.In bs → bs.Ns mainGlobals gl → FnG Pg wd Kf gl bs cx lv fa dat [x] prom) (bd : ∀ (s : Shared) (u : Value), BindsTo s dat ⟨[u], []⟩ [(x, u)])
    (hp : ∀ G : Hp, Only G → SqL Kf G a (ns.map V.int) → prom [.ref a] G (fun v _ => v = .bl true) fun _ _ _ => False) (noX : ∀ G e s', cx [] G sh (fun _ _ _ => False) e s' → False) :
    codeAny (model Pg wd) callerA (.call (.ref fa) ⟨[.ref a], []⟩) (fun r s' => r = .ok (.ret (.bool true)) ∧ OldK sh.heap s'.heap ∧ s'.os = sh.os ∧ AllBare s'.gens) sh := by
  have rv := vals_ints inz
  rcases Option.eq_none_or_eq_some (Kf.lookup a) with nk | ⟨o, isK⟩
  · let G : Hp := fun b => if b = a then some (.frz { cls := .type "list", data := .seq vals.toArray } (.lst (ns.map V.int))) else none
    have ga : G a = some (.frz { cls := .type "list", data := .seq vals.toArray } (.lst (ns.map V.int))) := if_pos rfl
    have gb : ∀ {b : Addr}, b ≠ a → G b = none := fun ne => if_neg ne
    have justA : ∀ b, G b ≠ none → b = a := fun b z => Classical.byContradiction fun ne => z (gb ne)
    have only : Only G := fun b => by
      by_cases ne : b = a
      · subst ne
        exact .inr ⟨_, _, ga⟩
      · exact .inl (gb ne)
    refine from_caller inK nG nB isB noL noGen at_a rfl room F bd noX G only (fun b u z => ?_) justA (fun _ => nk) (hp G only (.inl (.inr ⟨_, ga⟩)))
    have ba := justA b (by rw [z]; exact fun c => nomatch c)
    subst ba
    rw [ga] at z
    cases z
    exact ⟨at_a, by rw [List.length_map]; exact short, vals, _, rv, at_a⟩
  · have e := inK a o isK
    rw [at_a] at e
    cases e
    exact from_caller inK nG nB isB noL noGen at_a rfl room F bd noX (fun _ => none) (fun _ => .inl rfl) (fun b u z => nomatch z) (fun b z => absurd rfl z) (fun z => absurd rfl z)
      (hp _ (fun _ => .inl rfl) (.inr ⟨_, vals.toArray, _, isK, rfl, rfl, rfl, by rw [List.size_toArray, inz.length]; exact short, by simpa using rv⟩))

/-- the end of a law row, for a law that asks where no guard stands; the script's bits told -/
theorem walk_ofG {l : PySem.W.OpenLaw} {n lv : Nat} {q : Program} {loose : List Str} {XP : (Str → Option Value) → Heap → Prop} {YP : World → Heap → Prop} {d : DefRec} {K : Params → PySem.W.Frag} {cx : World → CXT} {prom : World → Sp} {x : Str}
    (most : l.most = some n) (short : n ≤ sizeLine) (noD : d.params.defaults = []) (room : Room lv callerA) (hY : ∀ (w : World) (h : Heap), YP w h → (K w.params).In h)
    (F : ∀ (w : World) (gl : Str → Option Value) (fa : Addr) (h : Heap), (K w.params).In h → h.Ns mainGlobals gl → gl d.name = some (.ref fa) →
      ∃ dat : FuncData, (∀ (s : Shared) (u : Value), BindsTo s dat ⟨[u], []⟩ [(x, u)]) ∧ ∀ bs : Heap, (K w.params).In bs → bs.Ns mainGlobals gl → FnG l.prog w (K w.params) gl bs (cx w) lv fa dat [x] (prom w))
    (hp : ∀ (w : World) (G : Hp) (a : Addr) (ns : List Int), ns.length ≤ n → (∀ z ∈ ns, Builtin.Int.intBits z ≤ 1048576) → Only G → SqL (K w.params) G a (ns.map V.int) → prom w [.ref a] G (fun v _ => v = .bl true) fun _ _ _ => False)
    (noX : ∀ (w : World) (G : Hp) (s : Shared) (e : Value) (s' : Shared), cx w [] G s (fun _ _ _ => False) e s' → False) :
    PySem.W.WalkO q loose XP YP l.row.toRowW d [] (fun f vs => PySem.call f vs) := by
  refine Att.attach_callB most noD fun w _ sh gl mb fa _ _ _ _ a vals ns gr y _ _ _ named at_a inz few bits noGen => ?_
  obtain ⟨dat, bd, FG⟩ := F w gl fa _ (hY w _ y) gr.T.g named
  exact law_callG (hY w _ y) gr.T.g gr.T.b gr.T.builtins gr.T.nolimit noGen at_a inz (Nat.le_trans few short) room FG bd (fun G o s => hp w G a ns few bits o s) fun G e s' => noX w G sh e s'
end RepA

/-! repr of a list of data in which dicts of one text stand too. -/
namespace RepA
open PySem PySem.Spec PyProof.Rows L2
mutual
inductive Dq (K : PySem.W.Frag) (H : Hp) : V → PyData → Prop
  | base {v : V} {d : PyData} : Dd K H v d → Dq K H v d
  | one {a : Addr} {s : Str} {x : V} {e : PyData} : H a = some (.dK [(Sum.inr s, x)]) → Dq K H x e → Dq K H (.ref a) (.dict [(.str s, e)])
  | lst {a : Addr} {xs : List V} {ds : List PyData} : SqL K H a xs → DqAll K H xs ds → Dq K H (.ref a) (.list ds)
inductive DqAll (K : PySem.W.Frag) (H : Hp) : List V → List PyData → Prop
  | nil : DqAll K H [] []
  | cons {v : V} {vs : List V} {d : PyData} {ds : List PyData} : Dq K H v d → DqAll K H vs ds → DqAll K H (v :: vs) (d :: ds)
end
/-- how a value is shown, and where it stands -/
def Shw (prog : Program) (w : World) (h : Heap) (u : Value) (d : PyData) : Prop := ∃ as bs, Reads h u d as ∧ ReadAtMost h d.depth bs ∧ ReprK prog w bs h d.depth u d.shown
def ShwAll (prog : Program) (w : World) (h : Heap) (us : List Value) (ds : List PyData) : Prop := ∃ as bs, ReadsAll h us ds as ∧ ReadAtMost h (PyData.depthAll ds) bs ∧ ReprAllK prog w bs h (PyData.depthAll ds) us (PyData.shownAll ds)
section
variable {X : Cx} {pins : List (Addr × Obj)} {σ : L2.St} {H : Hp} {s : Shared}
theorem shw_dd (I : Inv X pins σ H s) {v : V} {u : Value} {d : PyData} (h : Dd X.K H v d) (r : RelV v u) (hs : d.showable = true) (hz : d.shown.length ≤ sizeLine) : Shw X.prog X.w s.heap u d := by
  obtain ⟨as, q, n⟩ := dd_reads I h r
  obtain ⟨bs, m, k⟩ := ReprK.of_reads (prog := X.prog) (w := X.w) q hs n hz
  exact ⟨as, bs, q, m, k⟩
mutual
theorem shw_dq (I : Inv X pins σ H s) : ∀ {v : V} {u : Value} {d : PyData}, Dq X.K H v d → RelV v u → d.showable = true → d.shown.length ≤ sizeLine → Shw X.prog X.w s.heap u d
  | _, _, _, .base h, r, hs, hz => shw_dd I h r hs hz
  | _, _, _, .one (a := a) (s := z) (x := x) (e := e) ha hx, r, hs, hz => by
    rename_i u
    obtain rfl : u = Value.ref a := r
    obtain ⟨_, hn, vs, rel, dd⟩ := dk_of I.hok ha
    obtain ⟨o, es, ep, e1, e2, e3, e4⟩ := dd
    obtain ⟨en, ux, ees, ekey, eval, rx⟩ : ∃ (en : DictEntry) (ux : Value), es.toList = [en] ∧ (∃ t, en.key = .str z t) ∧ en.val = ux ∧ RelV x ux := by
      cases rel with
      | cons hd tl =>
        cases tl
        have q := e4.2.1
        generalize es.toList = l at q
        rename_i b
        obtain ⟨kb, ux⟩ := b
        obtain ⟨e5, e6⟩ := hd
        cases e5
        cases q with
        | cons p1 p2 p3 =>
          cases p3
          refine ⟨_, ux, rfl, ?_, p2, e6⟩
          rcases keyIs_shape (show keyIs (Sum.inr z) _ = true from p1) with ⟨i, t, q1, q2⟩ | ⟨y, t, q1, q2⟩
          · cases q1
          · cases q1
            exact ⟨t, q2⟩
    obtain ⟨t, ek⟩ := ekey
    have hz' : (dictText (PyData.shownKv [(.str z, e)])).length ≤ sizeLine := by simpa only [PyData.shown] using hz
    have hs2 : e.showable = true := by
      have q := (PyData.showableKv_split [(.str z, e)] (by simpa [PyData.showable] using hs)).2
      simpa [PyData.showableAll] using q
    have hs1 : (PyData.str z).showable = true := by
      have q := (PyData.showableKv_split [(.str z, e)] (by simpa [PyData.showable] using hs)).1
      simpa [PyData.showableAll] using q
    have key_le : ∀ t ∈ PyData.shownAll [PyData.str z], t.length ≤ sizeLine := fun t ht => by
      obtain ⟨p, hp, l⟩ := PyData.shownKv_key_le [(.str z, e)] t ht
      exact Nat.le_trans l (Nat.le_trans (dictText_mem_le hp) hz')
    have val_le : ∀ t ∈ PyData.shownAll [e], t.length ≤ sizeLine := fun t ht => by
      obtain ⟨p, hp, l⟩ := PyData.shownKv_val_le [(.str z, e)] t ht
      exact Nat.le_trans l (Nat.le_trans (dictText_mem_le hp) hz')
    obtain ⟨b1, m1, k1⟩ := ReprK.of_reads (prog := X.prog) (w := X.w) (Reads.str (h := s.heap) z t) hs1 (fun _ h => nomatch h) (key_le _ (by simp only [PyData.shownAll]; exact List.mem_cons_self ..))
    obtain ⟨a2, b2, q2, m2, k2⟩ := shw_dq I hx rx hs2 (val_le _ (by simp only [PyData.shownAll]; exact List.mem_cons_self ..))
    have rd : Reads s.heap (.ref a) (.dict [(.str z, e)]) _ := .dict (kvs := [(PyData.str z, e)]) e1 e2.1 e3 (by rw [ees]; show ReadsAll s.heap [en.key] [PyData.str z] _; rw [ek]; exact .cons (.str z t) .nil) (by rw [ees]; show ReadsAll s.heap [en.val] [e] _; rw [eval]; exact .cons q2 .nil)
    have hd1 : (PyData.str z).depth ≤ PyData.depthKv [(.str z, e)] := by simp only [PyData.depthKv, PyData.depth]; omega
    have hd2 : e.depth ≤ PyData.depthKv [(.str z, e)] := by simp only [PyData.depthKv]; omega
    have hb : ReadAtMost s.heap (PyData.depthKv [(.str z, e)]) (b1 ++ b2) := (m1.mono hd1).append (m2.mono hd2)
    have hna : a ∉ b1 ++ b2 := not_mem_of_deeper rd (by simp only [PyData.depth]; omega) hb
    refine ⟨_, a :: (b1 ++ b2), rd, ReadAtMost.cons rd (by simp only [PyData.depth]; omega) hb, ?_⟩
    simp only [PyData.depth, PyData.shown, PyData.shownKv]
    refine ReprK.dict e1 e2.1 e3 hn hna ?_
    rw [ees]
    refine .cons ?_ ?_ .nil
    · rw [ek]
      exact (k1.more fun b hb => List.mem_append.mpr (.inl hb)).level_le hd1
    · rw [eval]
      exact (k2.more fun b hb => List.mem_append.mpr (.inr hb)).level_le hd2
  | _, _, _, .lst (a := a) (xs := xs) (ds := ds) hl hall, r, hs, hz => by
    rename_i u
    obtain rfl : u = Value.ref a := r
    obtain ⟨its, rv, ⟨o, n, ho, hc, hne, hda⟩, hsz⟩ := I.list hl
    have hz' : (listText (PyData.shownAll ds)).length ≤ sizeLine := by simpa only [PyData.shown] using hz
    obtain ⟨as, bs, q, m, k⟩ := shw_all I hall rv (by simpa [PyData.showable] using hs) fun t ht => Nat.le_trans (listText_mem_le ht) hz'
    have rd : Reads s.heap (.ref a) (.list ds) (a :: as) := .list ho hc hda q
    have hna : a ∉ bs := not_mem_of_deeper rd (by simp only [PyData.depth]; omega) m
    refine ⟨_, a :: bs, rd, ReadAtMost.cons rd (by simp only [PyData.depth]; omega) m, ?_⟩
    simp only [PyData.depth, PyData.shown]
    cases its with
    | nil =>
      cases q
      simp only [PyData.shownAll, listText_nil]
      exact ReprK.listEmpty ho hc hda
    | cons y l => exact ReprK.list ho hc hda hna (by simpa using k.length_eq) (fun i y e => k.item i y (by simpa using e))
theorem shw_all (I : Inv X pins σ H s) : ∀ {vs : List V} {ds : List PyData} {us : List Value}, DqAll X.K H vs ds → Vals vs us → PyData.showableAll ds = true → (∀ t ∈ PyData.shownAll ds, t.length ≤ sizeLine) → ShwAll X.prog X.w s.heap us ds
  | _, _, _, .nil, .nil, _, _ => ⟨_, [], .nil, (fun _ h => nomatch h), by simp only [PyData.shownAll]; exact .nil⟩
  | _, _, _, .cons (d := d) (ds := ds) h hr, .cons r rr, hs, hz => by
    obtain ⟨s1, s2⟩ : d.showable = true ∧ PyData.showableAll ds = true := by simpa [PyData.showableAll] using hs
    obtain ⟨a1, b1, q1, m1, k1⟩ := shw_dq I h r s1 (hz _ (by simp only [PyData.shownAll]; exact List.mem_cons_self ..))
    obtain ⟨a2, b2, q2, m2, k2⟩ := shw_all I hr rr s2 fun t ht => hz t (by simp only [PyData.shownAll]; exact List.mem_cons_of_mem _ ht)
    have l1 : d.depth ≤ PyData.depthAll (d :: ds) := by simp only [PyData.depthAll]; omega
    have l2 : PyData.depthAll ds ≤ PyData.depthAll (d :: ds) := by simp only [PyData.depthAll]; omega
    refine ⟨_, b1 ++ b2, .cons q1 q2, (m1.mono l1).append (m2.mono l2), ?_⟩
    simp only [PyData.shownAll]
    exact .cons ((k1.more fun b hb => List.mem_append.mpr (.inl hb)).level_le l1) (k2.more_le (fun b hb => List.mem_append.mpr (.inr hb)) l2)
end
/-- repr of such a list, where no guard stands -/
theorem call_reprQ (hg : X.A.guards = some []) (hu : X.A.units + 64 < cLine) : CallR X (.builtin "repr") (fun xs H Q => ∃ a ys ds, xs = [V.ref a] ∧ SqL X.K H a ys ∧ DqAll X.K H ys ds ∧ PyData.showableAll ds = true ∧ PyData.depthAll ds ≤ 40 ∧
    (listText (PyData.shownAll ds)).length ≤ sizeLine ∧ Q (.str (PyData.list ds).shown) H) := by
  intro pins s σ H xs us Q I r h
  obtain ⟨a, ys, ds, rfl, hs, hd, hw, hdp, hz, q⟩ := h
  obtain ⟨u, rfl, ru⟩ := vals1 r
  obtain rfl : u = Value.ref a := ru
  obtain ⟨its, rv, ⟨o, n, ho, hc, hne, hda⟩, hsz⟩ := I.list hs
  obtain ⟨as, bs, hR, hb, hk⟩ := shw_all I hd rv hw fun t ht => Nat.le_trans (listText_mem_le ht) hz
  have rd : Reads s.heap (.ref a) (.list ds) (a :: as) := .list ho hc hda hR
  have hna : a ∉ bs := not_mem_of_deeper rd (by simp only [PyData.depth]; omega) hb
  have fin : ∀ (t tk : Nat) (h' : Heap), (∀ b o, s.heap.get? b = some o → h'.get? b = some o) → EP X pins σ Q (.str (listText (PyData.shownAll ds)) t) { s with heap := h', toks := tk } := fun t tk h' k =>
    ⟨.str _, H, I.kept k, ⟨t, rfl⟩, by simpa only [PyData.shown] using q⟩
  refine call_repr_slot (by omega) ⟨o, ho, hc⟩ PySem.F.slot_list_repr.toG ?_
  cases its with
  | nil =>
    cases hR
    exact call_list_repr_empty ⟨o, ho, hc⟩ ho hda ⟨_, _, rfl, by simpa only [PyData.shownAll, listText_nil] using fin s.toks (s.toks + 1) s.heap fun _ _ e => e⟩
  | cons x l =>
    refine call_list_reprK (h₀ := s.heap) ho hc hda hna (by simpa using hk.length_eq) (fun i y e => hk.item i y (by simpa using e)) hg (fun b _ => Clear.nil b) (by show X.A.units + 1 + (PyData.depthAll ds + 1) < cLine; omega) (fun _ _ e => e) (fun h' t tk k => ⟨_, _, rfl, fin t tk h' k⟩) hz
end
end RepA

/-! itertools.combinations(list, 2), made and drawn. -/
namespace Comb
open PySem PySem.Spec
open Sem (wp)
abbrev cName : String := "itertools.combinations"
theorem cMro : mroOf (.type "itertools.combinations") = pure [.type "itertools.combinations", .type "object"] := by rw [mroOf_type]; kernel_rfl
theorem cNew : typeLookup (.type "itertools.combinations") "__new__" = pure (some (.builtin "itertools.combinations.__new__")) := by rw [typeLookup_type, builtinLookup_eq_fast]; kernel_rfl
theorem cInit : Slot "itertools.combinations" "__init__" "object.__init__" :=
  .of (owner := "object") (n := "__init__") (by rw [typeLookup_type, builtinLookup_eq_fast]; kernel_rfl) (by decide +kernel) (by decide +kernel) (by decide +kernel) (by first | exact .inl (by decide +kernel) | exact .inr (by decide +kernel)) (by rw [isSubtype_type]; kernel_rfl)
theorem cSub : isSubtype (.type "itertools.combinations") (.type "itertools.combinations") = pure true := by rw [isSubtype_type]; kernel_rfl
theorem cCalled : TypeCalled "itertools.combinations" "itertools.combinations.__new__" "object.__init__" :=
  ⟨by decide +kernel, by decide +kernel, ⟨_, _, cMro⟩, madeBy_type cMro cNew (by decide +kernel), by decide +kernel, cSub, cInit⟩
theorem cType2 (a b : Value) : checkTypeCall "itertools.combinations" ⟨[a, b], []⟩ = pure () := by kernel_rfl
theorem cNew2 (a b : Value) : checkBuiltinCall "itertools.combinations.__new__" ⟨[.type "itertools.combinations", a, b], []⟩ = pure () := by kernel_rfl
theorem cEntryNew : entryFor table "itertools.combinations.__new__" = some Builtin.«itertools.combinations.__new__» := entryFor_of_tree (by kernel_rfl)
theorem cEntryNext : entryFor table "itertools.combinations.__next__" = some Builtin.«itertools.combinations.__next__» := entryFor_of_tree (by kernel_rfl)
theorem cEntryIter : entryFor table "itertools.combinations.__iter__" = some Builtin.«dict_keyiterator.__iter__» :=
  entryFor_alias (id' := "dict_keyiterator.__iter__") (by kernel_rfl) (by first | rfl | decide +kernel | (unfold String.splitOn; simp +decide [String.splitOnAux])) (by decide +kernel) (by kernel_rfl)
theorem cIter : Slot "itertools.combinations" "__iter__" "itertools.combinations.__iter__" :=
  .of (owner := "itertools.combinations") (n := "__iter__") (by rw [typeLookup_type, builtinLookup_eq_fast]; kernel_rfl) (by decide +kernel) (by decide +kernel) (by decide +kernel) (by first | exact .inl (by decide +kernel) | exact .inr (by decide +kernel)) cSub
theorem cNext : Slot "itertools.combinations" "__next__" "itertools.combinations.__next__" :=
  .of (owner := "itertools.combinations") (n := "__next__") (by rw [typeLookup_type, builtinLookup_eq_fast]; kernel_rfl) (by decide +kernel) (by decide +kernel) (by decide +kernel) (by first | exact .inl (by decide +kernel) | exact .inr (by decide +kernel)) cSub
theorem cOwner : Manifest.owners.lookup (String.ofList "snoitanibmoc.slootreti".toList.reverse) = some Manifest.sig_itertools_combinations := by kernel_rfl
theorem cArgsIter (a : Value) : argsOk "itertools.combinations.__iter__" ⟨[a], []⟩ := by
  unfold argsOk
  rw [signature?_of (id := "itertools.combinations.__iter__") (n := ['_', '_', 'r', 'e', 't', 'i', '_', '_']) (o := "snoitanibmoc.slootreti".toList) (by kernel_rfl) cOwner]
  kernel_rfl
theorem cArgsNext (a : Value) : argsOk "itertools.combinations.__next__" ⟨[a], []⟩ := by
  unfold argsOk
  rw [signature?_of (id := "itertools.combinations.__next__") (n := ['_', '_', 't', 'x', 'e', 'n', '_', '_']) (o := "snoitanibmoc.slootreti".toList) (by kernel_rfl) cOwner]
  kernel_rfl
theorem cNoDict : typeHasDict (.type "itertools.combinations") = false := by decide +kernel

/-- such an object: its pool, its state, what it handed out last, its places -/
def recC (pool : Addr) (st : Int) (last : Value) (i j : Int) : Obj := { cls := .type "itertools.combinations", dict := none, data := .fields #[.ref pool, rawInt st, last, rawInt i, rawInt j], slots := #[] }
abbrev IsC (h : Heap) (it pool : Addr) (st : Int) (last : Value) (i j : Int) : Prop := h.get? it = some (recC pool st last i j)
def tupO (xs : Array Value) : Obj := { cls := .type "tuple", data := .seq xs }

end Comb

namespace Comb
open PySem PySem.Spec
open Sem (wp)
theorem joinName : "itertools." ++ "combinations" = "itertools.combinations" := by decide
theorem new_meets (l : Addr) (o : Obj) (items : Array Value) (n : Nat) (t : Tok) (hc : o.cls = .type "list") (hd : o.data = .seq items n) (hsz : items.size ≤ sizeLine) :
    Meets (Builtin.«itertools.combinations.__new__» ⟨[.type "itertools.combinations", .ref l, .int 2 t], []⟩)
      (fun _ R s => s.heap.get? l = some o ∧ ∀ h' : Heap, (∀ b u, s.heap.get? b = some u → h'.get? b = some u) → R (.ok (.ret (.ref (h'.objs.size + 1)))) { s with heap := (h'.push (tupO items)).push (recC h'.objs.size (if 2 > items.size then 2 else 0) .none 0 1) }) :=
  .of_wp fun prog w A R s h => by
    obtain ⟨hp, g, dd, tk, os⟩ := s
    obtain ⟨at_l, h⟩ := h
    have hsub := cSub
    have hdic := cNoDict
    have hT : Shared.TypeIs ⟨hp, g, dd, tk, os⟩ (.ref l) "list" := ⟨o, at_l, hc⟩
    unfold Builtin.«itertools.combinations.__new__»
    repeat (first
      | (with_reducible refine wpAny_collect_seq (hsz := hsz) l (.inl rfl) at_l hc hd fun h' keep => ?_)
      | wp_step
      | (rw [joinName]))
    refine ⟨_, rfl, ?_⟩
    have e1 : items.toList.toArray = items := by simp
    have e2 : (h'.push (tupO items)).objs.size = h'.objs.size + 1 := Heap.size_push ..
    have e3 : items.toList.length = items.size := by simp
    rw [e1, e3]
    have q := h h' keep
    rw [← e2] at q
    exact q

end Comb

namespace Comb
open PySem PySem.Spec
open Sem (wp)
section
variable {prog : Program} {w : World} {A : Around} {E : Value → Shared → Prop} {s : Shared}
/-- combinations(l, 2): the heap grows by what is kept, then by the pool and the record -/
theorem call_comb {l : Addr} {o : Obj} {items : Array Value} {n : Nat} {t : Tok} {Q : Value → Shared → Prop} (at_l : s.heap.get? l = some o) (hc : o.cls = .type "list") (hd : o.data = .seq items n) (hsz : items.size ≤ sizeLine)
    (h : ∀ h1 : Heap, (∀ b u, s.heap.get? b = some u → h1.get? b = some u) → Q (.ref (h1.objs.size + 1)) { s with heap := (h1.push (tupO items)).push (recC h1.objs.size (if 2 > items.size then 2 else 0) .none 0 1) }) :
    wpAny (model prog w) A (call (.type "itertools.combinations") [.ref l, .int 2 t]) Q E s := by
  refine callType_new cCalled (by decide +kernel) (cType2 _ _) (cNew2 _ _) (fun obj => F.args_object_init_3 obj _ _) cEntryNew (new_meets l o items n t hc hd hsz) ?_
  refine ⟨at_l, fun h1 keep => ⟨⟨recC h1.objs.size (if 2 > items.size then 2 else 0) .none 0 1, ?_, rfl⟩, h h1 keep⟩⟩
  have sz : (h1.push (tupO items)).objs.size = h1.objs.size + 1 := Heap.size_push ..
  show Heap.get? _ (h1.objs.size + 1) = some (recC h1.objs.size (if 2 > items.size then 2 else 0) .none 0 1)
  rw [← sz]
  exact Heap.get?_push_size _ rfl
theorem iter_comb {it pool : Addr} {st i j : Int} {last : Value} {Q : Value → Shared → Prop} (hit : IsC s.heap it pool st last i j) (h : Q (.ref it) s) : wpAny (model prog w) A (pyIter (.ref it)) Q E s := by
  have hT : s.TypeIs (.ref it) "itertools.combinations" := ⟨_, hit, rfl⟩
  refine wpAny_pyIter_slot hT cIter (wpAny_call_entry cIter hT cEntryIter ?_ (cArgsIter _))
  show wpAny _ _ (ret (.ref it)) _ _ s
  exact wpAny_pure ⟨_, rfl, "itertools.combinations", _, hT, cNext.lookup, h⟩

theorem apart {h : Heap} {it pool : Addr} {st i j : Int} {last : Value} {items : Array Value} (hit : IsC h it pool st last i j) (hp : h.get? pool = some (tupO items)) : it ≠ pool := fun e => by
  rw [e] at hit
  have z : Value.type "tuple" = Value.type "itertools.combinations" := congrArg Obj.cls (Option.some.inj (hp.symm.trans hit))
  exact absurd (Value.type.inj z) (by decide)
/-- what is handed out is laid, then held by the record -/
theorem handed {h U : Heap} {it pool : Addr} {last : Value} {i j : Int} {xs : Array Value} (hU : IsC U it pool 1 last i j) (keep : ∀ b, b ≠ it → U.get? b = h.get? b) (sz : U.objs.size = h.objs.size) :
    (∀ b, b ≠ it → ∀ u, h.get? b = some u → ((U.push (tupO xs)).update it (Obj.mapFields fun x => x.setIfInBounds 2 (.ref U.objs.size))).get? b = some u) ∧
    ((U.push (tupO xs)).update it (Obj.mapFields fun x => x.setIfInBounds 2 (.ref U.objs.size))).get? h.objs.size = some (tupO xs) ∧
    IsC ((U.push (tupO xs)).update it (Obj.mapFields fun x => x.setIfInBounds 2 (.ref U.objs.size))) it pool 1 (.ref h.objs.size) i j := by
  have lt : it < U.objs.size := Heap.lt_size hU
  refine ⟨fun b ne u q => ?_, ?_, ?_⟩
  · exact (Heap.get?_update_other _ _ ne.symm).trans (Heap.get?_push_of_some _ ((keep b ne).trans q))
  · rw [← sz]
    exact (Heap.get?_update_other _ _ (Nat.ne_of_lt lt)).trans (Heap.get?_push_size _ rfl)
  · rw [← sz]
    exact Heap.get?_update_self _ (Heap.get?_push_of_some _ hU) rfl
theorem next_first {it pool : Addr} {last : Value} {items : Array Value} {n : Nat} {Q : Option Value → Shared → Prop} (hit : IsC s.heap it pool 0 last 0 1) (hp : s.heap.get? pool = some (tupO items)) (h2 : 2 ≤ items.size)
    (hQ : ∀ h', (∀ b, b ≠ it → ∀ u, s.heap.get? b = some u → h'.get? b = some u) → h'.get? s.heap.objs.size = some (tupO #[items.getD 0 .none, items.getD 1 .none]) → IsC h' it pool 1 (.ref s.heap.objs.size) 0 1 → Q (some (.ref s.heap.objs.size)) { s with heap := h' }) :
    wpAny (model prog w) A (pyNext (.ref it)) Q E s := by
  have hT : s.TypeIs (.ref it) "itertools.combinations" := ⟨_, hit, rfl⟩
  unfold pyNext
  refine wpAny_bind (wpAny_attempt (wpAny_callSpecial?_slot (name := Str.ofString "__next__") hT cNext (wpAny_call_entry cNext hT cEntryNext ?_ (cArgsNext _))))
  unfold Builtin.«itertools.combinations.__next__»
  have nip := apart hit hp
  have hp1 : (s.heap.update it (Obj.mapFields fun x => x.setIfInBounds 1 (rawInt 1))).get? pool = some (tupO items) := (Heap.get?_update_other _ _ nip).trans hp
  have hit1 : IsC (s.heap.update it (Obj.mapFields fun x => x.setIfInBounds 1 (rawInt 1))) it pool 1 last 0 1 := Heap.get?_update_self _ hit rfl
  repeat wp_step
  obtain ⟨q1, q2, q3⟩ := handed (xs := #[items.getD 0 .none, items.getD 1 .none]) hit1 (h := s.heap) (fun b ne => Heap.get?_update_other _ _ ne.symm) (Heap.size_update ..)
  refine ⟨_, rfl, wpAny_pure ?_⟩
  have z := hQ _ q1 q2 q3
  rw [show (s.heap.update it (Obj.mapFields fun x => x.setIfInBounds 1 (rawInt 1))).objs.size = s.heap.objs.size from Heap.size_update ..] at z ⊢
  exact z
end
end Comb

namespace Comb
open PySem PySem.Spec
open Sem (wp)
section
variable {prog : Program} {w : World} {A : Around} {E : Value → Shared → Prop} {s : Shared}
theorem next_more {it pool : Addr} {last : Value} {items : Array Value} {i j i' j' : Nat} {Q : Option Value → Shared → Prop} (hit : IsC s.heap it pool 1 last i j) (hp : s.heap.get? pool = some (tupO items))
    (hn : (match (List.range 2).reverse.find? fun k => [i, j].getD k 0 != k + items.size - 2 with | none => none | some k => some ([i, j].take k ++ (List.range (2 - k)).map ([i, j].getD k 0 + 1 + ·))) = some [i', j'])
    (hQ : ∀ h', (∀ b, b ≠ it → ∀ u, s.heap.get? b = some u → h'.get? b = some u) → h'.get? s.heap.objs.size = some (tupO #[items.getD i' .none, items.getD j' .none]) → IsC h' it pool 1 (.ref s.heap.objs.size) i' j' → Q (some (.ref s.heap.objs.size)) { s with heap := h' }) :
    wpAny (model prog w) A (pyNext (.ref it)) Q E s := by
  have hT : s.TypeIs (.ref it) "itertools.combinations" := ⟨_, hit, rfl⟩
  unfold pyNext
  refine wpAny_bind (wpAny_attempt (wpAny_callSpecial?_slot (name := Str.ofString "__next__") hT cNext (wpAny_call_entry cNext hT cEntryNext ?_ (cArgsNext _))))
  unfold Builtin.«itertools.combinations.__next__»
  repeat wp_step
  split
  · rename_i next hnx
    obtain rfl : next = [i', j'] := Option.some.inj (hnx.symm.trans hn)
    have nip := apart hit hp
    have hp1 : (s.heap.update it (Obj.mapFields fun x => x.extract 0 3 ++ (List.map (fun (n : Nat) => rawInt n) [i', j']).toArray)).get? pool = some (tupO items) := (Heap.get?_update_other _ _ nip).trans hp
    have hit1 : IsC (s.heap.update it (Obj.mapFields fun x => x.extract 0 3 ++ (List.map (fun (n : Nat) => rawInt n) [i', j']).toArray)) it pool 1 last i' j' := Heap.get?_update_self _ hit rfl
    repeat wp_step
    obtain ⟨q1, q2, q3⟩ := handed (xs := #[items.getD i' .none, items.getD j' .none]) hit1 (h := s.heap) (fun b ne => Heap.get?_update_other _ _ ne.symm) (Heap.size_update ..)
    refine ⟨_, rfl, wpAny_pure ?_⟩
    have z := hQ _ q1 q2 q3
    rw [show (s.heap.update it (Obj.mapFields fun x => x.extract 0 3 ++ (List.map (fun (n : Nat) => rawInt n) [i', j']).toArray)).objs.size = s.heap.objs.size from Heap.size_update ..] at z ⊢
    exact z
  · rename_i hnx
    cases hnx.symm.trans hn
theorem next_end {it pool : Addr} {last : Value} {items : Array Value} {i j : Nat} {Q : Option Value → Shared → Prop} (hh : A.handled = none) (hit : IsC s.heap it pool 1 last i j) (hp : s.heap.get? pool = some (tupO items))
    (hn : (match (List.range 2).reverse.find? fun k => [i, j].getD k 0 != k + items.size - 2 with | none => none | some k => some ([i, j].take k ++ (List.range (2 - k)).map ([i, j].getD k 0 + 1 + ·))) = none)
    (hQ : ∀ h', Heap.ExtBut it s.heap h' → Q none { s with heap := h' }) : wpAny (model prog w) A (pyNext (.ref it)) Q E s := by
  have hT : s.TypeIs (.ref it) "itertools.combinations" := ⟨_, hit, rfl⟩
  unfold pyNext
  refine wpAny_bind (wpAny_attempt (wpAny_callSpecial?_slot (name := Str.ofString "__next__") hT cNext (wpAny_call_entry cNext hT cEntryNext ?_ (cArgsNext _))))
  unfold Builtin.«itertools.combinations.__next__»
  repeat wp_step
  split
  · rename_i next hnx
    cases hn.symm.trans hnx
  · repeat wp_step
    simp only [raiseNew]; refine wpAny_bind (wpAny_handled ?_); rw [show A.in1.handled = none from hh]
    refine wpAny_bind (wpAny_pure (wpAny_throw ?_)); refine wpAny_bind (wpAny_isInstance (T := "StopIteration") (b := true) ⟨_, Heap.get?_push_size _ rfl, rfl⟩ isSubtype_stop ?_)
    exact wpAny_pure (hQ _ (fun b u ne q => Heap.get?_push_of_some _ (Heap.get?_push_of_some _ ((Heap.get?_update_other _ _ (Ne.symm ne)).trans q))))
theorem next_none {it pool : Addr} {last : Value} {items : Array Value} {i j : Nat} {Q : Option Value → Shared → Prop} (hh : A.handled = none) (hit : IsC s.heap it pool 2 last i j) (hp : s.heap.get? pool = some (tupO items))
    (hQ : ∀ h', Heap.ExtBut it s.heap h' → Q none { s with heap := h' }) : wpAny (model prog w) A (pyNext (.ref it)) Q E s := by
  have hT : s.TypeIs (.ref it) "itertools.combinations" := ⟨_, hit, rfl⟩
  unfold pyNext
  refine wpAny_bind (wpAny_attempt (wpAny_callSpecial?_slot (name := Str.ofString "__next__") hT cNext (wpAny_call_entry cNext hT cEntryNext ?_ (cArgsNext _))))
  unfold Builtin.«itertools.combinations.__next__»
  repeat wp_step
  simp only [raiseNew]; refine wpAny_bind (wpAny_handled ?_); rw [show A.in1.handled = none from hh]
  refine wpAny_bind (wpAny_pure (wpAny_throw ?_)); refine wpAny_bind (wpAny_isInstance (T := "StopIteration") (b := true) ⟨_, Heap.get?_push_size _ rfl, rfl⟩ isSubtype_stop ?_)
  exact wpAny_pure (hQ _ (((Heap.ExtBut.refl it s.heap).push _).push _))
end
end Comb

namespace Comb
open PySem PySem.Spec PyProof.Rows L2
/-! ### the pairs of places, in their sequence -/
def rows : Nat → Nat → List (Nat × Nat)
  | 0, _ => []
  | k + 1, i => (List.range (k + 1)).map (fun d => (i, i + 1 + d)) ++ rows k (i + 1)
def prs (n : Nat) : List (Nat × Nat) := rows (n - 1) 0
def nx (n i j : Nat) : Option (Nat × Nat) := if j + 1 < n then some (i, j + 1) else if i + 2 < n then some (i + 1, i + 2) else none
theorem rows_zero (k i : Nat) : (rows (k + 1) i)[0]? = some (i, i + 1) := by
  unfold rows
  rw [List.getElem?_append_left (by rw [List.length_map, List.length_range]; omega), List.getElem?_map, List.getElem?_range (Nat.succ_pos k)]
  rfl
theorem rows_step : ∀ (k i t a b : Nat), (rows k i)[t]? = some (a, b) → a < b ∧ b < i + 1 + k ∧ (rows k i)[t + 1]? = nx (i + 1 + k) a b
  | 0, _, _, _, _, h => by
    unfold rows at h
    rw [List.getElem?_nil] at h
    cases h
  | k + 1, i, t, a, b, h => by
    unfold rows at h ⊢
    have len : ((List.range (k + 1)).map (fun d => (i, i + 1 + d))).length = k + 1 := by rw [List.length_map, List.length_range]
    rcases Nat.lt_or_ge t (k + 1) with lt | ge
    · rw [List.getElem?_append_left (by omega), List.getElem?_map, List.getElem?_range lt] at h
      have h' : (i, i + 1 + t) = (a, b) := Option.some.inj h
      obtain ⟨rfl, rfl⟩ := Prod.mk.inj h'
      refine ⟨by omega, by omega, ?_⟩
      rcases Nat.lt_or_ge (t + 1) (k + 1) with l2 | g2
      · rw [List.getElem?_append_left (by omega), List.getElem?_map, List.getElem?_range l2]
        unfold nx
        rw [if_pos (by omega)]
        rfl
      · have et : t = k := by omega
        subst et
        rw [List.getElem?_append_right (by omega), len, Nat.sub_self]
        unfold nx
        rw [if_neg (by omega)]
        cases t with
        | zero =>
          rw [if_neg (by omega)]
          rfl
        | succ m =>
          rw [if_pos (by omega)]
          exact rows_zero m (i + 1)
    · rw [List.getElem?_append_right (by omega), len] at h
      obtain ⟨h1, h2, h3⟩ := rows_step k (i + 1) (t - (k + 1)) a b h
      refine ⟨h1, by omega, ?_⟩
      rw [List.getElem?_append_right (by omega), len, show t + 1 - (k + 1) = t - (k + 1) + 1 by omega, h3]
      congr 1
      omega
theorem prs_step {n t a b : Nat} (h : (prs n)[t]? = some (a, b)) : a < b ∧ b < n ∧ (prs n)[t + 1]? = nx n a b := by
  obtain ⟨h1, h2, h3⟩ := rows_step (n - 1) 0 t a b h
  have hn : 0 + 1 + (n - 1) = n := by omega
  rw [hn] at h2 h3
  exact ⟨h1, h2, h3⟩
theorem rows_mem : ∀ (k i a b : Nat), (a, b) ∈ rows k i ↔ i ≤ a ∧ a < b ∧ b < i + 1 + k
  | 0, i, a, b => by
    unfold rows
    constructor
    · intro h
      cases h
    · rintro ⟨h1, h2, h3⟩
      omega
  | k + 1, i, a, b => by
    unfold rows
    rw [List.mem_append, rows_mem k (i + 1) a b, List.mem_map]
    constructor
    · rintro (⟨d, hd, e⟩ | h)
      · have := List.mem_range.mp hd
        obtain ⟨rfl, rfl⟩ := Prod.mk.inj e
        omega
      · omega
    · rintro ⟨h1, h2, h3⟩
      rcases Nat.eq_or_lt_of_le h1 with e | l
      · exact .inl ⟨b - (i + 1), List.mem_range.mpr (by omega), by rw [← e]; congr 1; omega⟩
      · exact .inr ⟨l, h2, by omega⟩
theorem prs_mem {n a b : Nat} : (a, b) ∈ prs n ↔ a < b ∧ b < n := by
  unfold prs
  rw [rows_mem]
  omega
theorem rows_len : ∀ k i, (rows k i).length ≤ k * k
  | 0, i => Nat.zero_le _
  | k + 1, i => by
    unfold rows
    rw [List.length_append, List.length_map, List.length_range]
    have := rows_len k (i + 1)
    have e : (k + 1) * (k + 1) = k * k + k + (k + 1) := by rw [Nat.succ_mul, Nat.mul_succ]
    omega
theorem prs_none {n : Nat} (h : n < 2) : prs n = [] := by
  unfold prs
  rw [show n - 1 = 0 by omega]
  rfl
theorem prs_zero {n : Nat} (h : 2 ≤ n) : (prs n)[0]? = some (0, 1) := by
  unfold prs
  obtain ⟨m, rfl⟩ : ∃ m, n = m + 2 := ⟨n - 2, by omega⟩
  exact rows_zero m 0
/-- the model's own step is this one -/
theorem nx_some {n i j a b : Nat} (hi : i < j) (hj : j < n) (h : nx n i j = some (a, b)) :
    (match (List.range 2).reverse.find? fun k => [i, j].getD k 0 != k + n - 2 with | none => none | some k => some ([i, j].take k ++ (List.range (2 - k)).map ([i, j].getD k 0 + 1 + ·))) = some [a, b] := by
  have e : (List.range 2).reverse = [1, 0] := rfl
  rw [e]
  unfold nx at h
  by_cases h1 : j + 1 < n
  · rw [if_pos h1] at h
    cases h
    have z : ([i, j].getD 1 0 != 1 + n - 2) = true := by
      show (j != 1 + n - 2) = true
      rw [bne_iff_ne]
      omega
    rw [List.find?_cons_of_pos (p := fun k => [i, j].getD k 0 != k + n - 2) (a := 1) z]
    rfl
  · rw [if_neg h1] at h
    have z : ¬ ([i, j].getD 1 0 != 1 + n - 2) = true := by
      show ¬ (j != 1 + n - 2) = true
      rw [bne_iff_ne]
      omega
    by_cases h2 : i + 2 < n
    · rw [if_pos h2] at h
      cases h
      have z2 : ([i, j].getD 0 0 != 0 + n - 2) = true := by
        show (i != 0 + n - 2) = true
        rw [bne_iff_ne]
        omega
      rw [List.find?_cons_of_neg (p := fun k => [i, j].getD k 0 != k + n - 2) (a := 1) z, List.find?_cons_of_pos (p := fun k => [i, j].getD k 0 != k + n - 2) (a := 0) z2]
      rfl
    · rw [if_neg h2] at h
      cases h
theorem nx_none {n i j : Nat} (hi : i < j) (hj : j < n) (h : nx n i j = none) :
    (match (List.range 2).reverse.find? fun k => [i, j].getD k 0 != k + n - 2 with | none => none | some k => some ([i, j].take k ++ (List.range (2 - k)).map ([i, j].getD k 0 + 1 + ·))) = none := by
  have e : (List.range 2).reverse = [1, 0] := rfl
  rw [e]
  unfold nx at h
  by_cases h1 : j + 1 < n
  · rw [if_pos h1] at h
    cases h
  · rw [if_neg h1] at h
    by_cases h2 : i + 2 < n
    · rw [if_pos h2] at h
      cases h
    · have z : ¬ ([i, j].getD 1 0 != 1 + n - 2) = true := by
        show ¬ (j != 1 + n - 2) = true
        rw [bne_iff_ne]
        omega
      have z2 : ¬ ([i, j].getD 0 0 != 0 + n - 2) = true := by
        show ¬ (i != 0 + n - 2) = true
        rw [bne_iff_ne]
        omega
      rw [List.find?_cons_of_neg (p := fun k => [i, j].getD k 0 != k + n - 2) (a := 1) z, List.find?_cons_of_neg (p := fun k => [i, j].getD k 0 != k + n - 2) (a := 0) z2]
      rfl
end Comb

namespace Comb
open PySem PySem.Spec PyProof.Rows L2
/-- the pairs of these values, as new tuples -/
def Itcb (xs : List V) : It :=
  ⟨fun t _ => t < (prs xs.length).length,
    fun t H v H' => ∃ T i j x y, v = .ref T ∧ H T = none ∧ H' = upd H T (.tup [x, y]) ∧ (prs xs.length)[t]? = some (i, j) ∧ xs[i]? = some x ∧ xs[j]? = some y,
    fun t _ => (prs xs.length).length ≤ t⟩
def Stt (it pool : Addr) (items : Array Value) (t : Nat) (h : Heap) : Prop :=
  h.get? pool = some (tupO items) ∧ ((t = 0 ∧ IsC h it pool (if 2 > items.size then 2 else 0) .none 0 1) ∨ ∃ (u i j : Nat) (last : Value), t = u + 1 ∧ (prs items.size)[u]? = some (i, j) ∧ IsC h it pool 1 last i j)
theorem turn_comb {P : Program} {w : World} {K : PySem.W.Frag} {tg : Expr} {xs : List V} {its : List Value} (rv : Vals xs its) (it pool : Addr) (lt : pool < it) : Turn P w K tg (Itcb xs) [it, pool] it (Stt it pool its.toArray) where
  mem := by simp
  obj := fun t h st b hb => by
    obtain ⟨hp, st⟩ := st
    have e : b = it ∨ b = pool := by simpa using hb
    rcases e with e | e
    · rw [e]
      rcases st with ⟨_, c⟩ | ⟨_, _, _, _, _, _, c⟩ <;> exact ⟨_, c, fun v q => nomatch q⟩
    · rw [e]
      exact ⟨_, hp, fun v q => nomatch q⟩
  keep := fun t h h' st k => by
    obtain ⟨hp, st⟩ := st
    refine ⟨k pool (by simp) _ hp, ?_⟩
    rcases st with ⟨e, c⟩ | ⟨u, i, j, last, e, hu, c⟩
    · exact .inl ⟨e, k it (by simp) _ c⟩
    · exact .inr ⟨u, i, j, last, e, hu, k it (by simp) _ c⟩
  item := by
    intro X hP hw hK hc t pins s σ H E I hf st hg
    subst hP hw hK
    obtain ⟨hp, st⟩ := st
    have len := rv.length
    have sz : its.toArray.size = xs.length := by rw [List.size_toArray, len]
    -- what comes of the pair (i, j)
    have out : ∀ (i j : Nat) (h' : Heap), (prs xs.length)[t]? = some (i, j) → (∀ b, b ≠ it → ∀ u, s.heap.get? b = some u → h'.get? b = some u) → h'.get? s.heap.objs.size = some (tupO #[its.toArray.getD i .none, its.toArray.getD j .none]) →
        IsC h' it pool 1 (.ref s.heap.objs.size) i j → ∃ u, some (Value.ref s.heap.objs.size) = some u ∧
        wpAny (model X.prog X.w) X.A (letOwnedTupleGo tg (.ref it) u) (fun _ s2 => ∃ x H', Inv X pins σ H' s2 ∧ RelV x u ∧ (Itcb xs).yld t H x H' ∧ Stt it pool its.toArray (t + 1) s2.heap ∧ ∀ b ∈ [it, pool], H' b = none) E { s with heap := h' } := by
      intro i j h' ht keep new rec
      obtain ⟨l1, l2, _⟩ := prs_step ht
      have hx : xs[i]? = some xs[i] := List.getElem?_eq_getElem (by omega)
      have hy : xs[j]? = some xs[j] := List.getElem?_eq_getElem (by omega)
      obtain ⟨u1, hu1, r1⟩ := rv.get hx
      obtain ⟨u2, hu2, r2⟩ := rv.get hy
      have g1 : its.toArray.getD i .none = u1 := by
        rw [Array.getD_eq_getD_getElem?, List.getElem?_toArray, hu1]
        rfl
      have g2 : its.toArray.getD j .none = u2 := by
        rw [Array.getD_eq_getD_getElem?, List.getElem?_toArray, hu2]
        rfl
      rw [g1, g2] at new
      have obj : ObjOk X.prog X.w (upd H s.heap.objs.size (.tup [xs[i], xs[j]])) h' s.heap.objs.size (.tup [xs[i], xs[j]]) :=
        ⟨by show 2 ≤ sizeLine; decide, [u1, u2], .cons r1 (.cons r2 .nil), ⟨_, new, rfl, _, rfl⟩⟩
      have I1 : Inv X pins σ (upd H s.heap.objs.size (.tup [xs[i], xs[j]])) { s with heap := h' } :=
        I.turnedNew (t' := s.toks) (ch := [it, pool]) (fun c o hb q => keep c (fun z => hb (by simp [z])) o q) hf (Nat.le_refl _) obj
      refine ⟨_, rfl, go_of (s := { s with heap := h' }) rec rfl rfl (by decide) ⟨.ref s.heap.objs.size, _, I1, rfl, ⟨_, i, j, _, _, rfl, I.hok.fresh (Nat.le_refl _), rfl, ht, hx, hy⟩, ⟨keep pool (Nat.ne_of_lt lt) _ hp, .inr ⟨t, i, j, _, rfl, by rw [sz]; exact ht, rec⟩⟩, fun c hcm => ?_⟩⟩
      have small : c < s.heap.objs.size := by
        have e : c = it ∨ c = pool := by simpa using hcm
        have hit : it < s.heap.objs.size := by
          rcases st with ⟨_, c⟩ | ⟨_, _, _, _, _, _, c⟩ <;> exact Heap.lt_size c
        rcases e with e | e
        · rw [e]; exact hit
        · rw [e]; exact Nat.lt_trans lt hit
      rw [upd_ne (Nat.ne_of_lt small)]
      exact (hf c hcm).1
    have hg' : t < (prs xs.length).length := hg
    obtain ⟨⟨i, j⟩, hij⟩ : ∃ q, (prs xs.length)[t]? = some q := ⟨_, List.getElem?_eq_getElem hg'⟩
    rcases st with ⟨e, c⟩ | ⟨u, i0, j0, last, e, hu, c⟩
    · subst e
      have h2 : 2 ≤ xs.length := by
        rcases Nat.lt_or_ge xs.length 2 with z | z
        · rw [prs_none z] at hg'
          cases hg'
        · exact z
      rw [prs_zero h2] at hij
      cases hij
      rw [sz, if_neg (by omega)] at c
      exact next_first (n := 0) c hp (by rw [sz]; exact h2) fun h' k new rec => out 0 1 h' (prs_zero h2) k new rec
    · subst e
      rw [sz] at hu
      obtain ⟨l1, l2, l3⟩ := prs_step hu
      refine next_more c hp (nx_some l1 (by rw [sz]; exact l2) (by rw [sz, ← l3]; exact hij)) fun h' k new rec => out i j h' hij k new rec
  done := by
    intro X hP hw hK hc t pins s σ H E I hf st hg
    subst hP hw hK
    obtain ⟨hp, st⟩ := st
    have len := rv.length
    have sz : its.toArray.size = xs.length := by rw [List.size_toArray, len]
    have hg' : (prs xs.length).length ≤ t := hg
    obtain ⟨f0, f1, f2, f3, f4, f5⟩ := hf it (by simp)
    have fin : ∀ h', Heap.ExtBut it s.heap h' → (none : Option Value) = none ∧ Inv X pins σ H { s with heap := h' } := fun h' eb => ⟨rfl, I.turned (t' := s.toks) (fun b o hb e => eb b o hb e) f0 f1 f3 f4 f5⟩
    rcases st with ⟨e, c⟩ | ⟨u, i0, j0, last, e, hu, c⟩
    · subst e
      have h2 : xs.length < 2 := by
        rcases Nat.lt_or_ge xs.length 2 with z | z
        · exact z
        · have := prs_zero z
          rw [List.getElem?_eq_none hg'] at this
          cases this
      rw [sz, if_pos (by omega)] at c
      exact next_none (i := 0) (j := 1) (I.ok.hd hc) c hp fin
    · subst e
      rw [sz] at hu
      obtain ⟨l1, l2, l3⟩ := prs_step hu
      rw [List.getElem?_eq_none hg'] at l3
      exact next_end (I.ok.hd hc) c hp (nx_none l1 (by rw [sz]; exact l2) (by rw [sz]; exact l3.symm)) fin
  self := fun A t s Q E st h => by
    obtain ⟨hp, st⟩ := st
    rcases st with ⟨_, c⟩ | ⟨_, _, _, _, _, _, c⟩ <;> exact iter_comb c h

section
variable {X : Cx} {tg : Expr}
def iComb (K : PySem.W.Frag) (ta : TA) : TI := fun σ H R => ta σ H fun vs H1 => ∃ a xs, vs = [.ref a, .int 2] ∧ SqL K H1 a xs ∧ R (Itcb xs) H1
theorem pi_comb {x : Str} {e e2 : Expr} {ta : TA} {p pos : Pos} (hg : Gl X x) (hm : X.mg x = some (.type "itertools.combinations")) (ha : PA X [e, e2] ta) (hdb : (x == ("__debug__" : Str)) = false := by decide)
    (hs : starEach [e, e2] X.env = (false, eval e X.env) :: starEach [e2] X.env := by rfl) (hpl : (backTo pos (starEach [e2] X.env)).any (·.1) = false := by rfl) :
    PI X tg (.Call (.Name x p) [e, e2] [] pos) (iComb X.K ta) := by
  refine ⟨fun pins s σ H R I h => ?_⟩
  refine wpAny_Call_Name_kw (ld_glob I hg hm ?_ hdb)
  refine PyProof.Rows.callWith_type1 (thn (ha.run pos pins s σ H _ I h) fun us s1 ⟨vs, H1, I1, r1, q1⟩ => ?_) hs hpl
  obtain ⟨a, xs, rfl, hq, q⟩ := q1
  obtain ⟨u1, u2, rfl, e1, ⟨t, rfl⟩⟩ := vals2 r1
  obtain rfl : u1 = Value.ref a := e1
  obtain ⟨its, rv, ⟨o, n, ho, hcl, hne, hda⟩, hz⟩ := I1.list hq
  have len := rv.length
  refine call_comb ho hcl hda (by rw [List.size_toArray, ← len]; exact hz) fun h1 keep => ?_
  have J0 : Inv X pins σ H1 { s1 with heap := h1 } := I1.kept (t' := s1.toks) keep
  have sz1 : (h1.push (tupO its.toArray)).objs.size = h1.objs.size + 1 := Heap.size_push ..
  have g1 : ((h1.push (tupO its.toArray)).push (recC h1.objs.size (if 2 > its.toArray.size then 2 else 0) .none 0 1)).get? h1.objs.size = some (tupO its.toArray) := Heap.get?_push_of_some _ (Heap.get?_push_size _ rfl)
  have g2 : ((h1.push (tupO its.toArray)).push (recC h1.objs.size (if 2 > its.toArray.size then 2 else 0) .none 0 1)).get? (h1.objs.size + 1) = some (recC h1.objs.size (if 2 > its.toArray.size then 2 else 0) .none 0 1) := by
    rw [← sz1]
    exact Heap.get?_push_size _ rfl
  refine iter_comb (s := { s1 with heap := _ }) g2 ?_
  have J1 : Inv X pins σ H1 { s1 with heap := (h1.push (tupO its.toArray)).push (recC h1.objs.size (if 2 > its.toArray.size then 2 else 0) .none 0 1) } :=
    I1.kept (t' := s1.toks) fun b o z => Heap.get?_push_of_some _ (Heap.get?_push_of_some _ (keep b o z))
  refine ⟨h1.objs.size + 1, [h1.objs.size + 1, h1.objs.size], _, _, H1, rfl, J1, turn_comb rv (h1.objs.size + 1) h1.objs.size (Nat.lt_succ_self _), ⟨g1, .inl ⟨rfl, g2⟩⟩, fun b hb => ?_, q⟩
  have low : h1.objs.size ≤ b := by
    have e : b = h1.objs.size + 1 ∨ b = h1.objs.size := by simpa using hb
    rcases e with e | e
    · rw [e]; exact Nat.le_succ _
    · rw [e]; exact Nat.le_refl _
  exact J0.fpOk low (J0.hok.fresh low)

/-- a comprehension over the pairs -/
theorem lc_comb {xs : List V} {g : TG} {tt : TT} {te : TE} {vs : List Nat} {σ : L2.St} {H1 : Hp} {D : Addr} {Qd : Hp → Prop} (Pv : Nat → Hp → Prop) (h0 : Pv 0 (upd H1 D (.lst [])))
    (hs : ∀ (t i j : Nat) (x y : V) (T : Addr) (H : Hp), (prs xs.length)[t]? = some (i, j) → xs[i]? = some x → xs[j]? = some y → Pv t H → H T = none → g (.ref T) (wipe σ vs) (upd H T (.tup [x, y])) fun σ2 H2 => wipe σ2 vs = wipe σ vs ∧ tt σ2 H2 fun b H3 =>
      if b = true then te σ2 H3 fun y H4 => ∃ acc, H4 D = some (.lst acc) ∧ acc.length < sizeLine ∧ Pv (t + 1) (upd H4 D (.lst (acc ++ [y]))) else Pv (t + 1) H3) (hd : ∀ H, Pv (prs xs.length).length H → Qd H) :
    ∃ W : Nat → Nat → Hp → Prop, (∃ m, W 0 m (upd H1 D (.lst []))) ∧ ∀ t m H, W t m H →
      ((Itcb xs).stop t H ∧ Qd H) ∨ ((Itcb xs).go t H ∧ ∃ Nx : Hp → Prop, (∀ H', Nx H' → ∃ m', m' < m ∧ W (t + 1) m' H') ∧ ∀ x H', (Itcb xs).yld t H x H' → g x (wipe σ vs) H' fun σ2 H2 => wipe σ2 vs = wipe σ vs ∧ tt σ2 H2 fun b H3 =>
        if b = true then te σ2 H3 fun y H4 => ∃ acc, H4 D = some (.lst acc) ∧ acc.length < sizeLine ∧ Nx (upd H4 D (.lst (acc ++ [y]))) else Nx H3) := by
  refine ⟨fun t m H => m = (prs xs.length).length - t ∧ t ≤ (prs xs.length).length ∧ Pv t H, ⟨_, rfl, Nat.zero_le _, h0⟩, ?_⟩
  rintro t m H ⟨rfl, ht, pv⟩
  rcases Nat.lt_or_ge t (prs xs.length).length with lt | ge
  · refine .inr ⟨lt, Pv (t + 1), fun H' p' => ⟨(prs xs.length).length - (t + 1), by omega, rfl, lt, p'⟩, fun v H' y => ?_⟩
    obtain ⟨T, i, j, a, b, rfl, hT, rfl, h1, h2, h3⟩ := y
    exact hs t i j a b T H h1 h2 h3 pv hT
  · have e : t = (prs xs.length).length := by omega
    subst e
    exact .inl ⟨Nat.le_refl _, hd H pv⟩
end
end Comb

namespace SortR
open PySem PySem.Spec PyProof.Rows L2 PySem.W
/-- lists of ints by their sequence -/
def rowLe (p q : Addr × List Int) : Bool := decide (p.2 ≤ q.2)
theorem enc_alike (p q : Addr × List Int) : alike (PyData.list (p.2.map .int)) (PyData.list (q.2.map .int)) = true := by
  simp only [alike]
  exact alike_ints p.2 q.2
theorem rows_dp {K : PySem.W.Frag} {H : Hp} : ∀ ns : List Int, DpAll K H (ns.map V.int) (ns.map PyData.int)
  | [] => .nil
  | n :: ns => .cons (.int n) (rows_dp ns)
theorem vals_each {h : Heap} {K : PySem.W.Frag} {H : Hp} {P : Addr × List Int → Prop} : ∀ {bs : List (Addr × List Int)} {us : List Value}, Vals (bs.map fun b => V.ref b.1) us → (∀ b ∈ bs, P b) → EachIs (fun v b => v = Value.ref b.1 ∧ P b) us bs
  | [], us, r, _ => by
    cases r
    exact .nil
  | b :: bs, us, r, hp => by
    cases r with
    | cons r1 r2 =>
      have e : _ = Value.ref b.1 := r1
      exact .cons ⟨e, hp b List.mem_cons_self⟩ (vals_each (h := h) (K := K) (H := H) r2 fun c hc => hp c (List.mem_cons_of_mem _ hc))
theorem each_back {P : Addr × List Int → Prop} : ∀ {us : List Value} {bs : List (Addr × List Int)}, EachIs (fun v b => v = Value.ref b.1 ∧ P b) us bs → Vals (bs.map fun b => V.ref b.1) us
  | _, _, .nil => .nil
  | _, _, .cons h t => .cons h.1 (each_back t)
theorem each_mono {α β : Type} {R S : α → β → Prop} : ∀ {as : List α} {bs : List β}, EachIs R as bs → (∀ a b, R a b → S a b) → EachIs S as bs
  | _, _, .nil, _ => .nil
  | _, _, .cons h t, f => .cons (f _ _ h) (each_mono t f)
section
variable {X : Cx}
/-- sorted(xs), xs a list of lists of ints, of any length -/
theorem call_sortedR (hu : X.A.units + 64 < cLine) : CallR X (.builtin "sorted") (fun xs H Q => ∃ (a : Addr) (bs : List (Addr × List Int)), xs = [V.ref a] ∧ SqL X.K H a (bs.map fun b => V.ref b.1) ∧ (∀ b ∈ bs, SqL X.K H b.1 (b.2.map V.int)) ∧
    ∀ p, H p = none → Q (.ref p) (upd H p (.lst ((bs.mergeSort rowLe).map fun b => V.ref b.1)))) := by
  intro pins s σ H xs us Q I r h
  obtain ⟨a, bs, rfl, hs, hb, q⟩ := h
  obtain ⟨u, rfl, ru⟩ := vals1 r
  obtain rfl : u = Value.ref a := ru
  obtain ⟨its, rv, hl, hz⟩ := I.list hs
  have each : EachIs (fun v b => v = Value.ref b.1 ∧ SqL X.K H b.1 (b.2.map V.int)) its bs := vals_each (h := s.heap) (K := X.K) (H := H) rv hb
  have len : its.length = bs.length := by rw [← rv.length, List.length_map]
  have each2 : EachIs (fun v (b : Addr × List Int) => ∃ as, Reads s.heap v (PyData.list (b.2.map .int)) as) its bs := each_mono each fun v b ⟨e, hq⟩ => by
    rw [e]
    exact Dp.reads I (PyData.list (b.2.map .int)) (.ref b.1) (.ref b.1) (.lst hq (rows_dp b.2)) rfl
  have le : dataLe false (fun b : Addr × List Int => PyData.list (b.2.map .int)) = rowLe := dataLe_rows (fun b : Addr × List Int => b.2)
  refine sorted_data (enc := fun b : Addr × List Int => PyData.list (b.2.map .int)) hl.isList each each2 (AllAlike.of enc_alike) (Sortable.others fun b => ⟨(fun z => nomatch z), fun xs z => nomatch z⟩) (by rw [← len]; rw [List.length_map] at hz; rw [len]; exact hz) (fun b _ => by
    have d : (PyData.list (b.2.map .int)).depth = 1 := by
      simp only [PyData.depth, depth_ints]
    rw [d]
    omega) fun out ho each3 => ?_
  rw [le] at each3
  have back := each_back each3
  obtain ⟨n, hn⟩ := sortedAll_at s.heap its out.toArray
  refine ⟨.ref (s.heap.objs.size + 1), upd H (s.heap.objs.size + 1) (.lst ((bs.mergeSort rowLe).map fun b => V.ref b.1)), I.laid (t' := s.toks) (fun b o e => sortedAll_old e) (Nat.le_succ _) ⟨?_, out, n, back, hn⟩, rfl, q _ (I.hok.fresh (Nat.le_succ _))⟩
  rw [List.length_map, List.length_mergeSort]
  rw [List.length_map] at hz
  exact hz
end
end SortR

namespace SortR
open PySem PySem.Spec PyProof.Rows L2 PySem.W
section
variable {X : Cx}
def rLtR (K : PySem.W.Frag) : R2 := fun x y H Q => ∃ (a b : Addr) (ns ms : List Int), x = .ref a ∧ y = .ref b ∧ SqL K H a (ns.map V.int) ∧ SqL K H b (ms.map V.int) ∧ Q (.bl (decide (ns < ms))) H
/-- xs < ys, two lists of ints -/
theorem op_ltR (hu : X.A.units + 64 < cLine) : OpR X (compareOp .Lt) (rLtR X.K) := by
  intro pins s σ H x y v u Q I rx ry h
  obtain ⟨a, b, ns, ms, rfl, rfl, hs, hm, q⟩ := h
  obtain ⟨as, r1⟩ := Dp.reads I (PyData.list (ns.map .int)) (.ref a) v (.lst hs (rows_dp ns)) rx
  obtain ⟨bs, r2⟩ := Dp.reads I (PyData.list (ms.map .int)) (.ref b) u (.lst hm (rows_dp ms)) ry
  have dep : (PyData.list (ns.map .int)).depth = 1 := by simp only [PyData.depth, depth_ints]
  have lt := rcLt_alike (PyData.list (ns.map .int)) (PyData.list (ms.map .int)) X.A s v u as bs r1 r2 (enc_alike (a, ns) (b, ms)) (fun z => nomatch z) (by rw [dep]; omega)
  have e : dataLt (PyData.list (ns.map .int)) (PyData.list (ms.map .int)) = decide (ns < ms) := by
    rw [dataLt_list]
    exact dataLt_ints ns ms
  rw [e] at lt
  exact lt _ _ _ _ ⟨.bl _, H, I, rfl, q⟩
/-- a comprehension over zip of two lists that stand still -/
theorem lc_zipL {K : PySem.W.Frag} {a b : Addr} {xs ys : List V} {g : TG} {tt : TT} {te : TE} {vs : List Nat} {σ : L2.St} {H1 : Hp} {D : Addr} {Qd : Hp → Prop} (Pv : Nat → Hp → Prop) (h0 : Pv 0 (upd H1 D (.lst []))) (hl : ∀ i H, Pv i H → SqL K H a xs ∧ SqL K H b ys)
    (hs : ∀ (i : Nat) (x y : V) (T : Addr) (H : Hp), xs[i]? = some x → ys[i]? = some y → Pv i H → H T = none → g (.ref T) (wipe σ vs) (upd H T (.tup [x, y])) fun σ2 H2 => wipe σ2 vs = wipe σ vs ∧ tt σ2 H2 fun b H3 =>
      if b = true then te σ2 H3 fun y H4 => ∃ acc, H4 D = some (.lst acc) ∧ acc.length < sizeLine ∧ Pv (i + 1) (upd H4 D (.lst (acc ++ [y]))) else Pv (i + 1) H3) (hd : ∀ H, Pv (min xs.length ys.length) H → Qd H) :
    ∃ W : Nat → Nat → Hp → Prop, (∃ m, W 0 m (upd H1 D (.lst []))) ∧ ∀ i m H, W i m H →
      ((Itz K a b).stop i H ∧ Qd H) ∨ ((Itz K a b).go i H ∧ ∃ Nx : Hp → Prop, (∀ H', Nx H' → ∃ m', m' < m ∧ W (i + 1) m' H') ∧ ∀ x H', (Itz K a b).yld i H x H' → g x (wipe σ vs) H' fun σ2 H2 => wipe σ2 vs = wipe σ vs ∧ tt σ2 H2 fun b H3 =>
        if b = true then te σ2 H3 fun y H4 => ∃ acc, H4 D = some (.lst acc) ∧ acc.length < sizeLine ∧ Nx (upd H4 D (.lst (acc ++ [y]))) else Nx H3) := by
  refine ⟨fun i m H => m = min xs.length ys.length - i ∧ i ≤ min xs.length ys.length ∧ Pv i H, ⟨_, rfl, Nat.zero_le _, h0⟩, ?_⟩
  rintro i m H ⟨rfl, hi, pv⟩
  obtain ⟨qx, qy⟩ := hl i H pv
  rcases Nat.lt_or_ge i (min xs.length ys.length) with lt | ge
  · have ex : xs[i]? = some xs[i] := List.getElem?_eq_getElem (by omega)
    have ey : ys[i]? = some ys[i] := List.getElem?_eq_getElem (by omega)
    refine .inr ⟨⟨xs, ys, _, _, qx, qy, ex, ey⟩, Pv (i + 1), fun H' p' => ⟨min xs.length ys.length - (i + 1), by omega, rfl, lt, p'⟩, fun v H' y => ?_⟩
    obtain ⟨T, x', y', rfl, hT, rfl, f1, f2⟩ := y
    exact hs i x' y' T H (f1 xs qx) (f2 ys qy) pv hT
  · have e : i = min xs.length ys.length := by omega
    subst e
    exact .inl ⟨⟨xs, ys, qx, qy, by omega⟩, hd H pv⟩
/-- a comprehension over enumerate of a list that stands still -/
theorem lc_enumL {K : PySem.W.Frag} {a : Addr} {xs : List V} {g : TG} {tt : TT} {te : TE} {vs : List Nat} {σ : L2.St} {H1 : Hp} {D : Addr} {Qd : Hp → Prop} (Pv : Nat → Hp → Prop) (h0 : Pv 0 (upd H1 D (.lst []))) (hl : ∀ i H, Pv i H → SqL K H a xs)
    (hs : ∀ (i : Nat) (x : V) (T : Addr) (H : Hp), xs[i]? = some x → Pv i H → H T = none → g (.ref T) (wipe σ vs) (upd H T (.tup [.int (i : Nat), x])) fun σ2 H2 => wipe σ2 vs = wipe σ vs ∧ tt σ2 H2 fun b H3 =>
      if b = true then te σ2 H3 fun y H4 => ∃ acc, H4 D = some (.lst acc) ∧ acc.length < sizeLine ∧ Pv (i + 1) (upd H4 D (.lst (acc ++ [y]))) else Pv (i + 1) H3) (hd : ∀ H, Pv xs.length H → Qd H) :
    ∃ W : Nat → Nat → Hp → Prop, (∃ m, W 0 m (upd H1 D (.lst []))) ∧ ∀ i m H, W i m H →
      ((Ite K a).stop i H ∧ Qd H) ∨ ((Ite K a).go i H ∧ ∃ Nx : Hp → Prop, (∀ H', Nx H' → ∃ m', m' < m ∧ W (i + 1) m' H') ∧ ∀ x H', (Ite K a).yld i H x H' → g x (wipe σ vs) H' fun σ2 H2 => wipe σ2 vs = wipe σ vs ∧ tt σ2 H2 fun b H3 =>
        if b = true then te σ2 H3 fun y H4 => ∃ acc, H4 D = some (.lst acc) ∧ acc.length < sizeLine ∧ Nx (upd H4 D (.lst (acc ++ [y]))) else Nx H3) := by
  refine ⟨fun i m H => m = xs.length - i ∧ i ≤ xs.length ∧ Pv i H, ⟨_, rfl, Nat.zero_le _, h0⟩, ?_⟩
  rintro i m H ⟨rfl, hi, pv⟩
  have qx := hl i H pv
  rcases Nat.lt_or_ge i xs.length with lt | ge
  · have ex : xs[i]? = some xs[i] := List.getElem?_eq_getElem lt
    refine .inr ⟨⟨xs, _, qx, ex⟩, Pv (i + 1), fun H' p' => ⟨xs.length - (i + 1), by omega, rfl, lt, p'⟩, fun v H' y => ?_⟩
    obtain ⟨T, x', rfl, hT, rfl, f1⟩ := y
    exact hs i x' T H (f1 xs qx) pv hT
  · have e : i = xs.length := by omega
    subst e
    exact .inl ⟨⟨xs, qx, Nat.le_refl _⟩, hd H pv⟩
end
end SortR

/-! Comprehensions without a test, by the value of each turn: what stood stands. -/
namespace LcM
open PySem PySem.Spec PyProof.Rows L2
/-- all that stood stands -/
def Grows (H H' : Hp) : Prop := ∀ b o, H b = some o → H' b = some o
theorem Grows.refl {H : Hp} : Grows H H := fun _ _ e => e
theorem Grows.trans {H H1 H2 : Hp} (x : Grows H H1) (y : Grows H1 H2) : Grows H H2 := fun b o e => y b o (x b o e)
theorem Grows.new {a : Addr} {H : Hp} {o : HO} (h : H a = none) : Grows H (upd H a o) := fun b u e => by
  rw [upd_ne (ne_of_none e h)]
  exact e
theorem Grows.seq {K : PySem.W.Frag} {H H' : Hp} {a : Addr} {xs : List V} (s : Grows H H') (h : SqL K H a xs) : SqL K H' a xs := by
  rcases h with (h | ⟨o, h⟩) | h
  · exact .inl (.inl (s _ _ h))
  · exact .inl (.inr ⟨o, s _ _ h⟩)
  · exact .inr h
theorem Grows.tup {K : PySem.W.Frag} {H H' : Hp} {a : Addr} {xs : List V} (s : Grows H H') (h : SqT K H a xs) : SqT K H' a xs := by
  rcases h with (h | ⟨o, h⟩) | h
  · exact .inl (.inl (s _ _ h))
  · exact .inl (.inr ⟨o, s _ _ h⟩)
  · exact .inr h
/-- the list that is made -/
def Ma (H0 : Hp) (D : Addr) (F : Nat → V) (i : Nat) (H : Hp) : Prop := Grows H0 H ∧ H D = some (.lst ((List.range i).map F))
theorem Ma.start {H0 : Hp} {D : Addr} {F : Nat → V} (hD : H0 D = none) : Ma H0 D F 0 (upd H0 D (.lst [])) := ⟨Grows.new hD, upd_same⟩
theorem yes_eq {te : TE} {A : L2.St → Prop} {R : V → Hp → Prop} {Y : Hp → Prop} :
    (fun (σ2 : L2.St) (H2 : Hp) => A σ2 ∧ tYes σ2 H2 fun b H3 => if b = true then te σ2 H3 R else Y H3) = fun σ2 H2 => A σ2 ∧ te σ2 H2 R := by
  funext σ2 H2
  unfold tYes
  dsimp only
  rw [if_pos rfl]
/-- one more -/
theorem Ma.more {H0 H H4 : Hp} {D : Addr} {F : Nat → V} {i : Nat} (hD : H0 D = none) (m : Ma H0 D F i H) (s : Grows H H4) (small : i < 1000000) :
    ∃ acc, H4 D = some (.lst acc) ∧ acc.length < sizeLine ∧ Ma H0 D F (i + 1) (upd H4 D (.lst (acc ++ [F i]))) := by
  refine ⟨_, s _ _ m.2, ?_, fun b o e => ?_, ?_⟩
  · rw [List.length_map, List.length_range]
    exact Nat.lt_trans small (by decide)
  · rw [upd_ne (ne_of_none e hD)]
    exact s _ _ (m.1 _ _ e)
  · rw [upd_same, List.range_succ, List.map_append]
    rfl
section
variable {K : PySem.W.Frag} {a b : Addr} {xs ys : List V} {g : TG} {te : TE} {vs : List Nat} {σ : L2.St} {H0 : Hp} {D : Addr} {Qd : Hp → Prop}
theorem lc_listM (F : Nat → V) (hD : H0 D = none) (hx : SqL K H0 a xs) (small : xs.length ≤ 1000000)
    (turn : ∀ (i : Nat) (x : V) (H : Hp) (R : V → Hp → Prop), xs[i]? = some x → Grows H0 H → (∀ H4, Grows H H4 → R (F i) H4) → g x (wipe σ vs) H fun σ2 H2 => wipe σ2 vs = wipe σ vs ∧ te σ2 H2 R)
    (done : ∀ H, Grows H0 H → H D = some (.lst ((List.range xs.length).map F)) → Qd H) :
    ∃ W : Nat → Nat → Hp → Prop, (∃ m, W 0 m (upd H0 D (.lst []))) ∧ ∀ i m H, W i m H →
      ((Itl K a).stop i H ∧ Qd H) ∨ ((Itl K a).go i H ∧ ∃ Nx : Hp → Prop, (∀ H', Nx H' → ∃ m', m' < m ∧ W (i + 1) m' H') ∧ ∀ x H', (Itl K a).yld i H x H' → g x (wipe σ vs) H' fun σ2 H2 => wipe σ2 vs = wipe σ vs ∧ tYes σ2 H2 fun b H3 =>
        if b = true then te σ2 H3 fun y H4 => ∃ acc, H4 D = some (.lst acc) ∧ acc.length < sizeLine ∧ Nx (upd H4 D (.lst (acc ++ [y]))) else Nx H3) := by
  refine lc_list (Ma H0 D F) (Ma.start hD) (fun i H _ m => m.1.seq hx) (fun i x H ex m => ?_) fun H m => done H m.1 m.2
  rw [yes_eq (A := fun σ2 => wipe σ2 vs = wipe σ vs)]
  exact turn i x H _ ex m.1 fun H4 s => m.more hD s (Nat.lt_of_lt_of_le (List.getElem?_eq_some_iff.mp ex).1 small)
theorem lc_zipM (F : Nat → V) (hD : H0 D = none) (hx : SqL K H0 a xs) (hy : SqL K H0 b ys) (small : xs.length ≤ 1000000)
    (turn : ∀ (i : Nat) (x y : V) (T : Addr) (H : Hp) (R : V → Hp → Prop), xs[i]? = some x → ys[i]? = some y → Grows H0 H → H T = none → (∀ H4, Grows (upd H T (.tup [x, y])) H4 → R (F i) H4) → g (.ref T) (wipe σ vs) (upd H T (.tup [x, y])) fun σ2 H2 => wipe σ2 vs = wipe σ vs ∧ te σ2 H2 R)
    (done : ∀ H, Grows H0 H → H D = some (.lst ((List.range (min xs.length ys.length)).map F)) → Qd H) :
    ∃ W : Nat → Nat → Hp → Prop, (∃ m, W 0 m (upd H0 D (.lst []))) ∧ ∀ i m H, W i m H →
      ((Itz K a b).stop i H ∧ Qd H) ∨ ((Itz K a b).go i H ∧ ∃ Nx : Hp → Prop, (∀ H', Nx H' → ∃ m', m' < m ∧ W (i + 1) m' H') ∧ ∀ x H', (Itz K a b).yld i H x H' → g x (wipe σ vs) H' fun σ2 H2 => wipe σ2 vs = wipe σ vs ∧ tYes σ2 H2 fun b H3 =>
        if b = true then te σ2 H3 fun y H4 => ∃ acc, H4 D = some (.lst acc) ∧ acc.length < sizeLine ∧ Nx (upd H4 D (.lst (acc ++ [y]))) else Nx H3) := by
  refine SortR.lc_zipL (Ma H0 D F) (Ma.start hD) (fun i H m => ⟨m.1.seq hx, m.1.seq hy⟩) (fun i x y T H ex ey m hT => ?_) fun H m => done H m.1 m.2
  rw [yes_eq (A := fun σ2 => wipe σ2 vs = wipe σ vs)]
  exact turn i x y T H _ ex ey m.1 hT fun H4 s => m.more hD ((Grows.new hT).trans s) (Nat.lt_of_lt_of_le (List.getElem?_eq_some_iff.mp ex).1 small)
theorem lc_enumM (F : Nat → V) (hD : H0 D = none) (hx : SqL K H0 a xs) (small : xs.length ≤ 1000000)
    (turn : ∀ (i : Nat) (x : V) (T : Addr) (H : Hp) (R : V → Hp → Prop), xs[i]? = some x → Grows H0 H → H T = none → (∀ H4, Grows (upd H T (.tup [.int (i : Nat), x])) H4 → R (F i) H4) → g (.ref T) (wipe σ vs) (upd H T (.tup [.int (i : Nat), x])) fun σ2 H2 => wipe σ2 vs = wipe σ vs ∧ te σ2 H2 R)
    (done : ∀ H, Grows H0 H → H D = some (.lst ((List.range xs.length).map F)) → Qd H) :
    ∃ W : Nat → Nat → Hp → Prop, (∃ m, W 0 m (upd H0 D (.lst []))) ∧ ∀ i m H, W i m H →
      ((Ite K a).stop i H ∧ Qd H) ∨ ((Ite K a).go i H ∧ ∃ Nx : Hp → Prop, (∀ H', Nx H' → ∃ m', m' < m ∧ W (i + 1) m' H') ∧ ∀ x H', (Ite K a).yld i H x H' → g x (wipe σ vs) H' fun σ2 H2 => wipe σ2 vs = wipe σ vs ∧ tYes σ2 H2 fun b H3 =>
        if b = true then te σ2 H3 fun y H4 => ∃ acc, H4 D = some (.lst acc) ∧ acc.length < sizeLine ∧ Nx (upd H4 D (.lst (acc ++ [y]))) else Nx H3) := by
  refine SortR.lc_enumL (Ma H0 D F) (Ma.start hD) (fun i H m => m.1.seq hx) (fun i x T H ex m hT => ?_) fun H m => done H m.1 m.2
  rw [yes_eq (A := fun σ2 => wipe σ2 vs = wipe σ vs)]
  exact turn i x T H _ ex m.1 hT fun H4 s => m.more hD ((Grows.new hT).trans s) (Nat.lt_of_lt_of_le (List.getElem?_eq_some_iff.mp ex).1 small)
theorem lc_combM (F : Nat → V) (hD : H0 D = none) (small : xs.length ≤ 1000)
    (turn : ∀ (t i j : Nat) (x y : V) (T : Addr) (H : Hp) (R : V → Hp → Prop), (Comb.prs xs.length)[t]? = some (i, j) → xs[i]? = some x → xs[j]? = some y → Grows H0 H → H T = none → (∀ H4, Grows (upd H T (.tup [x, y])) H4 → R (F t) H4) → g (.ref T) (wipe σ vs) (upd H T (.tup [x, y])) fun σ2 H2 => wipe σ2 vs = wipe σ vs ∧ te σ2 H2 R)
    (done : ∀ H, Grows H0 H → H D = some (.lst ((List.range (Comb.prs xs.length).length).map F)) → Qd H) :
    ∃ W : Nat → Nat → Hp → Prop, (∃ m, W 0 m (upd H0 D (.lst []))) ∧ ∀ t m H, W t m H →
      ((Comb.Itcb xs).stop t H ∧ Qd H) ∨ ((Comb.Itcb xs).go t H ∧ ∃ Nx : Hp → Prop, (∀ H', Nx H' → ∃ m', m' < m ∧ W (t + 1) m' H') ∧ ∀ x H', (Comb.Itcb xs).yld t H x H' → g x (wipe σ vs) H' fun σ2 H2 => wipe σ2 vs = wipe σ vs ∧ tYes σ2 H2 fun b H3 =>
        if b = true then te σ2 H3 fun y H4 => ∃ acc, H4 D = some (.lst acc) ∧ acc.length < sizeLine ∧ Nx (upd H4 D (.lst (acc ++ [y]))) else Nx H3) := by
  refine Comb.lc_comb (Ma H0 D F) (Ma.start hD) (fun t i j x y T H et ex ey m hT => ?_) fun H m => done H m.1 m.2
  rw [yes_eq (A := fun σ2 => wipe σ2 vs = wipe σ vs)]
  refine turn t i j x y T H _ et ex ey m.1 hT fun H4 s => m.more hD ((Grows.new hT).trans s) ?_
  have l1 := (List.getElem?_eq_some_iff.mp et).1
  have l2 := Comb.rows_len (xs.length - 1) 0
  have l3 : (xs.length - 1) * (xs.length - 1) ≤ 999 * 999 := Nat.mul_le_mul (by omega) (by omega)
  unfold Comb.prs at l1
  omega
end
/-- xs[1:] -/
theorem cut_tail (xs : List V) : cutV xs (some 1) none = xs.tail := by
  unfold cutV
  rw [HT.sIx_none, show (some (1 : Int)) = some ((1 : Nat) : Int) from rfl, HT.sIx_nat]
  cases xs with
  | nil => rfl
  | cons x l =>
    have e : min 1 (x :: l).length = 1 := by rw [List.length_cons]; omega
    rw [e, List.drop_one, List.tail_cons, List.length_cons, Nat.add_sub_cancel, List.take_length]
end LcM

/-! {key: value for target in iterable if test}, the keys tuples. -/
namespace DcT
open PySem PySem.Spec PyProof.Rows L2
section
variable {X : Cx} {pins : List (Addr × Obj)} {σ : L2.St} {H : Hp} {s : Shared}
/-- one entry is laid by the comprehension -/
theorem set_tup {Er : Value → Shared → Prop} {d b : Addr} {kvs : List (List L2.Key × V)} {k : List L2.Key} {v : V} {u r : Value} {Qu : Unit → Shared → Prop} (room : X.A.units + 1 < cLine) (I : Inv X pins σ H s) (at_d : H d = some (.dT kvs)) (few : kvs.length < sizeLine)
    (at_b : H b = some (.tup (k.map kV))) (ru : RelV (.ref b) u) (rr : RelV v r) (go : ∀ s', Inv X pins σ (upd H d (.dT (putK kvs k v))) s' → Qu () s') : wpAny (model X.prog X.w) X.A (dictSet d u r) Qu Er s := by
  obtain rfl : u = Value.ref b := ru
  obtain ⟨fits, notSys, xs, rel, raw⟩ := dt_of I.hok at_d
  have n1 : xs.length ≤ sizeLine := Paired.length rel ▸ fits
  have n2 : (putK kvs k v).length ≤ sizeLine := Nat.le_trans (length_putK kvs k v) few
  refine wpAny_dictSet_heap (hsz := n1) (show X.A.units < cLine from Nat.lt_of_succ_lt room) (key_of I.hok at_b) raw fun hp raw' same => go _ ?_
  obtain ⟨o, es, ep, g1, g2, g3, g4, _, g5⟩ := raw'
  refine d_write I (by rw [at_d]; exact True.intro) same ⟨o, g1⟩ ⟨n2, notSys, _, (rel.put k at_b rr).keeps fun c ys ec => ?_, o, es, ep, g1, g2, g3, g4, g5⟩
  rw [upd_ne (ne_of ec at_d fun z => nomatch z)]
  exact ec
end
section
variable {X : Cx}
def tDcT (wi : TI) (g : TG) (tt : TT) (tk tv : TE) (vs : List Nat) : TE := fun σ H Q => wi σ H fun J H1 => ∀ D, H1 D = none → ∃ W : Nat → Nat → Hp → Prop, (∃ m, W 0 m (upd H1 D (.dT []))) ∧ ∀ i m H, W i m H →
  (J.stop i H ∧ Q (.ref D) H) ∨ (J.go i H ∧ ∃ Nx : Hp → Prop, (∀ H', Nx H' → ∃ m', m' < m ∧ W (i + 1) m' H') ∧ ∀ x H', J.yld i H x H' → g x (wipe σ vs) H' fun σ2 H2 => wipe σ2 vs = wipe σ vs ∧ tt σ2 H2 fun t H3 =>
    if t = true then tk σ2 H3 fun y H4 => tv σ2 H4 fun z H5 => ∃ b kvs k, y = .ref b ∧ H5 b = some (.tup (k.map kV)) ∧ H5 D = some (.dT kvs) ∧ kvs.length < sizeLine ∧ Nx (upd H5 D (.dT (putK kvs k z))) else Nx H3)
theorem dcT_core {pins : List (Addr × Obj)} {s0 : Shared} {σ : L2.St} {H0 : Hp} {Q : VK} {kx vx tg iter : Expr} {ifs : List Expr} {scope : Scope} {own : List (Str × Nat)} {pos pos' : Pos} {wi : TI} {g : TG} {tt : TT} {tk tv : TE} {use : Option (Value → Sem Unit)} {Qf : Value → Shared → Prop}
    (room : X.A.units + 64 < cLine) (calm : X.calm = true) (nd : X.N.Nodup) (I0 : Inv X pins σ H0 s0) (pi : PI X tg iter wi) (ok : BlkOk X.N X.env.scope scope own)
    (pgs : ∀ (s : Shared) (H : Hp) (C : Addr) (cl : List (Str × Addr)) (fp : List Addr), PG (X.blk s H scope (compEnvC scope cl C X.env) fp) tg g) (pts : ∀ (s : Shared) (H : Hp) (C : Addr) (cl : List (Str × Addr)) (fp : List Addr), PTs (X.blk s H scope (compEnvC scope cl C X.env) fp) ifs tt)
    (pks : ∀ (s : Shared) (H : Hp) (C : Addr) (cl : List (Str × Addr)) (fp : List Addr), PE (X.blk s H scope (compEnvC scope cl C X.env) fp) kx tk) (pvs : ∀ (s : Shared) (H : Hp) (C : Addr) (cl : List (Str × Addr)) (fp : List Addr), PE (X.blk s H scope (compEnvC scope cl C X.env) fp) vx tv)
    (fold : ∀ x, foldedSetIterable iter X.env x = pure x) (rd : tDcT wi g tt tk tv (own.map (·.2)) σ H0 Q)
    (post : ∀ D C t ns G, Inv X pins σ G t → Q (.ref D) G → t.heap.Ns C ns → FpOk X pins G C → compPost (model X.prog X.w) X.A X.xe use Qf (.ref D) C (.ok .next) t) :
    wpAny (model X.prog X.w) X.A (comprehension (.DictComp kx vx [⟨tg, iter, ifs, 0⟩] scope pos) scope X.env pos' newDict false (eval iter X.env) use) Qf X.xe s0 := by
  have isFree : ∀ y ∈ scope.names, y.2 = .free → ∃ c, X.env.cells.lookup y.1 = some c := fun y hy ey => (ok.free y hy ey).elim (fun z => I0.ok.has _ (.inl z)) fun z => I0.ok.has _ (.inr z)
  refine wpAny_comprehension_free (use := use) rfl fold (closure_ok isFree) ok.kind (fun y hy ey => (ok.uniq y hy).trans (congrArg some ey)) (thn (pi.run pins s0 σ H0 _ I0 rd) fun _ sa ha => thn ha fun _ sb hb => ?_)
  obtain ⟨it, fp, tn, J, Hb, rfl, Ib, Tn, tn0, fb, q⟩ := hb
  refine wpAny_newObj_type (newEnv_comp ?_)
  have free0 : Hb sb.heap.objs.size = none := Ib.hok.fresh (Nat.le_refl _)
  obtain ⟨W, ⟨m0, w0⟩, turn⟩ := q _ free0
  -- with the dict, empty
  obtain ⟨sc, esc⟩ : ∃ z : Shared, z = { sb with heap := sb.heap.push { cls := .type "dict", data := .dict #[] } } := ⟨_, rfl⟩
  obtain ⟨Hc, eHc⟩ : ∃ z : Hp, z = upd Hb sb.heap.objs.size (.dT []) := ⟨_, rfl⟩
  have Ic : Inv X pins σ Hc sc := by
    rw [esc, eHc]
    exact Ib.laid (t' := sb.toks) (fun b o z => Heap.get?_push_of_some _ z) (Nat.le_refl _) (dt_empty sb.heap Ib.big)
  have up : ∀ b o, sb.heap.get? b = some o → sc.heap.get? b = some o := fun b o z => by
    rw [esc]
    exact Heap.get?_push_of_some _ z
  have below : ∀ b ∈ fp, b < sb.heap.objs.size := fun b hb => let ⟨_, z, _⟩ := Tn.obj _ _ tn0 b hb; Heap.lt_size z
  have fc : ∀ b ∈ fp, FpOk X pins Hc b ∧ b < sc.heap.objs.size := fun b hb => by
    obtain ⟨o, z, _⟩ := Tn.obj _ _ tn0 b hb
    refine ⟨⟨?_, (fb b hb).2⟩, Heap.lt_size (up b o z)⟩
    rw [eHc, upd_ne (Nat.ne_of_lt (below b hb))]
    exact (fb b hb).1
  have tnc : tn 0 sc.heap := Tn.keep _ _ _ tn0 fun b _ o z => up b o z
  have Ie := block_start Ic ok nd fc
  obtain ⟨cells, ecl⟩ : ∃ z, z = cellsFrom (sc.heap.objs.size + 1) scope.names (cloFrom X.env.cells scope.names []) := ⟨_, rfl⟩
  have pg := pgs sc Hc sc.heap.objs.size cells fp
  have pt := pts sc Hc sc.heap.objs.size cells fp
  have pk := pks sc Hc sc.heap.objs.size cells fp
  have pv := pvs sc Hc sc.heap.objs.size cells fp
  rw [← ecl] at Ie
  rw [← esc]
  show codeAny _ _ (.compStart _ 0 (.ref it) (.ref sb.heap.objs.size) (compEnvC scope (cellsFrom (sc.heap.objs.size + 1) scope.names (cloFrom X.env.cells scope.names [])) sc.heap.objs.size X.env)) (compPost _ _ X.xe use Qf (.ref sb.heap.objs.size) sc.heap.objs.size) _
  rw [← ecl]
  have loc : (compEnvC scope cells sc.heap.objs.size X.env).locals = sc.heap.objs.size := rfl
  rw [← eHc] at w0
  have empty : ∀ b ∈ fp, Hc b = none := fun b hb => (fc b hb).1.1
  obtain ⟨sd, esd⟩ : ∃ z : Shared, z = { sc with heap := pushCells (sc.heap.push { cls := .type "dict", data := .dict #[] }) scope.names } := ⟨_, rfl⟩
  have tnd : tn 0 sd.heap := Tn.keep _ _ _ tnc fun b _ o z => by
    rw [esd]
    exact pushCells_keeps _ _ _ _ (Heap.get?_push_of_some _ z)
  rw [← esd] at Ie ⊢
  generalize compEnvC scope cells sc.heap.objs.size X.env = ce at Ie pg pt pk pv loc ⊢
  -- the iterator's own objects in the block
  have own_ok : ∀ {ρ : L2.St} {G : Hp} {t : Shared}, Inv (X.blk sc Hc scope ce fp) [] ρ G t → (∀ b ∈ fp, G b = none) → ∀ b ∈ fp, FpOk (X.blk sc Hc scope ce fp) [] G b := fun {ρ G t} J hn b hb =>
    ⟨hn b hb, (J.ok.exf b hb).1, J.ok.exfs b hb, .inl hb, fun y c z => (J.ok.exf b hb).2 y c z, fun p hp => (nomatch hp)⟩
  have run : codeAny (model X.prog X.w) X.A (.compLoop (.DictComp kx vx [⟨tg, iter, ifs, 0⟩] scope pos) 0 (.ref it) (.ref sb.heap.objs.size) ce) (compPost (model X.prog X.w) X.A X.xe use Qf (.ref sb.heap.objs.size) sc.heap.objs.size) sd := by
    refine compLoop_anyD (fun m t => ∃ i G, Inv (X.blk sc Hc scope ce fp) [] (wipe σ (own.map (·.2))) G t ∧ tn i t.heap ∧ (∀ b ∈ fp, G b = none) ∧ W i m G) ?_ m0 ⟨0, Hc, Ie, tnd, empty, w0⟩
    rintro m t ⟨i, G, J, tni, none_, wi_⟩
    rcases turn i m G wi_ with ⟨stop, fin⟩ | ⟨go, Nx, less, step⟩
    · refine thnF (Tn.done (X.blk sc Hc scope ce fp) rfl rfl rfl calm i [] t _ G (fun _ _ => False) J (own_ok J none_) tni stop) fun r t2 ⟨er, J2⟩ => ?_
      subst er
      have back : Inv X pins σ G t2 := Ic.call' (ch := fp) J2.os J2.base J2.hok J2.bare fun b hb => ⟨(fc b hb).1.2.2.2.1, (fc b hb).1.2.1, (fc b hb).1.2.2.2.2.1, (fc b hb).1.2.2.2.2.2⟩
      have noC : G sc.heap.objs.size = none := by
        have z : G ce.locals = none := J2.free
        rwa [loc] at z
      obtain ⟨ns, isNs, _⟩ := J2.loc
      have isNs' : t2.heap.Ns ce.locals ns := isNs
      rw [loc] at isNs'
      exact post _ _ t2 ns G back fin isNs' (Ic.fpOk (Nat.le_refl _) noC)
    · refine thnF (Tn.item (X.blk sc Hc scope ce fp) rfl rfl rfl calm i [] t _ G (fun _ _ => False) J (own_ok J none_) tni go) fun r t2 ⟨u, er, h2⟩ => ?_
      subst er
      refine thnF h2 fun _ t3 ⟨x, G3, J3, r3, y3, tn3, none3⟩ => ?_
      have K3 := J3.pinned (own_ok J3 none3) (Tn.obj _ _ tn3)
      refine thnF (pg.run _ t3 _ G3 x u _ K3 r3 (step x G3 y3)) fun _ t4 ⟨ρ4, G4, J4, same4, q4⟩ => ?_
      refine thnF (pt.run _ t4 ρ4 G4 _ J4 q4) fun yes t5 ⟨G5, J5, q5⟩ => ?_
      have next : ∀ {t' : Shared} {G' : Hp}, Inv (X.blk sc Hc scope ce fp) ([] ++ pinsAt fp t3.heap) ρ4 G' t' → Nx G' → ∃ m', m' < m ∧ ∃ i G, Inv (X.blk sc Hc scope ce fp) [] (wipe σ (own.map (·.2))) G t' ∧ tn i t'.heap ∧ (∀ b ∈ fp, G b = none) ∧ W i m' G := fun {t' G'} J' nx => by
        obtain ⟨m', lt, w'⟩ := less G' nx
        have held : ∀ b ∈ fp, ∀ o, t3.heap.get? b = some o → t'.heap.get? b = some o ∧ G' b = none := fun b hb o z =>
          have p := J'.pin (b, o) (List.mem_append_right _ (List.mem_append_right _ (mem_pinsAt hb z)))
          ⟨p.1, p.2.1⟩
        have len : (wipe σ (own.map (·.2))).length = ρ4.length := by rw [← same4, wipe_length]
        refine ⟨m', lt, i + 1, G', (J'.unpinned (pins := [])).weak len (fun j v z => ?_), Tn.keep _ _ _ tn3 fun b hb o z => (held b hb o z).1, fun b hb => ?_, w'⟩
        · rw [← same4] at z
          exact (wipe_some z).1
        · obtain ⟨o, z, _⟩ := Tn.obj _ _ tn3 b hb
          exact (held b hb o z).2
      cases yes with
      | false =>
        simp only [Bool.false_eq_true, if_false] at q5 ⊢
        exact next J5 q5
      | true =>
        simp only [if_true] at q5 ⊢
        refine thnF (pk.run _ t5 ρ4 G5 _ J5 q5) fun ku t6 ⟨yk, G6, J6, r6, q6⟩ => thnF (pv.run _ t6 ρ4 G6 _ J6 q6) fun vu t7 ⟨yv, G7, J7, r7, b, kvs, k, ek, at_b, at_d, few, nx⟩ => ?_
        subst ek
        exact set_tup (X := X.blk sc Hc scope ce fp) (show X.A.units + 1 < cLine by omega) J7 at_d few at_b r6 r7 fun t8 J8 => next J8 nx
  exact codeAny_compStart_dict run (Tn.self X.A 0 _ _ _ tnd run)
/-- as a value -/
theorem pe_dcT {kx vx tg iter : Expr} {ifs : List Expr} {scope : Scope} {own : List (Str × Nat)} {pos : Pos} {wi : TI} {g : TG} {tt : TT} {tk tv : TE} (room : X.A.units + 64 < cLine) (calm : X.calm = true) (nd : X.N.Nodup) (pi : PI X tg iter wi) (ok : BlkOk X.N X.env.scope scope own)
    (pgs : ∀ (s : Shared) (H : Hp) (C : Addr) (cl : List (Str × Addr)) (fp : List Addr), PG (X.blk s H scope (compEnvC scope cl C X.env) fp) tg g) (pts : ∀ (s : Shared) (H : Hp) (C : Addr) (cl : List (Str × Addr)) (fp : List Addr), PTs (X.blk s H scope (compEnvC scope cl C X.env) fp) ifs tt)
    (pks : ∀ (s : Shared) (H : Hp) (C : Addr) (cl : List (Str × Addr)) (fp : List Addr), PE (X.blk s H scope (compEnvC scope cl C X.env) fp) kx tk) (pvs : ∀ (s : Shared) (H : Hp) (C : Addr) (cl : List (Str × Addr)) (fp : List Addr), PE (X.blk s H scope (compEnvC scope cl C X.env) fp) vx tv)
    (fold : ∀ x, foldedSetIterable iter X.env x = pure x := by intro _; rfl) : PE X (.DictComp kx vx [⟨tg, iter, ifs, 0⟩] scope pos) (tDcT wi g tt tk tv (own.map (·.2))) := by
  refine ⟨fun pins s0 σ H0 Q I0 rd => ?_⟩
  rw [arm_eval_DictComp]
  refine dcT_core room calm nd I0 pi ok pgs pts pks pvs fold rd fun D C t ns G J fin isNs ⟨f0, f1, f2, f3, f4, f5⟩ => ⟨ns, isNs, fun h2 sb2 => ⟨.ref D, G, J.turned (t' := t.toks) (fun b o ne z => (sb2.2 b ne).trans z) f0 f1 f3 f4 f5, rfl, fin⟩⟩
/-- name = {..} on one line, the name a local -/
theorem ps_setDcT {i : Nat} {y : Str} {py : Pos} {kx vx tg iter : Expr} {ifs : List Expr} {scope : Scope} {own : List (Str × Nat)} {pos spos : Pos} {wi : TI} {g : TG} {tt : TT} {tk tv : TE} (room : X.A.units + 64 < cLine) (calm : X.calm = true) (nd : X.N.Nodup) (at_y : X.N[i]? = some y) (loc : X.env.scope.names.lookup y = some .local)
    (sw : swapsWith (.DictComp kx vx [⟨tg, iter, ifs, 0⟩] scope pos) (some (.Name y py)) spos.line X.env = pure true) (pi : PI X tg iter wi) (ok : BlkOk X.N X.env.scope scope own)
    (pgs : ∀ (s : Shared) (H : Hp) (C : Addr) (cl : List (Str × Addr)) (fp : List Addr), PG (X.blk s H scope (compEnvC scope cl C X.env) fp) tg g) (pts : ∀ (s : Shared) (H : Hp) (C : Addr) (cl : List (Str × Addr)) (fp : List Addr), PTs (X.blk s H scope (compEnvC scope cl C X.env) fp) ifs tt)
    (pks : ∀ (s : Shared) (H : Hp) (C : Addr) (cl : List (Str × Addr)) (fp : List Addr), PE (X.blk s H scope (compEnvC scope cl C X.env) fp) kx tk) (pvs : ∀ (s : Shared) (H : Hp) (C : Addr) (cl : List (Str × Addr)) (fp : List Addr), PE (X.blk s H scope (compEnvC scope cl C X.env) fp) vx tv)
    (fold : ∀ x, foldedSetIterable iter X.env x = pure x := by intro _; rfl) : PS X (.Assign [.Name y py] (.DictComp kx vx [⟨tg, iter, ifs, 0⟩] scope pos) spos) (tAsg (tDcT wi g tt tk tv (own.map (·.2))) (gName i)) := by
  refine ⟨fun pins s0 σ H0 D I0 rd => ?_⟩
  rw [exec_Assign_Name_used _ _ _ _ sw]
  refine wpAny_bind (wpAny_standAt (wpAny_bind ?_))
  show wpAny _ X.A (do let _ ← comprehension (.DictComp kx vx [⟨tg, iter, ifs, 0⟩] scope pos) scope X.env (firstIterPos [⟨tg, iter, ifs, 0⟩] pos) newDict false (eval iter X.env) (some (assign (.Name y py) X.env))) _ _ s0
  have rd' : tDcT wi g tt tk tv (own.map (·.2)) σ H0 (fun x G => gName i x σ G D.nx) := rd
  refine wpAny_bind (thn (dcT_core (Qf := fun _ t => SP X pins D .next t) room calm nd I0 pi ok pgs pts pks pvs fold rd' fun L C t ns G J fin isNs fo => ?_) fun _ _ z => wpAny_pure (wpAny_pure z))
  obtain ⟨f0, f1, f2, f3, f4, f5⟩ := fo
  show wpAny _ _ (assign (.Name y py) X.env (.ref L)) _ _ _
  refine wpAny_assign_Name (store_ok2 (v := V.ref L) J nd at_y (.inl loc) rfl (fun t2 J2 ⟨c, sb, hc⟩ => ?_) (.inr loc))
  have ne : C ≠ c := hc.elim (fun z => z ▸ f1) fun z e => f4 y c z e.symm
  exact ⟨ns, isNs.sameBut sb ne, fun h3 sb3 => ⟨_, G, J2.turned (t' := t2.toks) (fun b o hb e => (sb3.2 b hb).trans e) f0 f1 f3 f4 f5, fin⟩⟩
theorem sw_dict {kx vx : Expr} {gs : List Comprehension} {scope : Scope} {pos py : Pos} {y : Str} {l : Nat} {env : Env} (fn : env.scope.kind = .function) (loc : env.scope.names.lookup y = some .local) (row : (py.line == pos.line) = true)
    (other : (scope.names.any fun (n, k) => n == y && (k == .local || k == .cell)) = false) : swapsWith (.DictComp kx vx gs scope pos) (some (.Name y py)) l env = pure true := by
  have k1 : env.kindOf y = some .local := loc
  have k2 : env.blockKind = .function := by
    unfold Env.blockKind
    rw [fn]
    rfl
  unfold swapsWith
  simp only [k1, k2, other, Expr.pos, row]
  rfl
end
end DcT

/-! sorted(d), the keys of d tuples of ints, of any number. -/
namespace SortR
open PySem PySem.Spec PyProof.Rows L2 PySem.W
theorem enc_alikeT (p q : Addr × List Int) : alike (PyData.tuple (p.2.map .int)) (PyData.tuple (q.2.map .int)) = true := by
  simp only [alike]
  exact alike_ints p.2 q.2
theorem le_tuples : dataLe false (fun b : Addr × List Int => PyData.tuple (b.2.map .int)) = rowLe := by
  have e : dataLe false (fun b : Addr × List Int => PyData.tuple (b.2.map .int)) = dataLe false (fun b : Addr × List Int => PyData.list (b.2.map .int)) := by
    funext p q
    simp only [dataLe_eq, dataLt_tuple, dataLt_list]
  rw [e]
  exact dataLe_rows (fun b : Addr × List Int => b.2)
/-- the keys' tuples, in the dict's sequence -/
theorem key_rows {H : Hp} : ∀ {kvs : List (List L2.Key × V)} {ks : List (List L2.Key × Addr × Value)} {bs : List (List Int)},
    Paired (fun (p : List L2.Key × V) (q : List L2.Key × Addr × Value) => p.1 = q.1 ∧ H q.2.1 = some (.tup (p.1.map kV)) ∧ RelV p.2 q.2.2) kvs ks → kvs.map (·.1) = bs.map (fun ns => ns.map Sum.inl) →
    ∃ as : List (Addr × List Int), as.map (·.1) = ks.map (·.2.1) ∧ as.map (·.2) = bs ∧ ∀ b ∈ as, H b.1 = some (.tup (b.2.map V.int))
  | _, _, [], .nil, _ => ⟨[], rfl, rfl, fun _ m => nomatch m⟩
  | _, _, n :: bs, .cons (a := p) (b := q) h t, e => by
    rw [List.map_cons, List.map_cons] at e
    obtain ⟨e1, e2⟩ := List.cons.inj e
    obtain ⟨as, f1, f2, f3⟩ := key_rows t e2
    refine ⟨(q.2.1, n) :: as, by rw [List.map_cons, List.map_cons, f1], by rw [List.map_cons, f2], fun b m => ?_⟩
    rcases List.mem_cons.mp m with z | z
    · rw [z]
      have g := h.2.1
      rw [e1, List.map_map] at g
      exact g
    · exact f3 b z
  | _, _, [], .cons _ _, e => by cases e
  | _, _, _ :: _, .nil, e => by cases e
section
variable {X : Cx}
theorem call_sortedDT (hu : X.A.units + 64 < cLine) (calm : X.calm = true) : CallR X (.builtin "sorted") (fun xs H Q => ∃ (d : Addr) (kvs : List (List L2.Key × V)) (bs : List (List Int)), xs = [V.ref d] ∧ H d = some (.dT kvs) ∧ kvs.map (·.1) = bs.map (fun ns => ns.map Sum.inl) ∧ (∀ k ∈ bs, k ≠ []) ∧
    ∀ as : List (Addr × List Int), as.map (·.2) = bs → (∀ b ∈ as, H b.1 = some (.tup (b.2.map V.int))) → ∀ p, H p = none → Q (.ref p) (upd H p (.lst ((as.mergeSort rowLe).map fun b => V.ref b.1)))) := by
  intro pins s σ H xs us Q I r h
  obtain ⟨d, kvs, bs, rfl, hd, hk, hne, q⟩ := h
  obtain ⟨u, rfl, ru⟩ := vals1 r
  obtain rfl : u = Value.ref d := ru
  obtain ⟨z, hs, ks, pr, o, es, ep, ho, hx, hdt, he, hn⟩ := (show ObjOk X.prog X.w H s.heap d (.dT kvs) from I.hok d _ hd)
  obtain ⟨as, a1, a2, a3⟩ := key_rows pr hk
  have l0 : es.size = ks.length := size_of_entries he
  have l1 : kvs.length = ks.length := Paired.length pr
  have l2 : as.length = ks.length := by rw [← List.length_map (f := (·.1)), a1, List.length_map]
  have fits : ks.length ≤ sizeLine := l1 ▸ z
  refine Calls.call_function_entry PyProof.Rows.kind_sorted PyProof.Rows.plain_sorted PyProof.Rows.entry_sorted (PyProof.Rows.args_sorted1 _) ?_
  unfold Builtin.«sorted»
  refine wpAny_bind (m := checkCount "sorted" 1 1 _) (wpAny_pure (wpAny_bind (kdu_collect (A := X.A.in1) (kdl_raw hs hx hdt) (I.ok.hd calm) ho (l0 ▸ fits) fun h1 tk acc keep it => ?_)))
  have ea : acc.toList = as.map fun b => Value.ref b.1 := by
    have e1 : acc.toList = ks.map fun x => Value.ref x.2.1 := by
      have len : acc.toList.length = ks.length := by rw [Array.length_toList, it.1, l0]
      refine List.ext_getElem (by rw [List.length_map, len]) fun j j1 j2 => ?_
      obtain ⟨en, hen, hv⟩ := it.2 j acc.toList[j] (by rw [← Array.getElem?_toList, List.getElem?_eq_getElem j1])
      have at_j := entry_at he j
      rw [hen, List.getElem?_eq_getElem (len ▸ j1)] at at_j
      have e2 : en = entryOfKey (tupleKind (mixKind X.prog X.w)) (ks[j]'(len ▸ j1)) := Option.some.inj at_j
      rw [hv, e2, List.getElem_map]
      rfl
    rw [e1]
    have e3 := congrArg (List.map Value.ref) a1
    rw [List.map_map, List.map_map] at e3
    exact e3.symm
  have len : acc.toList.length = as.length := by rw [ea, List.length_map]
  have I1 : Inv X pins σ H { s with heap := h1, toks := tk } := I.kept keep
  refine wpAny_bind (wpAny_newList ?_ (by rw [len, l2]; exact fits))
  have at_p : (h1.push (seqObj "list" acc.toList.toArray 0)).get? h1.objs.size = some (seqObj "list" acc.toList.toArray 0) := Heap.get?_push_size _ rfl
  have old : ∀ b u, h1.get? b = some u → b ≠ h1.objs.size ∧ (h1.push (seqObj "list" acc.toList.toArray 0)).get? b = some u := fun b u e => ⟨Nat.ne_of_lt (Heap.lt_size e), Heap.get?_push_of_some _ e⟩
  have each : EachIs (fun v (b : Addr × List Int) => v = Value.ref b.1 ∧ True) acc.toList as := by
    have vr : Vals (as.map fun b => V.ref b.1) acc.toList := by
      rw [ea]
      clear ea a1 a2 a3 l2 len q it
      induction as with
      | nil => exact .nil
      | cons b as ih => exact .cons rfl ih
    exact vals_each (h := s.heap) (K := X.K) (H := H) (P := fun _ => True) vr fun _ _ => trivial
  obtain ⟨hS, ehS⟩ : ∃ z, z = sortingHeap (h1.push (seqObj "list" acc.toList.toArray 0)) h1.objs.size acc.toList := ⟨_, rfl⟩
  have reads : EachIs (fun v (b : Addr × List Int) => ∃ rs, Reads hS v (PyData.tuple (b.2.map .int)) rs) acc.toList as := by
    have each2 : EachIs (fun v (b : Addr × List Int) => v = Value.ref b.1 ∧ H b.1 = some (.tup (b.2.map V.int))) acc.toList as := by
      have vr : Vals (as.map fun b => V.ref b.1) acc.toList := each_back each
      exact vals_each (h := s.heap) (K := X.K) (H := H) vr a3
    refine each_mono each2 fun v b ⟨ev, hb⟩ => ?_
    rw [ev]
    obtain ⟨rs, rr⟩ := Dp.reads I1 (PyData.tuple (b.2.map .int)) (.ref b.1) (.ref b.1) (.tup (SqT.of hb) (rows_dp b.2)) rfl
    refine ⟨rs, PyProof.Rows.Reads.keeps (fun c u e => ?_) rr⟩
    rw [ehS]
    obtain ⟨n1, n2⟩ := old c u e
    exact sortingHeap_old n1 n2
  have alikeAll_ : AllAlike (as.map fun b => PyData.tuple (b.2.map .int)) := AllAlike.of enc_alikeT
  have sortable : Sortable (as.map fun b => PyData.tuple (b.2.map .int)) := .inl fun dd hm => by
    obtain ⟨b, hb, rfl⟩ := List.mem_map.mp hm
    have mem : b.2 ∈ bs := a2 ▸ List.mem_map.mpr ⟨b, hb, rfl⟩
    cases e : b.2 with
    | nil => exact absurd e (hne _ mem)
    | cons x l => exact ⟨_, _, rfl⟩
  have shallow : ∀ dd ∈ as.map (fun b => PyData.tuple (b.2.map .int)), dd.depth = 1 := fun dd hm => by
    obtain ⟨b, _, rfl⟩ := List.mem_map.mp hm
    simp only [PyData.depth, depth_ints]
  show wpAny _ _ _ _ _ { s with heap := h1.push (seqObj "list" acc.toList.toArray 0), toks := tk }
  have sorts : ∀ Ar : Around, Ar.units ≤ X.A.units + 8 → SortsAt X.prog X.w Ar { s with heap := hS, toks := tk } (dataKind hS (as.map fun b => PyData.tuple (b.2.map .int))) acc.toList := fun Ar hA =>
    SortsAt.data (s := { s with heap := hS, toks := tk }) (each_map (R := fun v dd => ∃ rs, Reads hS v dd rs) (fun b : Addr × List Int => PyData.tuple (b.2.map .int)) reads) alikeAll_ sortable fun dd hm => by rw [shallow dd hm]; omega
  rw [ehS] at sorts reads
  have each3 := sortVals_data (R := fun v (b : Addr × List Int) => v = Value.ref b.1 ∧ True) (enc := fun b : Addr × List Int => PyData.tuple (b.2.map .int)) false each reads alikeAll_
  rw [le_tuples] at each3
  have back := each_back each3
  have short : ((as.mergeSort rowLe).map fun b => V.ref b.1).length ≤ sizeLine := by
    rw [List.length_map, List.length_mergeSort, l2]
    exact fits
  refine wpAny_bind (wpAny_holding (wpAny_call_entry PyProof.Rows.slot_list_sort ⟨_, at_p, rfl⟩ PyProof.Rows.entry_list_sort
    (list_sort_vals (s := { s with heap := h1.push (seqObj "list" acc.toList.toArray 0), toks := tk }) at_p (sorts _ (by show X.A.units + 1 + 1 ≤ X.A.units + 8; omega)) (by rw [len, l2]; exact fits) ⟨_, rfl, ?_⟩) (PyProof.Rows.args_list_sort _)))
  obtain ⟨n2, at2⟩ := PyProof.Rows.sortedHeap_at (vs := acc.toList) (out := (sortVals (dataKind (sortingHeap (h1.push (seqObj "list" acc.toList.toArray 0)) h1.objs.size acc.toList) (as.map fun b => PyData.tuple (b.2.map .int))) false acc.toList acc.toList).toArray) at_p
  refine wpAny_pure ⟨_, rfl, .ref h1.objs.size, upd H h1.objs.size (.lst ((as.mergeSort rowLe).map fun b => V.ref b.1)), I1.laid (t' := tk) (fun b u e => ?_) (Nat.le_refl _) ⟨short, _, n2, back, at2⟩, rfl, q as a2 a3 _ (I1.hok.fresh (Nat.le_refl _))⟩
  obtain ⟨n1, g⟩ := old b u e
  rw [PyProof.Rows.sortedHeap_old n1 (Heap.lt_size g)]
  exact g
end
end SortR

/-! Comprehensions with a test, and dict comprehensions, by the value of each turn. -/
namespace LcM
open PySem PySem.Spec PyProof.Rows L2
/-- what is kept -/
def kept (p : Nat → Bool) (F : Nat → V) (n : Nat) : List V := ((List.range n).filter p).map F
theorem kept_yes {p : Nat → Bool} {F : Nat → V} {n : Nat} (h : p n = true) : kept p F (n + 1) = kept p F n ++ [F n] := by
  unfold kept
  rw [List.range_succ, List.filter_append, List.map_append, List.filter_cons_of_pos h]
  rfl
theorem kept_no {p : Nat → Bool} {F : Nat → V} {n : Nat} (h : p n = false) : kept p F (n + 1) = kept p F n := by
  unfold kept
  rw [List.range_succ, List.filter_append, List.map_append, List.filter_cons_of_neg (by rw [h]; exact Bool.false_ne_true)]
  exact List.append_nil _
theorem kept_le (p : Nat → Bool) (F : Nat → V) (n : Nat) : (kept p F n).length ≤ n := by
  unfold kept
  rw [List.length_map]
  exact Nat.le_trans (List.length_filter_le _ _) (Nat.le_of_eq List.length_range)
section
variable {K : PySem.W.Frag} {a : Addr} {xs : List V} {g : TG} {tt : TT} {te tk tv : TE} {vs : List Nat} {σ : L2.St} {H0 : Hp} {D : Addr} {Qd : Hp → Prop}
theorem lc_listT (p : Nat → Bool) (F : Nat → V) (hD : H0 D = none) (hx : SqL K H0 a xs) (small : xs.length ≤ 1000000)
    (turn : ∀ (i : Nat) (x : V) (H : Hp) (Ry : V → Hp → Prop) (Rn : Hp → Prop), xs[i]? = some x → Grows H0 H → (p i = true → ∀ H4, Grows H H4 → Ry (F i) H4) → (p i = false → ∀ H4, Grows H H4 → Rn H4) →
      g x (wipe σ vs) H fun σ2 H2 => wipe σ2 vs = wipe σ vs ∧ tt σ2 H2 fun t H3 => if t = true then te σ2 H3 Ry else Rn H3)
    (done : ∀ H, Grows H0 H → H D = some (.lst (kept p F xs.length)) → Qd H) :
    ∃ W : Nat → Nat → Hp → Prop, (∃ m, W 0 m (upd H0 D (.lst []))) ∧ ∀ i m H, W i m H →
      ((Itl K a).stop i H ∧ Qd H) ∨ ((Itl K a).go i H ∧ ∃ Nx : Hp → Prop, (∀ H', Nx H' → ∃ m', m' < m ∧ W (i + 1) m' H') ∧ ∀ x H', (Itl K a).yld i H x H' → g x (wipe σ vs) H' fun σ2 H2 => wipe σ2 vs = wipe σ vs ∧ tt σ2 H2 fun b H3 =>
        if b = true then te σ2 H3 fun y H4 => ∃ acc, H4 D = some (.lst acc) ∧ acc.length < sizeLine ∧ Nx (upd H4 D (.lst (acc ++ [y]))) else Nx H3) := by
  refine lc_list (fun i H => Grows H0 H ∧ H D = some (.lst (kept p F i))) ⟨Grows.new hD, upd_same⟩ (fun i H _ m => m.1.seq hx) (fun i x H ex m => ?_) fun H m => done H m.1 m.2
  have il := Nat.lt_of_lt_of_le (List.getElem?_eq_some_iff.mp ex).1 small
  refine turn i x H _ _ ex m.1 (fun hp H4 s => ⟨_, s _ _ m.2, ?_, fun b o e => ?_, ?_⟩) fun hp H4 s => ⟨m.1.trans s, ?_⟩
  · exact Nat.lt_of_le_of_lt (kept_le p F i) (Nat.lt_trans il (by decide))
  · rw [upd_ne (ne_of_none e hD)]
    exact s _ _ (m.1 _ _ e)
  · rw [upd_same, kept_yes hp]
  · rw [kept_no hp]
    exact s _ _ m.2
/-- a dict's entries, laid one after another -/
def laid {κ : Type} [DecidableEq κ] (p : Nat → Bool) (G : Nat → κ) (F : Nat → V) : Nat → List (κ × V)
  | 0 => []
  | n + 1 => if p n = true then putK (laid p G F n) (G n) (F n) else laid p G F n
theorem laid_le {κ : Type} [DecidableEq κ] (p : Nat → Bool) (G : Nat → κ) (F : Nat → V) : ∀ n, (laid p G F n).length ≤ n
  | 0 => Nat.le_refl _
  | n + 1 => by
    have ih := laid_le p G F n
    unfold laid
    by_cases h : p n = true
    · rw [if_pos h]
      exact Nat.le_trans (length_putK _ _ _) (Nat.succ_le_succ ih)
    · rw [if_neg h]
      exact Nat.le_succ_of_le ih
/-- over enumerate, keys ints or texts, no test -/
theorem dc_enumM (G : Nat → L2.Key) (F : Nat → V) (hD : H0 D = none) (hx : SqL K H0 a xs) (small : xs.length ≤ 1000000)
    (turn : ∀ (i : Nat) (x : V) (T : Addr) (H : Hp) (R : V → Hp → V → Hp → Prop), xs[i]? = some x → Grows H0 H → H T = none → (∀ H4 H5, Grows (upd H T (.tup [.int (i : Nat), x])) H4 → Grows H4 H5 → R (kV (G i)) H4 (F i) H5) →
      g (.ref T) (wipe σ vs) (upd H T (.tup [.int (i : Nat), x])) fun σ2 H2 => wipe σ2 vs = wipe σ vs ∧ tk σ2 H2 fun y H4 => tv σ2 H4 fun z H5 => R y H4 z H5)
    (done : ∀ H, Grows H0 H → H D = some (.dK (laid (fun _ => true) G F xs.length)) → Qd H) :
    ∃ W : Nat → Nat → Hp → Prop, (∃ m, W 0 m (upd H0 D (.dK []))) ∧ ∀ i m H, W i m H →
      ((Ite K a).stop i H ∧ Qd H) ∨ ((Ite K a).go i H ∧ ∃ Nx : Hp → Prop, (∀ H', Nx H' → ∃ m', m' < m ∧ W (i + 1) m' H') ∧ ∀ x H', (Ite K a).yld i H x H' → g x (wipe σ vs) H' fun σ2 H2 => wipe σ2 vs = wipe σ vs ∧ tYes σ2 H2 fun b H3 =>
        if b = true then tk σ2 H3 fun y H4 => tv σ2 H4 fun z H5 => ∃ kvs k, y = kV k ∧ H5 D = some (.dK kvs) ∧ kvs.length < sizeLine ∧ Nx (upd H5 D (.dK (putK kvs k z))) else Nx H3) := by
  let inv : Nat → Hp → Prop := fun i H => Grows H0 H ∧ H D = some (.dK (laid (fun _ => true) G F i))
  refine ⟨fun i m H => m = xs.length - i ∧ i ≤ xs.length ∧ inv i H, ⟨_, rfl, Nat.zero_le _, Grows.new hD, upd_same⟩, ?_⟩
  rintro i m H ⟨rfl, hi, pv⟩
  rcases Nat.lt_or_ge i xs.length with lt | ge
  · have ex : xs[i]? = some xs[i] := List.getElem?_eq_getElem lt
    refine .inr ⟨⟨xs, _, pv.1.seq hx, ex⟩, inv (i + 1), fun H' p' => ⟨xs.length - (i + 1), by omega, rfl, lt, p'⟩, fun v H' y => ?_⟩
    obtain ⟨T, x, rfl, hT, rfl, f1⟩ := y
    have e0 : (fun (σ2 : L2.St) (H2 : Hp) => wipe σ2 vs = wipe σ vs ∧ tYes σ2 H2 fun b H3 => if b = true then tk σ2 H3 fun y H4 => tv σ2 H4 fun z H5 => ∃ kvs k, y = kV k ∧ H5 D = some (.dK kvs) ∧ kvs.length < sizeLine ∧ inv (i + 1) (upd H5 D (.dK (putK kvs k z))) else inv (i + 1) H3) =
        fun σ2 H2 => wipe σ2 vs = wipe σ vs ∧ tk σ2 H2 fun y H4 => tv σ2 H4 fun z H5 => ∃ kvs k, y = kV k ∧ H5 D = some (.dK kvs) ∧ kvs.length < sizeLine ∧ inv (i + 1) (upd H5 D (.dK (putK kvs k z))) := by
      funext σ2 H2
      unfold tYes
      dsimp only
      rw [if_pos rfl]
    rw [e0]
    refine turn i x T H (fun y _ z H5 => ∃ kvs k, y = kV k ∧ H5 D = some (.dK kvs) ∧ kvs.length < sizeLine ∧ inv (i + 1) (upd H5 D (.dK (putK kvs k z)))) (f1 xs (pv.1.seq hx)) pv.1 hT fun H4 H5 s4 s5 => ⟨_, G i, rfl, s5 _ _ (s4 _ _ (Grows.new hT _ _ pv.2)), ?_, fun b o e => ?_, ?_⟩
    · exact Nat.lt_of_le_of_lt (laid_le _ G F i) (Nat.lt_of_lt_of_le lt (Nat.le_trans small (by decide)))
    · rw [upd_ne (ne_of_none e hD)]
      exact s5 _ _ (s4 _ _ (Grows.new hT _ _ (pv.1 _ _ e)))
    · rw [upd_same]
      rfl
  · have e : i = xs.length := by omega
    subst e
    exact .inl ⟨⟨xs, pv.1.seq hx, Nat.le_refl _⟩, done H pv.1 pv.2⟩
/-- over a list, the keys tuples, with a test -/
theorem dc_listTT (p : Nat → Bool) (G : Nat → List L2.Key) (F : Nat → V) (hD : H0 D = none) (hx : SqL K H0 a xs) (small : xs.length ≤ 1000000)
    (turn : ∀ (i : Nat) (x : V) (H : Hp) (R : V → V → Hp → Prop) (Rn : Hp → Prop), xs[i]? = some x → Grows H0 H → (p i = true → ∀ b H5, Grows H H5 → H5 b = some (.tup ((G i).map kV)) → R (.ref b) (F i) H5) → (p i = false → ∀ H4, Grows H H4 → Rn H4) →
      g x (wipe σ vs) H fun σ2 H2 => wipe σ2 vs = wipe σ vs ∧ tt σ2 H2 fun t H3 => if t = true then tk σ2 H3 fun y H4 => tv σ2 H4 fun z H5 => R y z H5 else Rn H3)
    (done : ∀ H, Grows H0 H → H D = some (.dT (laid p G F xs.length)) → Qd H) :
    ∃ W : Nat → Nat → Hp → Prop, (∃ m, W 0 m (upd H0 D (.dT []))) ∧ ∀ i m H, W i m H →
      ((Itl K a).stop i H ∧ Qd H) ∨ ((Itl K a).go i H ∧ ∃ Nx : Hp → Prop, (∀ H', Nx H' → ∃ m', m' < m ∧ W (i + 1) m' H') ∧ ∀ x H', (Itl K a).yld i H x H' → g x (wipe σ vs) H' fun σ2 H2 => wipe σ2 vs = wipe σ vs ∧ tt σ2 H2 fun t H3 =>
        if t = true then tk σ2 H3 fun y H4 => tv σ2 H4 fun z H5 => ∃ b kvs k, y = .ref b ∧ H5 b = some (.tup (k.map kV)) ∧ H5 D = some (.dT kvs) ∧ kvs.length < sizeLine ∧ Nx (upd H5 D (.dT (putK kvs k z))) else Nx H3) := by
  let inv : Nat → Hp → Prop := fun i H => Grows H0 H ∧ H D = some (.dT (laid p G F i))
  refine ⟨fun i m H => m = xs.length - i ∧ i ≤ xs.length ∧ inv i H, ⟨_, rfl, Nat.zero_le _, Grows.new hD, upd_same⟩, ?_⟩
  rintro i m H ⟨rfl, hi, pv⟩
  rcases Nat.lt_or_ge i xs.length with lt | ge
  · have ex : xs[i]? = some xs[i] := List.getElem?_eq_getElem lt
    refine .inr ⟨⟨xs, _, pv.1.seq hx, ex⟩, inv (i + 1), fun H' p' => ⟨xs.length - (i + 1), by omega, rfl, lt, p'⟩, fun v H' y => ?_⟩
    obtain ⟨rfl, y⟩ := y
    refine turn i v _ (fun y z H5 => ∃ b kvs k, y = .ref b ∧ H5 b = some (.tup (k.map kV)) ∧ H5 D = some (.dT kvs) ∧ kvs.length < sizeLine ∧ inv (i + 1) (upd H5 D (.dT (putK kvs k z)))) (inv (i + 1)) (y xs (pv.1.seq hx)) pv.1 (fun hp b H5 s5 hb => ⟨b, _, G i, rfl, hb, s5 _ _ pv.2, ?_, fun c o e => ?_, ?_⟩) fun hp H4 s4 => ⟨pv.1.trans s4, ?_⟩
    · exact Nat.lt_of_le_of_lt (laid_le _ G F i) (Nat.lt_of_lt_of_le lt (Nat.le_trans small (by decide)))
    · rw [upd_ne (ne_of_none e hD)]
      exact s5 _ _ (pv.1 _ _ e)
    · rw [upd_same]
      show _ = some (HO.dT (if p i = true then _ else _))
      rw [if_pos hp]
    · rw [s4 _ _ pv.2]
      show _ = some (HO.dT (if p i = true then _ else _))
      rw [if_neg (by rw [hp]; exact Bool.false_ne_true)]
  · have e : i = xs.length := by omega
    subst e
    exact .inl ⟨⟨xs, pv.1.seq hx, Nat.le_refl _⟩, done H pv.1 pv.2⟩
end
end LcM

/-! A comprehension that makes new lists of ints. -/
namespace LcM
open PySem PySem.Spec PyProof.Rows L2
/-- new lists of ints -/
structure Nw (H0 H : Hp) (cs : List (Addr × List Int)) : Prop where
  lists : ∀ c ∈ cs, H c.1 = some (.lst (c.2.map V.int))
  new : ∀ c ∈ cs, H0 c.1 = none
  nodup : (cs.map (·.1)).Nodup
theorem Nw.keep {H0 H H' : Hp} {cs : List (Addr × List Int)} (n : Nw H0 H cs) (s : Grows H H') : Nw H0 H' cs := ⟨fun c m => s _ _ (n.lists c m), n.new, n.nodup⟩
section
variable {K : PySem.W.Frag} {a : Addr} {xs : List V} {g : TG} {te : TE} {vs : List Nat} {σ : L2.St} {H0 : Hp} {D : Addr} {Qd : Hp → Prop}
theorem lc_listR (R : Nat → List Int) (hD : H0 D = none) (hx : SqL K H0 a xs) (small : xs.length ≤ 1000000)
    (turn : ∀ (i : Nat) (x : V) (H : Hp) (Rk : V → Hp → Prop), xs[i]? = some x → Grows H0 H → (∀ q H4, Grows H H4 → H q = none → H4 q = some (.lst ((R i).map V.int)) → Rk (.ref q) H4) → g x (wipe σ vs) H fun σ2 H2 => wipe σ2 vs = wipe σ vs ∧ te σ2 H2 Rk)
    (done : ∀ H cs, Grows H0 H → cs.map (·.2) = (List.range xs.length).map R → Nw H0 H cs → (∀ c ∈ cs, c.1 ≠ D) → H D = some (.lst (cs.map fun c => V.ref c.1)) → Qd H) :
    ∃ W : Nat → Nat → Hp → Prop, (∃ m, W 0 m (upd H0 D (.lst []))) ∧ ∀ i m H, W i m H →
      ((Itl K a).stop i H ∧ Qd H) ∨ ((Itl K a).go i H ∧ ∃ Nx : Hp → Prop, (∀ H', Nx H' → ∃ m', m' < m ∧ W (i + 1) m' H') ∧ ∀ x H', (Itl K a).yld i H x H' → g x (wipe σ vs) H' fun σ2 H2 => wipe σ2 vs = wipe σ vs ∧ tYes σ2 H2 fun b H3 =>
        if b = true then te σ2 H3 fun y H4 => ∃ acc, H4 D = some (.lst acc) ∧ acc.length < sizeLine ∧ Nx (upd H4 D (.lst (acc ++ [y]))) else Nx H3) := by
  refine lc_list (fun i H => ∃ cs : List (Addr × List Int), Grows H0 H ∧ cs.map (·.2) = (List.range i).map R ∧ Nw H0 H cs ∧ (∀ c ∈ cs, c.1 ≠ D) ∧ H D = some (.lst (cs.map fun c => V.ref c.1)))
    ⟨[], Grows.new hD, rfl, ⟨(fun _ m => nomatch m), (fun _ m => nomatch m), List.Pairwise.nil⟩, (fun _ m => nomatch m), upd_same⟩ (fun i H _ ⟨_, s, _⟩ => s.seq hx) (fun i x H ex ⟨cs, s, e, n, apart, top⟩ => ?_) fun H ⟨cs, s, e, n, apart, top⟩ => done H cs s e n apart top
  rw [yes_eq (A := fun σ2 => wipe σ2 vs = wipe σ vs)]
  refine turn i x H _ ex s fun q H4 s4 hq at_q => ?_
  have il := Nat.lt_of_lt_of_le (List.getElem?_eq_some_iff.mp ex).1 small
  have len : cs.length = i := by
    have := congrArg List.length e
    rw [List.length_map, List.length_map, List.length_range] at this
    exact this
  have qD : q ≠ D := fun z => by
    rw [z, top] at hq
    cases hq
  have all : Grows H0 (upd H4 D (.lst (cs.map (fun c => V.ref c.1) ++ [.ref q]))) := fun b o eb => by
    rw [upd_ne (ne_of_none eb hD)]
    exact s4 _ _ (s _ _ eb)
  have q0 : H0 q = none := by
    rcases Option.eq_none_or_eq_some (H0 q) with z | ⟨o, z⟩
    · exact z
    · have := s _ _ z
      rw [hq] at this
      cases this
  refine ⟨_, s4 _ _ top, ?_, cs ++ [(q, R i)], all, ?_, ⟨?_, ?_, ?_⟩, ?_, ?_⟩
  · rw [List.length_map, len]
    exact Nat.lt_trans il (by decide)
  · rw [List.map_append, e, List.range_succ, List.map_append]
    rfl
  · intro c m
    rcases List.mem_append.mp m with m | m
    · rw [upd_ne (apart c m)]
      exact s4 _ _ (n.lists c m)
    · rw [List.mem_singleton.mp m, upd_ne qD]
      exact at_q
  · intro c m
    rcases List.mem_append.mp m with m | m
    · exact n.new c m
    · rw [List.mem_singleton.mp m]
      exact q0
  · rw [List.map_append, List.nodup_append]
    refine ⟨n.nodup, List.nodup_cons.mpr ⟨(fun z => nomatch z), List.Pairwise.nil⟩, fun b mb d md => ?_⟩
    obtain ⟨c, mc, rfl⟩ := List.mem_map.mp mb
    have ed : d = q := by simpa using md
    rw [ed]
    intro z
    have := n.lists c mc
    rw [z, hq] at this
    cases this
  · intro c m
    rcases List.mem_append.mp m with m | m
    · exact apart c m
    · rw [List.mem_singleton.mp m]
      exact qD
  · rw [upd_same, List.map_append]
    rfl
end
end LcM

/-! Rules with their readings named by K, for use within comprehensions. -/
namespace LcM
open PySem PySem.Spec PyProof.Rows L2
def rLenS (K : PySem.W.Frag) : List V → Hp → VK → Prop := fun xs H Q => ∃ p ys, xs = [.ref p] ∧ (SqL K H p ys ∨ SqT K H p ys) ∧ Q (.int ys.length) H
def rLst (K : PySem.W.Frag) : List V → Hp → VK → Prop := fun xs H Q => ∃ p ys, xs = [.ref p] ∧ (SqL K H p ys ∨ SqT K H p ys) ∧ ∀ l, H l = none → Q (.ref l) (upd H l (.lst ys))
def rTup (K : PySem.W.Frag) : List V → Hp → VK → Prop := fun xs H Q => ∃ p ys, xs = [.ref p] ∧ SqL K H p ys ∧ ∀ t, H t = none → Q (.ref t) (upd H t (.tup ys))
section
variable {X : Cx}
theorem call_lenK : CallR X (.builtin "len") (rLenS X.K) := fun pins s σ H xs us Q I r ⟨p, ys, e, h, q⟩ => call_len_seq pins s σ H xs us Q I r ⟨p, ys, e, h, q⟩
theorem call_lstK : CallR X (.type "list") (rLst X.K) := fun pins s σ H xs us Q I r ⟨p, ys, e, h, q⟩ => call_list_of pins s σ H xs us Q I r ⟨p, ys, e, h, q⟩
theorem call_tupK : CallR X (.type "tuple") (rTup X.K) := fun pins s σ H xs us Q I r ⟨p, ys, e, h, q⟩ => call_tuple_of pins s σ H xs us Q I r ⟨p, ys, e, .inl ⟨h, q⟩⟩
end
end LcM

/-! What cut gives, on lists of lists of ints. -/
namespace LcM
open PySem PySem.Spec PyProof.Rows L2 SortR
/-- the last place of x among the first n -/
def plcN (ns : List Int) (x : Int) : Nat → Option Nat
  | 0 => none
  | n + 1 => if ns.getD n 0 = x then some n else plcN ns x n
def plc (ns : List Int) (x : Int) : Option Nat := plcN ns x ns.length
theorem valV_laid (ns : List Int) (x : Int) : ∀ n, valV (laid (fun _ => true) (fun i => (Sum.inl (ns.getD i 0) : L2.Key)) (fun i => V.int (i : Nat)) n) (Sum.inl x) = (plcN ns x n).map fun j => V.int (j : Nat)
  | 0 => rfl
  | n + 1 => by
    have ih := valV_laid ns x n
    unfold laid plcN
    rw [if_pos rfl, valV_put]
    by_cases e : ns.getD n 0 = x
    · rw [if_pos e, if_pos (by rw [e])]
      rfl
    · rw [if_neg e, if_neg (fun z => e (Sum.inl.inj z).symm)]
      exact ih
/-- a group's persons who stay, by their places -/
def meet (ns r : List Int) : List Int := ((List.range r.length).filter fun i => (plc ns (r.getD i 0)).isSome).map fun i => (((plc ns (r.getD i 0)).getD 0 : Nat) : Int)
def two (m : List Int) : Bool := decide (2 ≤ (m.length : Int))
/-- unlike rows, in the sequence in which they come first -/
def firsts (p : Nat → Bool) (M : Nat → List Int) : Nat → List (List Int)
  | 0 => []
  | n + 1 => if p n = true then (if M n ∈ firsts p M n then firsts p M n else firsts p M n ++ [M n]) else firsts p M n
theorem put_keys {κ : Type} [DecidableEq κ] (kvs : List (κ × V)) (k : κ) (v : V) : (putK kvs k v).map (·.1) = if k ∈ kvs.map (·.1) then kvs.map (·.1) else kvs.map (·.1) ++ [k] := by
  unfold putK
  by_cases h : (kvs.any fun kv => decide (kv.1 = k)) = true
  · rw [if_pos h]
    obtain ⟨kv, hm, e⟩ := List.any_eq_true.mp h
    rw [if_pos (List.mem_map.mpr ⟨kv, hm, of_decide_eq_true e⟩), List.map_map]
    refine List.map_congr_left fun q _ => ?_
    show (if q.1 = k then (q.1, v) else q).1 = q.1
    split <;> rfl
  · rw [if_neg h, if_neg fun z => ?_, List.map_append]
    · rfl
    · obtain ⟨kv, hm, e⟩ := List.mem_map.mp z
      exact h (List.any_eq_true.mpr ⟨kv, hm, decide_eq_true e⟩)
theorem inl_inj {m n : List Int} (h : (m.map Sum.inl : List L2.Key) = n.map Sum.inl) : m = n := by
  induction m generalizing n with
  | nil =>
    cases n with
    | nil => rfl
    | cons _ _ => cases h
  | cons x m ih =>
    cases n with
    | nil => cases h
    | cons y n =>
      rw [List.map_cons, List.map_cons] at h
      obtain ⟨h1, h2⟩ := List.cons.inj h
      rw [Sum.inl.inj h1, ih h2]
theorem keys_laid (p : Nat → Bool) (M : Nat → List Int) (F : Nat → V) : ∀ n, (laid p (fun i => ((M i).map Sum.inl : List L2.Key)) F n).map (·.1) = (firsts p M n).map fun m => m.map Sum.inl
  | 0 => rfl
  | n + 1 => by
    have ih := keys_laid p M F n
    unfold laid firsts
    by_cases h : p n = true
    · rw [if_pos h, if_pos h, put_keys, ih]
      by_cases m : M n ∈ firsts p M n
      · rw [if_pos m, if_pos (List.mem_map.mpr ⟨_, m, rfl⟩)]
      · rw [if_neg m, if_neg fun z => ?_, List.map_append]
        · rfl
        · obtain ⟨r, hr, e⟩ := List.mem_map.mp z
          rw [inl_inj e] at hr
          exact m hr
    · rw [if_neg h, if_neg h]
      exact ih
theorem firsts_of (p : Nat → Bool) (M : Nat → List Int) : ∀ n, ∀ r ∈ firsts p M n, ∃ i, i < n ∧ p i = true ∧ r = M i
  | 0, _, h => nomatch h
  | n + 1, r, h => by
    have ih := firsts_of p M n r
    unfold firsts at h
    have old : r ∈ firsts p M n → ∃ i, i < n + 1 ∧ p i = true ∧ r = M i := fun z => let ⟨i, a, b, c⟩ := ih z; ⟨i, Nat.lt_succ_of_lt a, b, c⟩
    by_cases hp : p n = true
    · rw [if_pos hp] at h
      split at h
      · exact old h
      · rcases List.mem_append.mp h with z | z
        · exact old z
        · exact ⟨n, Nat.lt_succ_self n, hp, List.mem_singleton.mp z⟩
    · rw [if_neg hp] at h
      exact old h
theorem firsts_le (p : Nat → Bool) (M : Nat → List Int) : ∀ n, (firsts p M n).length ≤ n
  | 0 => Nat.le_refl _
  | n + 1 => by
    have ih := firsts_le p M n
    unfold firsts
    split
    · split
      · omega
      · rw [List.length_append, List.length_singleton]
        omega
    · omega
def cutR (rs : List (List Int)) (ns : List Int) : List (List Int) := (firsts (fun i => two (meet ns (rs.getD i []))) (fun i => meet ns (rs.getD i [])) rs.length).mergeSort fun p q => decide (p ≤ q)
theorem sort_rows (as : List (Addr × List Int)) : (as.mergeSort rowLe).map (·.2) = (as.map (·.2)).mergeSort fun p q => decide (p ≤ q) := List.map_mergeSort fun _ _ _ _ => rfl
end LcM

/-! Lists of ints and lists of such, as data. -/
namespace LcM
open PySem PySem.Spec PyProof.Rows L2 SortR
theorem eqvAll_ints : ∀ ns ms : List Int, PyData.eqvAll (ns.map .int) (ms.map .int) = decide (ns = ms)
  | [], [] => by
    simp only [List.map_nil, PyData.eqvAll]
    exact (decide_eq_true (rfl : ([] : List Int) = [])).symm
  | x :: ns, y :: ms => by
    rw [List.map_cons, List.map_cons, PyData.eqvAll, eqvAll_ints ns ms, PyData.eqv]
    by_cases e : x = y
    · rw [e, beq_self_eq_true, Bool.true_and]
      by_cases e2 : ns = ms
      · rw [decide_eq_true e2, decide_eq_true (by rw [e2])]
      · rw [decide_eq_false e2, decide_eq_false fun z => e2 (List.cons.inj z).2]
    · rw [beq_eq_false_iff_ne.mpr e, Bool.false_and, decide_eq_false fun z => e (List.cons.inj z).1]
  | [], _ :: _ => by
    rw [List.map_nil, List.map_cons, PyData.eqvAll]
    exact (decide_eq_false fun z => nomatch z).symm
  | _ :: _, [] => by
    rw [List.map_nil, List.map_cons, PyData.eqvAll]
    exact (decide_eq_false fun z => nomatch z).symm
theorem eqv_ints (ns ms : List Int) : PyData.eqv (PyData.list (ns.map .int)) (PyData.list (ms.map .int)) = decide (ns = ms) := by
  rw [PyData.eqv]
  exact eqvAll_ints ns ms
theorem eqvAll_rows : ∀ rs qs : List (List Int), PyData.eqvAll (rs.map fun r => .list (r.map .int)) (qs.map fun r => .list (r.map .int)) = decide (rs = qs)
  | [], [] => by
    simp only [List.map_nil, PyData.eqvAll]
    exact (decide_eq_true (rfl : ([] : List (List Int)) = [])).symm
  | x :: ns, y :: ms => by
    rw [List.map_cons, List.map_cons, PyData.eqvAll, eqvAll_rows ns ms, eqv_ints]
    by_cases e : x = y
    · rw [decide_eq_true e, Bool.true_and]
      by_cases e2 : ns = ms
      · rw [decide_eq_true e2, decide_eq_true (by rw [e, e2])]
      · rw [decide_eq_false e2, decide_eq_false fun z => e2 (List.cons.inj z).2]
    · rw [decide_eq_false e, Bool.false_and, decide_eq_false fun z => e (List.cons.inj z).1]
  | [], _ :: _ => by
    rw [List.map_nil, List.map_cons, PyData.eqvAll]
    exact (decide_eq_false fun z => nomatch z).symm
  | _ :: _, [] => by
    rw [List.map_nil, List.map_cons, PyData.eqvAll]
    exact (decide_eq_false fun z => nomatch z).symm
theorem eqv_rows (rs qs : List (List Int)) : PyData.eqv (PyData.list (rs.map fun r => .list (r.map .int))) (PyData.list (qs.map fun r => .list (r.map .int))) = decide (rs = qs) := by
  rw [PyData.eqv]
  exact eqvAll_rows rs qs
theorem lay_ints : ∀ ns : List Int, PyData.canLayAll0 (ns.map .int) = true
  | [] => by simp only [List.map_nil, PyData.canLayAll0]
  | n :: ns => by simp only [List.map_cons, PyData.canLayAll0, PyData.canLay0, lay_ints ns, Bool.and_self]
theorem lay_rows : ∀ rs : List (List Int), PyData.canLayAll0 (rs.map fun r => .list (r.map .int)) = true
  | [] => by simp only [List.map_nil, PyData.canLayAll0]
  | r :: rs => by simp only [List.map_cons, PyData.canLayAll0, PyData.canLay0, lay_ints r, lay_rows rs, Bool.and_self]
theorem depth_rows : ∀ rs : List (List Int), PyData.depthAll (rs.map fun r => .list (r.map .int)) ≤ 1
  | [] => by simp only [List.map_nil, PyData.depthAll]; omega
  | r :: rs => by
    have := depth_rows rs
    simp only [List.map_cons, PyData.depthAll, PyData.depth, PySem.W.depth_ints]
    omega
theorem shaped_ints (ns : List Int) : SeqAt.shaped (PyData.list (ns.map .int)) = true := by
  unfold SeqAt.shaped
  simp only [PyData.canLay0, lay_ints, PyData.depth, PySem.W.depth_ints]
  decide
theorem shaped_rows (rs : List (List Int)) : SeqAt.shaped (PyData.list (rs.map fun r => .list (r.map .int))) = true := by
  have d := depth_rows rs
  have e : (PyData.list (rs.map fun r => .list (r.map .int))).depth ≤ 64 := by
    simp only [PyData.depth]
    omega
  unfold SeqAt.shaped
  rw [decide_eq_true e, Bool.and_true]
  simp only [PyData.canLay0, lay_rows]
/-- lists of lists as data -/
theorem rows_data {K : PySem.W.Frag} {H : Hp} : ∀ {bs : List (Addr × List Int)}, (∀ b ∈ bs, SqL K H b.1 (b.2.map V.int)) → DpAll K H (bs.map fun b => V.ref b.1) ((bs.map (·.2)).map fun r => .list (r.map .int))
  | [], _ => .nil
  | b :: bs, h => .cons (.lst (h b List.mem_cons_self) (rows_dp b.2)) (rows_data fun c m => h c (List.mem_cons_of_mem _ m))
end LcM

/-! sorted(xs), xs ints, THE sorted list. -/
namespace SortR
open PySem PySem.Spec PyProof.Rows L2 PySem.W
def intLe (p q : Int) : Bool := decide (p ≤ q)
theorem ints_each {h : Heap} : ∀ {ns : List Int} {us : List Value}, Vals (ns.map V.int) us → EachIs (fun v (n : Int) => ∃ t, v = Value.int n t) us ns
  | [], _, .nil => .nil
  | _ :: _, _, .cons h1 h2 => .cons h1 (ints_each (h := h) h2)
theorem each_ints : ∀ {us : List Value} {ns : List Int}, EachIs (fun v (n : Int) => ∃ t, v = Value.int n t) us ns → Vals (ns.map V.int) us
  | _, _, .nil => .nil
  | _, _, .cons h t => .cons h (each_ints t)
section
variable {X : Cx}
theorem call_sortedInts (hu : X.A.units + 64 < cLine) : CallR X (.builtin "sorted") (fun xs H Q => ∃ (a : Addr) (ns : List Int), xs = [V.ref a] ∧ SqL X.K H a (ns.map V.int) ∧ ∀ p, H p = none → Q (.ref p) (upd H p (.lst ((ns.mergeSort intLe).map V.int)))) := by
  intro pins s σ H xs us Q I r h
  obtain ⟨a, ns, rfl, hs, q⟩ := h
  obtain ⟨u, rfl, ru⟩ := vals1 r
  obtain rfl : u = Value.ref a := ru
  obtain ⟨its, rv, hl, hz⟩ := I.list hs
  have each := ints_each (h := s.heap) rv
  have len : its.length = ns.length := by rw [← rv.length, List.length_map]
  have reads : EachIs (fun v (n : Int) => ∃ as, Reads s.heap v (PyData.int n) as) its ns := each_mono each fun v n ⟨t, e⟩ => by
    rw [e]
    exact ⟨_, Reads.int n t⟩
  have le : dataLe false (fun n : Int => PyData.int n) = intLe := dataLe_int fun n : Int => n
  refine sorted_data (enc := fun n : Int => PyData.int n) hl.isList each reads (AllAlike.of fun p q => by simp only [alike]) (Sortable.others fun b => ⟨(fun z => nomatch z), fun xs z => nomatch z⟩) (by rw [List.length_map] at hz; exact hz) (fun b _ => by
    have d : (PyData.int b).depth = 0 := by simp only [PyData.depth]
    rw [d]
    omega) fun out ho each3 => ?_
  rw [le] at each3
  have back := each_ints each3
  obtain ⟨n, hn⟩ := sortedAll_at s.heap its out.toArray
  refine ⟨.ref (s.heap.objs.size + 1), upd H (s.heap.objs.size + 1) (.lst ((ns.mergeSort intLe).map V.int)), I.laid (t' := s.toks) (fun b o e => sortedAll_old e) (Nat.le_succ _) ⟨?_, out, n, back, hn⟩, rfl, q _ (I.hok.fresh (Nat.le_succ _))⟩
  rw [List.length_map, List.length_mergeSort]
  rw [List.length_map] at hz
  exact hz
end
end SortR

/-! Comprehensions over a tuple or a list, each turn's value by a relation that lasts. -/
namespace LcM
open PySem PySem.Spec PyProof.Rows L2
/-- so far -/
structure Mx (H0 : Hp) (D : Addr) (Rel : Nat → V → Hp → Prop) (i : Nat) (H : Hp) (ys : List V) : Prop where
  grow : Grows H0 H
  top : H D = some (.lst ys)
  len : ys.length = i
  rel : ∀ j y, ys[j]? = some y → Rel j y H
theorem Mx.more {H0 H H4 : Hp} {D : Addr} {Rel : Nat → V → Hp → Prop} {i : Nat} {ys : List V} {y : V} (last : ∀ j y H H', Grows H H' → Rel j y H → Rel j y H') (free : ∀ j y H zs, Rel j y H → H D = some (.lst zs) → ∀ u, Rel j y (upd H D u)) (hD : H0 D = none) (m : Mx H0 D Rel i H ys) (s : Grows H H4) (r : Rel i y H4) (small : i < 1000000) :
    ∃ acc, H4 D = some (.lst acc) ∧ acc.length < sizeLine ∧ ∃ ys', Mx H0 D Rel (i + 1) (upd H4 D (.lst (acc ++ [y]))) ys' := by
  have at_D := s _ _ m.top
  refine ⟨ys, at_D, ?_, ys ++ [y], fun b o e => ?_, upd_same, ?_, fun j z e => ?_⟩
  · rw [m.len]
    exact Nat.lt_trans small (by decide)
  · rw [upd_ne (ne_of_none e hD)]
    exact s _ _ (m.grow _ _ e)
  · rw [List.length_append, m.len]
    rfl
  · rcases Nat.lt_or_ge j ys.length with l | g
    · rw [List.getElem?_append_left l] at e
      exact free j z H4 _ (last j z H H4 s (m.rel j z e)) at_D _
    · rw [List.getElem?_append_right g] at e
      have zero : j - ys.length = 0 := by
        rcases Nat.eq_zero_or_pos (j - ys.length) with q | q
        · exact q
        · rw [List.getElem?_eq_none (by show 1 ≤ j - ys.length; omega)] at e
          cases e
      rw [zero] at e
      obtain rfl : y = z := Option.some.inj e
      obtain rfl : j = i := by rw [← m.len]; omega
      exact free j y H4 _ r at_D _
section
variable {K : PySem.W.Frag} {a : Addr} {xs : List V} {g : TG} {te : TE} {vs : List Nat} {σ : L2.St} {H0 : Hp} {D : Addr} {Qd : Hp → Prop}
theorem lc_tupX (Rel : Nat → V → Hp → Prop) (last : ∀ j y H H', Grows H H' → Rel j y H → Rel j y H') (free : ∀ j y H zs, Rel j y H → H D = some (.lst zs) → ∀ u, Rel j y (upd H D u)) (hD : H0 D = none) (hx : SqT K H0 a xs) (small : xs.length ≤ 1000000)
    (turn : ∀ (i : Nat) (x : V) (H : Hp) (Rk : V → Hp → Prop), xs[i]? = some x → Grows H0 H → H D ≠ none → (∀ y H4, Grows H H4 → Rel i y H4 → Rk y H4) → g x (wipe σ vs) H fun σ2 H2 => wipe σ2 vs = wipe σ vs ∧ te σ2 H2 Rk)
    (done : ∀ H ys, Mx H0 D Rel xs.length H ys → Qd H) :
    ∃ W : Nat → Nat → Hp → Prop, (∃ m, W 0 m (upd H0 D (.lst []))) ∧ ∀ i m H, W i m H →
      ((Itt K a).stop i H ∧ Qd H) ∨ ((Itt K a).go i H ∧ ∃ Nx : Hp → Prop, (∀ H', Nx H' → ∃ m', m' < m ∧ W (i + 1) m' H') ∧ ∀ x H', (Itt K a).yld i H x H' → g x (wipe σ vs) H' fun σ2 H2 => wipe σ2 vs = wipe σ vs ∧ tYes σ2 H2 fun b H3 =>
        if b = true then te σ2 H3 fun y H4 => ∃ acc, H4 D = some (.lst acc) ∧ acc.length < sizeLine ∧ Nx (upd H4 D (.lst (acc ++ [y]))) else Nx H3) := by
  refine lc_tup (fun i H => ∃ ys, Mx H0 D Rel i H ys) ⟨[], Grows.new hD, upd_same, rfl, fun j y e => by rw [List.getElem?_nil] at e; cases e⟩ (fun i H _ ⟨_, m⟩ => m.grow.tup hx) (fun i x H ex ⟨ys, m⟩ => ?_) fun H ⟨ys, m⟩ => done H ys m
  rw [yes_eq (A := fun σ2 => wipe σ2 vs = wipe σ vs)]
  exact turn i x H _ ex m.grow (by rw [m.top]; exact fun z => nomatch z) fun y H4 s r => m.more last free hD s r (Nat.lt_of_lt_of_le (List.getElem?_eq_some_iff.mp ex).1 small)
theorem lc_listX (Rel : Nat → V → Hp → Prop) (last : ∀ j y H H', Grows H H' → Rel j y H → Rel j y H') (free : ∀ j y H zs, Rel j y H → H D = some (.lst zs) → ∀ u, Rel j y (upd H D u)) (hD : H0 D = none) (hx : SqL K H0 a xs) (small : xs.length ≤ 1000000)
    (turn : ∀ (i : Nat) (x : V) (H : Hp) (Rk : V → Hp → Prop), xs[i]? = some x → Grows H0 H → H D ≠ none → (∀ y H4, Grows H H4 → Rel i y H4 → Rk y H4) → g x (wipe σ vs) H fun σ2 H2 => wipe σ2 vs = wipe σ vs ∧ te σ2 H2 Rk)
    (done : ∀ H ys, Mx H0 D Rel xs.length H ys → Qd H) :
    ∃ W : Nat → Nat → Hp → Prop, (∃ m, W 0 m (upd H0 D (.lst []))) ∧ ∀ i m H, W i m H →
      ((Itl K a).stop i H ∧ Qd H) ∨ ((Itl K a).go i H ∧ ∃ Nx : Hp → Prop, (∀ H', Nx H' → ∃ m', m' < m ∧ W (i + 1) m' H') ∧ ∀ x H', (Itl K a).yld i H x H' → g x (wipe σ vs) H' fun σ2 H2 => wipe σ2 vs = wipe σ vs ∧ tYes σ2 H2 fun b H3 =>
        if b = true then te σ2 H3 fun y H4 => ∃ acc, H4 D = some (.lst acc) ∧ acc.length < sizeLine ∧ Nx (upd H4 D (.lst (acc ++ [y]))) else Nx H3) := by
  refine lc_list (fun i H => ∃ ys, Mx H0 D Rel i H ys) ⟨[], Grows.new hD, upd_same, rfl, fun j y e => by rw [List.getElem?_nil] at e; cases e⟩ (fun i H _ ⟨_, m⟩ => m.grow.seq hx) (fun i x H ex ⟨ys, m⟩ => ?_) fun H ⟨ys, m⟩ => done H ys m
  rw [yes_eq (A := fun σ2 => wipe σ2 vs = wipe σ vs)]
  exact turn i x H _ ex m.grow (by rw [m.top]; exact fun z => nomatch z) fun y H4 s r => m.more last free hD s r (Nat.lt_of_lt_of_le (List.getElem?_eq_some_iff.mp ex).1 small)
/-- a loop over enumerate of a list that stands still -/
theorem for_enumL {tb : TS} {Dn : Ends} (Pv : Nat → L2.St → Hp → Prop) (h0 : Pv 0 σ H0) (hl : ∀ i σ H, Pv i σ H → SqL K H a xs)
    (hs : ∀ (i : Nat) (x : V) (T : Addr) (σ : L2.St) (H : Hp), xs[i]? = some x → Pv i σ H → H T = none → g (.ref T) σ (upd H T (.tup [.int (i : Nat), x])) fun σ2 H2 => tb { Dn with nx := Pv (i + 1), ct := Pv (i + 1), bk := Dn.nx } σ2 H2) (hd : ∀ σ H, Pv xs.length σ H → Dn.nx σ H) :
    ∃ W : Nat → Nat → L2.St → Hp → Prop, (∃ m, W 0 m σ H0) ∧ ∀ i m σ H, W i m σ H →
      ((Ite K a).stop i H ∧ Dn.nx σ H) ∨ ((Ite K a).go i H ∧ ∃ N : L2.St → Hp → Prop, (∀ σ' H', N σ' H' → ∃ m', m' < m ∧ W (i + 1) m' σ' H') ∧ ∀ v H', (Ite K a).yld i H v H' → g v σ H' fun σ2 H2 => tb { Dn with nx := N, ct := N, bk := Dn.nx } σ2 H2) := by
  refine ⟨fun i m σ H => m = xs.length - i ∧ i ≤ xs.length ∧ Pv i σ H, ⟨_, rfl, Nat.zero_le _, h0⟩, ?_⟩
  rintro i m σ H ⟨rfl, hi, pv⟩
  have qx := hl i σ H pv
  rcases Nat.lt_or_ge i xs.length with lt | ge
  · have ex : xs[i]? = some xs[i] := List.getElem?_eq_getElem lt
    refine .inr ⟨⟨xs, _, qx, ex⟩, Pv (i + 1), fun σ' H' p' => ⟨xs.length - (i + 1), by omega, rfl, lt, p'⟩, fun v H' y => ?_⟩
    obtain ⟨T, x', rfl, hT, rfl, f1⟩ := y
    exact hs i x' T σ H (f1 xs qx) pv hT
  · have e : i = xs.length := by omega
    subst e
    exact .inl ⟨⟨xs, qx, Nat.le_refl _⟩, hd σ H pv⟩
end
end LcM

/-! Data whose text is short. -/
namespace LcM
open PySem PySem.Spec PyProof.Rows L2
structure Brief (n : Nat) (d : PyData) : Prop where
  sh : d.showable = true
  dp : d.depth ≤ 10
  lv : PyData.leavesShort 13 d = true
  wt : d.weight ≤ n
def Smalls (ns : List Int) : Prop := ∀ x ∈ ns, x.natAbs < 10 ^ 12
theorem small_bits {n : Int} (h : n.natAbs < 10 ^ 12) : n.natAbs.log2 < 40 := by
  by_cases z : n.natAbs = 0
  · rw [z]
    decide
  · exact (Nat.log2_lt z).mpr (Nat.lt_trans h (by decide))
theorem show_ints : ∀ ns : List Int, Smalls ns → PyData.showableAll (ns.map .int) = true
  | [], _ => by simp only [List.map_nil, PyData.showableAll]
  | n :: ns, h => by
    have b := small_bits (h n List.mem_cons_self)
    simp only [List.map_cons, PyData.showableAll, PyData.showable, show_ints ns fun x m => h x (List.mem_cons_of_mem _ m), Bool.and_true]
    exact decide_eq_true (by omega)
theorem weight_ints : ∀ ns : List Int, Smalls ns → PyData.weightAll (ns.map .int) ≤ ns.length * 42
  | [], _ => by simp only [List.map_nil, PyData.weightAll]; exact Nat.zero_le _
  | n :: ns, h => by
    have b := small_bits (h n List.mem_cons_self)
    have ih := weight_ints ns fun x m => h x (List.mem_cons_of_mem _ m)
    simp only [List.map_cons, PyData.weightAll, PyData.weight, List.length_cons]
    split <;> omega
theorem brief_ints {ns : List Int} (h : Smalls ns) : Brief (ns.length * 42) (PyData.list (ns.map .int)) := by
  refine ⟨?_, ?_, ?_, ?_⟩
  · simp only [PyData.showable, show_ints ns h]
  · simp only [PyData.depth, PySem.W.depth_ints]
    decide
  · refine PyData.leavesShort_of_canLay0 13 _ ?_ ?_
    · simp only [PyData.canLay0, lay_ints]
    · simp only [PyData.intsShort]
      exact PyData.intsShortAll_ints ns h
  · simp only [PyData.weight]
    exact weight_ints ns h
def rowD (rs : List (List Int)) : List PyData := rs.map fun r => .list (r.map .int)
theorem show_rows : ∀ rs : List (List Int), (∀ r ∈ rs, Smalls r) → PyData.showableAll (rowD rs) = true
  | [], _ => by simp only [rowD, List.map_nil, PyData.showableAll]
  | r :: rs, h => by
    have ih := show_rows rs fun q m => h q (List.mem_cons_of_mem _ m)
    unfold rowD at ih ⊢
    simp only [List.map_cons, PyData.showableAll, PyData.showable, show_ints r (h r List.mem_cons_self), ih, Bool.and_self]
theorem short_rows : ∀ rs : List (List Int), (∀ r ∈ rs, Smalls r) → PyData.intsShortAll 13 (rowD rs) = true
  | [], _ => by simp only [rowD, List.map_nil, PyData.intsShortAll]
  | r :: rs, h => by
    have ih := short_rows rs fun q m => h q (List.mem_cons_of_mem _ m)
    unfold rowD at ih ⊢
    simp only [List.map_cons, PyData.intsShortAll, PyData.intsShort, ih, PyData.intsShortAll_ints r (h r List.mem_cons_self), Bool.and_self]
theorem weight_rows {m : Nat} : ∀ rs : List (List Int), (∀ r ∈ rs, Smalls r ∧ r.length ≤ m) → PyData.weightAll (rowD rs) ≤ rs.length * (m * 42 + 1)
  | [], _ => by simp only [rowD, List.map_nil, PyData.weightAll]; exact Nat.zero_le _
  | r :: rs, h => by
    have ih := weight_rows rs fun q m => h q (List.mem_cons_of_mem _ m)
    have l := (h r List.mem_cons_self).2
    have w := weight_ints r (h r List.mem_cons_self).1
    unfold rowD at ih ⊢
    simp only [List.map_cons, PyData.weightAll, PyData.weight, List.length_cons]
    rw [Nat.add_mul]
    omega
theorem brief_rows {rs : List (List Int)} {m : Nat} (h : ∀ r ∈ rs, Smalls r ∧ r.length ≤ m) : Brief (rs.length * (m * 42 + 1)) (PyData.list (rowD rs)) := by
  refine ⟨?_, ?_, ?_, ?_⟩
  · simp only [PyData.showable, show_rows rs fun r m => (h r m).1]
  · have := depth_rows rs
    unfold rowD
    simp only [PyData.depth]
    omega
  · refine PyData.leavesShort_of_canLay0 13 _ ?_ ?_
    · have := lay_rows rs
      unfold rowD
      simp only [PyData.canLay0, this]
    · simp only [PyData.intsShort]
      exact short_rows rs fun r m => (h r m).1
  · simp only [PyData.weight]
    exact weight_rows rs h
theorem brief_two {a b : PyData} {m n : Nat} (x : Brief m a) (y : Brief n b) (l : m + n ≤ 100000) :
    PyData.showableAll [a, b] = true ∧ PyData.depthAll [a, b] ≤ 40 ∧ (listText (PyData.shownAll [a, b])).length ≤ sizeLine := by
  refine ⟨?_, ?_, ?_⟩
  · simp only [PyData.showableAll, x.sh, y.sh, Bool.and_self]
  · have := x.dp
    have := y.dp
    simp only [PyData.depthAll]
    omega
  · have e : (PyData.list [a, b]).shown = listText (PyData.shownAll [a, b]) := by simp only [PyData.shown]
    rw [← e]
    refine PyData.shown_fits (B := 13) (by decide) (by decide) ?_ ?_
    · simp only [PyData.leavesShort, PyData.leavesShortAll, x.lv, y.lv, Bool.and_self]
    · have := x.wt
      have := y.wt
      simp only [PyData.weight, PyData.weightAll]
      omega
end LcM

/-! min(list of lists of ints, key=len). -/
namespace LcM
open PySem PySem.Spec PyProof PyProof.Rows L2 SortR
def lenAt (bs : List (Addr × List Int)) (i : Nat) : Int := ((bs.getD i (0, [])).2.length : Nat)
def firstMin (bs : List (Addr × List Int)) (i : Nat) : Prop := ∀ j, j < bs.length → lenAt bs i ≤ lenAt bs j ∧ (j < i → lenAt bs i < lenAt bs j)
def rMinLen (K : PySem.W.Frag) (Q : VK) : List V → Hp → Prop := fun vs H1 => ∃ (a : Addr) (bs : List (Addr × List Int)), vs = [.ref a] ∧ SqL K H1 a (bs.map fun b => V.ref b.1) ∧ (∀ b ∈ bs, SqL K H1 b.1 (b.2.map V.int)) ∧ bs ≠ [] ∧
  ∀ i, i < bs.length → firstMin bs i → Q (.ref (bs.getD i (0, [])).1) H1
def tMinLen (K : PySem.W.Frag) (te : TE) : TE := fun σ H Q => tCons te tNil σ H (rMinLen K Q)
section
variable {X : Cx} {e : Expr} {te : TE} {p p2 pos kp : Pos}
theorem ns_one {h : Heap} {a : Addr} {m m' : Str → Option Value} (x : h.Ns a m) (y : h.Ns a m') : m = m' := x.eq_nsMap.trans y.eq_nsMap.symm
/-- what only lets the names stand elsewhere changes nothing -/
theorem inv_fr {pins : List (Addr × Obj)} {σ : L2.St} {H : Hp} {s : Shared} {h' : Heap} {tk : Nat} {m : Str → Option Value} (I : Inv X pins σ H s) (n0 : s.heap.Ns X.env.locals m) (n1 : h'.Ns X.env.locals m) (keep : ∀ b o, b ≠ X.env.locals → s.heap.get? b = some o → h'.get? b = some o) :
    Inv X pins σ H { s with heap := h', toks := tk } := by
  refine I.step (ch := []) (fun b hb => nomatch hb) (fun b o nl _ _ q _ => keep b o nl q) (fun b o nl _ _ q _ => ⟨o.slots, keep b o nl q⟩) (fun b o _ _ z => z) (fun b o _ q => ?_) (fun _ _ z => z) (fun _ _ _ z => z) (fun _ ps z => ⟨#[], by rw [Array.append_empty]; exact z⟩) (fun m' z => ns_one n0 z ▸ n1) ?_ I.bare
  · by_cases el : b = X.env.locals
    · obtain ⟨o', _, _, q', _⟩ := n1
      exact ⟨o', el ▸ q'⟩
    · exact ⟨o, keep b o el q⟩
  · intro a o h
    refine (I.hok a o h).stay (fun b u hb q => keep b u (fun z => ?_) q) (fun _ z => z) (fun _ _ z => z)
    have f := I.free
    rw [← z] at f
    rcases hb with hb | hb
    · rw [hb, h] at f
      cases f
    · rw [hb] at f
      cases f
theorem pe_minLen (calm : X.calm = true) (hg : Gl X "min") (hm : X.mg "min" = none) (hl : Gl X "len") (ml : X.mg "len" = none) (he : PE X e te)
    (h1 : starEach [e] X.env = (false, eval e X.env) :: starEach [] X.env := by rfl) (h2 : backTo pos (starEach [e] X.env) = (false, eval e X.env) :: backTo pos (starEach [] X.env) := by rfl) (h3 : ((backTo pos (starEach [e] X.env)).any fun x => x.1) = false := by rfl) : PE X (.Call (.Name "min" p) [e] [⟨some "key", .Name "len" p2, kp⟩] pos) (tMinLen X.K te) := by
  refine ⟨fun pins s σ H Q I rd => ?_⟩
  refine wpAny_Call_Name_kw (ld_blt (u := Value.builtin "min") I hg hm (by decide +kernel) ?_)
  refine Rows.callWith_kw (thn ((pa_cons he pa_nil (hs := h1)).run pos pins s σ H (rMinLen X.K Q) I rd) fun us s1 ⟨vs, H1, I1, rv, q⟩ => ?_) h2 h3
  obtain ⟨a, bs, rfl, hA, hB, hne, k⟩ := q
  obtain ⟨u, rfl, ru⟩ := vals1 rv
  obtain rfl : u = Value.ref a := ru
  refine Rows.evalAll_cons (wpAny_bind (ld_blt (u := Value.builtin "len") I1 hl ml (by decide +kernel) (wpAny_bind (wpAny_standAt (wpAny_pure (Rows.evalAll_nil ?_))))))
  obtain ⟨its, rvs, pl, hz⟩ := I1.list hA
  obtain ⟨m, ns, look⟩ := I1.loc
  obtain ⟨m', fr'⟩ := I1.fr
  have fr : Rows.Fr X.base X.env.locals s1.heap m := ⟨ns, fr'.keep, fr'.above⟩
  have kept : ∀ h, Rows.Fr X.base X.env.locals h m → Rows.News X.base X.env.locals h (allNews X.base s1.heap X.env.locals) → ∀ b o, b ≠ X.env.locals → s1.heap.get? b = some o → h.get? b = some o := fun h f n b o nl q => by
    rcases Option.eq_none_or_eq_some (X.base.get? b) with z | ⟨o', z⟩
    · exact (n (b, o) (mem_allNews nl z q)).1
    · have := fr.keep b o' z
      rw [q] at this
      cases this
      exact f.keep b o z
  have apart : ∀ {b : Addr} {xs : Array Value}, PlainL s1.heap b xs → b ≠ X.env.locals := fun {b xs} hb z => by
    obtain ⟨o, n, g, _, _, d⟩ := hb
    obtain ⟨o', es, ep, g', d', _⟩ := ns
    rw [z, g'] at g
    cases g
    rw [d'] at d
    cases d
  have len : its.length = bs.length := by
    rw [← rvs.length, List.length_map]
  have get : ∀ {i : Nat} {v : Value}, its[i]? = some v → i < bs.length ∧ v = Value.ref (bs.getD i (0, [])).1 := fun {i v} hv => by
    have il : i < bs.length := by
      rw [← len]
      exact (List.getElem?_eq_some_iff.mp hv).1
    refine ⟨il, ?_⟩
    have e1 : (bs.map fun b => V.ref b.1)[i]? = some (V.ref (bs.getD i (0, [])).1) := by
      rw [List.getElem?_map, List.getElem?_eq_getElem il, List.getD_eq_getElem?_getD, List.getElem?_eq_getElem il]
      rfl
    obtain ⟨u, hu, ru⟩ := rvs.get e1
    rw [hv] at hu
    cases hu
    exact ru
  refine Rows.kmb_min (kid := "len") (news := allNews X.base s1.heap X.env.locals) (vs := its) (lenAt bs) (I1.ok.hd calm) fr news_all (fun h f n => (pl.at fun o q => kept h f n a o (apart pl) q).isList) ?_ (fun i v hv h tk own f n => ?_) fun i v h' tk' hv hmin f n => ?_
  · rw [len]
    rcases Nat.eq_zero_or_pos bs.length with z | z
    · exact absurd (List.length_eq_zero_iff.mp z) hne
    · exact z
  · obtain ⟨il, rfl⟩ := get hv
    have n' : Rows.News X.base X.env.locals h (allNews X.base s1.heap X.env.locals) := fun p hp => n p (List.mem_append_left _ hp)
    have mem : bs.getD i (0, []) ∈ bs := by
      rw [List.getD_eq_getElem?_getD, List.getElem?_eq_getElem il]
      exact List.getElem_mem il
    obtain ⟨rs, rvr, plr, hzr⟩ := I1.list (hB _ mem)
    have lenr : rs.length = (bs.getD i (0, [])).2.length := by rw [← rvr.length, List.length_map]
    refine Calls.call_len_list ((plr.at fun o q => kept h f n' _ o (apart plr) q).isList) ?_ ⟨h, _, tk + 1, rfl, ?_, f, n⟩
    · rw [List.size_toArray, lenr]
      rw [List.length_map] at hzr
      have : sizeLine < 2 ^ 63 := by decide
      omega
    · unfold lenAt
      rw [List.size_toArray, lenr]
  · obtain ⟨il, rfl⟩ := get hv
    refine ⟨V.ref (bs.getD i (0, [])).1, H1, inv_fr I1 ns f.ns (kept h' f n), rfl, k i il fun j jl => ?_⟩
    exact hmin j (by rw [len]; exact jl)
end
end LcM

/-! for i, x in enumerate(list, start=k). -/
namespace LcM
open PySem PySem.Spec PyProof PyProof.Rows L2
def ItS (K : PySem.W.Frag) (a : Addr) (k : Int) : It where
  go := fun i H => ∃ xs x, SqL K H a xs ∧ xs[i]? = some x
  yld := fun i H v H' => ∃ T x, v = .ref T ∧ H T = none ∧ H' = upd H T (.tup [.int (k + (i : Nat)), x]) ∧ ∀ xs, SqL K H a xs → xs[i]? = some x
  stop := fun i H => ∃ xs, SqL K H a xs ∧ xs.length = i
theorem turn_enumS {P : Program} {w : World} {K : PySem.W.Frag} {elts : List Expr} {kk : Nat} {tpos : Pos} (a e it : Addr) (k : Int) :
    Turn P w K (.Tuple elts kk tpos) (ItS K a k) [e, it] e (fun i h => (∃ old, IsEnum h e it (k + (i : Nat)) old) ∧ h.IsListIter it a i ∧ e ≠ it) where
  mem := by simp
  obj := fun t h st b hb => by
    obtain ⟨⟨old, ie⟩, ⟨o, ho, _, hd⟩, _⟩ := st
    have q : b = e ∨ b = it := by simpa using hb
    rcases q with q | q
    · rw [q]
      exact ⟨_, ie, fun v z => nomatch z⟩
    · rw [q]
      exact ⟨o, ho, fun v z => by rw [hd] at z; cases z⟩
  keep := fun t h h' st kp => by
    obtain ⟨⟨old, ie⟩, ⟨o, ho, hc, hd⟩, ne⟩ := st
    exact ⟨⟨old, kp e (by simp) _ ie⟩, ⟨o, kp it (by simp) _ ho, hc, hd⟩, ne⟩
  item := by
    intro X hP hw hK hc i pins s σ H E I hf st hg
    subst hP hw hK
    obtain ⟨⟨old, ie⟩, li, ne⟩ := st
    obtain ⟨xs, x, hS, hx⟩ := hg
    obtain ⟨its, rv, pl, hz⟩ := I.list hS
    have hli := li
    obtain ⟨oi, hoi, hci, hdi⟩ := hli
    have ha_e : a ≠ e := fun z => by
      obtain ⟨o, ho, hcl, _⟩ := pl.isList
      rw [z, ie] at ho
      cases ho
      exact absurd (Value.type.inj hcl) (by decide)
    have ha_it : a ≠ it := fun z => by
      obtain ⟨o, ho, hcl, _⟩ := pl.isList
      rw [z, hoi] at ho
      cases ho
      rw [hci] at hcl
      exact absurd (Value.type.inj hcl) (by decide)
    have il : i < its.toArray.size := by
      rw [List.size_toArray, ← rv.length]
      exact (List.getElem?_eq_some_iff.mp hx).1
    obtain ⟨u, hu, ru⟩ := rv.get hx
    have W := WalksT.enumFrom (prog := X.prog) (w := X.w) (A := X.A) k (Draws.list (A := X.A.in1) (by exact I.ok.hd hc) it a ha_it its.toArray) e ne (fun z => by simp at z; exact z.elim ne ha_e.symm) (List.mem_cons_self)
    refine W.item i s _ E il ⟨⟨old, ie⟩, li, pl.isList⟩ fun T vals h' tk pt big isT mid keep => ⟨.ref T, rfl, W.go elts kk tpos i T { s with heap := h', toks := tk } _ E mid fun h2 st2 keep2 => ?_⟩
    obtain ⟨t, y, py, rfl⟩ := pt
    have ey : y = u := by
      have q : its.toArray[i]? = some y := py
      rw [List.getElem?_toArray, hu] at q
      cases q
      rfl
    subst ey
    have nT := W.apart i T h' mid
    obtain ⟨oT, gT, cT, n, dT⟩ := isT
    have gT2 := keep2 T oT nT gT
    have obj : ObjOk X.prog X.w (upd H T (.tup [.int (k + (i : Nat)), x])) h2 T (.tup [.int (k + (i : Nat)), x]) :=
      ⟨by show 2 ≤ sizeLine; decide, [_, y], .cons ⟨t, rfl⟩ (.cons ru .nil), ⟨oT, gT2, cT, n, dT⟩⟩
    have I1 : Inv X pins σ (upd H T (.tup [.int (k + (i : Nat)), x])) { s with heap := h2, toks := tk } :=
      I.turnedNew (t' := tk) (ch := [e, it]) (fun c o hb q => keep2 c o hb (keep c o hb q)) hf big obj
    refine ⟨.ref T, _, I1, rfl, ⟨T, x, rfl, I.hok.fresh big, rfl, fun xs' h' => ?_⟩, ⟨?_, st2.2.1, ne⟩, fun b hb => ?_⟩
    · rw [I.list_inj h' hS]
      exact hx
    · obtain ⟨⟨old', ie'⟩, _⟩ := st2
      exact ⟨old', ie'⟩
    · have low : b < s.heap.objs.size := by
        have q : b = e ∨ b = it := by simpa using hb
        rcases q with q | q
        · rw [q]; exact Heap.lt_size ie
        · rw [q]; exact Heap.lt_size hoi
      rw [upd_ne (Nat.ne_of_lt (Nat.lt_of_lt_of_le low big))]
      exact (hf b hb).1
  done := by
    intro X hP hw hK hc i pins s σ H E I hf st hg
    subst hP hw hK
    obtain ⟨⟨old, ie⟩, li, ne⟩ := st
    obtain ⟨xs, hS, rfl⟩ := hg
    obtain ⟨its, rv, pl, hz⟩ := I.list hS
    have hli := li
    obtain ⟨oi, hoi, hci, hdi⟩ := hli
    have ha_e : a ≠ e := fun z => by
      obtain ⟨o, ho, hcl, _⟩ := pl.isList
      rw [z, ie] at ho
      cases ho
      exact absurd (Value.type.inj hcl) (by decide)
    have ha_it : a ≠ it := fun z => by
      obtain ⟨o, ho, hcl, _⟩ := pl.isList
      rw [z, hoi] at ho
      cases ho
      rw [hci] at hcl
      exact absurd (Value.type.inj hcl) (by decide)
    have sz : its.toArray.size = xs.length := by rw [List.size_toArray, ← rv.length]
    have W := WalksT.enumFrom (prog := X.prog) (w := X.w) (A := X.A) k (Draws.list (A := X.A.in1) (by exact I.ok.hd hc) it a ha_it its.toArray) e ne (fun z => by simp at z; exact z.elim ne ha_e.symm) (List.mem_cons_self)
    refine W.done s _ E (by rw [sz]; exact ⟨⟨old, ie⟩, li, pl.isList⟩) fun h' tk keep => ⟨rfl, ?_⟩
    exact I.turnedL (t' := tk) (ch := [e, it]) keep hf
  self := fun A i s Q E st q => by
    obtain ⟨⟨old, ie⟩, _⟩ := st
    exact wpAny_pyIter_enum ie q
section
variable {X : Cx} {K : PySem.W.Frag} {a : Addr} {xs : List V} {g : TG} {tb : TS} {Dn : Ends} {σ : L2.St} {H0 : Hp}
def iEnumS (K : PySem.W.Frag) (k : Int) (ta : TA) : TI := fun σ H R => ta σ H fun vs H1 => ∃ a xs, vs = [.ref a] ∧ SqL K H1 a xs ∧ R (ItS K a k) H1
theorem pi_enumS {elts : List Expr} {kk : Nat} {tpos p p2 pos kp : Pos} {e : Expr} {ta : TA} {k : Int} {j : Nat} (hg : Gl X "enumerate") (hm : X.mg "enumerate" = none) (h0 : -2 ^ 63 ≤ k) (h1 : k < 2 ^ 63) (ha : PA X [e] ta) (calm : X.calm = true)
    (hs : starEach [e] X.env = (false, eval e X.env) :: starEach [] X.env := by rfl) (hb : backTo pos (starEach [e] X.env) = (false, eval e X.env) :: backTo pos (starEach [] X.env) := by rfl) (hpl : (backTo pos (starEach [e] X.env)).any (·.1) = false := by rfl) :
    PI X (.Tuple elts kk tpos) (.Call (.Name "enumerate" p) [e] [⟨some "start", .Constant (.int k) j p2, kp⟩] pos) (iEnumS X.K k ta) := by
  refine ⟨fun pins s σ H R I h => ?_⟩
  refine wpAny_Call_Name_kw (ld_blt (u := Value.type "enumerate") I hg hm (by decide +kernel) ?_)
  refine PySem.W.callWith_of (P := fun _ => True) (by rw [hpl]; rfl) (fun _ _ => ⟨.machine, .inr (.inl rfl), fun _ _ _ _ _ q => wpAny_pure q⟩) ?_
  refine Rows.evalArgs_kw2 (by rfl) (thn (ha.run pos pins s σ H _ I h) fun us s1 ⟨vs, H1, I1, r1, q1⟩ => ?_) hs
  obtain ⟨a, xs, rfl, hq, q⟩ := q1
  obtain ⟨u1, rfl, e1⟩ := vals1 r1
  obtain rfl : u1 = Value.ref a := e1
  refine thn ((pk_cons (nm := some "start") pe_int pk_nil).run pos pins s1 σ H1 (fun zs G => zs = [V.int k] ∧ G = H1) I1 ⟨rfl, rfl⟩) fun ks s2 ⟨zs, G, I2, r2, ez, eG⟩ => ⟨trivial, ?_⟩
  subst ez eG
  obtain ⟨u2, rfl, ⟨t, rfl⟩⟩ := vals1 r2
  obtain ⟨its, rv, pl, hz⟩ := I2.list hq
  refine enum_begins_start (begins_list a its.toArray) pl.isList h0 h1 fun h' ie git size keep => ?_
  have J : Inv X pins σ G { s2 with heap := h' } := I2.kept (t' := s2.toks) keep
  refine wpAny_pyIter_enum (s := { s2 with heap := h' }) ie ⟨s2.heap.objs.size + 1, [s2.heap.objs.size + 1, s2.heap.objs.size], _, _, G, rfl, J, turn_enumS a (s2.heap.objs.size + 1) s2.heap.objs.size k, ⟨⟨.none, ?_⟩, ⟨_, git, rfl, rfl⟩, Nat.succ_ne_self _⟩, fun b hb => ?_, q⟩
  · show IsEnum h' (s2.heap.objs.size + 1) s2.heap.objs.size (k + ((0 : Nat) : Int)) .none
    rw [Int.natCast_zero, Int.add_zero]
    exact ie
  · have low : s2.heap.objs.size ≤ b := by
      have e : b = s2.heap.objs.size + 1 ∨ b = s2.heap.objs.size := by simpa using hb
      rcases e with e | e
      · rw [e]; exact Nat.le_succ _
      · rw [e]; exact Nat.le_refl _
    have q' := I2.fpOk low (I2.hok.fresh low)
    exact q'
/-- for i, x in enumerate(list, start=k) -/
theorem for_enumS {k : Int} (Pv : Nat → L2.St → Hp → Prop) (h0 : Pv 0 σ H0) (hl : ∀ i σ H, Pv i σ H → SqL K H a xs)
    (hs : ∀ (i : Nat) (x : V) (T : Addr) (σ : L2.St) (H : Hp), xs[i]? = some x → Pv i σ H → H T = none → g (.ref T) σ (upd H T (.tup [.int (k + (i : Nat)), x])) fun σ2 H2 => tb { Dn with nx := Pv (i + 1), ct := Pv (i + 1), bk := Dn.nx } σ2 H2) (hd : ∀ σ H, Pv xs.length σ H → Dn.nx σ H) :
    ∃ W : Nat → Nat → L2.St → Hp → Prop, (∃ m, W 0 m σ H0) ∧ ∀ i m σ H, W i m σ H →
      ((ItS K a k).stop i H ∧ Dn.nx σ H) ∨ ((ItS K a k).go i H ∧ ∃ N : L2.St → Hp → Prop, (∀ σ' H', N σ' H' → ∃ m', m' < m ∧ W (i + 1) m' σ' H') ∧ ∀ v H', (ItS K a k).yld i H v H' → g v σ H' fun σ2 H2 => tb { Dn with nx := N, ct := N, bk := Dn.nx } σ2 H2) := by
  refine ⟨fun i m σ H => m = xs.length - i ∧ i ≤ xs.length ∧ Pv i σ H, ⟨_, rfl, Nat.zero_le _, h0⟩, ?_⟩
  rintro i m σ H ⟨rfl, hi, pv⟩
  have qx := hl i σ H pv
  rcases Nat.lt_or_ge i xs.length with lt | ge
  · have ex : xs[i]? = some xs[i] := List.getElem?_eq_getElem lt
    refine .inr ⟨⟨xs, _, qx, ex⟩, Pv (i + 1), fun σ' H' p' => ⟨xs.length - (i + 1), by omega, rfl, lt, p'⟩, fun v H' y => ?_⟩
    obtain ⟨T, x, rfl, hT, rfl, same⟩ := y
    exact hs i x T σ H (same xs qx) pv hT
  · have e : i = xs.length := by omega
    subst e
    exact .inl ⟨⟨xs, qx, rfl⟩, hd σ H pv⟩
end
end LcM

/-! xs[::-1] of a list. -/
namespace LcM
open PySem PySem.Spec PyProof PyProof.Rows L2
theorem vals_revE : ∀ {xs : List V} {us : List Value}, Vals xs us → Vals xs.reverse us.reverse
  | _, _, .nil => .nil
  | _, _, .cons r t => by
    rw [List.reverse_cons, List.reverse_cons]
    exact (vals_revE t).append (.cons r .nil)
def tRev (K : PySem.W.Frag) (te : TE) : TE := fun σ H Q => te σ H fun x H1 => ∃ (a : Addr) (xs : List V), x = .ref a ∧ SqL K H1 a xs ∧ ∀ D, H1 D = none → Q (.ref D) (upd H1 D (.lst xs.reverse))
section
variable {X : Cx} {te : TE} {x : Str} {p p2 p3 p4 pos : Pos} {j : Nat}
theorem pe_rev (he : PE X (.Name x p) te) : PE X (.Subscript (.Name x p) (.Slice none none (some (.UnaryOp .USub (.Constant (.int 1) j p2) p3)) p4) pos) (tRev X.K te) := by
  refine ⟨fun pins s σ H Q I rd => ?_⟩
  refine Rows.Subscript_ (thn (he.run pins s σ H _ I rd) fun v s1 ⟨y, H1, I1, rv, a, xs, ey, hS, k⟩ => ?_)
  subst ey
  obtain rfl : v = Value.ref a := rv
  refine wpAny_Slice (wpAny_pure (wpAny_pure (thn ((po_some (pe_un un_neg pe_int)).run pins s1 σ H1 (fun o G => o = some (-1) ∧ G = H1) I1 ?_) fun st s2 ⟨o, G, I2, ip, eo, eG⟩ => ?_)))
  · exact ⟨1, rfl, -1, rfl, rfl, rfl⟩
  · subst eo eG
    obtain ⟨its, rvs, pl, hz⟩ := I2.list hS
    have up : ∀ b o, s2.heap.get? b = some o → (s2.heap.push { cls := .type "slice", data := .fields #[.none, .none, st] }).get? b = some o := fun b o q => Heap.get?_push_of_some _ q
    have isl := (pl.keeps up).isList
    have gs : (s2.heap.push { cls := .type "slice", data := .fields #[.none, .none, st] }).get? s2.heap.objs.size = some { cls := .type "slice", data := .fields #[.none, .none, st] } := Heap.get?_push_size _ rfl
    refine Rows.subscriptTail_ops (T := "list") (id := "list.__getitem__") ?_ PySem.F.slot_list_getitem.lookup (wpAny_getItem_list_slice isl ⟨_, gs, rfl, rfl⟩ .none .none ip (by decide) ?_ (by rw [List.size_toArray, ← rvs.length]; exact hz)) rfl fun _ => rfl
    · exact isl.typeIs (s := { s2 with heap := s2.heap.push { cls := .type "slice", data := .fields #[.none, .none, st] } })
    · rw [PySem.W.krv_pick]
      have big : s2.heap.objs.size ≤ (s2.heap.push { cls := .type "slice", data := .fields #[.none, .none, st] }).objs.size := by
        rw [Heap.size_push]
        exact Nat.le_succ _
      refine ⟨.ref _, upd G _ (.lst xs.reverse), I2.laid (t' := s2.toks) (fun b o q => Heap.get?_push_of_some _ (up b o q)) big ⟨?_, its.reverse, 0, ?_, ?_⟩, rfl, k _ (I2.hok.fresh big)⟩
      · rw [List.length_reverse]
        exact hz
      · exact vals_revE rvs
      · exact Heap.get?_push_size _ rfl
end
end LcM

/-! for i, (a, b) in enumerate(zip(xs, ys)): a zip that an enumerate walks. -/
namespace EnZ
open PySem PySem.Spec PyProof PyProof.Rows L2 LcM
/-- a zip, whatever it says of the tuple that it gave out -/
abbrev ZAt (h : Heap) (z TI TO : Addr) (o : Value) (f : Bool) : Prop :=
  h.get? z = some { cls := .type "zip", dict := none, data := .fields #[o, .bool f, .bool false, .ref TI, .ref TO], slots := #[] }
section
variable {prog : Program} {w : World} {A : Around} {E : Value → Shared → Prop} {s : Shared}
def Free (prog : Program) (w : World) (z : Addr) (s : Shared) : Prop := ∀ (A : Around) (Q : Bool → Shared → Prop) (E : Value → Shared → Prop), Q true s → wpAny (model prog w) A (Builtin.SmallTypes.ownedTupleIsFree (.ref z)) Q E s
theorem free_none {z TI TO : Addr} {f : Bool} (az : ZAt s.heap z TI TO .none f) : Free prog w z s := fun A Q E q => by
  unfold Builtin.SmallTypes.ownedTupleIsFree
  exact wpAny_bind (wpAny_field az rfl (x := .none) rfl (wpAny_pure q))
theorem free_dead {z TI TO T : Addr} {f : Bool} (az : ZAt s.heap z TI TO (rawInt T) f) (gone : s.heap.get? T = none) : Free prog w z s := fun A Q E q => by
  unfold Builtin.SmallTypes.ownedTupleIsFree
  refine wpAny_bind (wpAny_field az rfl (x := rawInt T) rfl ?_)
  have look : wpAny (model prog w) A (loadIfAlive T) (fun r s' => r = none ∧ s' = s) E s := fun _ _ _ => ⟨gone, rfl⟩
  show wpAny _ _ (loadIfAlive ((T : Int).toNat) >>= fun r => _) _ _ _
  rw [Int.toNat_natCast]
  refine wpAny_bind (wpAny_mono look (fun r s' h => ?_) fun _ _ x => x)
  obtain ⟨rfl, rfl⟩ := h
  exact wpAny_pure q
/-- the next pair, where the own tuple is free -/
theorem item_free {z TI TO i1 i2 a b : Addr} {m n : Nat} {xs ys : Array Value} {x y p q o : Value} {f : Bool} {R : Value → Shared → Prop} (D : ZipApart z TI TO i1 i2 a b) (free : Free prog w z s) (az : ZAt s.heap z TI TO o f) (aI : IsPair s.heap TI (.ref i1) (.ref i2)) (aO : IsPair s.heap TO p q)
    (l1 : s.heap.IsListIter i1 a m) (l2 : s.heap.IsListIter i2 b n) (ls1 : s.heap.IsList a xs) (ls2 : s.heap.IsList b ys) (ex : xs[m]? = some x) (ey : ys[n]? = some y)
    (then_ : ∀ h', ZAt h' z TI TO (rawInt s.heap.objs.size) false → IsPair h' TO x y → h'.IsListIter i1 a (m + 1) → h'.IsListIter i2 b (n + 1) → IsPair h' s.heap.objs.size x y → h'.objs.size = s.heap.objs.size + 1 →
      (∀ c u, c ≠ z → c ≠ TO → c ≠ i1 → c ≠ i2 → s.heap.get? c = some u → h'.get? c = some u) → R (.ref s.heap.objs.size) { s with heap := h' }) :
    wpAny (model prog w) A (Builtin.«zip.__next__» ⟨[.ref z], []⟩) (fun fin s' => ∃ v, fin = .done (.ret v) ∧ R v s') E s := by
  show wpAny _ _ (field (.ref z) 2 >>= fun t => _) _ _ _
  refine wpAny_bind (wpAny_field az rfl (x := .bool false) rfl ?_)
  show wpAny _ _ (field (.ref z) 3 >>= fun t => _) _ _ _
  refine wpAny_bind (wpAny_field az rfl (x := .ref TI) rfl (wpAny_bind (wpAny_seqItems aI rfl ?_)))
  show wpAny _ _ (Builtin.SmallTypes.ownedTupleIsFree (.ref z) >>= fun t => _) _ _ _
  refine wpAny_bind (free _ _ _ ?_)
  simp only [if_true]
  refine wpAny_bind (wpAny_rule (wpAny_bind (wpAny_field az rfl (x := .ref TO) rfl (wpAny_bind (wpAny_setField_rec az (by simp) fun g1 z1 s1 => ?_)))))
  replace z1 : ZAt g1 z TI TO .ellipsis f := z1
  simp only [List.zipIdx_cons, List.zipIdx_nil, List.forIn_cons, List.forIn_nil]
  refine wpAny_bind (wpAny_bind (wpAny_bind (wpAny_onRaise ?_)))
  show wpAny _ _ (Builtin.SmallTypes.nextOf (.ref i1) >>= fun t => _) _ _ _
  refine wpAny_bind (wpAny_nextOf_list_item (l1.extBut s1.extBut D.i1z) (ls1.extBut s1.extBut D.l1z) ex fun g2 j1 s2 => wpAny_pure ?_)
  have o2 : IsPair g2 TO p q := s2.extBut _ _ D.TOi1 (s1.extBut _ _ D.TOz aO)
  refine wpAny_bind (wpAny_seqItems o2 rfl (wpAny_bind (wpAny_updateSeq_pair o2 fun g3 o3 s3 => ?_)))
  replace o3 : IsPair g3 TO x q := o3
  refine wpAny_bind (wpAny_letGo (wpAny_pure ?_))
  refine wpAny_bind (wpAny_bind (wpAny_onRaise ?_))
  show wpAny _ _ (Builtin.SmallTypes.nextOf (.ref i2) >>= fun t => _) _ _ _
  have l2' := ((l2.extBut s1.extBut D.i2z).extBut s2.extBut D.i12.symm).extBut s3.extBut D.TOi2.symm
  have ls2' := ((ls2.extBut s1.extBut D.l2z).extBut s2.extBut D.l2i1).extBut s3.extBut D.l2TO
  refine wpAny_bind (wpAny_nextOf_list_item l2' ls2' ey fun g4 j2 s4 => wpAny_pure ?_)
  have o4 : IsPair g4 TO x q := s4.extBut _ _ D.TOi2 o3
  refine wpAny_bind (wpAny_seqItems o4 rfl (wpAny_bind (wpAny_updateSeq_pair o4 fun g5 o5 s5 => ?_)))
  replace o5 : IsPair g5 TO x y := o5
  refine wpAny_bind (wpAny_letGo (wpAny_pure (wpAny_pure ?_)))
  refine wpAny_bind (wpAny_seqItems o5 rfl (wpAny_bind (wpAny_newTuple ?_)))
  have size : g5.objs.size = s.heap.objs.size := by rw [s5.1, s4.1, s3.1, s2.1, s1.1]
  have z5 : ZAt g5 z TI TO .ellipsis f := s5.extBut _ _ D.TOz.symm (s4.extBut _ _ D.i2z.symm (s3.extBut _ _ D.TOz.symm (s2.extBut _ _ D.i1z.symm z1)))
  have stays : ∀ c u, c ≠ z → c ≠ TO → c ≠ i1 → c ≠ i2 → s.heap.get? c = some u → g5.get? c = some u := fun c u n1 n2 n3 n4 e =>
    s5.extBut _ _ n2 (s4.extBut _ _ n4 (s3.extBut _ _ n2 (s2.extBut _ _ n3 (s1.extBut _ _ n1 e))))
  have m1 : g5.IsListIter i1 a (m + 1) := ((j1.extBut s3.extBut D.TOi1.symm).extBut s4.extBut D.i12).extBut s5.extBut D.TOi1.symm
  have m2 : g5.IsListIter i2 b (n + 1) := j2.extBut s5.extBut D.TOi2.symm
  have low : z < g5.objs.size := Heap.lt_size z5
  show wpAny _ _ (Builtin.SmallTypes.ownedTupleHandOut (.ref z) (.ref g5.objs.size) >>= fun t => _) _ _ _
  refine wpAny_bind ?_
  unfold Builtin.SmallTypes.ownedTupleHandOut
  have z6 : ZAt (g5.push { cls := .type "tuple", data := .seq #[x, y] }) z TI TO .ellipsis f := Heap.get?_push_of_some _ z5
  refine wpAny_bind (wpAny_setField_rec z6 (by simp) fun g7 z7 s7 => ?_)
  replace z7 : ZAt g7 z TI TO (rawInt g5.objs.size) f := z7
  refine wpAny_setField_rec z7 (by simp) fun g8 z8 s8 => ?_
  replace z8 : ZAt g8 z TI TO (rawInt g5.objs.size) false := z8
  have up : ∀ c u, c ≠ z → g5.get? c = some u → g8.get? c = some u := fun c u n1 e => s8.extBut _ _ n1 (s7.extBut _ _ n1 (Heap.get?_push_of_some _ e))
  have new : IsPair g8 g5.objs.size x y := s8.extBut _ _ (Nat.ne_of_gt low) (s7.extBut _ _ (Nat.ne_of_gt low) (Heap.get?_push_size _ rfl))
  have one : g8.objs.size = g5.objs.size + 1 := by rw [s8.1, s7.1, Heap.size_push]
  rw [size] at z8 new one
  refine wpAny_pure ⟨_, rfl, ?_⟩
  show R (.ref g5.objs.size) _
  rw [size]
  exact then_ g8 z8 (up _ _ D.TOz o5) (m1.at fun u e => up _ u D.i1z e) (m2.at fun u e => up _ u D.i2z e) new one fun c u n1 n2 n3 n4 e => up c u n1 (stays c u n1 n2 n3 n4 e)
/-- no more pairs, where the own tuple is free -/
theorem end_free {z TI TO i1 i2 a b : Addr} {m n : Nat} {xs ys : Array Value} {p q o : Value} {f : Bool} {R : Fin → Shared → Prop} (calm : A.handled = none) (D : ZipApart z TI TO i1 i2 a b) (free : Free prog w z s) (az : ZAt s.heap z TI TO o f) (aI : IsPair s.heap TI (.ref i1) (.ref i2)) (aO : IsPair s.heap TO p q)
    (l1 : s.heap.IsListIter i1 a m) (l2 : s.heap.IsListIter i2 b n) (ls1 : s.heap.IsList a xs) (ls2 : s.heap.IsList b ys) (no : xs[m]? = none ∨ ys[n]? = none)
    (out : ∀ h' e, (∀ c u, c ≠ z → c ≠ TO → c ≠ i1 → c ≠ i2 → s.heap.get? c = some u → h'.get? c = some u) → (∃ u, h'.get? e = some u ∧ u.cls = .type "StopIteration") → E (.ref e) { s with heap := h' }) :
    wpAny (model prog w) A (Builtin.«zip.__next__» ⟨[.ref z], []⟩) R E s := by
  show wpAny _ _ (field (.ref z) 2 >>= fun t => _) _ _ _
  refine wpAny_bind (wpAny_field az rfl (x := .bool false) rfl ?_)
  show wpAny _ _ (field (.ref z) 3 >>= fun t => _) _ _ _
  refine wpAny_bind (wpAny_field az rfl (x := .ref TI) rfl (wpAny_bind (wpAny_seqItems aI rfl ?_)))
  show wpAny _ _ (Builtin.SmallTypes.ownedTupleIsFree (.ref z) >>= fun t => _) _ _ _
  refine wpAny_bind (free _ _ _ ?_)
  simp only [if_true]
  refine wpAny_bind (wpAny_rule (wpAny_bind (wpAny_field az rfl (x := .ref TO) rfl (wpAny_bind (wpAny_setField_rec az (by simp) fun g1 z1 s1 => ?_)))))
  replace z1 : ZAt g1 z TI TO .ellipsis f := z1
  simp only [List.zipIdx_cons, List.zipIdx_nil, List.forIn_cons, List.forIn_nil]
  refine wpAny_bind (wpAny_bind (wpAny_bind (wpAny_onRaise ?_)))
  show wpAny _ _ (Builtin.SmallTypes.nextOf (.ref i1) >>= fun t => _) _ _ _
  rcases Option.eq_none_or_eq_some xs[m]? with hx | ⟨x, hx⟩
  · refine wpAny_bind (wpAny_nextOf_list_end calm (l1.extBut s1.extBut D.i1z) (ls1.extBut s1.extBut D.l1z) hx fun g2 e s2 he => ?_)
    obtain ⟨oe, ge, ce⟩ := he
    have z2 : ZAt g2 z TI TO .ellipsis f := s2 _ _ D.i1z.symm z1
    have ez : e ≠ z := fun t => by
      rw [t, z2] at ge
      cases ge
      simp at ce
    exact wpAny_setField_rec z2 (by simp) fun g3 _ s3 => out g3 e (fun c u n1 _ n3 _ t => s3.extBut _ _ n1 (s2 _ _ n3 (s1.extBut _ _ n1 t))) ⟨oe, s3.extBut _ _ ez ge, ce⟩
  · have hy : ys[n]? = none := no.resolve_left fun t => by
      rw [hx] at t
      cases t
    refine wpAny_bind (wpAny_nextOf_list_item (l1.extBut s1.extBut D.i1z) (ls1.extBut s1.extBut D.l1z) hx fun g2 j1 s2 => wpAny_pure ?_)
    have o2 : IsPair g2 TO p q := s2.extBut _ _ D.TOi1 (s1.extBut _ _ D.TOz aO)
    refine wpAny_bind (wpAny_seqItems o2 rfl (wpAny_bind (wpAny_updateSeq_pair o2 fun g3 o3 s3 => ?_)))
    refine wpAny_bind (wpAny_letGo (wpAny_pure ?_))
    refine wpAny_bind (wpAny_bind (wpAny_onRaise ?_))
    show wpAny _ _ (Builtin.SmallTypes.nextOf (.ref i2) >>= fun t => _) _ _ _
    have l2' := ((l2.extBut s1.extBut D.i2z).extBut s2.extBut D.i12.symm).extBut s3.extBut D.TOi2.symm
    have ls2' := ((ls2.extBut s1.extBut D.l2z).extBut s2.extBut D.l2i1).extBut s3.extBut D.l2TO
    refine wpAny_bind (wpAny_nextOf_list_end calm l2' ls2' hy fun g4 e s4 he => ?_)
    obtain ⟨oe, ge, ce⟩ := he
    have z4 : ZAt g4 z TI TO .ellipsis f := s4 _ _ D.i2z.symm (s3.extBut _ _ D.TOz.symm (s2.extBut _ _ D.i1z.symm z1))
    have ez : e ≠ z := fun t => by
      rw [t, z4] at ge
      cases ge
      simp at ce
    exact wpAny_setField_rec z4 (by simp) fun g5 _ s5 => out g5 e (fun c u n1 n2 n3 n4 t => s5.extBut _ _ n1 (s4 _ _ n4 (s3.extBut _ _ n2 (s2.extBut _ _ n3 (s1.extBut _ _ n1 t))))) ⟨oe, s5.extBut _ _ ez ge, ce⟩
/-- a zip between two pairs -/
def ZSt (h : Heap) (z TI TO i1 i2 a b : Addr) (k : Nat) : Prop :=
  (∃ o f, ZAt h z TI TO o f ∧ (o = .none ∨ ∃ T : Addr, o = rawInt T)) ∧ IsPair h TI (.ref i1) (.ref i2) ∧ (∃ x y, IsPair h TO x y) ∧ h.IsListIter i1 a k ∧ h.IsListIter i2 b k
theorem next_item {z TI TO i1 i2 a b : Addr} {k : Nat} {xs ys : Array Value} {x y : Value} {R : Value → Shared → Prop} (D : ZipApart z TI TO i1 i2 a b) (st : ZSt s.heap z TI TO i1 i2 a b k) (ls1 : s.heap.IsList a xs) (ls2 : s.heap.IsList b ys) (ex : xs[k]? = some x) (ey : ys[k]? = some y)
    (then_ : ∀ h', ZSt h' z TI TO i1 i2 a b (k + 1) → IsPair h' s.heap.objs.size x y → h'.objs.size = s.heap.objs.size + 1 →
      (∀ c u, c ≠ z → c ≠ TO → c ≠ i1 → c ≠ i2 → s.heap.get? c = some u → h'.get? c = some u) → R (.ref s.heap.objs.size) { s with heap := h' }) :
    wpAny (model prog w) A (Builtin.SmallTypes.nextOf (.ref z)) R E s := by
  obtain ⟨⟨o, f, az, ho⟩, aI, ⟨p, q, aO⟩, l1, l2⟩ := st
  have ty : s.TypeIs (.ref z) "zip" := ⟨_, az, rfl⟩
  unfold Builtin.SmallTypes.nextOf
  refine wpAny_bind (wpAny_callSpecial?_slot (name := Str.ofString "__next__") ty F.slot_zip_next (wpAny_call_entry F.slot_zip_next ty F.entry_zip_next ?_ (F.args_zip_next_1 _)))
  have byFree : Free prog w z s → wpAny (model prog w) A.in1 (Builtin.«zip.__next__» ⟨[.ref z], []⟩) (fun fin s' => ∃ v, fin = .done (.ret v) ∧ wpAny (model prog w) A (pure v) R E s') E s := fun fr =>
    item_free D fr az aI aO l1 l2 ls1 ls2 ex ey fun h' b1 b2 b3 b4 b5 b6 b7 => wpAny_pure (then_ h' ⟨⟨_, _, b1, .inr ⟨_, rfl⟩⟩, b7 _ _ D.TIz D.TITO D.TIi1 D.TIi2 aI, ⟨_, _, b2⟩, b3, b4⟩ b5 b6 b7)
  rcases ho with rfl | ⟨T, rfl⟩
  · exact byFree (free_none az)
  · rcases Option.eq_none_or_eq_some (s.heap.get? T) with gone | ⟨oT, here⟩
    · exact byFree (free_dead az gone)
    · exact zip_next_item_held D az here aI l1 l2 ls1 ls2 ex ey fun h' b1 b3 b4 b5 b6 b7 => wpAny_pure (then_ h' ⟨⟨_, _, b1, .inr ⟨_, rfl⟩⟩, b7 _ _ D.TIz D.TIi1 D.TIi2 aI, ⟨p, q, b7 _ _ D.TOz D.TOi1 D.TOi2 aO⟩, b3, b4⟩ b5 b6 fun c u n1 _ n3 n4 e => b7 c u n1 n3 n4 e)
theorem next_end {z TI TO i1 i2 a b : Addr} {k : Nat} {xs ys : Array Value} {R : Value → Shared → Prop} (calm : A.handled = none) (D : ZipApart z TI TO i1 i2 a b) (st : ZSt s.heap z TI TO i1 i2 a b k) (ls1 : s.heap.IsList a xs) (ls2 : s.heap.IsList b ys) (no : xs[k]? = none ∨ ys[k]? = none)
    (out : ∀ h' e, (∀ c u, c ≠ z → c ≠ TO → c ≠ i1 → c ≠ i2 → s.heap.get? c = some u → h'.get? c = some u) → (∃ u, h'.get? e = some u ∧ u.cls = .type "StopIteration") → E (.ref e) { s with heap := h' }) :
    wpAny (model prog w) A (Builtin.SmallTypes.nextOf (.ref z)) R E s := by
  obtain ⟨⟨o, f, az, ho⟩, aI, ⟨p, q, aO⟩, l1, l2⟩ := st
  have ty : s.TypeIs (.ref z) "zip" := ⟨_, az, rfl⟩
  unfold Builtin.SmallTypes.nextOf
  refine wpAny_bind (wpAny_callSpecial?_slot (name := Str.ofString "__next__") ty F.slot_zip_next (wpAny_call_entry F.slot_zip_next ty F.entry_zip_next ?_ (F.args_zip_next_1 _)))
  rcases ho with rfl | ⟨T, rfl⟩
  · exact end_free calm D (free_none az) az aI aO l1 l2 ls1 ls2 no out
  · rcases Option.eq_none_or_eq_some (s.heap.get? T) with gone | ⟨oT, here⟩
    · exact end_free calm D (free_dead az gone) az aI aO l1 l2 ls1 ls2 no out
    · exact zip_next_end_held calm D az here aI l1 l2 ls1 ls2 no fun h' e kp he => out h' e (fun c u n1 _ n3 n4 t => kp c u n1 n3 n4 t) he
end
end EnZ

namespace EnZ
open PySem PySem.Spec PyProof PyProof.Rows L2 LcM
section
variable {prog : Program} {w : World} {A : Around} {E : Value → Shared → Prop} {s : Shared}
/-- enumerate's next, over an iterator that makes an object at each turn -/
theorem enum_next {e it : Addr} {c : Int} {old : Value} {P : Value → Heap → Prop} {R : Value → Shared → Prop} (ae : IsEnum s.heap e it c old)
    (inner : ∀ F : Value → Shared → Prop, (∀ x h', P x h' → s.heap.objs.size ≤ h'.objs.size → h'.get? e = s.heap.get? e → F x { s with heap := h' }) → wpAny (model prog w) A (Builtin.SmallTypes.nextOf (.ref it)) F E s)
    (then_ : ∀ x g1 h', P x g1 → s.heap.objs.size ≤ g1.objs.size → IsEnumOut h' e it (c + 1) x g1.objs.size → h'.get? g1.objs.size = some { cls := .type "tuple", data := .seq #[.int c s.toks, x] } →
      h'.objs.size = g1.objs.size + 1 → (∀ b u, b ≠ e → g1.get? b = some u → h'.get? b = some u) → R (.ref g1.objs.size) { s with heap := h', toks := s.toks + 1 }) :
    wpAny (model prog w) A (Builtin.«enumerate.__next__» ⟨[.ref e], []⟩) (fun fin s' => ∃ v, fin = .done (.ret v) ∧ R v s') E s := by
  obtain ⟨hp, g, d, t0, os⟩ := s
  show wpAny _ _ (field (.ref e) 2 >>= fun t => _) _ _ _
  refine wpAny_bind (wpAny_field ae rfl (x := .ref it) rfl (wpAny_bind (inner _ fun x g1 px le same => ?_)))
  have e1 : IsEnum g1 e it c old := same.trans ae
  replace le : hp.objs.size ≤ g1.objs.size := le
  have low : e < g1.objs.size := Heap.lt_size e1
  show wpAny _ _ (field (.ref e) 3 >>= fun t => _) _ _ ⟨g1, g, d, t0, os⟩
  refine wpAny_bind (wpAny_field e1 rfl (x := rawInt c) rfl ?_)
  show wpAny _ _ (field (.ref e) 4 >>= fun t => _) _ _ ⟨g1, g, d, t0, os⟩
  refine wpAny_bind (wpAny_field e1 rfl (x := .none) rfl ?_)
  show wpAny _ _ (mkInt c >>= fun t => _) _ _ ⟨g1, g, d, t0, os⟩
  refine wpAny_bind (wpAny_mkInt ?_)
  show wpAny _ _ (setField (.ref e) 3 (rawInt (c + 1)) >>= fun t => _) _ _ ⟨g1, g, d, t0 + 1, os⟩
  refine wpAny_bind (wpAny_setField_rec e1 (by simp) fun g2 e2 s2 => ?_)
  replace s2 : Heap.SameBut e g1 g2 := s2
  replace e2 : IsEnum g2 e it (c + 1) old := e2
  show wpAny _ _ (setField (.ref e) 4 .none >>= fun t => _) _ _ ⟨g2, g, d, t0 + 1, os⟩
  refine wpAny_bind (wpAny_setField_rec e2 (by simp) fun g3 e3 s3 => ?_)
  replace s3 : Heap.SameBut e g2 g3 := s3
  replace e3 : IsEnum g3 e it (c + 1) old := e3
  show wpAny _ _ (newTuple [.int c t0, x] >>= fun t => _) _ _ ⟨g3, g, d, t0 + 1, os⟩
  refine wpAny_bind (wpAny_newTuple ?_)
  have size : g3.objs.size = g1.objs.size := by rw [s3.1, s2.1]
  obtain ⟨g4, h4⟩ : ∃ g4, g4 = g3.push { cls := .type "tuple", data := .seq #[.int c t0, x] } := ⟨_, rfl⟩
  have e4 : IsEnum g4 e it (c + 1) old := by
    rw [h4]
    exact Heap.get?_push_of_some _ e3
  have t4 : g4.get? g1.objs.size = some { cls := .type "tuple", data := .seq #[.int c t0, x] } := by
    rw [h4, ← size]
    exact Heap.get?_push_size _ rfl
  have n4 : g4.objs.size = g1.objs.size + 1 := by rw [h4, Heap.size_push, size]
  have k4 : ∀ b u, b ≠ e → g1.get? b = some u → g4.get? b = some u := fun b u n q => by
    rw [h4]
    exact Heap.get?_push_of_some _ (s3.extBut b u n (s2.extBut b u n q))
  show wpAny _ _ (Builtin.SmallTypes.ownedTupleIsFree (.ref e) >>= fun t => _) _ _ ⟨g3.push { cls := .type "tuple", data := .seq #[.int c t0, x] }, g, d, t0 + 1, os⟩
  rw [size, ← h4]
  refine wpAny_bind ?_
  unfold Builtin.SmallTypes.ownedTupleIsFree
  refine wpAny_bind (wpAny_field e4 rfl (x := .none) rfl (wpAny_pure ?_))
  simp only [if_true]
  refine wpAny_bind (wpAny_rule (wpAny_bind (wpAny_field e4 rfl (x := old) rfl (wpAny_bind (wpAny_setField_rec e4 (by simp) fun g5 e5 s5 => ?_)))))
  replace s5 : Heap.SameBut e g4 g5 := s5
  replace e5 : IsEnum g5 e it (c + 1) x := e5
  show wpAny _ _ (Builtin.SmallTypes.ownedTupleHandOut (.ref e) (.ref g1.objs.size) >>= fun t => _) _ _ ⟨g5, g, d, t0 + 1, os⟩
  refine wpAny_bind ?_
  unfold Builtin.SmallTypes.ownedTupleHandOut
  refine wpAny_bind (wpAny_setField_rec e5 (by simp) fun g6 e6 s6 => ?_)
  replace s6 : Heap.SameBut e g5 g6 := s6
  replace e6 : IsEnumOut g6 e it (c + 1) x g1.objs.size := e6
  refine wpAny_setField_rec e6 (by simp) fun g7 e7 s7 => ?_
  replace s7 : Heap.SameBut e g6 g7 := s7
  replace e7 : IsEnumOut g7 e it (c + 1) x g1.objs.size := e7
  have up : ∀ b u, b ≠ e → g4.get? b = some u → g7.get? b = some u := fun b u n q => s7.extBut b u n (s6.extBut b u n (s5.extBut b u n q))
  refine wpAny_bind (wpAny_letGo (wpAny_pure ⟨_, rfl, then_ x g1 g7 px le e7 (up _ _ (Nat.ne_of_gt low) t4) ?_ fun b u n q => up b u n (k4 b u n q)⟩))
  rw [s7.1, s6.1, s5.1, n4]
theorem py_next {e it : Addr} {c : Int} {old : Value} {P : Value → Heap → Prop} {R : Option Value → Shared → Prop} (ae : IsEnum s.heap e it c old)
    (inner : ∀ F : Value → Shared → Prop, ∀ E' : Value → Shared → Prop, (∀ x h', P x h' → s.heap.objs.size ≤ h'.objs.size → h'.get? e = s.heap.get? e → F x { s with heap := h' }) → wpAny (model prog w) A.in1 (Builtin.SmallTypes.nextOf (.ref it)) F E' s)
    (then_ : ∀ x g1 h', P x g1 → s.heap.objs.size ≤ g1.objs.size → IsEnumOut h' e it (c + 1) x g1.objs.size → h'.get? g1.objs.size = some { cls := .type "tuple", data := .seq #[.int c s.toks, x] } →
      h'.objs.size = g1.objs.size + 1 → (∀ b u, b ≠ e → g1.get? b = some u → h'.get? b = some u) → R (some (.ref g1.objs.size)) { s with heap := h', toks := s.toks + 1 }) :
    wpAny (model prog w) A (pyNext (.ref e)) R E s := by
  have ty : s.TypeIs (.ref e) "enumerate" := ⟨_, ae, rfl⟩
  unfold pyNext
  refine wpAny_bind (wpAny_attempt (wpAny_callSpecial?_slot (name := Str.ofString "__next__") ty F.slot_enumerate_next (wpAny_call_entry F.slot_enumerate_next ty F.entry_enumerate_next ?_ (F.args_enumerate_next_1 _))))
  exact enum_next ae (fun F => inner F _) fun x g1 h' a1 a2 a3 a4 a5 a6 => wpAny_pure (then_ x g1 h' a1 a2 a3 a4 a5 a6)
theorem py_end {e it : Addr} {c : Int} {old : Value} {P : Heap → Prop} {R : Option Value → Shared → Prop} (ae : IsEnum s.heap e it c old)
    (inner : ∀ F E' : Value → Shared → Prop, (∀ h' x, P h' → (∃ u, h'.get? x = some u ∧ u.cls = .type "StopIteration") → E' (.ref x) { s with heap := h' }) → wpAny (model prog w) A.in1 (Builtin.SmallTypes.nextOf (.ref it)) F E' s)
    (then_ : ∀ h', P h' → R none { s with heap := h' }) : wpAny (model prog w) A (pyNext (.ref e)) R E s := by
  have ty : s.TypeIs (.ref e) "enumerate" := ⟨_, ae, rfl⟩
  unfold pyNext
  refine wpAny_bind (wpAny_attempt (wpAny_callSpecial?_slot (name := Str.ofString "__next__") ty F.slot_enumerate_next (wpAny_call_entry F.slot_enumerate_next ty F.entry_enumerate_next ?_ (F.args_enumerate_next_1 _))))
  show wpAny _ _ (field (.ref e) 2 >>= fun t => _) _ _ _
  refine wpAny_bind (wpAny_field ae rfl (x := .ref it) rfl (wpAny_bind (inner _ _ fun h' x ph hx => ?_)))
  obtain ⟨u, gu, cu⟩ := hx
  exact wpAny_bind (wpAny_isInstance (T := "StopIteration") (b := true) ⟨u, gu, cu⟩ isSubtype_stop (wpAny_pure (then_ _ ph)))
/-- enumerate(z), z a zip: one new cell -/
theorem new_over {z TI TO : Addr} {o : Value} (az : IsZip s.heap z TI TO o) {R : Value → Shared → Prop}
    (then_ : ∀ h', IsEnum h' s.heap.objs.size z 0 .none → h'.objs.size = s.heap.objs.size + 1 → (∀ b u, s.heap.get? b = some u → h'.get? b = some u) → R (.ref s.heap.objs.size) { s with heap := h' }) :
    wpAny (model prog w) A (call (.type "enumerate") [.ref z]) R E s := by
  have M : Meets (Builtin.«enumerate.__new__» ⟨[.type "enumerate", .ref z], []⟩) (fun _ R s => IsZip s.heap z TI TO o ∧ R (.ok (.ret (.ref s.heap.objs.size))) { s with heap := s.heap.push { cls := .type "enumerate", data := .fields #[.none, .bool false, .ref z, rawInt 0, .none, .none] } }) :=
    .of_wp fun prog w A R s h => by
      obtain ⟨hp, g, d, tk, os⟩ := s
      obtain ⟨h1, h⟩ := h
      have hsub := sub_enumerate
      have q1 : ∀ {A' : Around} {E : Value → Shared → Prop} {Q : Value → Shared → Prop}, Q (.ref z) ⟨hp, g, d, tk, os⟩ → wpAny (model prog w) A' (pyIter (.ref z)) Q E ⟨hp, g, d, tk, os⟩ := fun q => wpAny_pyIter_zip (s := ⟨hp, g, d, tk, os⟩) h1 q
      wp_walk using q1
      refine wpAny_stack_any fun top => wpAny_pure ?_
      split <;> first
        | (wp_walk using q1; exact ⟨_, rfl, h⟩)
        | (rename_i own _ _ _ _ _
           cases (own == Value.type "enumerate") <;> (wp_walk using q1; exact ⟨_, rfl, h⟩))
  refine callType_new F.called_enumerate (by decide) (F.typeCall_enumerate_1 _) (F.newCall_enumerate_1 _) (fun obj => F.args_object_init_2 obj _) F.entry_enumerate_new M ⟨az, ?_⟩
  have he : IsEnum (s.heap.push { cls := .type "enumerate", data := .fields #[.none, .bool false, .ref z, rawInt 0, .none, .none] }) s.heap.objs.size z 0 .none := Heap.get?_push_size _ rfl
  refine ⟨⟨_, he, rfl⟩, then_ _ he (Heap.size_push ..) fun b u q => Heap.get?_push_of_some _ q⟩
end
end EnZ

namespace EnZ
open PySem PySem.Spec PyProof PyProof.Rows L2 LcM
/-- enumerate(zip(a, b)): each pair new, and the place and the pair in a new tuple -/
def ItZ (K : PySem.W.Frag) (a b : Addr) : It where
  go := fun i H => ∃ (xs ys : List V) (x y : V), SqL K H a xs ∧ SqL K H b ys ∧ xs[i]? = some x ∧ ys[i]? = some y
  yld := fun i H v H' => ∃ S T x y, v = .ref T ∧ H S = none ∧ H T = none ∧ S ≠ T ∧ H' = upd (upd H S (.tup [x, y])) T (.tup [.int (i : Nat), .ref S]) ∧ (∀ xs, SqL K H a xs → xs[i]? = some x) ∧ ∀ ys, SqL K H b ys → ys[i]? = some y
  stop := fun i H => ∃ xs ys : List V, SqL K H a xs ∧ SqL K H b ys ∧ (xs.length ≤ i ∨ ys.length ≤ i)
theorem turn_enZ {P : Program} {w : World} {K : PySem.W.Frag} {elts : List Expr} {kk : Nat} {tpos : Pos} {a b e z TI TO i1 i2 : Addr} (D : ZipApart z TI TO i1 i2 a b) (ez : e ≠ z) (eI : e ≠ TI) (eO : e ≠ TO) (e1 : e ≠ i1) (e2 : e ≠ i2) :
    Turn P w K (.Tuple elts kk tpos) (ItZ K a b) [e, z, TI, TO, i1, i2] e (fun i h => (∃ old, IsEnum h e z (i : Nat) old) ∧ ZSt h z TI TO i1 i2 a b i) where
  mem := by simp
  obj := fun i h st c hc => by
    obtain ⟨⟨old, ie⟩, ⟨o, f, az, _⟩, aI, ⟨x, y, aO⟩, ⟨o1, g1, _, d1⟩, ⟨o2, g2, _, d2⟩⟩ := st
    have q : c = e ∨ c = z ∨ c = TI ∨ c = TO ∨ c = i1 ∨ c = i2 := by simpa using hc
    rcases q with q | q | q | q | q | q <;> rw [q]
    · exact ⟨_, ie, fun v t => nomatch t⟩
    · exact ⟨_, az, fun v t => nomatch t⟩
    · exact ⟨_, aI, fun v t => nomatch t⟩
    · exact ⟨_, aO, fun v t => nomatch t⟩
    · exact ⟨o1, g1, fun v t => by rw [d1] at t; cases t⟩
    · exact ⟨o2, g2, fun v t => by rw [d2] at t; cases t⟩
  keep := fun i h h' st k => by
    obtain ⟨⟨old, ie⟩, ⟨o, f, az, ho⟩, aI, ⟨x, y, aO⟩, l1, l2⟩ := st
    exact ⟨⟨old, k e (by simp) _ ie⟩, ⟨o, f, k z (by simp) _ az, ho⟩, k TI (by simp) _ aI, ⟨x, y, k TO (by simp) _ aO⟩, l1.at fun u q => k i1 (by simp) u q, l2.at fun u q => k i2 (by simp) u q⟩
  item := by
    intro X hP hw hK hc i pins s σ H E I hf st hg
    subst hP hw hK
    obtain ⟨⟨old, ie⟩, zs⟩ := st
    obtain ⟨xs, ys, x, y, qx, qy, hx, hy⟩ := hg
    obtain ⟨its, rv, p1, _⟩ := I.list qx
    obtain ⟨its2, rv2, p2, _⟩ := I.list qy
    obtain ⟨u, hu, ru⟩ := rv.get hx
    obtain ⟨u2, hu2, ru2⟩ := rv2.get hy
    have lowE : e < s.heap.objs.size := Heap.lt_size ie
    have lowAll : ∀ c ∈ [e, z, TI, TO, i1, i2], c < s.heap.objs.size := fun c hc => by
      obtain ⟨⟨o, f, az, _⟩, aI, ⟨x0, y0, aO⟩, ⟨o1, g1, _, d1⟩, ⟨o2, g2, _, d2⟩⟩ := zs
      have q : c = e ∨ c = z ∨ c = TI ∨ c = TO ∨ c = i1 ∨ c = i2 := by simpa using hc
      rcases q with q | q | q | q | q | q <;> rw [q]
      · exact lowE
      · exact Heap.lt_size az
      · exact Heap.lt_size aI
      · exact Heap.lt_size aO
      · exact Heap.lt_size g1
      · exact Heap.lt_size g2
    refine py_next (P := fun v g1 => v = .ref s.heap.objs.size ∧ ZSt g1 z TI TO i1 i2 a b (i + 1) ∧ IsPair g1 s.heap.objs.size u u2 ∧ g1.objs.size = s.heap.objs.size + 1 ∧ ∀ c o, c ≠ z → c ≠ TO → c ≠ i1 → c ≠ i2 → s.heap.get? c = some o → g1.get? c = some o) ie
      (fun F E' k => next_item D zs p1.isList p2.isList (by simpa using hu) (by simpa using hu2) fun h' b1 b2 b3 b4 => k _ h' ⟨rfl, b1, b2, b3, b4⟩ (by omega) ((b4 e _ ez eO e1 e2 ie).trans ie.symm)) fun v g1 h' pv le eo tup sz up => ?_
    obtain ⟨rfl, zs1, pair, size, kp⟩ := pv
    refine ⟨_, rfl, wpAny_letOwnedTupleGo_enum (s := { s with heap := h', toks := s.toks + 1 }) eo fun h2 ie2 sb => ?_⟩
    replace sb : Heap.SameBut e h' h2 := sb
    have nS : s.heap.objs.size ≠ g1.objs.size := by omega
    have hS : H s.heap.objs.size = none := I.hok.fresh (Nat.le_refl _)
    have hT : H g1.objs.size = none := I.hok.fresh le
    have up2 : ∀ c o, c ≠ e → g1.get? c = some o → h2.get? c = some o := fun c o n q => (sb.2 c n).trans (up c o n q)
    have I1 : Inv X pins σ (upd H s.heap.objs.size (.tup [x, y])) { s with heap := g1 } :=
      I.turnedNew (t' := s.toks) (ch := [z, TO, i1, i2]) (fun c o hb q => kp c o (fun t => hb (by simp [t])) (fun t => hb (by simp [t])) (fun t => hb (by simp [t])) (fun t => hb (by simp [t])) q) (fun c hc => hf c (by
        have q : c = z ∨ c = TO ∨ c = i1 ∨ c = i2 := by simpa using hc
        rcases q with q | q | q | q <;> rw [q] <;> simp)) (Nat.le_refl _) ⟨by show 2 ≤ sizeLine; decide, [u, u2], .cons ru (.cons ru2 .nil), ⟨_, pair, rfl, _, rfl⟩⟩
    have tup2 : h2.get? g1.objs.size = some { cls := .type "tuple", data := .seq #[.int (i : Nat) s.toks, .ref s.heap.objs.size] } := (sb.2 _ (Nat.ne_of_gt (Nat.lt_of_lt_of_le lowE le))).trans tup
    have fe := hf e (by simp)
    have I2 : Inv X pins σ (upd (upd H s.heap.objs.size (.tup [x, y])) g1.objs.size (.tup [.int (i : Nat), .ref s.heap.objs.size])) { s with heap := h2, toks := s.toks + 1 } :=
      I1.turnedNew (t' := s.toks + 1) (ch := [e]) (fun c o hb q => up2 c o (fun t => hb (by simp [t])) q) (fun c hc => by
        have q : c = e := by simpa using hc
        rw [q]
        exact ⟨by rw [upd_ne (Nat.ne_of_lt lowE)]; exact fe.1, fe.2⟩) (Nat.le_refl _) ⟨by show 2 ≤ sizeLine; decide, [.int (i : Nat) s.toks, .ref s.heap.objs.size], .cons ⟨_, rfl⟩ (.cons rfl .nil), ⟨_, tup2, rfl, _, rfl⟩⟩
    refine ⟨.ref g1.objs.size, _, I2, rfl, ⟨_, _, x, y, rfl, hS, hT, nS, rfl, fun l hl => by rw [I.list_inj hl qx]; exact hx, fun l hl => by rw [I.list_inj hl qy]; exact hy⟩, ⟨⟨_, ie2⟩, ?_⟩, fun c hc => ?_⟩
    · obtain ⟨⟨o, f, az, ho⟩, aI, ⟨x0, y0, aO⟩, l1, l2⟩ := zs1
      exact ⟨⟨o, f, up2 _ _ ez.symm az, ho⟩, up2 _ _ eI.symm aI, ⟨x0, y0, up2 _ _ eO.symm aO⟩, l1.at fun u q => up2 _ u e1.symm q, l2.at fun u q => up2 _ u e2.symm q⟩
    · have low := lowAll c hc
      rw [upd_ne (Nat.ne_of_lt (Nat.lt_of_lt_of_le low le)), upd_ne (Nat.ne_of_lt low)]
      exact (hf c hc).1
  done := by
    intro X hP hw hK hc i pins s σ H E I hf st hg
    subst hP hw hK
    obtain ⟨⟨old, ie⟩, zs⟩ := st
    obtain ⟨xs, ys, qx, qy, no⟩ := hg
    obtain ⟨its, rv, p1, _⟩ := I.list qx
    obtain ⟨its2, rv2, p2, _⟩ := I.list qy
    have l1 := rv.length
    have l2 := rv2.length
    have he : its.toArray[i]? = none ∨ its2.toArray[i]? = none := no.imp (fun q => by simp; omega) fun q => by simp; omega
    exact py_end (P := fun h' => ∀ c o, c ≠ z → c ≠ TO → c ≠ i1 → c ≠ i2 → s.heap.get? c = some o → h'.get? c = some o) ie (fun F E' k => next_end (by exact I.ok.hd hc) D zs p1.isList p2.isList he fun h' x kp hx => k h' x kp hx) fun h' kp =>
      ⟨rfl, I.turnedL (t' := s.toks) (ch := [z, TO, i1, i2]) (fun c o hb q => kp c o (fun t => hb (by simp [t])) (fun t => hb (by simp [t])) (fun t => hb (by simp [t])) (fun t => hb (by simp [t])) q) fun c hc => hf c (by
        have q : c = z ∨ c = TO ∨ c = i1 ∨ c = i2 := by simpa using hc
        rcases q with q | q | q | q <;> rw [q] <;> simp)⟩
  self := fun A i s Q E st q => by
    obtain ⟨⟨old, ie⟩, _⟩ := st
    exact wpAny_pyIter_enum ie q
def iEnZ (K : PySem.W.Frag) (ta : TA) : TI := fun σ H R => ta σ H fun vs H1 => ∃ a b xs ys, vs = [.ref a, .ref b] ∧ SqL K H1 a xs ∧ SqL K H1 b ys ∧ R (ItZ K a b) H1
/-- an expression that gives a new zip of two lists -/
def EvZ (X : Cx) (ze : Expr) (ta : TA) : Prop := ∀ (pins : List (Addr × Obj)) (s : Shared) (σ : L2.St) (H : Hp) (R : It → Hp → Prop), Inv X pins σ H s → iEnZ X.K ta σ H R → wpAny (model X.prog X.w) X.A (eval ze X.env) (fun v s1 => ∃ (n a b : Nat) (H1 : Hp), v = .ref (n + 4) ∧ Inv X pins σ H1 s1 ∧ s1.heap.objs.size = n + 5 ∧ a < n ∧ b < n ∧
  IsZip s1.heap (n + 4) (n + 2) (n + 3) .none ∧ IsPair s1.heap (n + 2) (.ref n) (.ref (n + 1)) ∧ (∃ x y, IsPair s1.heap (n + 3) x y) ∧ s1.heap.IsListIter n a 0 ∧ s1.heap.IsListIter (n + 1) b 0 ∧ (∀ c : Nat, n ≤ c → FpOk X pins H1 c) ∧ R (ItZ X.K a b) H1) X.xe s
theorem ev_zip {X : Cx} {e e2 : Expr} {ta : TA} {zp zpos : Pos} (gz : Gl X "zip") (mz : X.mg "zip" = none) (ha : PA X [e, e2] ta)
    (hs : starEach [e, e2] X.env = (false, eval e X.env) :: starEach [e2] X.env := by rfl) (hpl : (backTo zpos (starEach [e2] X.env)).any (·.1) = false := by rfl) : EvZ X (.Call (.Name "zip" zp) [e, e2] [] zpos) ta := by
  intro pins s σ H R I h
  refine Call_ (ld_blt I gz mz PyProof.Rows.boot_zip (PyProof.Rows.callWith_type1 (thn (ha.run zpos pins s σ H _ I h) fun us s1 ⟨vs, H1, I1, r1, q1⟩ => ?_) hs hpl))
  obtain ⟨a, b, xs, ys, rfl, hqx, hqy, q⟩ := q1
  cases r1 with
  | cons ra rr =>
  cases rr with
  | cons rb rr =>
    cases rr
    cases ra
    cases rb
    obtain ⟨its, rv, p1, _⟩ := I1.list hqx
    obtain ⟨its2, rv2, p2, _⟩ := I1.list hqy
    refine call_zip_2 p1.isList p2.isList fun h' hz hI hO h1 h2 size kp => ?_
    exact ⟨s1.heap.objs.size, a, b, H1, rfl, I1.kept (t' := s1.toks) kp, size, p1.lt, p2.lt, hz, hI, ⟨_, _, hO⟩, h1, h2, fun c low => I1.fpOk low (I1.hok.fresh low), q⟩
theorem pi_enZ {X : Cx} {ze : Expr} {ta : TA} {p pos tpos : Pos} {elts : List Expr} {kk : Nat} (ge : Gl X "enumerate") (me : X.mg "enumerate" = none) (hz : EvZ X ze ta)
    (hs : starEach [ze] X.env = (false, eval ze X.env) :: starEach [] X.env := by rfl) : PI X (.Tuple elts kk tpos) (.Call (.Name "enumerate" p) [ze] [] pos) (iEnZ X.K ta) := by
  refine ⟨fun pins s σ H R I h => ?_⟩
  refine Call_ (ld_blt (u := Value.type "enumerate") I ge me (by decide +kernel) (PyProof.Rows.callWith_type1 ?_ hs rfl))
  rw [hs]
  show wpAny _ _ (spliced ((false, eval ze X.env) :: backTo pos (starEach [] X.env))) _ _ s
  refine Calls.spliced_cons (thn (hz pins s σ H R I h) fun v s1 hv => ?_)
  obtain ⟨n, a, b, H1, rfl, I1, size, la, lb, az, aI, aO, h1, h2, fp, q⟩ := hv
  refine Calls.spliced_nil ?_
  refine new_over az fun h2' he size2 kp2 => ?_
  have I2 : Inv X pins σ H1 { s1 with heap := h2' } := I1.kept (t' := s1.toks) kp2
  refine wpAny_pyIter_enum (s := { s1 with heap := h2' }) he ?_
  obtain ⟨x0, y0, aO⟩ := aO
  have ne : ∀ j : Nat, j < 5 → s1.heap.objs.size ≠ n + j := fun j hj t => by
    rw [size] at t
    omega
  refine ⟨s1.heap.objs.size, [s1.heap.objs.size, n + 4, n + 2, n + 3, n, n + 1], _, _, H1, rfl, I2,
    turn_enZ (PySem.W.ktu_apart n a b la lb) (ne 4 (by decide)) (ne 2 (by decide)) (ne 3 (by decide)) (ne 0 (by decide)) (ne 1 (by decide)), ⟨⟨_, he⟩, ⟨_, _, kp2 _ _ az, .inl rfl⟩, kp2 _ _ aI, ⟨x0, y0, kp2 _ _ aO⟩, h1.at fun u t => kp2 _ u t, h2.at fun u t => kp2 _ u t⟩, fun c hc => ?_, q⟩
  have z : c = s1.heap.objs.size ∨ c = n + 4 ∨ c = n + 2 ∨ c = n + 3 ∨ c = n ∨ c = n + 1 := by simpa using hc
  have low : n ≤ c := by
    rcases z with z | z | z | z | z | z <;> rw [z]
    · rw [size]
      exact Nat.le_add_right _ _
    · exact Nat.le_add_right _ _
    · exact Nat.le_add_right _ _
    · exact Nat.le_add_right _ _
    · exact Nat.le_refl _
    · exact Nat.le_add_right _ _
  exact fp c low
end EnZ

namespace EnZ
open PySem PySem.Spec PyProof PyProof.Rows L2 LcM
section
variable {K : PySem.W.Frag} {a b : Addr} {xs ys : List V} {g : TG} {te : TE} {vs : List Nat} {σ : L2.St} {H0 : Hp} {D : Addr} {Qd : Hp → Prop}
/-- [e for i, (x, y) in enumerate(zip(xs, ys))], by the value of each turn -/
theorem lc_enZM (F : Nat → V) (hD : H0 D = none) (hx : SqL K H0 a xs) (hy : SqL K H0 b ys) (small : xs.length ≤ 1000000)
    (turn : ∀ (i : Nat) (x y : V) (S T : Addr) (H : Hp) (R : V → Hp → Prop), xs[i]? = some x → ys[i]? = some y → Grows H0 H → H S = none → H T = none → S ≠ T → (∀ H4, Grows (upd (upd H S (.tup [x, y])) T (.tup [.int (i : Nat), .ref S])) H4 → R (F i) H4) →
      g (.ref T) (wipe σ vs) (upd (upd H S (.tup [x, y])) T (.tup [.int (i : Nat), .ref S])) fun σ2 H2 => wipe σ2 vs = wipe σ vs ∧ te σ2 H2 R)
    (done : ∀ H, Grows H0 H → H D = some (.lst ((List.range (min xs.length ys.length)).map F)) → Qd H) :
    ∃ W : Nat → Nat → Hp → Prop, (∃ m, W 0 m (upd H0 D (.lst []))) ∧ ∀ i m H, W i m H →
      ((ItZ K a b).stop i H ∧ Qd H) ∨ ((ItZ K a b).go i H ∧ ∃ Nx : Hp → Prop, (∀ H', Nx H' → ∃ m', m' < m ∧ W (i + 1) m' H') ∧ ∀ x H', (ItZ K a b).yld i H x H' → g x (wipe σ vs) H' fun σ2 H2 => wipe σ2 vs = wipe σ vs ∧ tYes σ2 H2 fun b H3 =>
        if b = true then te σ2 H3 fun y H4 => ∃ acc, H4 D = some (.lst acc) ∧ acc.length < sizeLine ∧ Nx (upd H4 D (.lst (acc ++ [y]))) else Nx H3) := by
  refine ⟨fun i m H => m = min xs.length ys.length - i ∧ i ≤ min xs.length ys.length ∧ Ma H0 D F i H, ⟨_, rfl, Nat.zero_le _, Ma.start hD⟩, ?_⟩
  rintro i m H ⟨rfl, hi, ma⟩
  have qx : SqL K H a xs := ma.1.seq hx
  have qy : SqL K H b ys := ma.1.seq hy
  rcases Nat.lt_or_ge i (min xs.length ys.length) with lt | ge
  · have l1 : i < xs.length := Nat.lt_of_lt_of_le lt (Nat.min_le_left _ _)
    have l2 : i < ys.length := Nat.lt_of_lt_of_le lt (Nat.min_le_right _ _)
    refine .inr ⟨⟨xs, ys, _, _, qx, qy, List.getElem?_eq_getElem l1, List.getElem?_eq_getElem l2⟩, Ma H0 D F (i + 1), fun H' p => ⟨min xs.length ys.length - (i + 1), by omega, rfl, lt, p⟩, fun v H' yy => ?_⟩
    obtain ⟨S, T, x, y, rfl, hS, hT, ne, rfl, sx, sy⟩ := yy
    rw [yes_eq (A := fun σ2 => wipe σ2 vs = wipe σ vs)]
    have gr : Grows H (upd (upd H S (.tup [x, y])) T (.tup [.int (i : Nat), .ref S])) := (Grows.new hS).trans (Grows.new (by rw [upd_ne ne.symm]; exact hT))
    exact turn i x y S T H _ (sx xs qx) (sy ys qy) ma.1 hS hT ne fun H4 s => ma.more hD (gr.trans s) (Nat.lt_of_lt_of_le l1 small)
  · have e : i = min xs.length ys.length := by omega
    subst e
    refine .inl ⟨⟨xs, ys, qx, qy, ?_⟩, done H ma.1 ma.2⟩
    rcases Nat.le_total xs.length ys.length with q | q
    · exact .inl (by rw [Nat.min_eq_left q]; exact Nat.le_refl _)
    · exact .inr (by rw [Nat.min_eq_right q]; exact Nat.le_refl _)
end
end EnZ

/-! Masks of ascending lists, bit by bit. -/
namespace LcM
open PySem
def mk (ns : List Nat) : Nat := (ns.map (2 ^ ·)).sum
theorem mk_cons (x : Nat) (xs : List Nat) : mk (x :: xs) = 2 ^ x + mk xs := by
  unfold mk
  rw [List.map_cons, List.sum_cons]
theorem mk_dvd (y : Nat) : ∀ xs : List Nat, (∀ z ∈ xs, y ≤ z) → 2 ^ y ∣ mk xs
  | [], _ => ⟨0, rfl⟩
  | x :: xs, h => by
    rw [mk_cons]
    exact Nat.dvd_add (Nat.pow_dvd_pow 2 (h x List.mem_cons_self)) (mk_dvd y xs fun z hz => h z (List.mem_cons_of_mem _ hz))
theorem mk_bit : ∀ (xs : List Nat) (i : Nat), xs.Pairwise (· < ·) → (mk xs).testBit i = decide (i ∈ xs)
  | [], i, _ => by
    show Nat.testBit 0 i = _
    rw [Nat.zero_testBit]
    rfl
  | x :: xs, i, h => by
    obtain ⟨h1, h2⟩ := List.pairwise_cons.mp h
    have ih := mk_bit xs i h2
    obtain ⟨k, hk⟩ := mk_dvd (x + 1) xs fun z hz => h1 z hz
    rw [mk_cons, Nat.add_comm, hk, Nat.testBit_two_pow_mul_add k (Nat.pow_lt_pow_right (by decide) (Nat.lt_succ_self x))]
    rw [hk] at ih
    by_cases l : i < x + 1
    · rw [if_pos l, Nat.testBit_two_pow]
      have no : i ∉ xs := fun z => by
        have := h1 i z
        omega
      by_cases e : x = i
      · rw [decide_eq_true e, e, decide_eq_true List.mem_cons_self]
      · rw [decide_eq_false e, decide_eq_false fun z => (List.mem_cons.mp z).elim (fun q => e q.symm) no]
    · rw [if_neg l]
      have z := Nat.testBit_two_pow_mul_add k (b := 0) (i := x + 1) (Nat.two_pow_pos _) i
      rw [if_neg l, Nat.add_zero] at z
      rw [← z, ih]
      have ne : i ≠ x := by omega
      by_cases m : i ∈ xs
      · rw [decide_eq_true m, decide_eq_true (List.mem_cons_of_mem _ m)]
      · rw [decide_eq_false m, decide_eq_false fun q => (List.mem_cons.mp q).elim ne m]
/-- masks of lists that do not cross -/
theorem mk_and {xs ys : List Nat} (hx : xs.Pairwise (· < ·)) (hy : ys.Pairwise (· < ·)) (h : (∀ z ∈ xs, z ∉ ys) ∨ (∀ z ∈ xs, z ∈ ys) ∨ ∀ z ∈ ys, z ∈ xs) : mk xs &&& mk ys = 0 ∨ mk xs &&& mk ys = mk xs ∨ mk xs &&& mk ys = mk ys := by
  have bit : ∀ i, (mk xs &&& mk ys).testBit i = (decide (i ∈ xs) && decide (i ∈ ys)) := fun i => by rw [Nat.testBit_and, mk_bit xs i hx, mk_bit ys i hy]
  rcases h with h | h | h
  · refine .inl (Nat.eq_of_testBit_eq fun i => ?_)
    rw [bit, Nat.zero_testBit]
    by_cases m : i ∈ xs
    · rw [decide_eq_false (h i m), Bool.and_false]
    · rw [decide_eq_false m, Bool.false_and]
  · refine .inr (.inl (Nat.eq_of_testBit_eq fun i => ?_))
    rw [bit, mk_bit xs i hx]
    by_cases m : i ∈ xs
    · rw [decide_eq_true m, decide_eq_true (h i m)]
      rfl
    · rw [decide_eq_false m, Bool.false_and]
  · refine .inr (.inr (Nat.eq_of_testBit_eq fun i => ?_))
    rw [bit, mk_bit ys i hy]
    by_cases m : i ∈ ys
    · rw [decide_eq_true m, decide_eq_true (h i m)]
      rfl
    · rw [decide_eq_false m, Bool.and_false]
end LcM

/-! sorted(d.values()), the values lists of ints. -/
namespace SortR
open PySem PySem.Spec PyProof.Rows L2 PySem.W
theorem kv_vals {κ : Type} {kvs : List (κ × V)} {vs : List (κ × Value)} (r : KV kvs vs) : Vals (kvs.map (·.2)) (vs.map (·.2)) := by
  unfold KV at r
  induction r with
  | nil => exact .nil
  | cons h _ ih => exact .cons h.2 ih
section
variable {X : Cx} {o : Expr} {p pos apos mpos : Pos} {td : TE}
/-- sorted(o.values()), a dict of lists of ints -/
def tSortVals (td : TE) : TE := fun σ H Q => td σ H fun x H1 => ∃ (a : Addr) (kvs : List (Key × V)) (bs : List (Addr × List Int)), x = V.ref a ∧ H1 a = some (.dK kvs) ∧ kvs.map (·.2) = bs.map (fun b => V.ref b.1) ∧ (∀ b ∈ bs, H1 b.1 = some (.lst (b.2.map V.int))) ∧
  ∀ p, H1 p = none → Q (.ref p) (upd H1 p (.lst ((bs.mergeSort rowLe).map fun b => V.ref b.1)))
theorem pe_sortVals (hu : X.A.units + 64 < cLine) (calm : X.calm = true) (hg : Gl X "sorted") (hm : X.mg "sorted" = none) (hd : PE X o td) (hbase : attributeBase o "values" X.env (eval o X.env) = eval o X.env := by rfl) (hline : (apos.endLine == mpos.line) = true := by rfl)
    (hse : starEach [Expr.Call (.Attribute o "values" apos) [] [] mpos] X.env = [(false, eval (Expr.Call (.Attribute o "values" apos) [] [] mpos) X.env)] := by rfl) :
    PE X (.Call (.Name "sorted" p) [.Call (.Attribute o "values" apos) [] [] mpos] [] pos) (tSortVals td) := by
  refine ⟨fun pins s σ H Q I h => ?_⟩
  refine wpAny_Call_Name_kw (ld_blt I hg hm (u := .builtin "sorted") (by first | rfl | decide +kernel) ?_ (by first | decide +kernel | decide) (by first | decide +kernel | decide))
  rw [hse]
  refine PySem.callWith_builtin1 (wpAny_Call_method0_late hbase hline (thn (hd.run pins s σ H _ I h) fun v s1 ⟨x, H1, I1, r1, a, kvs, bs, ex, ha, hv, hb, q⟩ => ?_))
  subst ex
  obtain rfl : v = Value.ref a := r1
  obtain ⟨few, hsys, vs, rel, dof⟩ := dk_of I1.hok ha
  obtain ⟨ep, dat⟩ := dof.dictAt
  obtain ⟨ob, es, ho, ex, _⟩ := id dat
  have old : ∀ c w, s1.heap.get? c = some w → (s1.heap.push { cls := .type "dict_values", data := .fields #[.ref a] }).get? c = some w := fun c w => Heap.get?_push_of_some _
  refine ⟨"dict", "dict.values", F.plainAttrs_dict, F.slot_dict_values, F.type_dict_values, ⟨ob, ho, ex.1⟩, fun c at_c => (by cases at_c; exact ⟨ob, ho, ex.2.1⟩),
    Calls.callWith_builtin rfl (PySem.evalArgs_none (call_meetsIn F.slot_dict_values ⟨ob, ho, ex.1⟩ F.entry_dict_values (F.args_dict_values_1 _) (meets_dict_values (mixKind X.prog X.w) a hsys) ⟨⟨vs, dof⟩, ?_⟩))⟩
  have lv : vs.length = bs.length := by
    have e1 := congrArg List.length hv
    rw [List.length_map, List.length_map] at e1
    rw [← e1]
    exact (KV.length rel).symm
  have fits : bs.length ≤ sizeLine := by
    rw [← lv, ← KV.length rel]
    exact few
  have I2 : Inv X pins σ H1 { s1 with heap := s1.heap.push { cls := .type "dict_values", data := .fields #[.ref a] } } := I1.kept (t' := s1.toks) old
  refine Calls.call_function_entry PyProof.Rows.kind_sorted PyProof.Rows.plain_sorted PyProof.Rows.entry_sorted (PyProof.Rows.args_sorted1 _) ?_
  unfold Builtin.«sorted»
  refine wpAny_bind (m := checkCount "sorted" 1 1 _) (wpAny_pure (wpAny_bind (kdu_collect (A := X.A.in1) (s := { s1 with heap := s1.heap.push { cls := .type "dict_values", data := .fields #[.ref a] } }) (kdl_values (knd := mixKind X.prog X.w) (kvs := vs) (ep := ep)) (I.ok.hd calm) ⟨⟨_, Heap.get?_push_size _ rfl, rfl, rfl⟩, dat.keep old⟩ (lv ▸ fits) fun h1 tk acc keep it => ?_)))
  have vr : Vals (bs.map fun b => V.ref b.1) acc.toList := by
    rw [kdl_vals_eq (kvs := vs) acc.toList (by rw [Array.length_toList, it.1]) fun j v e => it.2 j v (by rw [← Array.getElem?_toList]; exact e), ← hv]
    exact kv_vals rel
  have len : acc.toList.length = bs.length := by rw [← vr.length, List.length_map]
  have I3 : Inv X pins σ H1 { s1 with heap := h1, toks := tk } := I2.kept keep
  refine wpAny_bind (wpAny_newList ?_ (by rw [len]; exact fits))
  have at_p : (h1.push (seqObj "list" acc.toList.toArray 0)).get? h1.objs.size = some (seqObj "list" acc.toList.toArray 0) := Heap.get?_push_size _ rfl
  have old : ∀ b u, h1.get? b = some u → b ≠ h1.objs.size ∧ (h1.push (seqObj "list" acc.toList.toArray 0)).get? b = some u := fun b u e => ⟨Nat.ne_of_lt (Heap.lt_size e), Heap.get?_push_of_some _ e⟩
  have each : EachIs (fun v (b : Addr × List Int) => v = Value.ref b.1 ∧ True) acc.toList bs := by
    exact vals_each (h := s1.heap) (K := X.K) (H := H1) (P := fun _ => True) vr fun _ _ => trivial
  obtain ⟨hS, ehS⟩ : ∃ z, z = sortingHeap (h1.push (seqObj "list" acc.toList.toArray 0)) h1.objs.size acc.toList := ⟨_, rfl⟩
  have reads : EachIs (fun v (b : Addr × List Int) => ∃ rs, Reads hS v (PyData.list (b.2.map .int)) rs) acc.toList bs := by
    have each2 : EachIs (fun v (b : Addr × List Int) => v = Value.ref b.1 ∧ H1 b.1 = some (.lst (b.2.map V.int))) acc.toList bs := by
      exact vals_each (h := s1.heap) (K := X.K) (H := H1) vr hb
    refine each_mono each2 fun v b ⟨ev, hb⟩ => ?_
    rw [ev]
    obtain ⟨rs, rr⟩ := Dp.reads I3 (PyData.list (b.2.map .int)) (.ref b.1) (.ref b.1) (.lst (SqL.of hb) (rows_dp b.2)) rfl
    refine ⟨rs, PyProof.Rows.Reads.keeps (fun c u e => ?_) rr⟩
    rw [ehS]
    obtain ⟨n1, n2⟩ := old c u e
    exact sortingHeap_old n1 n2
  have alikeAll_ : AllAlike (bs.map fun b => PyData.list (b.2.map .int)) := AllAlike.of enc_alike
  have sortable : Sortable (bs.map fun b => PyData.list (b.2.map .int)) := Sortable.others fun b => ⟨(fun z => nomatch z), fun xs z => nomatch z⟩
  have shallow : ∀ dd ∈ bs.map (fun b => PyData.list (b.2.map .int)), dd.depth = 1 := fun dd hm => by
    obtain ⟨b, _, rfl⟩ := List.mem_map.mp hm
    simp only [PyData.depth, depth_ints]
  show wpAny _ _ _ _ _ { s1 with heap := h1.push (seqObj "list" acc.toList.toArray 0), toks := tk }
  have sorts : ∀ Ar : Around, Ar.units ≤ X.A.units + 8 → SortsAt X.prog X.w Ar { s1 with heap := hS, toks := tk } (dataKind hS (bs.map fun b => PyData.list (b.2.map .int))) acc.toList := fun Ar hA =>
    SortsAt.data (s := { s1 with heap := hS, toks := tk }) (each_map (R := fun v dd => ∃ rs, Reads hS v dd rs) (fun b : Addr × List Int => PyData.list (b.2.map .int)) reads) alikeAll_ sortable fun dd hm => by rw [shallow dd hm]; omega
  rw [ehS] at sorts reads
  have each3 := sortVals_data (R := fun v (b : Addr × List Int) => v = Value.ref b.1 ∧ True) (enc := fun b : Addr × List Int => PyData.list (b.2.map .int)) false each reads alikeAll_
  rw [dataLe_rows (fun b : Addr × List Int => b.2)] at each3
  have back := each_back each3
  have short : ((bs.mergeSort rowLe).map fun b => V.ref b.1).length ≤ sizeLine := by
    rw [List.length_map, List.length_mergeSort]
    exact fits
  refine wpAny_bind (wpAny_holding (wpAny_call_entry PyProof.Rows.slot_list_sort ⟨_, at_p, rfl⟩ PyProof.Rows.entry_list_sort
    (list_sort_vals (s := { s1 with heap := h1.push (seqObj "list" acc.toList.toArray 0), toks := tk }) at_p (sorts _ (by show X.A.units + 1 + 1 ≤ X.A.units + 8; omega)) (by rw [len]; exact fits) ⟨_, rfl, ?_⟩) (PyProof.Rows.args_list_sort _)))
  obtain ⟨n2, at2⟩ := PyProof.Rows.sortedHeap_at (vs := acc.toList) (out := (sortVals (dataKind (sortingHeap (h1.push (seqObj "list" acc.toList.toArray 0)) h1.objs.size acc.toList) (bs.map fun b => PyData.list (b.2.map .int))) false acc.toList acc.toList).toArray) at_p
  refine wpAny_pure ⟨_, rfl, .ref h1.objs.size, upd H1 h1.objs.size (.lst ((bs.mergeSort rowLe).map fun b => V.ref b.1)), I3.laid (t' := tk) (fun b u e => ?_) (Nat.le_refl _) ⟨short, _, n2, back, at2⟩, rfl, q _ (I3.hok.fresh (Nat.le_refl _))⟩
  obtain ⟨n1, g⟩ := old b u e
  rw [PyProof.Rows.sortedHeap_old n1 (Heap.lt_size g)]
  exact g
end
end SortR

/-! A list comprehension over a list, amid an except suite. -/
namespace HotLc
open PySem PySem.Spec PyProof PyProof.Rows L2 L2H HotX
section
variable {prog : Program} {w : World} {A : Around} {E : Value → Shared → Prop} {s : Shared}
/-- a list's iterator ends while an exception is handled -/
theorem list_ends {it l x1 : Addr} {i : Nat} {items : Array Value} {Q : Option Value → Shared → Prop} (hot : HotAt A x1 s.heap) (ne : x1 ≠ it) (hit : s.heap.IsListIter it l i) (hl : s.heap.IsList l items) (hx : items[i]? = none)
    (hQ : ∀ h', (∀ b o, b ≠ it → s.heap.get? b = some o → h'.get? b = some o) → Q none { s with heap := h' }) : wpAny (model prog w) A (pyNext (.ref it)) Q E s := by
  obtain ⟨hh, o1, v1, at1, d1, c1⟩ := hot
  have ty := hit.typeIs
  obtain ⟨o, ho, hc, hd⟩ := hit
  obtain ⟨ol, hol, _, nl, hdl⟩ := hl
  unfold pyNext
  refine wpAny_bind (wpAny_attempt (wpAny_callSpecial?_slot (name := Str.ofString "__next__") ty slot_listiter_next (wpAny_call_entry slot_listiter_next ty entry_listiter_next ?_ (args_listiter_next _))))
  show wpAny _ _ (field (.ref it) 0 >>= fun t => _) _ _ s
  refine wpAny_bind (wpAny_field ho hd (x := .ref l) rfl ?_)
  show wpAny _ _ (if (Value.ref l == Value.none) = true then _ else _) _ _ s
  rw [if_neg (fun z : (Value.ref l == Value.none) = true => Bool.false_ne_true z)]
  show wpAny _ _ (field (.ref it) 1 >>= fun t => _) _ _ s
  refine wpAny_bind (wpAny_field ho hd (x := .int i 0) rfl ?_)
  show wpAny _ _ (seqItems? (.ref l) >>= fun t => _) _ _ s
  refine wpAny_bind (wpAny_seqItems hol hdl ?_)
  simp only [Int.toNat_natCast, hx]
  refine wpAny_bind (wpAny_rule (wpAny_bind (wpAny_setField ho hd (by simp) ?_)))
  have at2 : (s.heap.update it (Obj.mapFields (·.setIfInBounds 0 .none))).get? x1 = some o1 := by rw [Heap.get?_update_other _ _ ne.symm]; exact at1
  have kp : ∀ b o, b ≠ it → s.heap.get? b = some o → (s.heap.update it (Obj.mapFields (·.setIfInBounds 0 .none))).get? b = some o := fun b o n e => by rw [Heap.get?_update_other _ _ n.symm]; exact e
  generalize s.heap.update it (Obj.mapFields (·.setIfInBounds 0 .none)) = h1 at at2 kp ⊢
  show wpAny _ _ (newExc (.type "StopIteration") [] >>= fun t => _) _ _ _
  refine wpAny_bind ?_
  simp only [newExc, newTuple]
  refine wpAny_bind (wpAny_newObj_type ?_ (by size_fits))
  refine wpAny_bind (m := firstArgMember _ _) (wpAny_of_eq (a := Value.none) (by first | rfl | (simp only [firstArgMember]; rfl)) ?_)
  refine wpAny_newObj_type ?_ (by size_fits)
  refine raiseNew_hot ⟨hh, o1, v1, Heap.get?_push_of_some _ (Heap.get?_push_of_some _ at2), d1, c1⟩ (Nat.ne_of_lt (Heap.lt_size (Heap.get?_push_of_some _ at2))) (Heap.get?_push_size _ rfl) rfl (by first | (simp; done) | (simp; omega) | (simp only [Array.size_append]; simp; omega)) ?_
  refine wpAny_bind (wpAny_isInstance (T := "StopIteration") (b := true) ⟨_, Heap.get?_update_self _ (Heap.get?_push_size _ rfl) rfl, rfl⟩ isSubtype_stop (wpAny_pure (hQ _ fun b o n e => ?_)))
  have e1 := kp b o n e
  rw [Heap.get?_update_other _ _ (Nat.ne_of_gt (Heap.lt_size (Heap.get?_push_of_some _ e1)))]
  exact Heap.get?_push_of_some _ (Heap.get?_push_of_some _ e1)
/-- a tuple's iterator ends while an exception is handled -/
theorem tup_ends {it l x1 : Addr} {i : Nat} {items : Array Value} {Q : Option Value → Shared → Prop} (hot : HotAt A x1 s.heap) (ne : x1 ≠ it) (hit : IsTupIter s.heap it l i) (hl : IsTup s.heap l items) (hx : items[i]? = none)
    (hQ : ∀ h', (∀ b o, b ≠ it → s.heap.get? b = some o → h'.get? b = some o) → Q none { s with heap := h' }) : wpAny (model prog w) A (pyNext (.ref it)) Q E s := by
  obtain ⟨hh, o1, v1, at1, d1, c1⟩ := hot
  have ty := hit.typeIs
  obtain ⟨o, ho, hc, hd⟩ := hit
  obtain ⟨ol, hol, _, nl, hdl⟩ := hl
  unfold pyNext
  refine wpAny_bind (wpAny_attempt (wpAny_callSpecial?_slot (name := Str.ofString "__next__") ty slot_tupleiter_next (wpAny_call_entry slot_tupleiter_next ty entry_tupleiter_next ?_ (args_tupleiter_next _))))
  show wpAny _ _ (field (.ref it) 0 >>= fun t => _) _ _ s
  refine wpAny_bind (wpAny_field ho hd (x := .ref l) rfl ?_)
  show wpAny _ _ (if (Value.ref l == Value.none) = true then _ else _) _ _ s
  rw [if_neg (fun z : (Value.ref l == Value.none) = true => Bool.false_ne_true z)]
  show wpAny _ _ (field (.ref it) 1 >>= fun t => _) _ _ s
  refine wpAny_bind (wpAny_field ho hd (x := .int i 0) rfl ?_)
  show wpAny _ _ (seqItems? (.ref l) >>= fun t => _) _ _ s
  refine wpAny_bind (wpAny_seqItems hol hdl ?_)
  simp only [Int.toNat_natCast, hx]
  refine wpAny_bind (wpAny_rule (wpAny_bind (wpAny_setField ho hd (by simp) ?_)))
  have at2 : (s.heap.update it (Obj.mapFields (·.setIfInBounds 0 .none))).get? x1 = some o1 := by rw [Heap.get?_update_other _ _ ne.symm]; exact at1
  have kp : ∀ b o, b ≠ it → s.heap.get? b = some o → (s.heap.update it (Obj.mapFields (·.setIfInBounds 0 .none))).get? b = some o := fun b o n e => by rw [Heap.get?_update_other _ _ n.symm]; exact e
  generalize s.heap.update it (Obj.mapFields (·.setIfInBounds 0 .none)) = h1 at at2 kp ⊢
  show wpAny _ _ (newExc (.type "StopIteration") [] >>= fun t => _) _ _ _
  refine wpAny_bind ?_
  simp only [newExc, newTuple]
  refine wpAny_bind (wpAny_newObj_type ?_ (by size_fits))
  refine wpAny_bind (m := firstArgMember _ _) (wpAny_of_eq (a := Value.none) (by first | rfl | (simp only [firstArgMember]; rfl)) ?_)
  refine wpAny_newObj_type ?_ (by size_fits)
  refine raiseNew_hot ⟨hh, o1, v1, Heap.get?_push_of_some _ (Heap.get?_push_of_some _ at2), d1, c1⟩ (Nat.ne_of_lt (Heap.lt_size (Heap.get?_push_of_some _ at2))) (Heap.get?_push_size _ rfl) rfl (by first | (simp; done) | (simp; omega) | (simp only [Array.size_append]; simp; omega)) ?_
  refine wpAny_bind (wpAny_isInstance (T := "StopIteration") (b := true) ⟨_, Heap.get?_update_self _ (Heap.get?_push_size _ rfl) rfl, rfl⟩ isSubtype_stop (wpAny_pure (hQ _ fun b o n e => ?_)))
  have e1 := kp b o n e
  rw [Heap.get?_update_other _ _ (Nat.ne_of_gt (Heap.lt_size (Heap.get?_push_of_some _ e1)))]
  exact Heap.get?_push_of_some _ (Heap.get?_push_of_some _ e1)
/-- a tuple of as many items as there are targets, while an exception is handled -/
theorem tup_unpack {t x1 : Addr} {o1 : Obj} {v1 : Array Value} {items : Array Value} {targets : List (Bool × (Value → Sem Unit))} {Q : Unit → Shared → Prop} (hh : A.handled = some (.ref x1)) (at1 : s.heap.get? x1 = some o1) (d1 : o1.data = .fields v1) (c1 : v1[2]? = some .none) (ht : IsTup s.heap t items)
    (hn : targets.length = items.size) (hstar : targets.findIdx? (·.1) = none)
    (h : ∀ h', (∀ b o, s.heap.get? b = some o → h'.get? b = some o) → wpAny (model prog w) A (assignInOrder (targets.map (·.2)) items.toList) Q E { s with heap := h' }) :
    wpAny (model prog w) A (unpack (.ref t) targets) Q E s := by
  have nt : t ≠ s.heap.objs.size := by
    obtain ⟨o, ho, _⟩ := ht
    exact Nat.ne_of_lt (Heap.lt_size ho)
  have nx : x1 ≠ s.heap.objs.size := Nat.ne_of_lt (Heap.lt_size at1)
  unfold unpack
  rw [hn, hstar]
  refine wpAny_bind (wpAny_holding ?_)
  unfold unpackItems notIterableAtAll
  refine wpAny_bind (wpAny_bind (wpAny_specialOf ht.typeIs slot_tuple_iter.lookup (wpAny_pure ?_)))
  simp only [Bool.false_eq_true, if_false]
  refine wpAny_bind (wpAny_holding (iter_tuple ht (wpAny_bind (wpAny_holding (draw_tuple nt items.size 0 _ _ ⟨_, Heap.get?_push_size _ rfl, rfl, rfl⟩ (ht.push _) (by omega) fun g1 it1 sb1 => ?_)))))
  have all : List.take items.size (List.drop 0 items.toList) = items.toList := by
    rw [List.drop_zero]
    exact List.take_of_length_le (by simp)
  rw [all, if_neg (by simp)]
  have t1 : IsTup g1 t items := (ht.push _).extBut sb1.extBut nt
  have x2 : g1.get? x1 = some o1 := sb1.extBut x1 o1 nx (Heap.get?_push_of_some _ at1)
  refine wpAny_bind (wpAny_holding (tup_ends ⟨hh, o1, v1, x2, d1, c1⟩ nx it1 t1 (by simp) fun g2 kp => ?_))
  simp only [Option.isSome_none, Bool.false_eq_true, if_false]
  refine wpAny_pure (h g2 fun b o e => ?_)
  have nb : b ≠ s.heap.objs.size := Nat.ne_of_lt (Heap.lt_size e)
  exact kp b o nb (sb1.extBut b o nb (Heap.get?_push_of_some _ e))
end
/-- the context of a comprehension's block amid an except suite: the exception stays pinned -/
abbrev blkP (X : Cx) (p : Addr × Obj) (s : Shared) (H : Hp) (scope : Scope) (ce : Env) (fp : List Addr) : Cx := { X.blk s H scope ce fp with pn := [p] }
theorem inv_pin {X : Cx} {p : Addr × Obj} {s t : Shared} {H H' : Hp} {scope : Scope} {ce : Env} {fp : List Addr} {σ : L2.St} (I : Inv (X.blk s H scope ce fp) [p] σ H' t) : Inv (blkP X p s H scope ce fp) [] σ H' t :=
  ⟨⟨I.ok.mod, I.ok.kind, I.ok.glob, I.ok.blt, I.ok.above, I.ok.inj, I.ok.has, I.ok.cab, I.ok.hd, I.ok.frames, I.ok.stk, I.ok.exf, I.ok.bs, I.ok.bsz, I.ok.noex, I.ok.exfs, I.ok.funs, I.ok.frf⟩,
    I.os, I.bare, I.base, I.loc, I.cell, I.free, I.freeC, I.pin, I.hok, I.len⟩
section
variable {X : Cx} {p : Addr × Obj}
/-- [elt for tg in iter if ..] over a list, while an exception is handled -/
theorem core {pins : List (Addr × Obj)} {s : Shared} {σ : L2.St} {H : Hp} {Q : VK} {elt tg iter : Expr} {ifs : List Expr} {scope : Scope} {own : List (Str × Nat)} {pos pos' : Pos} {tl : TE} {g : TG} {tt : TT} {te : TE} {use : Option (Value → Sem Unit)} {Qf : Value → Shared → Prop}
    (warm : Hot1 X.A p) (hp : p ∈ X.pn) (hN : X.N.Nodup) (I : Inv X pins σ H s) (hl : PE X iter tl) (ok : BlkOk X.N X.env.scope scope own)
    (hg : ∀ (s : Shared) (H : Hp) (C : Addr) (cl : List (Str × Addr)) (fp : List Addr), PG (blkP X p s H scope (compEnvC scope cl C X.env) fp) tg g) (ht : ∀ (s : Shared) (H : Hp) (C : Addr) (cl : List (Str × Addr)) (fp : List Addr), PTs (blkP X p s H scope (compEnvC scope cl C X.env) fp) ifs tt)
    (he : ∀ (s : Shared) (H : Hp) (C : Addr) (cl : List (Str × Addr)) (fp : List Addr), PE (blkP X p s H scope (compEnvC scope cl C X.env) fp) elt te) (hs : ∀ x, foldedSetIterable iter X.env x = pure x)
    (h : tLc (iList X.K tl) g tt te (own.map (·.2)) σ H Q)
    (back : ∀ D C s' m H', Inv X pins σ H' s' → Q (.ref D) H' → s'.heap.Ns C m → FpOk X pins H' C → compPost (model X.prog X.w) X.A X.xe use Qf (.ref D) C (.ok .next) s') :
    wpAny (model X.prog X.w) X.A (comprehension (.ListComp elt [⟨tg, iter, ifs, 0⟩] scope pos) scope X.env pos' (newList []) false (eval iter X.env) use) Qf X.xe s := by
  have clo : ∀ y ∈ scope.names, y.2 = .free → ∃ c, X.env.cells.lookup y.1 = some c := fun y hy e => I.ok.has _ (ok.free y hy e)
  obtain ⟨handled, vs0, d0, c0⟩ := warm
  refine wpAny_comprehension_free (use := use) rfl hs (closure_ok clo) ok.kind (fun y hy e => by rw [ok.uniq y hy, e]) (thn (hl.run pins s σ H _ I h) fun u s1 ⟨x, H1, I1, ru, a, ex, ⟨xs, sq⟩, q⟩ => ?_)
  subst ex
  cases ru
  obtain ⟨its, rv, isl, _⟩ := I1.list sq
  refine wpAny_pyIter_list isl.isList ?_
  have I2 : Inv X pins σ H1 { s1 with heap := s1.heap.push { cls := .type "list_iterator", data := .fields #[.ref a, .int 0 0] } } := I1.kept (t' := s1.toks) fun b o e => Heap.get?_push_of_some _ e
  have st2 : (s1.heap.push { cls := .type "list_iterator", data := .fields #[.ref a, .int 0 0] }).IsListIter s1.heap.objs.size a 0 := ⟨_, Heap.get?_push_size _ rfl, rfl, rfl⟩
  have f2 : FpOk X pins H1 s1.heap.objs.size := I1.fpOk (Nat.le_refl _) (I1.hok.fresh (Nat.le_refl _))
  have lt2 : s1.heap.objs.size < (s1.heap.push { cls := .type "list_iterator", data := .fields #[.ref a, .int 0 0] }).objs.size := by rw [Heap.size_push]; exact Nat.lt_succ_self _
  generalize s1.heap.objs.size = it at st2 f2 lt2 ⊢
  generalize e2 : ({ s1 with heap := s1.heap.push { cls := .type "list_iterator", data := .fields #[.ref a, .int 0 0] } } : Shared) = s2 at I2 ⊢
  have h2 : s2.heap = s1.heap.push { cls := .type "list_iterator", data := .fields #[.ref a, .int 0 0] } := by rw [← e2]
  rw [← h2] at st2 lt2
  clear h2 e2
  refine wpAny_newObj_type (newEnv_comp ?_) (by show 0 ≤ sizeLine; decide)
  have fresh : H1 s2.heap.objs.size = none := I2.hok.fresh (Nat.le_refl _)
  obtain ⟨W, ⟨m0, w0⟩, turn⟩ := q _ fresh
  have I3 : Inv X pins σ (upd H1 s2.heap.objs.size (.lst [])) { s2 with heap := s2.heap.push { cls := .type "list", data := .seq ([] : List Value).toArray } } :=
    I2.laid (t' := s2.toks) (fun b o e => Heap.get?_push_of_some _ e) (Nat.le_refl _) ⟨Nat.zero_le _, [], 0, .nil, Heap.get?_push_size _ rfl⟩
  have f3 : FpOk X pins (upd H1 s2.heap.objs.size (.lst [])) it := ⟨by rw [upd_ne (Nat.ne_of_lt lt2)]; exact f2.1, f2.2⟩
  have st3 : (s2.heap.push { cls := .type "list", data := .seq ([] : List Value).toArray }).IsListIter it a 0 := st2.at fun o e => Heap.get?_push_of_some _ e
  have lt3 : it < (s2.heap.push { cls := .type "list", data := .seq ([] : List Value).toArray }).objs.size := by rw [Heap.size_push]; exact Nat.lt_succ_of_lt lt2
  generalize s2.heap.objs.size = D at turn w0 I3 f3 ⊢
  generalize e3 : ({ s2 with heap := s2.heap.push { cls := .type "list", data := .seq ([] : List Value).toArray } } : Shared) = s3 at I3 ⊢
  have h3 : s3.heap = s2.heap.push { cls := .type "list", data := .seq ([] : List Value).toArray } := by rw [← e3]
  rw [← h3] at st3 lt3
  clear h3 e3
  generalize upd H1 D (.lst []) = H3 at w0 I3 f3 ⊢
  have I4 := block_start I3 ok hN (fp := [it]) fun b hb => by
    rw [List.mem_singleton.mp hb]
    exact ⟨f3, lt3⟩
  have pg := hg s3 H3 s3.heap.objs.size (cellsFrom (s3.heap.objs.size + 1) scope.names (cloFrom X.env.cells scope.names [])) [it]
  have pt := ht s3 H3 s3.heap.objs.size (cellsFrom (s3.heap.objs.size + 1) scope.names (cloFrom X.env.cells scope.names [])) [it]
  have pe := he s3 H3 s3.heap.objs.size (cellsFrom (s3.heap.objs.size + 1) scope.names (cloFrom X.env.cells scope.names [])) [it]
  have cl : (compEnvC scope (cellsFrom (s3.heap.objs.size + 1) scope.names (cloFrom X.env.cells scope.names [])) s3.heap.objs.size X.env).locals = s3.heap.objs.size := rfl
  show codeAny _ _ (.compStart (.ListComp elt [⟨tg, iter, ifs, 0⟩] scope pos) 0 (.ref it) (.ref D) (compEnvC scope (cellsFrom (s3.heap.objs.size + 1) scope.names (cloFrom X.env.cells scope.names [])) s3.heap.objs.size X.env)) (compPost (model X.prog X.w) X.A X.xe use Qf (.ref D) s3.heap.objs.size) { s3 with heap := pushCells (s3.heap.push { cls := .type "dict", data := .dict #[] }) scope.names }
  generalize compEnvC scope (cellsFrom (s3.heap.objs.size + 1) scope.names (cloFrom X.env.cells scope.names [])) s3.heap.objs.size X.env = ce at I4 pg pt pe cl ⊢
  have st4 : (pushCells (s3.heap.push { cls := .type "dict", data := .dict #[] }) scope.names).IsListIter it a 0 := st3.at fun o e => pushCells_keeps _ _ _ _ (Heap.get?_push_of_some _ e)
  have pin4 : (pushCells (s3.heap.push { cls := .type "dict", data := .dict #[] }) scope.names).get? p.1 = some p.2 := pushCells_keeps _ _ _ _ (Heap.get?_push_of_some _ (I3.pin p (List.mem_append_left _ hp)).1)
  generalize e4 : ({ s3 with heap := pushCells (s3.heap.push { cls := .type "dict", data := .dict #[] }) scope.names } : Shared) = s4 at I4 ⊢
  have h4 : s4.heap = pushCells (s3.heap.push { cls := .type "dict", data := .dict #[] }) scope.names := by rw [← e4]
  rw [← h4] at st4 pin4
  clear h4 e4
  obtain ⟨g1, g2, g3, g4, g5⟩ := I3.pin p (List.mem_append_left _ hp)
  have nit : p.1 ≠ it := f3.2.2.2.2.2 p (List.mem_append_left _ hp)
  have nfs : p.1 ∉ frs X.stack := by
    rcases I3.ok.stk with z | ⟨z, zf⟩
    · rw [z]
      exact g4
    · rw [z]
      intro m
      unfold frs at m
      rw [List.filterMap_cons, zf] at m
      rcases List.mem_cons.mp m with y | y
      · exact g3 y
      · exact g4 y
  have I5 : Inv (blkP X p s3 H3 scope ce [it]) [] (wipe σ (own.map (·.2))) H3 s4 := inv_pin (I4.pins_of fun r hr => by
    rw [List.mem_singleton.mp hr]
    exact ⟨pin4, g2, by rw [cl]; exact Nat.ne_of_lt (Heap.lt_size g1), nfs, g5⟩)
  have stat : ∀ {σ' : L2.St} {H' : Hp} {s' : Shared} {ps : List (Addr × Obj)}, Inv (blkP X p s3 H3 scope ce [it]) [] σ' H' s' → H' it = none → FpOk (blkP X p s3 H3 scope ce [it]) [] H' it := fun {σ' H' s' ps} J n =>
    ⟨n, (J.ok.exf it (List.mem_singleton.mpr rfl)).1, J.ok.exfs it (List.mem_singleton.mpr rfl), .inl (List.mem_singleton.mpr rfl), fun x c e => (J.ok.exf it (List.mem_singleton.mpr rfl)).2 x c e, fun r hr => by
      rw [List.mem_singleton.mp (show r ∈ [p] from hr)]
      exact nit⟩
  have hotAt : ∀ {σ' : L2.St} {H' : Hp} {s' : Shared}, Inv (blkP X p s3 H3 scope ce [it]) [] σ' H' s' → HotAt X.A p.1 s'.heap := fun {σ' H' s'} J => ⟨handled, p.2, vs0, (J.pin p (List.mem_singleton.mpr rfl)).1, d0, c0⟩
  have loop : codeAny (model X.prog X.w) X.A (.compLoop (.ListComp elt [⟨tg, iter, ifs, 0⟩] scope pos) 0 (.ref it) (.ref D) ce) (compPost (model X.prog X.w) X.A X.xe use Qf (.ref D) s3.heap.objs.size) s4 := by
    refine compLoop_any (fun n t => ∃ i G, Inv (blkP X p s3 H3 scope ce [it]) [] (wipe σ (own.map (·.2))) G t ∧ t.heap.IsListIter it a i ∧ G it = none ∧ W i n G) ?_ m0 ⟨0, H3, I5, st4, f3.1, w0⟩
    rintro n t ⟨i, G, J, st, free, w5⟩
    obtain ⟨f0, f1, _, f4, f6, f7⟩ := stat (ps := []) J free
    rcases turn i n G w5 with ⟨⟨ys, sy, ly⟩, qq⟩ | ⟨⟨ys, x, sy, hx⟩, Nx, hNx, step⟩
    · obtain ⟨zs, rz, pz, _⟩ := J.list sy
      refine list_ends (hotAt J) nit st pz.isList (by rw [List.getElem?_toArray]; exact List.getElem?_eq_none (by rw [← rz.length]; exact ly)) fun h' kp => ?_
      have J6 := J.turned (t' := t.toks) kp f0 f1 f4 f6 f7
      have I7 : Inv X pins σ G { t with heap := h', toks := t.toks } := I3.call' (ch := [it]) J6.os J6.base J6.hok J6.bare fun b hb => by
        rw [List.mem_singleton.mp hb]
        exact ⟨f3.2.2.2.1, f3.2.1, f3.2.2.2.2.1, f3.2.2.2.2.2⟩
      have nC : G s3.heap.objs.size = none := by
        have z : G ce.locals = none := J6.free
        rw [cl] at z
        exact z
      obtain ⟨m, hn, _⟩ := J6.loc
      have hn : ({ t with heap := h', toks := t.toks } : Shared).heap.Ns ce.locals m := hn
      rw [cl] at hn
      exact back D s3.heap.objs.size _ m G I7 qq hn (I3.fpOk (Nat.le_refl _) nC)
    · obtain ⟨zs, rz, pz, _⟩ := J.list sy
      obtain ⟨u, hu, ru⟩ := rz.get hx
      refine wpAny_pyNext_list_item st pz.isList (x := u) (by rw [List.getElem?_toArray]; exact hu) fun h' st' sb => ?_
      have J6 : Inv (blkP X p s3 H3 scope ce [it]) [] (wipe σ (own.map (·.2))) G { t with heap := h' } := J.turned (t' := t.toks) (fun b o hb e => (sb.2 b hb).trans e) f0 f1 f4 f6 f7
      obtain ⟨oi, gi, ci, di⟩ := id st'
      refine go_of (s := { t with heap := h' }) gi ci di (by decide) ?_
      have J7 := J6.pinned (fp := [it]) (fun b hb => by
        rw [List.mem_singleton.mp hb]
        exact stat (ps := []) J6 free) fun b hb => by
        rw [List.mem_singleton.mp hb]
        exact ⟨oi, gi, fun v z => by rw [di] at z; cases z⟩
      refine thnF (pg.run _ _ _ G x u _ J7 ru (step x G ⟨rfl, fun y0 hy => by rw [J.list_inj hy sy]; exact hx⟩)) fun _ s8 ⟨σ8, H8, J8, w8, q8⟩ => ?_
      refine thnF (pt.run _ s8 σ8 H8 _ J8 q8) fun b s9 ⟨H9, J9, q9⟩ => ?_
      have fin : ∀ {t' : Shared} {H' : Hp}, Inv (blkP X p s3 H3 scope ce [it]) ([] ++ pinsAt [it] h') σ8 H' t' → Nx H' → ∃ m, m < n ∧ ∃ i G, Inv (blkP X p s3 H3 scope ce [it]) [] (wipe σ (own.map (·.2))) G t' ∧ t'.heap.IsListIter it a i ∧ G it = none ∧ W i m G := fun {t' H'} K nx => by
        obtain ⟨m', lt, w'⟩ := hNx H' nx
        have at_it := K.pin (it, oi) (List.mem_append_right _ (List.mem_append_right _ (mem_pinsAt (List.mem_singleton.mpr rfl) gi)))
        refine ⟨m', lt, i + 1, H', (K.unpinned (pins := [])).weak (by rw [← w8, wipe_length]) (fun j v e => ?_), ⟨oi, at_it.1, ci, di⟩, at_it.2.1, w'⟩
        rw [← w8] at e
        exact (wipe_some e).1
      cases b with
      | false =>
        rw [if_neg Bool.false_ne_true] at q9 ⊢
        exact fin J9 q9
      | true =>
        rw [if_pos rfl] at q9 ⊢
        refine thnF (pe.run _ s9 σ8 H9 _ J9 q9) fun z s10 ⟨y, H10, J10, r10, acc, hD, hz, nx⟩ => ?_
        exact app_ok (X := blkP X p s3 H3 scope ce [it]) J10 hD hz r10 fun s11 J11 => fin J11 nx
  exact codeAny_compStart_list loop (wpAny_pyIter_listiter st4 loop)
/-- as a value -/
theorem pe_lcH {elt tg iter : Expr} {ifs : List Expr} {scope : Scope} {own : List (Str × Nat)} {pos : Pos} {tl : TE} {g : TG} {tt : TT} {te : TE} (warm : Hot1 X.A p) (hp : p ∈ X.pn) (hN : X.N.Nodup) (hl : PE X iter tl) (ok : BlkOk X.N X.env.scope scope own)
    (hg : ∀ (s : Shared) (H : Hp) (C : Addr) (cl : List (Str × Addr)) (fp : List Addr), PG (blkP X p s H scope (compEnvC scope cl C X.env) fp) tg g) (ht : ∀ (s : Shared) (H : Hp) (C : Addr) (cl : List (Str × Addr)) (fp : List Addr), PTs (blkP X p s H scope (compEnvC scope cl C X.env) fp) ifs tt)
    (he : ∀ (s : Shared) (H : Hp) (C : Addr) (cl : List (Str × Addr)) (fp : List Addr), PE (blkP X p s H scope (compEnvC scope cl C X.env) fp) elt te) (hs : ∀ x, foldedSetIterable iter X.env x = pure x := by intro _; rfl) :
    PE X (.ListComp elt [⟨tg, iter, ifs, 0⟩] scope pos) (tLc (iList X.K tl) g tt te (own.map (·.2))) := by
  constructor
  intro pins s σ H Q I h
  rw [eval_ListComp]
  refine core warm hp hN I hl ok hg ht he hs h fun D C t m G J q hn f => ⟨m, hn, fun h' sb => ⟨.ref D, G, ?_, rfl, q⟩⟩
  exact J.turned (t' := t.toks) (fun b o hb e => (sb.2 b hb).trans e) f.1 f.2.1 f.2.2.2.1 f.2.2.2.2.1 f.2.2.2.2.2
/-- name = [..], the name a local, on one line -/
theorem ps_setLcH {i : Nat} {y : Str} {py : Pos} {elt tg iter : Expr} {ifs : List Expr} {scope : Scope} {own : List (Str × Nat)} {pos spos : Pos} {tl : TE} {g : TG} {tt : TT} {te : TE} (warm : Hot1 X.A p) (hp : p ∈ X.pn) (hN : X.N.Nodup) (hy : X.N[i]? = some y) (loc : X.env.scope.names.lookup y = some .local)
    (sw : swapsWith (.ListComp elt [⟨tg, iter, ifs, 0⟩] scope pos) (some (.Name y py)) spos.line X.env = pure true) (hl : PE X iter tl) (ok : BlkOk X.N X.env.scope scope own)
    (hg : ∀ (s : Shared) (H : Hp) (C : Addr) (cl : List (Str × Addr)) (fp : List Addr), PG (blkP X p s H scope (compEnvC scope cl C X.env) fp) tg g) (ht : ∀ (s : Shared) (H : Hp) (C : Addr) (cl : List (Str × Addr)) (fp : List Addr), PTs (blkP X p s H scope (compEnvC scope cl C X.env) fp) ifs tt)
    (he : ∀ (s : Shared) (H : Hp) (C : Addr) (cl : List (Str × Addr)) (fp : List Addr), PE (blkP X p s H scope (compEnvC scope cl C X.env) fp) elt te) (hs : ∀ x, foldedSetIterable iter X.env x = pure x := by intro _; rfl) :
    PS X (.Assign [.Name y py] (.ListComp elt [⟨tg, iter, ifs, 0⟩] scope pos) spos) (tAsg (tLc (iList X.K tl) g tt te (own.map (·.2))) (gName i)) := by
  constructor
  intro pins s σ H D I h
  rw [exec_Assign_Name_used _ _ _ _ sw]
  apply wpAny_bind
  apply wpAny_standAt
  apply wpAny_bind
  have now : tLc (iList X.K tl) g tt te (own.map (·.2)) σ H (fun x H1 => gName i x σ H1 D.nx) := h
  show wpAny _ X.A (do let _ ← comprehension (.ListComp elt [⟨tg, iter, ifs, 0⟩] scope pos) scope X.env (firstIterPos [⟨tg, iter, ifs, 0⟩] pos) (newList []) false (eval iter X.env) (some (assign (.Name y py) X.env))) _ _ s
  apply wpAny_bind
  refine thn (core (Qf := fun _ t => SP X pins D .next t) warm hp hN I hl ok hg ht he hs now fun L C t m G J q hn f => ?_) fun _ t hq => wpAny_pure (wpAny_pure hq)
  refine wpAny_assign_Name (store_ok2 (v := V.ref L) J hN hy (.inl loc) rfl (fun s2 J2 ⟨a, sb, ha⟩ => ?_) (.inr loc))
  have ne : C ≠ a := ha.elim (fun z => by rw [z]; exact f.2.1) fun z e => f.2.2.2.2.1 y a z e.symm
  exact ⟨m, hn.sameBut sb ne, fun h3 sb3 => ⟨_, G, J2.turned (t' := s2.toks) (fun b o hb e => (sb3.2 b hb).trans e) f.1 f.2.1 f.2.2.2.1 f.2.2.2.2.1 f.2.2.2.2.2, q⟩⟩
/-- (a, b, ..) as a target -/
theorem pg_tupH {es : List Expr} {k : Nat} {pos : Pos} {t : TGs} {n : Nat} (hot : HotC X) (h : PGs X es t) (hn : (assignEach es X.env).length = n := by rfl) (hst : (assignEach es X.env).findIdx? (·.1) = none := by rfl) : PG X (.Tuple es k pos) (gTup X.K n t) := by
  constructor
  intro pins s σ H v u Q I r ⟨a, xs, e1, sq, len, now⟩
  subst e1
  cases r
  obtain ⟨its, rv, isT, _⟩ := I.tuple sq
  obtain ⟨q, ⟨handled, vs0, d0, c0⟩, hq⟩ := hot
  rw [assign_Tuple]
  refine wpAny_bind (wpAny_standAt (tup_unpack handled (I.pin q (List.mem_append_left _ hq)).1 d0 c0 isT (by simp [hn, ← len, rv.length]) hst fun h' kp => ?_))
  exact h.run pins _ σ H xs _ Q (I.kept (t' := s.toks) kp) (by simpa using rv) now
end
end HotLc

/-! math.comb and math.factorial of ints that are not great. -/
namespace MathC
open PySem PySem.Spec PyProof.Rows L2
def rComb : List V → Hp → VK → Prop := fun vs H Q => ∃ a b : Int, vs = [.int a, .int b] ∧ 0 ≤ a ∧ a ≤ 18000 ∧ 0 ≤ b ∧ Q (.int (PySem.W.mcComb a b)) H
def rFact : List V → Hp → VK → Prop := fun vs H Q => ∃ a : Int, vs = [.int a] ∧ 0 ≤ a ∧ a ≤ 20000 ∧ Q (.int ((Builtin.Math.factorialNat a.toNat : Nat) : Int)) H
variable {X : Cx}
theorem cr_comb : CallR X (.builtin "math.comb") rComb := by
  intro pins s σ H vs us Q I r ⟨a, b, e, a0, a1, b0, q⟩
  subst e
  obtain ⟨t, u, rfl⟩ := Vals.int2 r
  exact PySem.W.mc_comb a0 b0 (by omega) (.inr a1) fun _ => ⟨.int _, H, I.tok _, ⟨_, rfl⟩, q⟩
theorem cr_fact : CallR X (.builtin "math.factorial") rFact := by
  intro pins s σ H vs us Q I r ⟨a, e, a0, a1, q⟩
  subst e
  obtain ⟨u, rfl, ru⟩ := vals1 r
  obtain ⟨t, rfl⟩ := ru
  exact PySem.W.mc_factorial a0 a1 fun _ => ⟨.int _, H, I.tok _, ⟨_, rfl⟩, q⟩
/-- n over 2 -/
theorem comb2 {a : Int} (h : 2 ≤ a) : 1 ≤ PySem.W.mcComb a 2 ∧ PySem.W.mcComb a 2 ≤ a * a := by
  refine ⟨PySem.W.mcComb_pos (by decide) h, ?_⟩
  have z := PySem.W.mcComb_two (a := a) (by omega)
  have y : a * (a - 1) ≤ a * a := Int.mul_le_mul_of_nonneg_left (by omega) (by omega)
  have w : 0 ≤ a * a := Int.mul_nonneg (by omega) (by omega)
  omega
end MathC

/-! X(e), an own exception of one argument of any form, without a context. -/
namespace MkN
open PySem PySem.Spec PyProof.Rows L2
variable {X : Cx} {C : Addr} {bmB : List Value} {B newId initId : String} {x : Str} {e : Expr} {ta : TE} {p pos : Pos}
theorem pmk_one (F : ExcBaseFacts B newId initId bmB) (q : PySem.W.excIn X.K C bmB newId = true) (gC : X.mg x = some (.ref C)) (kC : PySem.W.keepIn X.K (.ref C) = true) (r : Raises X (.ref C)) (hg : Gl X x) (he : PE X e ta) (hdb : (x == ("__debug__" : Str)) = false := by decide)
    (st : starEach [e] X.env = (false, eval e X.env) :: starEach [] X.env := by rfl) (np : (backTo pos (starEach [] X.env)).any (·.1) = false := by rfl) :
    L2N.PMk X (.Call (.Name x p) [e] [] pos) (fun σ H Q => ta σ H fun _ H1 => Q (.ref C) none H1) := by
  intro pins s σ H Q I h
  have ha : PA X [e] (tCons ta tNil) := pa_cons he pa_nil st
  have now : tCons ta tNil σ H fun vs H1 => vs.length = 1 ∧ Q (.ref C) none H1 := (show ta σ H fun v H1 => ([v] : List V).length = 1 ∧ Q (.ref C) none H1 from by
    have e : (fun (v : V) (H1 : Hp) => ([v] : List V).length = 1 ∧ Q (.ref C) none H1) = fun (_ : V) (H1 : Hp) => Q (.ref C) none H1 := by
      funext v H1
      exact propext ⟨fun z => z.2, fun z => ⟨rfl, z⟩⟩
    rw [e]
    exact h)
  apply wpAny_Call_Name_kw (ld_glob I hg gC ?_ hdb)
  refine PySem.W.callWith_K (h₀ := X.base) I.ok.mod.kin kC (thn (ha.run pos pins s σ H _ I now) fun us s1 ⟨vs, H1, J, rel, one, due⟩ => ⟨J.kIn, ?_⟩) st np
  obtain ⟨bm, N, nm, qn, bs, hdct, sn, sub, ab, col, dd, k0, k1, k2, k3, k5, mN, hC, hN, hni, T⟩ := exc_obj J.kIn q
  refine wpAny_call_exc_subT F T hC hN hni (fun h' a hm => L2N.mk_of J hm r due (J.hok.gone hm.new)) ?_
  show us.length ≤ sizeLine
  rw [← rel.length, one, sizeLine_eq]
  decide
end MkN

/-! {elt for target in iterable if test}, the elements tuples of ints; len of it. -/
namespace SetT
open PySem PySem.Spec PyProof.Rows L2 LcM
section
variable {X : Cx} {pins : List (Addr × Obj)} {σ : L2.St} {H : Hp} {s : Shared}
/-- one tuple is laid by the comprehension -/
theorem put_tup {Er : Value → Shared → Prop} {D b : Addr} {L : List (Addr × List Int)} {k : List Int} {u : Value} {Qu : Value → Shared → Prop} (room : X.A.units + 64 < cLine) (I : Inv X pins σ H s) (at_D : H D = some (SetTO X.prog X.w D L)) (few : L.length + 1 < 64)
    (at_b : SqT X.K H b (k.map V.int)) (each : ∀ p ∈ L, SqT X.K H p.1 (p.2.map V.int)) (ru : RelV (.ref b) u)
    (go : ∀ s' L', (k ∈ L.map (·.2) → L' = L) → (k ∉ L.map (·.2) → L'.Perm ((b, k) :: L)) → Inv X pins σ (upd H D (SetTO X.prog X.w D L')) s' → Qu .none s') :
    wpAny (model X.prog X.w) X.A (call (.builtin "set.add") [.ref D, u]) Qu Er s := by
  obtain rfl : u = Value.ref b := ru
  have R0 : SetT0 X.prog X.w s.heap D L := (I.hok D _ at_D).1
  obtain ⟨es, ep, t, R⟩ := R0.full fun p hp => I.isT (each p hp)
  have hx := I.isT at_b
  obtain ⟨o, ho, hex, hd⟩ := R.ob
  have hT : s.TypeIs (.ref D) "set" := ⟨o, ho, hex.1⟩
  refine wpAny_call_entry PySem.F.slot_set_add hT PySem.F.entry_set_add ?_ (PySem.F.args_set_add_2 _ _)
  unfold Builtin.«set.add»
  unfold Builtin.Frozenset.oneOther
  simp only [List.isEmpty_nil, bind_assoc]
  unfold Builtin.Frozenset.addrOf
  unfold setAdd
  refine wpAny_bind (wpAny_pure ?_)
  try dsimp only
  refine wpAny_bind (wpAny_pure ?_)
  try dsimp only
  refine wpAny_bind (wpAny_holding (wpAny_bind (wpAny_pyHash_tuple (by first | (show X.A.units + 1 < cLine; omega) | (show X.A.units < cLine; omega)) hx ?_)))
  have R1 : SetTR X.prog X.w ({ s with toks := s.toks + (k.length + 1) } : Shared).heap D L es ep t := R
  refine add_at R1 hx (by first | (show X.A.units + 1 < cLine; omega) | (show X.A.units < cLine; omega)) few fun bb h' L' es' ep' t' sb R2 c1 c2 => ?_
  exact wpAny_pure ⟨_, rfl, go _ L' c1 c2 (I.write (e := D) (t' := s.toks + (k.length + 1)) (by rw [at_D]; trivial) (.inl rfl) (fun b u hb hu => (sb.2 b hb).trans hu) ⟨_, R2.ob.choose_spec.1⟩ (setTO_new R2.t0))⟩
end
section
variable {X : Cx}
def tScT (X : Cx) (wi : TI) (g : TG) (tt : TT) (te : TE) (vs : List Nat) : TE := fun σ H Q => wi σ H fun J H1 => ∀ D, H1 D = none → ∃ W : Nat → Nat → Hp → Prop, (∃ m, W 0 m (upd H1 D (SetTO X.prog X.w D []))) ∧ ∀ i m H, W i m H →
  (J.stop i H ∧ Q (.ref D) H) ∨ (J.go i H ∧ ∃ Nx : Hp → Prop, (∀ H', Nx H' → ∃ m', m' < m ∧ W (i + 1) m' H') ∧ ∀ x H', J.yld i H x H' → g x (wipe σ vs) H' fun σ2 H2 => wipe σ2 vs = wipe σ vs ∧ tt σ2 H2 fun t H3 =>
    if t = true then te σ2 H3 fun y H4 => ∃ (b : Addr) (L : List (Addr × List Int)) (k : List Int), y = .ref b ∧ SqT X.K H4 b (k.map V.int) ∧ H4 D = some (SetTO X.prog X.w D L) ∧ (∀ p ∈ L, SqT X.K H4 p.1 (p.2.map V.int)) ∧ L.length + 1 < 64 ∧
      ∀ L', (k ∈ L.map (·.2) → L' = L) → (k ∉ L.map (·.2) → L'.Perm ((b, k) :: L)) → Nx (upd H4 D (SetTO X.prog X.w D L')) else Nx H3)
theorem scT_core {pins : List (Addr × Obj)} {s0 : Shared} {σ : L2.St} {H0 : Hp} {Q : VK} {ex tg iter : Expr} {ifs : List Expr} {scope : Scope} {own : List (Str × Nat)} {pos pos' : Pos} {wi : TI} {g : TG} {tt : TT} {te : TE} {use : Option (Value → Sem Unit)} {Qf : Value → Shared → Prop}
    (room : X.A.units + 64 < cLine) (calm : X.calm = true) (nd : X.N.Nodup) (I0 : Inv X pins σ H0 s0) (pi : PI X tg iter wi) (ok : BlkOk X.N X.env.scope scope own)
    (pgs : ∀ (s : Shared) (H : Hp) (C : Addr) (cl : List (Str × Addr)) (fp : List Addr), PG (X.blk s H scope (compEnvC scope cl C X.env) fp) tg g) (pts : ∀ (s : Shared) (H : Hp) (C : Addr) (cl : List (Str × Addr)) (fp : List Addr), PTs (X.blk s H scope (compEnvC scope cl C X.env) fp) ifs tt)
    (pes : ∀ (s : Shared) (H : Hp) (C : Addr) (cl : List (Str × Addr)) (fp : List Addr), PE (X.blk s H scope (compEnvC scope cl C X.env) fp) ex te)
    (fold : ∀ x, foldedSetIterable iter X.env x = pure x) (rd : tScT X wi g tt te (own.map (·.2)) σ H0 Q)
    (post : ∀ D C t ns G, Inv X pins σ G t → Q (.ref D) G → t.heap.Ns C ns → FpOk X pins G C → compPost (model X.prog X.w) X.A X.xe use Qf (.ref D) C (.ok .next) t) :
    wpAny (model X.prog X.w) X.A (comprehension (.SetComp ex [⟨tg, iter, ifs, 0⟩] scope pos) scope X.env pos' (newSet (.type "set")) false (eval iter X.env) use) Qf X.xe s0 := by
  have isFree : ∀ y ∈ scope.names, y.2 = .free → ∃ c, X.env.cells.lookup y.1 = some c := fun y hy ey => (ok.free y hy ey).elim (fun z => I0.ok.has _ (.inl z)) fun z => I0.ok.has _ (.inr z)
  refine wpAny_comprehension_free (use := use) rfl fold (closure_ok isFree) ok.kind (fun y hy ey => (ok.uniq y hy).trans (congrArg some ey)) (thn (pi.run pins s0 σ H0 _ I0 rd) fun _ sa ha => thn ha fun _ sb hb => ?_)
  obtain ⟨it, fp, tn, J, Hb, rfl, Ib, Tn, tn0, fb, q⟩ := hb
  refine PpSet.newSet_ok (newEnv_comp ?_)
  have free0 : Hb sb.heap.objs.size = none := Ib.hok.fresh (Nat.le_refl _)
  obtain ⟨W, ⟨m0, w0⟩, turn⟩ := q _ free0
  -- with the dict, empty
  obtain ⟨sc, esc⟩ : ∃ z : Shared, z = { sb with heap := sb.heap.push { cls := .type "set", dict := none, data := .set #[] 0 (.fresh 0 0 (!X.w.params.followText "set-order")) } } := ⟨_, rfl⟩
  obtain ⟨Hc, eHc⟩ : ∃ z : Hp, z = upd Hb sb.heap.objs.size (SetTO X.prog X.w sb.heap.objs.size []) := ⟨_, rfl⟩
  have Ic : Inv X pins σ Hc sc := by
    rw [esc, eHc]
    exact Ib.laid (t' := sb.toks) (fun b o z => Heap.get?_push_of_some _ z) (Nat.le_refl _) (setTO_new (setTR_fresh (Heap.get?_push_size _ rfl)).t0)
  have up : ∀ b o, sb.heap.get? b = some o → sc.heap.get? b = some o := fun b o z => by
    rw [esc]
    exact Heap.get?_push_of_some _ z
  have below : ∀ b ∈ fp, b < sb.heap.objs.size := fun b hb => let ⟨_, z, _⟩ := Tn.obj _ _ tn0 b hb; Heap.lt_size z
  have fc : ∀ b ∈ fp, FpOk X pins Hc b ∧ b < sc.heap.objs.size := fun b hb => by
    obtain ⟨o, z, _⟩ := Tn.obj _ _ tn0 b hb
    refine ⟨⟨?_, (fb b hb).2⟩, Heap.lt_size (up b o z)⟩
    rw [eHc, upd_ne (Nat.ne_of_lt (below b hb))]
    exact (fb b hb).1
  have tnc : tn 0 sc.heap := Tn.keep _ _ _ tn0 fun b _ o z => up b o z
  have Ie := block_start Ic ok nd fc
  obtain ⟨cells, ecl⟩ : ∃ z, z = cellsFrom (sc.heap.objs.size + 1) scope.names (cloFrom X.env.cells scope.names []) := ⟨_, rfl⟩
  have pg := pgs sc Hc sc.heap.objs.size cells fp
  have pt := pts sc Hc sc.heap.objs.size cells fp
  have pe := pes sc Hc sc.heap.objs.size cells fp
  rw [← ecl] at Ie
  rw [← esc]
  show codeAny _ _ (.compStart _ 0 (.ref it) (.ref sb.heap.objs.size) (compEnvC scope (cellsFrom (sc.heap.objs.size + 1) scope.names (cloFrom X.env.cells scope.names [])) sc.heap.objs.size X.env)) (compPost _ _ X.xe use Qf (.ref sb.heap.objs.size) sc.heap.objs.size) _
  rw [← ecl]
  have loc : (compEnvC scope cells sc.heap.objs.size X.env).locals = sc.heap.objs.size := rfl
  rw [← eHc] at w0
  have empty : ∀ b ∈ fp, Hc b = none := fun b hb => (fc b hb).1.1
  obtain ⟨sd, esd⟩ : ∃ z : Shared, z = { sc with heap := pushCells (sc.heap.push { cls := .type "dict", data := .dict #[] }) scope.names } := ⟨_, rfl⟩
  have tnd : tn 0 sd.heap := Tn.keep _ _ _ tnc fun b _ o z => by
    rw [esd]
    exact pushCells_keeps _ _ _ _ (Heap.get?_push_of_some _ z)
  rw [← esd] at Ie ⊢
  generalize compEnvC scope cells sc.heap.objs.size X.env = ce at Ie pg pt pe loc ⊢
  -- the iterator's own objects in the block
  have own_ok : ∀ {ρ : L2.St} {G : Hp} {t : Shared}, Inv (X.blk sc Hc scope ce fp) [] ρ G t → (∀ b ∈ fp, G b = none) → ∀ b ∈ fp, FpOk (X.blk sc Hc scope ce fp) [] G b := fun {ρ G t} J hn b hb =>
    ⟨hn b hb, (J.ok.exf b hb).1, J.ok.exfs b hb, .inl hb, fun y c z => (J.ok.exf b hb).2 y c z, fun p hp => (nomatch hp)⟩
  have run : codeAny (model X.prog X.w) X.A (.compLoop (.SetComp ex [⟨tg, iter, ifs, 0⟩] scope pos) 0 (.ref it) (.ref sb.heap.objs.size) ce) (compPost (model X.prog X.w) X.A X.xe use Qf (.ref sb.heap.objs.size) sc.heap.objs.size) sd := by
    refine PpSet.compLoopS_any (fun m t => ∃ i G, Inv (X.blk sc Hc scope ce fp) [] (wipe σ (own.map (·.2))) G t ∧ tn i t.heap ∧ (∀ b ∈ fp, G b = none) ∧ W i m G) ?_ m0 ⟨0, Hc, Ie, tnd, empty, w0⟩
    rintro m t ⟨i, G, J, tni, none_, wi_⟩
    rcases turn i m G wi_ with ⟨stop, fin⟩ | ⟨go, Nx, less, step⟩
    · refine thnF (Tn.done (X.blk sc Hc scope ce fp) rfl rfl rfl calm i [] t _ G (fun _ _ => False) J (own_ok J none_) tni stop) fun r t2 ⟨er, J2⟩ => ?_
      subst er
      have back : Inv X pins σ G t2 := Ic.call' (ch := fp) J2.os J2.base J2.hok J2.bare fun b hb => ⟨(fc b hb).1.2.2.2.1, (fc b hb).1.2.1, (fc b hb).1.2.2.2.2.1, (fc b hb).1.2.2.2.2.2⟩
      have noC : G sc.heap.objs.size = none := by
        have z : G ce.locals = none := J2.free
        rwa [loc] at z
      obtain ⟨ns, isNs, _⟩ := J2.loc
      have isNs' : t2.heap.Ns ce.locals ns := isNs
      rw [loc] at isNs'
      exact post _ _ t2 ns G back fin isNs' (Ic.fpOk (Nat.le_refl _) noC)
    · refine thnF (Tn.item (X.blk sc Hc scope ce fp) rfl rfl rfl calm i [] t _ G (fun _ _ => False) J (own_ok J none_) tni go) fun r t2 ⟨u, er, h2⟩ => ?_
      subst er
      refine thnF h2 fun _ t3 ⟨x, G3, J3, r3, y3, tn3, none3⟩ => ?_
      have K3 := J3.pinned (own_ok J3 none3) (Tn.obj _ _ tn3)
      refine thnF (pg.run _ t3 _ G3 x u _ K3 r3 (step x G3 y3)) fun _ t4 ⟨ρ4, G4, J4, same4, q4⟩ => ?_
      refine thnF (pt.run _ t4 ρ4 G4 _ J4 q4) fun yes t5 ⟨G5, J5, q5⟩ => ?_
      have next : ∀ {t' : Shared} {G' : Hp}, Inv (X.blk sc Hc scope ce fp) ([] ++ pinsAt fp t3.heap) ρ4 G' t' → Nx G' → ∃ m', m' < m ∧ ∃ i G, Inv (X.blk sc Hc scope ce fp) [] (wipe σ (own.map (·.2))) G t' ∧ tn i t'.heap ∧ (∀ b ∈ fp, G b = none) ∧ W i m' G := fun {t' G'} J' nx => by
        obtain ⟨m', lt, w'⟩ := less G' nx
        have held : ∀ b ∈ fp, ∀ o, t3.heap.get? b = some o → t'.heap.get? b = some o ∧ G' b = none := fun b hb o z =>
          have p := J'.pin (b, o) (List.mem_append_right _ (List.mem_append_right _ (mem_pinsAt hb z)))
          ⟨p.1, p.2.1⟩
        have len : (wipe σ (own.map (·.2))).length = ρ4.length := by rw [← same4, wipe_length]
        refine ⟨m', lt, i + 1, G', (J'.unpinned (pins := [])).weak len (fun j v z => ?_), Tn.keep _ _ _ tn3 fun b hb o z => (held b hb o z).1, fun b hb => ?_, w'⟩
        · rw [← same4] at z
          exact (wipe_some z).1
        · obtain ⟨o, z, _⟩ := Tn.obj _ _ tn3 b hb
          exact (held b hb o z).2
      cases yes with
      | false =>
        simp only [Bool.false_eq_true, if_false] at q5 ⊢
        exact next J5 q5
      | true =>
        simp only [if_true] at q5 ⊢
        refine thnF (pe.run _ t5 ρ4 G5 _ J5 q5) fun ku t6 ⟨yk, G6, J6, r6, b, L, k, ek, at_b, at_D, each, few, nx⟩ => ?_
        subst ek
        exact put_tup (X := X.blk sc Hc scope ce fp) room J6 at_D few at_b each r6 fun t7 L' c1 c2 J7 => next J7 (nx L' c1 c2)
  exact PpSet.codeAny_compStart_set run (Tn.self X.A 0 _ _ _ tnd run)
/-- as a value -/
theorem pe_scT {ex tg iter : Expr} {ifs : List Expr} {scope : Scope} {own : List (Str × Nat)} {pos : Pos} {wi : TI} {g : TG} {tt : TT} {te : TE} (room : X.A.units + 64 < cLine) (calm : X.calm = true) (nd : X.N.Nodup) (pi : PI X tg iter wi) (ok : BlkOk X.N X.env.scope scope own)
    (pgs : ∀ (s : Shared) (H : Hp) (C : Addr) (cl : List (Str × Addr)) (fp : List Addr), PG (X.blk s H scope (compEnvC scope cl C X.env) fp) tg g) (pts : ∀ (s : Shared) (H : Hp) (C : Addr) (cl : List (Str × Addr)) (fp : List Addr), PTs (X.blk s H scope (compEnvC scope cl C X.env) fp) ifs tt)
    (pes : ∀ (s : Shared) (H : Hp) (C : Addr) (cl : List (Str × Addr)) (fp : List Addr), PE (X.blk s H scope (compEnvC scope cl C X.env) fp) ex te)
    (fold : ∀ x, foldedSetIterable iter X.env x = pure x := by intro _; rfl) : PE X (.SetComp ex [⟨tg, iter, ifs, 0⟩] scope pos) (tScT X wi g tt te (own.map (·.2))) := by
  refine ⟨fun pins s0 σ H0 Q I0 rd => ?_⟩
  rw [PpSet.eval_SetComp]
  refine scT_core room calm nd I0 pi ok pgs pts pes fold rd fun D C t ns G J fin isNs ⟨f0, f1, f2, f3, f4, f5⟩ => ⟨ns, isNs, fun h2 sb2 => ⟨.ref D, G, J.turned (t' := t.toks) (fun b o ne z => (sb2.2 b ne).trans z) f0 f1 f3 f4 f5, rfl, fin⟩⟩

/-- len of such a set -/
def rLenT (P : Program) (w : World) : List V → Hp → VK → Prop := fun xs H Q => ∃ (D : Addr) (L : List (Addr × List Int)), xs = [.ref D] ∧ H D = some (SetTO P w D L) ∧ Q (.int L.length) H
theorem call_lenT : CallR X (.builtin "len") (rLenT X.prog X.w) := by
  intro pins s σ H xs us Q I r h
  obtain ⟨D, L, rfl, at_D, q⟩ := h
  rw [Vals.ref1 r]
  have R0 : SetT0 X.prog X.w s.heap D L := (I.hok D _ at_D).1
  obtain ⟨es, ep, t, ⟨o, ho, hex, hd⟩, rows, tab, _, _, _, room, few⟩ := R0.ex
  have hn : es.size = L.length := by
    have z := congrArg List.length rows
    unfold rowsOf at z
    rw [Array.length_toList, List.length_map] at z
    exact z
  have hf : t.fits es.size = true := by
    have z := tab.sz
    rw [List.length_map] at z
    unfold SetTable.fits
    unfold SetTable.fill
    rw [tab.dm, Bool.and_eq_true, beq_iff_eq, decide_eq_true_eq]
    exact ⟨by omega, (by show t.place.size + 0 ≤ t.mask; omega)⟩
  refine call_len_set ho hex hd hf (by rw [hn] <;> omega) ⟨.int L.length, H, I.tok _, ⟨_, by rw [hn]⟩, q⟩
end
section
variable {P : Program} {w : World} {K : PySem.W.Frag} {a : Addr} {xs : List V} {g : TG} {te : TE} {vs : List Nat} {σ : L2.St} {H0 : Hp} {D : Addr} {Qd : Hp → Prop}
theorem set_ne {H : Hp} {b : Addr} {L : List (Addr × List Int)} {ys : List V} (h : H b = some (.tup ys)) (at_D : H D = some (SetTO P w D L)) : b ≠ D := ne_of h at_D fun z => by
  unfold SetTO at z
  cases z
/-- over a list, the elements unlike one another -/
theorem sc_listU (R : Nat → List Int) (un : ∀ i j, i < j → j < xs.length → R i ≠ R j) (few : xs.length < 60) (hD : H0 D = none) (hx : SqL K H0 a xs)
    (turn : ∀ (i : Nat) (x : V) (H : Hp) (Rk : V → Hp → Prop), xs[i]? = some x → Grows H0 H → (∀ b H5, Grows H H5 → H5 b = some (.tup ((R i).map V.int)) → Rk (.ref b) H5) → g x (wipe σ vs) H fun σ2 H2 => wipe σ2 vs = wipe σ vs ∧ te σ2 H2 fun y H4 => Rk y H4)
    (done : ∀ H L, Grows H0 H → H D = some (SetTO P w D L) → L.length = xs.length → Qd H) :
    ∃ W : Nat → Nat → Hp → Prop, (∃ m, W 0 m (upd H0 D (SetTO P w D []))) ∧ ∀ i m H, W i m H →
      ((Itl K a).stop i H ∧ Qd H) ∨ ((Itl K a).go i H ∧ ∃ Nx : Hp → Prop, (∀ H', Nx H' → ∃ m', m' < m ∧ W (i + 1) m' H') ∧ ∀ x H', (Itl K a).yld i H x H' → g x (wipe σ vs) H' fun σ2 H2 => wipe σ2 vs = wipe σ vs ∧ tYes σ2 H2 fun t H3 =>
        if t = true then te σ2 H3 fun y H4 => ∃ (b : Addr) (L : List (Addr × List Int)) (k : List Int), y = .ref b ∧ SqT K H4 b (k.map V.int) ∧ H4 D = some (SetTO P w D L) ∧ (∀ p ∈ L, SqT K H4 p.1 (p.2.map V.int)) ∧ L.length + 1 < 64 ∧
          ∀ L', (k ∈ L.map (·.2) → L' = L) → (k ∉ L.map (·.2) → L'.Perm ((b, k) :: L)) → Nx (upd H4 D (SetTO P w D L')) else Nx H3) := by
  let inv : Nat → Hp → Prop := fun i H => Grows H0 H ∧ ∃ L, H D = some (SetTO P w D L) ∧ L.length = i ∧ (∀ p ∈ L, ∃ j, j < i ∧ p.2 = R j) ∧ ∀ p ∈ L, H p.1 = some (.tup (p.2.map V.int))
  refine ⟨fun i m H => m = xs.length - i ∧ i ≤ xs.length ∧ inv i H, ⟨_, rfl, Nat.zero_le _, Grows.new hD, [], upd_same, rfl, (fun _ z => nomatch z), fun _ z => nomatch z⟩, ?_⟩
  rintro i m H ⟨rfl, hi, gr, L, at_D, len, old, tup⟩
  rcases Nat.lt_or_ge i xs.length with lt | ge
  · have ex : xs[i]? = some xs[i] := List.getElem?_eq_getElem lt
    refine .inr ⟨⟨xs, _, gr.seq hx, ex⟩, inv (i + 1), fun H' p' => ⟨xs.length - (i + 1), by omega, rfl, lt, p'⟩, fun v H' y => ?_⟩
    obtain ⟨rfl, y⟩ := y
    have nw : R i ∉ L.map (·.2) := fun z => by
      obtain ⟨p, hp, e⟩ := List.mem_map.mp z
      obtain ⟨j, hj, ej⟩ := old p hp
      exact un j i hj lt (ej.symm.trans e)
    rw [yes_eq (A := fun σ2 => wipe σ2 vs = wipe σ vs)]
    refine turn i v H' _ (y xs (gr.seq hx)) gr fun b H5 s5 hb => ⟨b, L, R i, rfl, SqT.of hb, s5 _ _ at_D, fun p hp => SqT.of (s5 _ _ (tup p hp)), by omega, fun L' _ c2 => ?_⟩
    have pm := c2 nw
    refine ⟨fun c o e => ?_, L', upd_same, by rw [pm.length_eq, List.length_cons, len], fun p hp => ?_, fun p hp => ?_⟩
    · rw [upd_ne (ne_of_none e hD)]
      exact s5 _ _ (gr _ _ e)
    · rcases List.mem_cons.mp (pm.mem_iff.mp hp) with z | z
      · exact ⟨i, Nat.lt_succ_self i, by rw [z]⟩
      · obtain ⟨j, hj, e⟩ := old p z
        exact ⟨j, Nat.lt_succ_of_lt hj, e⟩
    · have at5 : H5 p.1 = some (.tup (p.2.map V.int)) := by
        rcases List.mem_cons.mp (pm.mem_iff.mp hp) with z | z
        · rw [z]
          exact hb
        · exact s5 _ _ (tup p z)
      rw [upd_ne (set_ne at5 (s5 _ _ at_D))]
      exact at5
  · have e : i = xs.length := by omega
    subst e
    exact .inl ⟨⟨xs, gr.seq hx, Nat.le_refl _⟩, done H L gr at_D len⟩
end
end SetT

/-! for k, v in d.items(), the keys of d tuples; d is locked from here on. -/
namespace ItT
open PySem PySem.Spec PyProof.Rows L2
section
variable {X : Cx} {pins : List (Addr × Obj)} {σ : L2.St} {H : Hp} {s : Shared} {d : Addr} {o : Obj}
theorem frz_all {kvs : List (List L2.Key × V)} (I : Inv X pins σ H s) (h : H d = some (.frz o (.dT kvs))) :
    (d == sysModules) = false ∧ s.heap.get? d = some o ∧ o.ExactDict ∧ ∃ (es : Array DictEntry) (ep : Nat), o.data = .dict es ep ∧ es.size = kvs.length ∧
      ∀ (i : Nat) (k : List L2.Key) (v : V), kvs[i]? = some (k, v) → ∃ (en : DictEntry) (q : Addr), es[i]? = some en ∧ en.key = .ref q ∧ H q = some (.tup (k.map kV)) ∧ RelV v en.val := by
  have inv := I.hok d _ h
  obtain ⟨raw, _, notSys, ps, both, o2, rows, nth, same, exact_d, dat, ent, _⟩ := inv
  have eo : some o2 = some o := same.symm.trans raw
  cases eo
  have szs := And.intro (size_of_entries ent) (Paired.length both)
  refine ⟨notSys, raw, exact_d, rows, nth, dat, szs.1.trans szs.2.symm, ?_⟩
  intro i k v at_i
  obtain ⟨w, ew, at_w, key_ok, val_ok⟩ := paired_get both at_i
  have row := entry_at ent i
  rw [ew] at row
  exact ⟨_, w.2.1, row, rfl, key_ok, val_ok⟩
end
/-- the pairs, each a new tuple of the key's tuple and the value -/
def ItiT (d : Addr) (o : Obj) (kvs : List (List L2.Key × V)) : It :=
  ⟨fun i H => H d = some (.frz o (.dT kvs)) ∧ i < kvs.length, fun i H x H' => ∃ T q k v, kvs[i]? = some (k, v) ∧ H q = some (.tup (k.map kV)) ∧ x = .ref T ∧ H T = none ∧ H' = upd H T (.tup [.ref q, v]), fun i H => H d = some (.frz o (.dT kvs)) ∧ kvs.length ≤ i⟩
theorem turn_itemsT {P : Program} {w : World} {K : PySem.W.Frag} {d : Addr} {o : Obj} {es : Array DictEntry} {ep : Nat} {kvs : List (List L2.Key × V)} {elts : List Expr} {kk : Nat} {tpos : Pos} (it : Addr) (hod : o.data = .dict es ep) :
    Turn P w K (.Tuple elts kk tpos) (ItiT d o kvs) [it] it (fun i h => ∃ ok ov, IsItemIter h it d i kvs.length ep ok ov) where
  mem := List.mem_singleton.mpr rfl
  obj := fun _ _ ⟨_, _, e⟩ b hb => by
    rw [List.mem_singleton.mp hb]
    exact ⟨_, e, fun _ z => nomatch z⟩
  keep := fun _ _ _ ⟨x, y, e⟩ stays => ⟨x, y, stays it (List.mem_singleton.mpr rfl) _ e⟩
  item := fun X eP ew eK calm i pins s σ G E J free st at_d => by
    subst eP ew eK
    obtain ⟨here, more⟩ := at_d
    obtain ⟨_, raw, exact_d, rows, nth, dat, size, ent⟩ := frz_all J here
    obtain ⟨z1, z2⟩ := dict_ep hod dat
    subst z1 z2
    obtain ⟨kv, ekv⟩ : ∃ p, kvs[i]? = some p := ⟨kvs[i], List.getElem?_eq_getElem more⟩
    obtain ⟨en, q, een, ekey, tup_q, rel⟩ := ent i kv.1 kv.2 ekv
    obtain ⟨x, y, at_it⟩ := st
    rw [← size] at at_it
    have inside : i < rows.size := by rw [size]; exact more
    have same : rows[i] = en := Option.some.inj ((Array.getElem?_eq_getElem inside).symm.trans een)
    have below : it < s.heap.objs.size := Heap.lt_size at_it
    refine DT.nextI at_it ⟨o, raw, exact_d, dat⟩ inside fun h1 out made _ stays => ?_
    rw [same] at out made
    refine ⟨_, rfl, wpAny_letOwnedTupleGo_items (s := { s with heap := h1 }) out fun h2 at_it2 sb => ?_⟩
    have made2 : h2.get? s.heap.objs.size = some { cls := .type "tuple", data := .seq #[en.key, en.val] } := (sb.2 _ (Nat.ne_of_gt below)).trans made
    have pair : ObjOk X.prog X.w (upd G s.heap.objs.size (.tup [.ref q, kv.2])) h2 s.heap.objs.size (.tup [.ref q, kv.2]) :=
      ⟨by show 2 ≤ sizeLine; decide, [en.key, en.val], .cons (show RelV (.ref q) en.key from ekey) (.cons rel .nil), ⟨_, made2, rfl, _, rfl⟩⟩
    have alone : ∀ {b : Addr}, b ∉ [it] → b ≠ it := fun hb z => hb (List.mem_singleton.mpr z)
    refine ⟨.ref s.heap.objs.size, _, J.turnedNew (t' := s.toks) (ch := [it]) (fun b ob hb e => (sb.2 b (alone hb)).trans (stays b ob (alone hb) e)) free (Nat.le_refl _) pair, rfl, ⟨_, q, kv.1, kv.2, ekv, tup_q, rfl, J.hok.fresh (Nat.le_refl _), rfl⟩, ⟨en.key, en.val, by rw [← size]; exact at_it2⟩, fun b hb => ?_⟩
    rw [List.mem_singleton.mp hb, upd_ne (Nat.ne_of_lt below)]
    exact (free it (List.mem_singleton.mpr rfl)).1
  done := fun X eP ew eK calm i pins s σ G E J free st at_d => by
    subst eP ew eK
    obtain ⟨here, none_left⟩ := at_d
    obtain ⟨f0, f1, f2, f3, f4, f5⟩ := free it (List.mem_singleton.mpr rfl)
    obtain ⟨_, raw, exact_d, rows, nth, dat, size, _⟩ := frz_all J here
    obtain ⟨z1, z2⟩ := dict_ep hod dat
    subst z1 z2
    obtain ⟨x, y, at_it⟩ := st
    rw [← size] at at_it
    exact DT.endI (J.ok.hd calm) at_it ⟨o, raw, exact_d, dat⟩ (by rw [size]; exact none_left) fun h1 eb => ⟨rfl, J.turned (t' := s.toks) (fun b ob hb e => eb b ob hb e) f0 f1 f3 f4 f5⟩
  self := fun _ _ _ _ _ ⟨_, _, e⟩ h => PySem.W.kcp_self e h
def iItemsT (td : TE) : TI := fun σ H R => td σ H fun x H1 => ∃ d kvs, x = .ref d ∧ H1 d = some (.dT kvs) ∧ ∀ o, R (ItiT d o kvs) (upd H1 d (.frz o (.dT kvs)))
section
variable {X : Cx} {tg e : Expr} {td : TE} {apos cpos : Pos}
theorem pi_itemsT {elts : List Expr} {kk : Nat} {tpos : Pos} (he : PE X e td) (hbase : attributeBase e "items" X.env (eval e X.env) = eval e X.env := by rfl) (hline : (apos.endLine == cpos.line) = true := by rfl) :
    PI X (.Tuple elts kk tpos) (.Call (.Attribute e "items" apos) [] [] cpos) (iItemsT td) := by
  refine ⟨fun pins s σ H R I h => ?_⟩
  refine wpAny_Call_method (T := "dict") (id := "dict.items") hbase rfl hline PySem.F.plainAttrs_dict PySem.F.slot_dict_items PySem.F.type_dict_items (thn (he.run pins s σ H _ I h) fun u s1 ⟨x, H1, I1, rx, d, kvs, ex, hd1, q⟩ => ?_)
  subst ex
  obtain rfl : u = Value.ref d := rx
  obtain ⟨o, I0⟩ := I1.lock hd1 (by trivial)
  have hd : upd H1 d (.frz o (.dT kvs)) d = some (.frz o (.dT kvs)) := upd_same
  have q := q o
  obtain ⟨hs, hgd, hx, es, ep, hdt, hsz, ent⟩ := frz_all I0 hd
  have raw : DT.Raw s1.heap d es ep := ⟨o, hgd, hx, hdt⟩
  refine ⟨raw.typeIs, ?_, ?_⟩
  · intro b eb
    cases eb
    exact ⟨o, hgd, hx.2.1⟩
  have I2 : Inv X pins σ (upd H1 d (.frz o (.dT kvs))) { s1 with heap := s1.heap.push { cls := .type "dict_items", data := .fields #[.ref d] } } := I0.kept (t' := s1.toks) fun b ob q => Heap.get?_push_of_some _ q
  have fin : wpAny (model X.prog X.w) X.A (pyIter (.ref s1.heap.objs.size)) (PIE X pins σ (.Tuple elts kk tpos) R) X.xe { s1 with heap := s1.heap.push { cls := .type "dict_items", data := .fields #[.ref d] } } := by
    refine DT.iterI (d := d) (es := es) (ep := ep) ⟨_, Heap.get?_push_size _ rfl, rfl, rfl⟩ (raw.push _) (pi_one (tk := s1.toks) I2 _ (turn_itemsT _ hdt) ⟨.none, .none, ?_⟩ q)
    rw [← hsz]
    exact Heap.get?_push_size _ rfl
  show wpAny _ _ (callWith cpos (.builtin "dict.items") [.ref d] [] []) _ X.xe s1
  exact method_meetsIn PySem.F.slot_dict_items PySem.F.entry_dict_items rfl (PySem.evalArgs_none ⟨rfl, raw.typeIs, PySem.F.args_dict_items_1 _, _, DT.meetsItems (es := es) (ep := ep) hs, raw, fin⟩)
end
/-- a loop over such pairs -/
theorem for_itemsT {d : Addr} {o : Obj} {kvs : List (List L2.Key × V)} {g : TG} {σ : L2.St} {H0 : Hp} {tb : TS} {Dn : Ends} (Pv : Nat → L2.St → Hp → Prop) (h0 : Pv 0 σ H0) (hl : ∀ i σ H, Pv i σ H → H d = some (.frz o (.dT kvs)))
    (hs : ∀ (i : Nat) (k : List L2.Key) (v : V) (T q : Addr) (σ : L2.St) (H : Hp), kvs[i]? = some (k, v) → Pv i σ H → H T = none → H q = some (.tup (k.map kV)) → g (.ref T) σ (upd H T (.tup [.ref q, v])) fun σ2 H2 => tb { Dn with nx := Pv (i + 1), ct := Pv (i + 1), bk := Dn.nx } σ2 H2) (hd : ∀ σ H, Pv kvs.length σ H → Dn.nx σ H) :
    ∃ W : Nat → Nat → L2.St → Hp → Prop, (∃ m, W 0 m σ H0) ∧ ∀ i m σ H, W i m σ H →
      ((ItiT d o kvs).stop i H ∧ Dn.nx σ H) ∨ ((ItiT d o kvs).go i H ∧ ∃ N : L2.St → Hp → Prop, (∀ σ' H', N σ' H' → ∃ m', m' < m ∧ W (i + 1) m' σ' H') ∧ ∀ v H', (ItiT d o kvs).yld i H v H' → g v σ H' fun σ2 H2 => tb { Dn with nx := N, ct := N, bk := Dn.nx } σ2 H2) := by
  refine ⟨fun i m σ H => m = kvs.length - i ∧ i ≤ kvs.length ∧ Pv i σ H, ⟨_, rfl, Nat.zero_le _, h0⟩, ?_⟩
  rintro i m σ H ⟨rfl, hi, pv⟩
  have qx := hl i σ H pv
  rcases Nat.lt_or_ge i kvs.length with lt | ge
  · refine .inr ⟨⟨qx, lt⟩, Pv (i + 1), fun σ' H' p' => ⟨kvs.length - (i + 1), by omega, rfl, lt, p'⟩, fun v H' y => ?_⟩
    obtain ⟨T, q, k, u, ek, eq, rfl, hT, rfl⟩ := y
    exact hs i k u T q σ H ek pv hT eq
  · have e : i = kvs.length := by omega
    subst e
    exact .inl ⟨⟨qx, Nat.le_refl _⟩, hd σ H pv⟩
end ItT

/-! sorted(list of lists of ints, key=len). -/
namespace LcM
open PySem PySem.Spec PyProof PyProof.Rows L2 SortR
theorem perm_of_map {α β : Type} (f : α → β) {ps qs : List β} (h : ps.Perm qs) : ∀ {bs : List α}, qs = bs.map f → ∃ cs : List α, cs.Perm bs ∧ ps = cs.map f := by
  induction h with
  | nil =>
    intro bs e
    cases bs with
    | nil => exact ⟨[], .nil, rfl⟩
    | cons _ _ => cases e
  | cons x _ ih =>
    intro bs e
    cases bs with
    | nil => cases e
    | cons b bs =>
      rw [List.map_cons] at e
      obtain ⟨e1, e2⟩ := List.cons.inj e
      obtain ⟨cs, p, q⟩ := ih e2
      exact ⟨b :: cs, p.cons b, by rw [List.map_cons, ← q, e1]⟩
  | swap x y l =>
    intro bs e
    match bs, e with
    | [], e => cases e
    | [_], e => cases e
    | b :: c :: bs, e =>
      rw [List.map_cons, List.map_cons] at e
      obtain ⟨e1, e2⟩ := List.cons.inj e
      obtain ⟨e3, e4⟩ := List.cons.inj e2
      exact ⟨c :: b :: bs, .swap b c bs, by rw [List.map_cons, List.map_cons, ← e1, ← e3, ← e4]⟩
  | trans _ _ ih1 ih2 =>
    intro bs e
    obtain ⟨cs, p, q⟩ := ih2 e
    obtain ⟨ds, p2, q2⟩ := ih1 q
    exact ⟨ds, p2.trans p, q2⟩
theorem vals_refs : ∀ cs : List (Addr × List Int), Vals (cs.map fun b => V.ref b.1) (cs.map fun b => Value.ref b.1)
  | [] => .nil
  | _ :: cs => .cons rfl (vals_refs cs)
def rSortLen (K : PySem.W.Frag) (Q : VK) : List V → Hp → Prop := fun vs H1 => ∃ (a : Addr) (bs : List (Addr × List Int)), vs = [.ref a] ∧ SqL K H1 a (bs.map fun b => V.ref b.1) ∧ (∀ b ∈ bs, SqL K H1 b.1 (b.2.map V.int)) ∧ bs.length < 64 ∧
  ∀ (cs : List (Addr × List Int)) (p : Addr), cs.Perm bs → cs.Pairwise (fun x y => x.2.length ≤ y.2.length) → H1 p = none → Q (.ref p) (upd H1 p (.lst (cs.map fun b => V.ref b.1)))
def tSortLen (K : PySem.W.Frag) (te : TE) : TE := fun σ H Q => tCons te tNil σ H (rSortLen K Q)
section
variable {X : Cx} {e : Expr} {te : TE} {p p2 pos kp : Pos}
/-- .. and a new list besides -/
theorem inv_frD {pins : List (Addr × Obj)} {σ : L2.St} {H : Hp} {s : Shared} {h' : Heap} {tk : Nat} {m : Str → Option Value} {D : Addr} {ys : List V} {out : Array Value} {c : Nat} (I : Inv X pins σ H s) (n0 : s.heap.Ns X.env.locals m) (n1 : h'.Ns X.env.locals m) (keep : ∀ b o, b ≠ X.env.locals → s.heap.get? b = some o → h'.get? b = some o)
    (fresh : s.heap.get? D = none) (hD : h'.get? D = some (seqObj "list" out c)) (rel : Vals ys out.toList) (fits : ys.length ≤ sizeLine) :
    Inv X pins σ (upd H D (.lst ys)) { s with heap := h', toks := tk } := by
  have HD : H D = none := I.hok.gone fresh
  refine I.step (ch := []) (fun b hb => nomatch hb) (fun b o nl _ _ q _ => keep b o nl q) (fun b o nl _ _ q _ => ⟨o.slots, keep b o nl q⟩) (fun b o _ q z => ?_) (fun b o _ q => ?_) (fun b xs z => ?_) (fun b o u z => ?_) (fun b ps z => ⟨#[], by rw [Array.append_empty, upd_ne (fun e => by rw [e, HD] at z; cases z)]; exact z⟩) (fun m' z => ns_one n0 z ▸ n1) ?_ I.bare
  · rw [upd_ne (fun e => by rw [e, fresh] at q; cases q)]
    exact z
  · by_cases el : b = X.env.locals
    · obtain ⟨o', _, _, q', _⟩ := n1
      exact ⟨o', el ▸ q'⟩
    · exact ⟨o, keep b o el q⟩
  · rw [upd_ne (fun e => by rw [e, HD] at z; cases z)]
    exact z
  · rw [upd_ne (fun e => by rw [e, HD] at z; cases z)]
    exact z
  · intro a o h
    by_cases ea : a = D
    · subst ea
      rw [upd_same] at h
      cases h
      exact ⟨fits, out.toList, c, rel, hD⟩
    · rw [upd_ne ea] at h
      refine (I.hok a o h).stay (fun b u hb q => keep b u (fun z => ?_) q) (fun b z => ?_) (fun b y z => ?_)
      · have f := I.free
        rw [← z] at f
        rcases hb with hb | hb
        · rw [hb, h] at f
          cases f
        · rw [hb] at f
          cases f
      · rw [upd_ne (fun e => by rw [e, HD] at z; cases z)]
        exact z
      · rw [upd_ne (fun e => by rw [e, HD] at z; cases z)]
        exact z
theorem pe_sortLen (calm : X.calm = true) (hg : Gl X "sorted") (hm : X.mg "sorted" = none) (hl : Gl X "len") (ml : X.mg "len" = none) (he : PE X e te)
    (h1 : starEach [e] X.env = (false, eval e X.env) :: starEach [] X.env := by rfl) (h2 : backTo pos (starEach [e] X.env) = (false, eval e X.env) :: backTo pos (starEach [] X.env) := by rfl) (h3 : ((backTo pos (starEach [e] X.env)).any fun x => x.1) = false := by rfl) : PE X (.Call (.Name "sorted" p) [e] [⟨some "key", .Name "len" p2, kp⟩] pos) (tSortLen X.K te) := by
  refine ⟨fun pins s σ H Q I rd => ?_⟩
  refine wpAny_Call_Name_kw (ld_blt (u := Value.builtin "sorted") I hg hm (by decide +kernel) ?_)
  refine Rows.callWith_kw (thn ((pa_cons he pa_nil (hs := h1)).run pos pins s σ H (rSortLen X.K Q) I rd) fun us s1 ⟨vs, H1, I1, rv, q⟩ => ?_) h2 h3
  obtain ⟨a, bs, rfl, hA, hB, few, k⟩ := q
  obtain ⟨u, rfl, ru⟩ := vals1 rv
  obtain rfl : u = Value.ref a := ru
  refine Rows.evalAll_cons (wpAny_bind (ld_blt (u := Value.builtin "len") I1 hl ml (by decide +kernel) (wpAny_bind (wpAny_standAt (wpAny_pure (Rows.evalAll_nil ?_))))))
  obtain ⟨its, rvs, pl, hz⟩ := I1.list hA
  obtain ⟨m, ns, look⟩ := I1.loc
  obtain ⟨m', fr'⟩ := I1.fr
  have fr : Rows.Fr X.base X.env.locals s1.heap m := ⟨ns, fr'.keep, fr'.above⟩
  have kept : ∀ h, Rows.Fr X.base X.env.locals h m → Rows.News X.base X.env.locals h (allNews X.base s1.heap X.env.locals) → ∀ b o, b ≠ X.env.locals → s1.heap.get? b = some o → h.get? b = some o := fun h f n b o nl q => by
    rcases Option.eq_none_or_eq_some (X.base.get? b) with z | ⟨o', z⟩
    · exact (n (b, o) (mem_allNews nl z q)).1
    · have := fr.keep b o' z
      rw [q] at this
      cases this
      exact f.keep b o z
  have apart : ∀ {b : Addr} {xs : Array Value}, PlainL s1.heap b xs → b ≠ X.env.locals := fun {b xs} hb z => by
    obtain ⟨o, n, g, _, _, d⟩ := hb
    obtain ⟨o', es, ep, g', d', _⟩ := ns
    rw [z, g'] at g
    cases g
    rw [d'] at d
    cases d
  have len : its.length = bs.length := by
    rw [← rvs.length, List.length_map]
  have get : ∀ {i : Nat} {v : Value}, its[i]? = some v → i < bs.length ∧ v = Value.ref (bs.getD i (0, [])).1 := fun {i v} hv => by
    have il : i < bs.length := by
      rw [← len]
      exact (List.getElem?_eq_some_iff.mp hv).1
    refine ⟨il, ?_⟩
    have e1 : (bs.map fun b => V.ref b.1)[i]? = some (V.ref (bs.getD i (0, [])).1) := by
      rw [List.getElem?_map, List.getElem?_eq_getElem il, List.getD_eq_getElem?_getD, List.getElem?_eq_getElem il]
      rfl
    obtain ⟨u, hu, ru⟩ := rvs.get e1
    rw [hv] at hu
    cases hu
    exact ru
  have eits : its = bs.map fun b => Value.ref b.1 := by
    refine List.ext_getElem (by rw [len, List.length_map]) fun i h1 h2 => ?_
    have q := (get (List.getElem?_eq_getElem h1)).2
    rw [q, List.getElem_map, List.getD_eq_getElem?_getD, List.getElem?_eq_getElem (len ▸ h1)]
    rfl
  refine Rows.ksk_sorted (kz := bs.map fun b => ((b.2.length : Nat) : Int)) (f := .builtin "len") (b := false) (kw := [(Str.ofString "key", .builtin "len")]) (vs := its) (news := allNews X.base s1.heap X.env.locals) fr news_all (pl.at fun o q => kept s1.heap fr news_all a o (apart pl) q).isList (by rw [List.length_map, len]) (by rw [len]; exact few) (Rows.ksk_s1 _ _) (fun x => Rows.ksk_l1 _ _) (fun x => Rows.ksk_t4 _ _) (fun i v kk hv hk h tk own f n => ?_) fun D h' tk out c f n low ko => ?_
  · obtain ⟨il, rfl⟩ := get hv
    have n' : Rows.News X.base X.env.locals h (allNews X.base s1.heap X.env.locals) := fun p hp => n p (List.mem_append_left _ hp)
    have mem : bs.getD i (0, []) ∈ bs := by
      rw [List.getD_eq_getElem?_getD, List.getElem?_eq_getElem il]
      exact List.getElem_mem il
    obtain ⟨rs, rvr, plr, hzr⟩ := I1.list (hB _ mem)
    have lenr : rs.length = (bs.getD i (0, [])).2.length := by rw [← rvr.length, List.length_map]
    have ek : kk = ((bs.getD i (0, [])).2.length : Nat) := by
      rw [List.getElem?_map, List.getElem?_eq_getElem il] at hk
      rw [List.getD_eq_getElem?_getD, List.getElem?_eq_getElem il]
      exact (Option.some.inj hk).symm
    refine Calls.call_len_list ((plr.at fun o q => kept h f n' _ o (apart plr) q).isList) ?_ ⟨h, _, tk + 1, rfl, ?_, f, n⟩
    · rw [List.size_toArray, lenr]
      rw [List.length_map] at hzr
      have : sizeLine < 2 ^ 63 := by decide
      omega
    · rw [ek, List.size_toArray, lenr]
  · obtain ⟨nD, nL, n0⟩ := n (D, seqObj "list" out c) List.mem_cons_self
    have fresh : s1.heap.get? D = none := by
      cases z : s1.heap.get? D with
      | none => rfl
      | some o => exact absurd (low _ (mem_allNews nL n0 z)) (Nat.lt_irrefl _)
    obtain ⟨ps, pp, eo, pw⟩ := ko
    have ez : (bs.map fun b => ((b.2.length : Nat) : Int)).zip its = bs.map fun b => (((b.2.length : Nat) : Int), Value.ref b.1) := by
      rw [eits, List.zip_map', ]
    rw [ez] at pp
    obtain ⟨cs, pc, ec⟩ := perm_of_map _ pp rfl
    have eo2 : out.toList = cs.map fun b => Value.ref b.1 := by
      rw [eo, ec, List.map_map]
      rfl
    have rel : Vals (cs.map fun b => V.ref b.1) out.toList := by
      rw [eo2]
      exact vals_refs cs
    have srt : cs.Pairwise fun x y => x.2.length ≤ y.2.length := by
      rw [ec, List.pairwise_map] at pw
      exact pw.imp fun {x y} z => by
        rw [if_neg Bool.false_ne_true] at z
        exact Int.ofNat_le.mp z
    have HD : H1 D = none := I1.hok.gone fresh
    refine ⟨V.ref D, _, inv_frD I1 ns f.ns (kept h' f fun p hp => n p (List.mem_cons_of_mem _ hp)) fresh nD rel ?_, rfl, k cs D pc srt HD⟩
    rw [List.length_map, pc.length_eq]
    exact Nat.le_trans (Nat.le_of_lt few) (by decide)
end
/-- a dict comprehension over a range, the keys tuples -/
theorem dc_rangeT {lo : Int} {n : Nat} {g : TG} {tt : TT} {tk tv : TE} {vs : List Nat} {σ : L2.St} {H1 : Hp} {D : Addr} {Qd : Hp → Prop} (Pv : Nat → Hp → Prop) (h0 : Pv 0 (upd H1 D (.dT [])))
    (hs : ∀ i H, i < n → Pv i H → g (.int (lo + i)) (wipe σ vs) H fun σ2 H2 => wipe σ2 vs = wipe σ vs ∧ tt σ2 H2 fun t H3 =>
      if t = true then tk σ2 H3 fun y H4 => tv σ2 H4 fun z H5 => ∃ b kvs k, y = .ref b ∧ H5 b = some (.tup (k.map kV)) ∧ H5 D = some (.dT kvs) ∧ kvs.length < sizeLine ∧ Pv (i + 1) (upd H5 D (.dT (putK kvs k z))) else Pv (i + 1) H3) (hd : ∀ H, Pv n H → Qd H) :
    ∃ W : Nat → Nat → Hp → Prop, (∃ m, W 0 m (upd H1 D (.dT []))) ∧ ∀ i m H, W i m H →
      ((Itr lo n).stop i H ∧ Qd H) ∨ ((Itr lo n).go i H ∧ ∃ Nx : Hp → Prop, (∀ H', Nx H' → ∃ m', m' < m ∧ W (i + 1) m' H') ∧ ∀ x H', (Itr lo n).yld i H x H' → g x (wipe σ vs) H' fun σ2 H2 => wipe σ2 vs = wipe σ vs ∧ tt σ2 H2 fun t H3 =>
        if t = true then tk σ2 H3 fun y H4 => tv σ2 H4 fun z H5 => ∃ b kvs k, y = .ref b ∧ H5 b = some (.tup (k.map kV)) ∧ H5 D = some (.dT kvs) ∧ kvs.length < sizeLine ∧ Nx (upd H5 D (.dT (putK kvs k z))) else Nx H3) := by
  refine ⟨fun i left G => left + i = n ∧ Pv i G, ⟨n, rfl, h0⟩, fun i left G at_i => ?_⟩
  obtain ⟨sum, now⟩ := at_i
  cases left with
  | zero =>
    have last : i = n := by omega
    exact .inl ⟨(by show n ≤ i; omega), hd G (last ▸ now)⟩
  | succ l =>
    have more : i < n := by omega
    refine .inr ⟨more, Pv (i + 1), fun _ p' => ⟨l, Nat.lt_succ_self l, (by omega), p'⟩, fun x G' y => ?_⟩
    rcases y with ⟨rfl, rfl⟩
    exact hs i _ more now
end LcM

/-! d != xs, d a dict, xs a list. -/
namespace NeD
open PySem PySem.Spec PySem.SeqAt PySem.Calls
theorem list_declines (l b : Addr) (items : Array Value) (es : Array DictEntry) (n ep : Nat) (dd dd2 : Option Addr) (sl sl2 : Array (Option Value)) :
    Meets (Builtin.«list.__ne__» ⟨[.ref l, .ref b], []⟩) (fun _ R s => s.heap.get? l = some { cls := .type "list", dict := dd, data := .seq items n, slots := sl } ∧ s.heap.get? b = some { cls := .type "dict", dict := dd2, data := .dict es ep, slots := sl2 } ∧ R (.ok (.ret .notImplemented)) s) :=
  .of_wp fun prog w A R s h => by obtain ⟨hp, g, d, tk, os⟩ := s; obtain ⟨hl, hb, h⟩ := h; have f1 := PySem.F.sub_dict_list; wp_walk using wpAny_loadPart' hl, wpAny_loadPart' hb; exact ⟨_, rfl, h⟩
theorem dict_declines (b l : Addr) (items : Array Value) (es : Array DictEntry) (n ep : Nat) (dd dd2 : Option Addr) (sl sl2 : Array (Option Value)) :
    Meets (Builtin.«dict.__ne__» ⟨[.ref b, .ref l], []⟩) (fun _ R s => s.heap.get? l = some { cls := .type "list", dict := dd, data := .seq items n, slots := sl } ∧ s.heap.get? b = some { cls := .type "dict", dict := dd2, data := .dict es ep, slots := sl2 } ∧ R (.ok (.ret .notImplemented)) s) :=
  .of_wp fun prog w A R s h => by obtain ⟨hp, g, d, tk, os⟩ := s; obtain ⟨hl, hb, h⟩ := h; have f1 := PySem.F.sub_list_dict; wp_walk using wpAny_loadPart' hl, wpAny_loadPart' hb; exact ⟨_, rfl, h⟩
theorem dict_list {A : Around} {s : Shared} {b l : Addr} {items : Array Value} {es : Array DictEntry} {n ep : Nat} {dd dd2 : Option Addr} {sl sl2 : Array (Option Value)} (hl : s.heap.get? l = some { cls := .type "list", dict := dd, data := .seq items n, slots := sl }) (hb : s.heap.get? b = some { cls := .type "dict", dict := dd2, data := .dict es ep, slots := sl2 })
    (hu : A.units < cLine) : RcNeAt A s (.ref b) (.ref l) true := fun prog w E Q h => by
  have hne : b ≠ l := fun z => by
    rw [z, hl] at hb
    have q : Value.type "list" = Value.type "dict" := congrArg Obj.cls (Option.some.inj hb)
    exact absurd q (by simp)
  exact (rc_ne_decline_or (k := false) ⟨_, hb, rfl⟩ ⟨_, hl, rfl⟩ (by decide) PySem.F.sub_list_dict PySem.F.slot_dict_ne PySem.F.slot_list_ne_refl
    (fun _ hq => call_meets PySem.F.slot_dict_ne ⟨_, hb, rfl⟩ PySem.F.entry_dict_ne (PySem.F.args_dict_ne_2 _ _) (dict_declines b l items es n ep dd dd2 sl sl2) ⟨hl, hb, hq⟩)
    (fun _ hq => call_meets PySem.F.slot_list_ne_refl ⟨_, hl, rfl⟩ PySem.F.entry_list_ne (PySem.F.args_list_ne_2 _ _) (list_declines l b items es n ep dd dd2 sl sl2) ⟨hl, hb, hq⟩)
    (fun _ hq => wpAny_isSame_ref_other' hne hb hl (by simp) hq) (.inr hu) h)
open PyProof.Rows L2
def rNeL (K : PySem.W.Frag) : R2 := fun x y H Q => (∃ d e, Dp K H x d ∧ Dp K H y e ∧ SeqAt.shaped d = true ∧ SeqAt.shaped e = true ∧ Q (.bl (!PyData.eqv d e)) H) ∨ ∃ a b kvs xs, x = .ref a ∧ y = .ref b ∧ H a = some (.dK kvs) ∧ SqL K H b xs ∧ Q (.bl true) H
theorem op_neL {X : Cx} (hu : X.A.units + 64 < cLine) : OpR X (compareOp .NotEq) (rNeL X.K) := by
  intro pins s σ H x y v u Q I rx ry h
  rcases h with h | ⟨a, b, kvs, xs, rfl, rfl, ha, hb, q⟩
  · exact op_neD hu pins s σ H x y v u Q I rx ry h
  · obtain rfl : v = Value.ref a := rx
    obtain rfl : u = Value.ref b := ry
    obtain ⟨its, rv, ⟨ob, n, ho, hc, hne, hda⟩, hsz⟩ := I.list hb
    obtain ⟨_, _, vs, _, od, es, ep, e1, e2, e3, _⟩ := dk_of I.hok ha
    obtain ⟨c1, d1, t1, s1⟩ := ob
    obtain ⟨c2, d2, t2, s2⟩ := od
    simp only at hc hda e3
    obtain ⟨ec, ed, el⟩ := e2
    simp only at ec
    subst hc hda ec e3
    exact dict_list ho e1 (by omega) X.prog X.w X.xe _ ⟨.bl true, H, I, rfl, q⟩
end NeD

namespace K35
open PySem PySem.Spec PyProof.Rows L2 LcM
def top (i : Nat) : Stmt := PySem.Challenge.pw_twopartings_k35_errors_of_families_and_m.main.body.getD i (.Pass ⟨0, 0, 0, 0⟩)
abbrev sStore : Stmt := top 58
abbrev sPick : Stmt := top 59

/-! ### power of a great base -/
def CPowW (i j : Int) : Prop := 0 ≤ j ∧ (Builtin.Int.intBits i : Int) * j ≤ 2 ^ 27
section
variable {X : Cx}
theorem op_powW : OpR X (binaryOp .Pow) (rI CPowW fun i j => .int (i ^ j.toNat)) := opI fun _ _ _ _ _ _ _ hc q => pow_int hc.1 hc.2 q
end
theorem bits_of {i : Int} {n : Nat} (h : i.natAbs < 2 ^ n) (h0 : 0 < n) : Builtin.Int.intBits i ≤ n := by
  unfold Builtin.Int.intBits
  split
  · omega
  · have := PySem.Flt.log2_lt_of h0 h
    omega
theorem pow3' {i : Int} {n : Nat} (h : i.natAbs < 2 ^ 64) (hn : n ≤ 1000) : CPowW i n := ⟨by omega, by
  have := bits_of h (by decide)
  have z : (Builtin.Int.intBits i : Int) * (n : Int) ≤ 64 * 1000 := Int.mul_le_mul (by omega) (by omega) (by omega) (by decide)
  omega⟩
theorem pow3 {i : Int} (h : i.natAbs < 2 ^ 300) : CPowW i 3 := ⟨by decide, by have := bits_of h (by decide); omega⟩

/-! ### the heap grows: all of it stays but at one place -/
def Gr (p : Addr) (H H' : Hp) : Prop := ∀ b o, b ≠ p → H b = some o → H' b = some o
theorem Gr.refl {p : Addr} {H : Hp} : Gr p H H := fun _ _ _ e => e
theorem Gr.trans {p : Addr} {H H1 H2 : Hp} (x : Gr p H H1) (y : Gr p H1 H2) : Gr p H H2 := fun b o n e => y b o n (x b o n e)
theorem Gr.new {p a : Addr} {H : Hp} {o : HO} (h : H a = none) : Gr p H (upd H a o) := fun b u n e => by
  rw [upd_ne (ne_of_none e h)]
  exact e
theorem Gr.at {p : Addr} {H : Hp} {o : HO} : Gr p H (upd H p o) := fun b u n e => by
  rw [upd_ne n]
  exact e
theorem _root_.LcM.Grows.gr {p : Addr} {H H' : Hp} (x : Grows H H') : Gr p H H' := fun b o _ e => x b o e
/-! ### the pouch -/
def Pch (H : Hp) (p : Addr) (m : Int) : Prop := ∃ d b n : Int, H p = some (.lst [.int d, .int b, .int n]) ∧ 0 ≤ b ∧ b < 2 ^ 200 ∧ 0 ≤ n ∧ n ≤ m
theorem Pch.le {H : Hp} {p : Addr} {m k : Int} (h : Pch H p m) (l : m ≤ k) : Pch H p k := by
  obtain ⟨d, b, n, e, h1, h2, h3, h4⟩ := h
  exact ⟨d, b, n, e, h1, h2, h3, by omega⟩
theorem Pch.same {H H' : Hp} {p : Addr} {m : Int} (h : Pch H p m) (s : Grows H H') : Pch H' p m := by
  obtain ⟨d, b, n, e, r⟩ := h
  exact ⟨d, b, n, s _ _ e, r⟩
structure Txt0 (mg : Str → Option Value) : Prop where
  int : mg "int" = none
  range : mg "range" = none
  len : mg "len" = none
  abs : mg "abs" = none
  max : mg "max" = none
  min : mg "min" = none
def spStore (K : PySem.W.Frag) : Sp := fun vs H Q _ => ∃ (a : Addr) (i : Int) (ns : List Int), vs = [.ref a, .int i] ∧ SqL K H a (ns.map V.int) ∧ 0 ≤ i ∧ i < 1000 ∧ ∀ (p : Addr) (H' : Hp), H p = none → Grows H H' → Pch H' p 0 → Q (.ref p) H'
def spPick : Sp := fun vs H Q _ => ∃ (p : Addr) (w m : Int), vs = [.ref p, .int w] ∧ Pch H p m ∧ m < 2 ^ 60 ∧ 0 < w ∧ w.natAbs < 2 ^ 200 ∧ ∀ (v : Int) (H' : Hp), 0 ≤ v → v < w → Pch H' p (m + 1) → (∀ b, b ≠ p → H' b = H b) → Q (.int v) H'

section
variable {P : Program} {w : World} {K : PySem.W.Frag} {mg : Str → Option Value} {base : Heap}
theorem scStore : FnScope ["script", "k", "cell"] ["script", "k"] (defScope sStore) := ⟨rfl, rfl, rfl, by decide +kernel, rfl, by decide +kernel, by decide +kernel⟩
theorem ok_store {f : Addr} {fd : FuncData} (F : Fun K "_law_store" "_law_store" sStore f fd) (T : Txt0 mg) : FnOk P w K mg base CX0 1 f fd ["script", "k"] (spStore K) := by
  refine F.ok scStore (fun vs H Q E h => ?_) (fun cdv A outer s H vs Q E hr h => ?_)
  · obtain ⟨a, i, ns, rfl, _⟩ := h
    rfl
  · obtain ⟨a, i, ns, rfl, hS, h0, h1, k⟩ := h
    refine ⟨_, (pss_cons (ps_set (i := 2) scStore.nd rfl (.inl rfl) (pe_ifExp (pt_cmpR op_lt (pv 1) (pe_callB call_len_seq (by rfl) T.len (by decide +kernel) (pa_cons (pv 0) pa_nil)) (nomark _)) (pe_callB call_abs (by rfl) T.abs (by decide +kernel) (pa_cons (pe_ix (r := rIxL K) ix_list (pv 0) (pv 1) (fun _ _ => rfl)) pa_nil)) pe_int))
      (pss_one (ps_ret (pe_lst (pa_cons (pe_callB (call_max2 rfl) (by rfl) T.max (by decide +kernel) (pa_cons pe_int (pa_cons (pe_op op_sub (pv 2) (pe_op op_powW pe_int pe_int)) pa_nil))) (pa_cons (pe_op op_add (pe_op op_mul (pe_op op_mod (pe_callTy call_int1 (by rfl) T.int (by decide +kernel) (pa_cons (pv 2) pa_nil)) (pe_op op_add (pe_op op_powW pe_int pe_int) pe_int)) pe_int) (pe_op op_mul pe_int (pv 1))) (pa_cons pe_int pa_nil))))))), ?_⟩
    have hP : CPowW 10 18 := pow3' (by decide) (by decide)
    have hP2 : CPowW 10 37 := pow3' (by decide) (by decide)
    have pos : (0 : Int) < (10 : Int) ^ (37 : Int).toNat + 43 := by decide
    have fin : ∀ c : Int, gName 2 (V.int c) (L2.start ["script", "k", "cell"] [V.ref a, V.int i]) H
        ({ nx := tRet (tLst (tCons (tCB (fun xs H Q => ∃ i j, xs = [V.int i, V.int j] ∧ Q (V.int (if j > i then j else i)) H) (tCons (tC (V.int 0)) (tCons (tOp (rI0 fun i j => V.int (i - j)) (tVar 2) (tOp (rI CPowW fun i j => V.int (i ^ j.toNat)) (tC (V.int 10)) (tC (V.int 18)))) tNil)))
              (tCons (tOp (rI0 fun i j => V.int (i + j)) (tOp (rI CMul fun i j => V.int (i * j)) (tOp (rI (fun x j => 0 < j) fun i j => V.int (i % j)) (tCB (fun xs H Q => (∃ i, xs = [V.int i] ∧ Q (V.int i) H) ∨ ∃ k, xs = [V.bl k] ∧ Q (V.int (if k = true then 1 else 0)) H) (tCons (tVar 2) tNil))
                (tOp (rI0 fun i j => V.int (i + j)) (tOp (rI CPowW fun i j => V.int (i ^ j.toNat)) (tC (V.int 10)) (tC (V.int 37))) (tC (V.int 43)))) (tC (V.int 83))) (tOp (rI CMul fun i j => V.int (i * j)) (tC (V.int 7)) (tVar 1))) (tCons (tC (V.int 0)) tNil))))
            ({ nx := fun _ H' => Q V.non H', rt := Q } : Ends), rt := Q } : Ends).nx := fun c => by
      refine ⟨_, rfl, _, _, rfl, rfl, hP, _, _, rfl, rfl, _, _, rfl, _, rfl, .inl ⟨_, rfl, _, _, rfl, rfl, hP2, _, _, rfl, rfl, _, _, rfl, rfl, pos, _, _, rfl, rfl, .inr ⟨by decide, by decide⟩, _, rfl, _, _, rfl, rfl, .inl ⟨by decide, by decide⟩, _, _, rfl, rfl, ?_⟩⟩
      have l0 := Int.emod_nonneg c (Int.ne_of_gt pos)
      have l1 := Int.emod_lt_of_pos c pos
      have e0 : (10 : Int) ^ (37 : Int).toNat + 43 = 10000000000000000000000000000000000043 := by decide
      rw [e0] at l0 l1 ⊢
      refine ⟨(by show 3 ≤ sizeLine; decide), fun l hl => k l _ hl (Grows.new hl) ⟨_, _, _, upd_same, ?_, ?_, by decide, by decide⟩⟩
      · omega
      · omega
    refine ⟨_, rfl, _, rfl, a, _, rfl, .inl hS, _, _, rfl, rfl, _, rfl, ?_⟩
    refine ite2 (fun e => ?_) (fun e => ?_)
    · have lt : i.toNat < ns.length := by
        have q := of_decide_eq_true e
        rw [List.length_map] at q
        omega
      have g : (ns.map V.int)[i.toNat]? = some (.int ns[i.toNat]) := by
        rw [List.getElem?_map, List.getElem?_eq_getElem lt]
        rfl
      have g2 : atI (ns.map V.int) i = some (.int ns[i.toNat]) := by
        have q := atI_nat g
        rw [Int.toNat_of_nonneg h0] at q
        exact q
      refine ⟨_, rfl, _, rfl, a, _, _, _, rfl, rfl, hS, g2, _, rfl, ?_⟩
      exact fin _
    · exact fin _
theorem scPick : FnScope ["store", "bound", "digit", "mixed"] ["store", "bound"] (defScope sPick) := ⟨rfl, rfl, rfl, by decide +kernel, rfl, by decide +kernel, by decide +kernel⟩
theorem ok_pick {f : Addr} {fd : FuncData} (F : Fun K "_law_pick" "_law_pick" sPick f fd) (T : Txt0 mg) : FnOk P w K mg base CX0 1 f fd ["store", "bound"] spPick := by
  refine F.ok scPick (fun vs H Q E h => ?_) (fun cdv A outer s H vs Q E hr h => ?_)
  · obtain ⟨p, wd, m, rfl, _⟩ := h
    rfl
  · obtain ⟨p, wd, m, rfl, ⟨d, b, n, e, b0, b1, n0, n1⟩, hm, hw, hw2, k⟩ := h
    refine ⟨_, (pss_cons (ps_if (pt_cmpR op_gt (pe_ix (r := rIxL K) ix_list (pv 0) pe_int (fun _ _ => rfl)) pe_int (nomark _)) (pss_cons (ps_set (i := 2) scPick.nd rfl (.inl rfl) (pe_op op_mod (pe_callTy call_int1 (by rfl) T.int (by decide +kernel) (pa_cons (pe_ix (r := rIxL K) ix_list (pv 0) pe_int (fun _ _ => rfl)) pa_nil)) (pv 1)))
      (pss_cons (ps_asg (pe_op op_fdivW (pe_ix (r := rIxL K) ix_list (pv 0) pe_int (fun _ _ => rfl)) (pv 1)) (pg_sub (pv 0) pe_int set_list))
      (pss_one (ps_ret (pv 2))))) pss_nil)
      (pss_cons (ps_asg (pe_op op_add (pe_ix (r := rIxL K) ix_list (pv 0) pe_int (fun _ _ => rfl)) pe_int) (pg_sub (pv 0) pe_int set_list))
      (pss_cons (ps_set (i := 3) scPick.nd rfl (.inl rfl) (pe_op op_mod (pe_callTy call_int1 (by rfl) T.int (by decide +kernel) (pa_cons (pe_op op_powW (pe_op op_add (pe_ix (r := rIxL K) ix_list (pv 0) pe_int (fun _ _ => rfl)) (pe_op op_mul pe_int (pe_ix (r := rIxL K) ix_list (pv 0) pe_int (fun _ _ => rfl)))) pe_int) pa_nil)) (pe_op op_add (pe_op op_powW pe_int pe_int) pe_int)))
      (pss_cons (ps_set (i := 3) scPick.nd rfl (.inl rfl) (pe_op op_mod (pe_callTy call_int1 (by rfl) T.int (by decide +kernel) (pa_cons (pe_op op_powW (pe_op op_add (pv 3) (pe_op op_mul pe_int (pe_ix (r := rIxL K) ix_list (pv 0) pe_int (fun _ _ => rfl)))) pe_int) pa_nil)) (pe_op op_add (pe_op op_powW pe_int pe_int) pe_int)))
      (pss_one (ps_ret (pe_op op_mod (pe_callTy call_int1 (by rfl) T.int (by decide +kernel) (pa_cons (pe_op op_fdivW (pv 3) pe_int) pa_nil)) (pv 1)))))))), ?_⟩
    refine ⟨_, rfl, p, _, _, _, rfl, rfl, SqL.of e, rfl, _, _, rfl, rfl, _, rfl, ?_⟩
    refine ite2 (fun _ => ?_) (fun _ => ?_)
    · refine ⟨_, rfl, p, _, _, _, rfl, rfl, SqL.of e, rfl, .inl ⟨_, rfl, _, rfl, _, _, rfl, rfl, hw, _, rfl, p, _, _, _, rfl, rfl, SqL.of e, rfl, _, rfl, _, _, rfl, rfl, wide_div hw hw2 (by decide) (by decide), _, rfl, p, _, _, 0, rfl, rfl, e, rfl, _, rfl, ?_⟩⟩
      exact k _ _ (Int.emod_nonneg _ (by omega)) (Int.emod_lt_of_pos _ hw) ⟨_, _, _, upd_same, b0, b1, n0, by omega⟩ fun _ h => upd_ne h
    · refine ⟨_, rfl, p, _, _, _, rfl, rfl, SqL.of e, rfl, _, _, rfl, rfl, _, rfl, p, _, _, 2, rfl, rfl, e, rfl, ?_⟩
      have hP : CPowW 10 40 := pow3' (by decide) (by decide)
      have hP2 : CPowW 10 39 := pow3' (by decide) (by decide)
      have q0 : (0 : Int) < (10 : Int) ^ (40 : Int).toNat + 121 := by decide
      have q1 : (0 : Int) < (10 : Int) ^ (39 : Int).toNat + 3 := by decide
      have q2 : (10 : Int) ^ (40 : Int).toNat + 121 < 2 ^ 200 := by decide
      have c1 : CPowW (b + 32416187567 * (n + 1)) 3 := pow3 (by omega)
      refine ⟨_, rfl, p, _, _, _, rfl, rfl, SqL.of upd_same, rfl, _, rfl, p, _, _, _, rfl, rfl, SqL.of upd_same, rfl, _, _, rfl, rfl, .inl ⟨by decide, by decide⟩, _, _, rfl, rfl, _, _, rfl, rfl, c1, .inl ⟨_, rfl, _, _, rfl, rfl, hP, _, _, rfl, rfl, _, _, rfl, rfl, q0, ?_⟩⟩
      obtain ⟨y, hy⟩ : ∃ y : Int, y = (b + 32416187567 * (n + 1)) ^ (3 : Int).toNat % ((10 : Int) ^ (40 : Int).toNat + 121) := ⟨_, rfl⟩
      have y0 : 0 ≤ y := hy ▸ Int.emod_nonneg _ (Int.ne_of_gt q0)
      have y1 : y < (10 : Int) ^ (40 : Int).toNat + 121 := hy ▸ Int.emod_lt_of_pos _ q0
      have c2 : CPowW (y + 27644437 * (n + 1)) 3 := pow3 (by omega)
      show gName 3 (.int ((b + 32416187567 * (n + 1)) ^ (3 : Int).toNat % ((10 : Int) ^ (40 : Int).toNat + 121))) _ _ _
      rw [← hy]
      refine ⟨_, rfl, _, rfl, p, _, _, _, rfl, rfl, SqL.of upd_same, rfl, _, _, rfl, rfl, .inl ⟨by decide, by decide⟩, _, _, rfl, rfl, _, _, rfl, rfl, c2, .inl ⟨_, rfl, _, _, rfl, rfl, hP2, _, _, rfl, rfl, _, _, rfl, rfl, q1, ?_⟩⟩
      refine ⟨_, rfl, _, _, rfl, rfl, ⟨by decide, by decide⟩, .inl ⟨_, rfl, _, rfl, _, _, rfl, rfl, hw, ?_⟩⟩
      exact k _ _ (Int.emod_nonneg _ (by omega)) (Int.emod_lt_of_pos _ hw) ⟨_, _, _, upd_same, b0, b1, by omega, by omega⟩ fun _ h => upd_ne h
end
end K35

namespace K35
open PySem PySem.Spec PyProof.Rows L2 LcM
abbrev sCome : Stmt := top 61
theorem at_in {xs : List V} {v : Int} (h0 : 0 ≤ v) (h1 : v < xs.length) : ∃ z ∈ xs, atI xs v = some z := by
  have lt : v.toNat < xs.length := by omega
  have q := atI_nat (List.getElem?_eq_getElem lt)
  rw [Int.toNat_of_nonneg h0] at q
  exact ⟨_, List.getElem_mem lt, q⟩
/-- items of newcomers: each within its bounds -/
def Bnd (xs : List Int) : Prop := ∀ (j : Nat) (x : Int), xs[j]? = some x → -(j : Int) ≤ x ∧ x ≤ (j : Int)
theorem Bnd.add {xs : List Int} {x : Int} (h : Bnd xs) (h0 : -(xs.length : Int) ≤ x) (h1 : x ≤ (xs.length : Int)) : Bnd (xs ++ [x]) := fun j y e => by
  rcases Nat.lt_or_ge j xs.length with z | z
  · rw [List.getElem?_append_left z] at e
    exact h j y e
  · rw [List.getElem?_append_right z] at e
    have : j - xs.length = 0 := by
      rcases Nat.eq_zero_or_pos (j - xs.length) with q | q
      · exact q
      · rw [List.getElem?_eq_none (by show 1 ≤ j - xs.length; omega)] at e
        cases e
    rw [this] at e
    have e' : x = y := Option.some.inj e
    omega
def spCome : Sp := fun vs H Q _ => ∃ (p : Addr) (mn m : Int), vs = [.ref p, .int mn] ∧ Pch H p m ∧ m < 2 ^ 50 ∧ 1 ≤ mn ∧ mn ≤ 20 ∧
  ∀ (l : Addr) (xs : List Int) (H' : Hp), (xs.length : Int) = mn - 1 → Bnd xs → Pch H' p (m + 100) → Gr p H H' → H l = none → H' l = some (.lst (xs.map V.int)) → Q (.ref l) H'
theorem but_at {p a : Addr} {H H' : Hp} {o : HO} (h : ∀ b, b ≠ p → H' b = H b) (e : H a = some o) (n : a ≠ p) : H' a = some o := (h a n).trans e
theorem but_gr {p : Addr} {H H' : Hp} (h : ∀ b, b ≠ p → H' b = H b) : Gr p H H' := fun b o n e => (h b n).trans e
theorem pch_ne {p a : Addr} {H : Hp} {m : Int} (h : Pch H p m) (n : H a = none) : a ≠ p := fun e => by
  obtain ⟨_, _, _, q, _⟩ := h
  rw [← e, n] at q
  cases q
section
variable {P : Program} {w : World} {K : PySem.W.Frag} {mg : Str → Option Value} {base : Heap}
structure TxtP1 (mg : Str → Option Value) (fP : Addr) : Prop extends Txt0 mg where
  gP : mg "_law_pick" = some (.ref fP)
theorem seq_all {t u : TS} {D : Ends} {σ : L2.St} {H : Hp} (I : L2.St → Hp → Prop) (h2 : ∀ σ' H', I σ' H' → u D σ' H') (h1 : (∀ σ' H', I σ' H' → u D σ' H') → tSeq t u D σ H) : tSeq t u D σ H := h1 h2
theorem iteN {A B : Prop} (c : Bool) (h1 : c = true → A) (h2 : c = false → B) : if c = true then A else B := by
  cases c
  · exact h2 rfl
  · exact h1 rfl
theorem nm_i {v : V} {i : Nat} {t u : TS} {D : Ends} {σ : L2.St} {H : Hp} (h : tSeq t u D (σ.set i (some v)) H) : gName i v σ H (tSeq t u D) := h
theorem scCome : FnScope ["store", "many_here", "found", "way", "who", "item"] ["store", "many_here"] (defScope sCome) := ⟨rfl, rfl, rfl, by decide +kernel, rfl, by decide +kernel, by decide +kernel⟩
theorem ok_come {f fP : Addr} {fd fdP : FuncData} (F : Fun K "_law_come" "_law_come" sCome f fd) (T : TxtP1 mg fP) (FP : Fun K "_law_pick" "_law_pick" sPick fP fdP) (bP : Binds K fdP ["store", "bound"] []) : FnOk P w K mg base CX0 2 f fd ["store", "many_here"] spCome := by
  have GP : FnOk P w K mg base CX0 1 fP fdP ["store", "bound"] spPick := ok_pick FP T.toTxt0
  refine F.ok scCome (fun vs H Q E h => ?_) (fun cdv A outer s H vs Q E hr h => ?_)
  · obtain ⟨p, mn, m, rfl, _⟩ := h
    rfl
  · obtain ⟨p, mn, m, rfl, hP, hm, hmn, hmx, k⟩ := h
    refine ⟨_, (pss_cons (ps_par (i := 2) (j := 3) (by rfl) scCome.nd rfl rfl (by decide) rfl rfl (pa_cons (pe_lst pa_nil) (pa_cons (pe_call GP (hr.mono (by decide)) rfl T.gP FP.kp bP .nil pass0 (pa_cons (pv 0) (pa_cons pe_int pa_nil))) pa_nil)) (by rfl))
      (pss_cons (ps_for PassesOwn.never rfl (pi_range2 (by rfl) T.range (pa_cons pe_int (pa_cons (pv 1) pa_nil))) (pg_name (i := 4) scCome.nd rfl (.inl rfl))
      (pss_cons (ps_set (i := 5) scCome.nd rfl (.inl rfl) (pe_op op_sub (pe_call GP (hr.mono (by decide)) rfl T.gP FP.kp bP .nil pass0 (pa_cons (pv 0) (pa_cons (pe_op op_sub (pe_op op_mul pe_int (pv 4)) pe_int) pa_nil))) (pe_op op_sub (pv 4) pe_int)))
      (pss_cons (ps_if (PW.pt (pw_and (pt_cmpR op_eq (pv 3) pe_int (nomark _)) (pw_and (pt_cmpR op_gt (pv 4) pe_int (nomark _)) (pw_and1 (pt_cmpR op_gt (pe_call GP (hr.mono (by decide)) rfl T.gP FP.kp bP .nil pass0 (pa_cons (pv 0) (pa_cons pe_int pa_nil))) pe_int (nomark _)))))) (pss_one (ps_set (i := 5) scCome.nd rfl (.inl rfl) (pe_op op_sub pe_int (pv 4)))) pss_nil)
      (pss_cons (ps_if (PW.pt (pw_and (pt_cmpR op_eq (pv 3) pe_int (nomark _)) (pw_and1 (pt_cmpR op_gt (pe_call GP (hr.mono (by decide)) rfl T.gP FP.kp bP .nil pass0 (pa_cons (pv 0) (pa_cons pe_int pa_nil))) pe_int (nomark _))))) (pss_one (ps_set (i := 5) scCome.nd rfl (.inl rfl) (pe_call GP (hr.mono (by decide)) rfl T.gP FP.kp bP .nil pass0 (pa_cons (pv 0) (pa_cons (pv 4) pa_nil))))) pss_nil)
      (pss_one (ps_expr (pe_bm PySem.F.plainAttrs_list PySem.F.slot_list_append PySem.F.type_list_append mt_append (pv 2) (pa_cons (pv 5) pa_nil))))))))
      (pss_one (ps_ret (pv 2))))), ?_⟩
    refine ⟨(by show 0 ≤ sizeLine; decide), fun l hl => ⟨_, rfl, ?_⟩⟩
    have nlp : l ≠ p := pch_ne hP hl
    refine ⟨p, _, _, rfl, hP.same (.new hl), by omega, by decide, by decide, fun v0 H1 v00 v01 hP1 but1 => ⟨_, _, rfl, ?_⟩⟩
    have el1 : H1 l = some (.lst []) := but_at but1 upd_same nlp
    refine ⟨_, rfl, 1, mn, rfl, ⟨by decide, by decide, by omega, by omega⟩, for_range (lo := 1) (n := (mn - 1).toNat) (fun i σ H' => ∃ (xs : List Int) (f1 f2 : Option V), σ = [some (.ref p), some (.int mn), some (.ref l), some (.int v0), f1, f2] ∧ xs.length = i ∧ Bnd xs ∧ Pch H' p (m + 1 + 4 * i) ∧ Gr p H H' ∧ H' l = some (.lst (xs.map V.int)))
      ⟨[], none, none, rfl, rfl, (fun j x e => by rw [List.getElem?_nil] at e; cases e), hP1.le (by omega), (Gr.new hl).trans (but_gr but1), el1⟩ ?_ ?_⟩
    · rintro i σ H2 hi ⟨xs, f1, f2, rfl, hxl, hb, hP2, gr2, e2⟩
      have hi20 : i < 19 := by omega
      refine ⟨_, rfl, _, rfl, _, _, rfl, rfl, .inl ⟨by decide, by decide⟩, _, _, rfl, rfl, p, _, _, rfl, hP2, by omega, by omega, ?_, fun v1 H3 v10 v11 hP3 but3 => ?_⟩
      · show (2 * (1 + (i : Int)) - 1).natAbs < 2 ^ 200
        omega
      refine ⟨_, rfl, _, _, rfl, rfl, _, _, rfl, rfl, ?_⟩
      dsimp only
      refine nm_i ?_
      refine seq_all (fun σ H' => ∃ x : Int, σ = [some (.ref p), some (.int mn), some (.ref l), some (.int v0), some (.int (1 + (i : Int))), some (.int x)] ∧ -(i : Int) ≤ x ∧ x ≤ (i : Int) ∧ Pch H' p (m + 1 + 4 * i + 2) ∧ Gr p H2 H') (fun σ' H' ⟨x, e, x0, x1, hP4, gr4⟩ => ?_) fun k2 => ?_
      · subst e
        refine seq_all (fun σ H' => ∃ x : Int, σ = [some (.ref p), some (.int mn), some (.ref l), some (.int v0), some (.int (1 + (i : Int))), some (.int x)] ∧ -(i : Int) ≤ x ∧ x ≤ (i : Int) ∧ Pch H' p (m + 1 + 4 * i + 4) ∧ Gr p H2 H') (fun σ' H' ⟨x, e, x0, x1, hP4, gr4⟩ => ?_) fun k3 => ?_
        · subst e
          have el := gr4 l _ nlp e2
          refine ⟨_, rfl, .inl ⟨rfl, _, SqL.of el⟩, _, rfl, l, _, _, rfl, rfl, el, ?_, ?_⟩
          · rw [List.length_map]
            exact small1000 (by omega)
          · refine ⟨xs ++ [x], _, _, rfl, by rw [List.length_append, hxl]; rfl, hb.add (by omega) (by omega), ?_, ?_, by rw [upd_same, List.map_append]; rfl⟩
            · obtain ⟨d, b, n, e, b0, b1, n0, n1⟩ := hP4
              exact ⟨d, b, n, (upd_ne nlp.symm).trans e, b0, b1, n0, by omega⟩
            · intro b o nb' eb
              rcases Classical.em (b = l) with e | e
              · rw [e, hl] at eb
                cases eb
              · rw [upd_ne e]
                exact gr4 b o nb' (gr2 b o nb' eb)
        · refine ⟨_, rfl, rfl, _, rfl, ?_⟩
          refine iteN _ (fun _ => ?_) fun _ => ?_
          · refine ⟨_, rfl, p, _, _, rfl, hP4, by omega, by decide, by decide, fun v2 H4 v20 v21 hP5 but5 => ⟨_, _, rfl, rfl, _, rfl, iteN _ (fun _ => ?_) fun _ => ?_⟩⟩
            · refine ⟨_, rfl, _, rfl, p, _, _, rfl, hP5, by omega, by omega, ?_, fun v3 H5 v30 v31 hP6 but6 => k3 _ _ ⟨v3, rfl, by omega, by omega, hP6.le (by omega), (gr4.trans (but_gr but5)).trans (but_gr but6)⟩⟩
              show (1 + (i : Int)).natAbs < 2 ^ 200
              omega
            · exact k3 _ _ ⟨x, rfl, x0, x1, hP5.le (by omega), gr4.trans (but_gr but5)⟩
          · exact k3 _ _ ⟨x, rfl, x0, x1, hP4.le (by omega), gr4⟩
      · refine ⟨_, rfl, rfl, _, rfl, ?_⟩
        have hx0 : -(i : Int) ≤ v1 - (1 + (i : Int) - 1) := by omega
        have hx1 : v1 - (1 + (i : Int) - 1) ≤ (i : Int) := by omega
        refine iteN _ (fun _ => ?_) fun _ => ?_
        · refine ⟨_, rfl, _, _, rfl, rfl, _, rfl, iteN _ (fun _ => ?_) fun _ => ?_⟩
          · refine ⟨_, rfl, p, _, _, rfl, hP3, by omega, by decide, by decide, fun v2 H4 v20 v21 hP5 but5 => ⟨_, _, rfl, rfl, _, rfl, iteN _ (fun _ => ?_) fun _ => ?_⟩⟩
            · exact ⟨_, rfl, _, _, rfl, rfl, k2 _ _ ⟨1 - (1 + (i : Int)), rfl, by omega, by omega, hP5.le (by omega), (but_gr but3).trans (but_gr but5)⟩⟩
            · exact k2 _ _ ⟨_, rfl, hx0, hx1, hP5.le (by omega), (but_gr but3).trans (but_gr but5)⟩
          · exact k2 _ _ ⟨_, rfl, hx0, hx1, hP3.le (by omega), but_gr but3⟩
        · exact k2 _ _ ⟨_, rfl, hx0, hx1, hP3.le (by omega), but_gr but3⟩
    · rintro σ H2 ⟨xs, f1, f2, rfl, hxl, hb, hP2, gr2, e2⟩
      exact ⟨_, rfl, k l xs H2 (by omega) hb (hP2.le (by omega)) gr2 hl e2⟩
end
end K35


namespace K35
open PySem PySem.Spec PyProof.Rows L2 SortR LcM
abbrev sNumber : Stmt := top 23
abbrev sPerson : Stmt := top 24
abbrev sAsc : Stmt := top 25
abbrev sPList : Stmt := top 26
abbrev sGroup : Stmt := top 27
abbrev sMask : Stmt := top 31
abbrev sCross : Stmt := top 32
abbrev sAny : Stmt := top 33
abbrev sParting : Stmt := top 36
abbrev sPersons : Stmt := top 37
/-- the program's defs, where they stand -/
structure ProgF (K : PySem.W.Frag) (mg : Str → Option Value) where
  (fNum fPer fAsc fPL fGr fMask fCross fAny fIs fPs : Addr)
  (dNum dPer dAsc dPL dGr dMask dCross dAny dIs dPs : FuncData)
  FNum : Fun K "is_number" "is_number" sNumber fNum dNum
  FPer : Fun K "is_person" "is_person" sPerson fPer dPer
  FAsc : Fun K "is_ascending" "is_ascending" sAsc fAsc dAsc
  FPL : Fun K "is_person_list" "is_person_list" sPList fPL dPL
  FGr : Fun K "is_group" "is_group" sGroup fGr dGr
  FMask : Fun K "mask_of" "mask_of" sMask fMask dMask
  FCross : Fun K "masks_cross" "masks_cross" sCross fCross dCross
  FAny : Fun K "any_cross" "any_cross" sAny fAny dAny
  FIs : Fun K "is_parting" "is_parting" sParting fIs dIs
  FPs : Fun K "persons_of" "persons_of" sPersons fPs dPs
  gNum : mg "is_number" = some (.ref fNum)
  gPer : mg "is_person" = some (.ref fPer)
  gAsc : mg "is_ascending" = some (.ref fAsc)
  gPL : mg "is_person_list" = some (.ref fPL)
  gGr : mg "is_group" = some (.ref fGr)
  gMask : mg "mask_of" = some (.ref fMask)
  gCross : mg "masks_cross" = some (.ref fCross)
  gAny : mg "any_cross" = some (.ref fAny)
  gIs : mg "is_parting" = some (.ref fIs)
  gPs : mg "persons_of" = some (.ref fPs)
  bNum : Binds K dNum ["thing"] []
  bPer : Binds K dPer ["thing", "persons"] []
  bAsc : Binds K dAsc ["items"] []
  bPL : Binds K dPL ["thing", "persons"] []
  bGr : Binds K dGr ["thing", "persons"] []
  bMask : Binds K dMask ["group"] []
  bCross : Binds K dCross ["one", "other"] []
  bAny : Binds K dAny ["groups"] []
  bIs : Binds K dIs ["thing"] []
  bPs : Binds K dPs ["parting"] []
  gComb : mg "combinations" = some (.type "itertools.combinations")
  mostT : Tok
  gMost : mg "MOST_PERSONS" = some (.int 20 mostT)
/-- the built-in kinds that may come -/
def kinds : List String := ["int", "bool", "str", "NoneType", "list", "tuple", "dict"]
structure TxtP (mg : Str → Option Value) : Prop where
  isi : mg "isinstance" = none
  int : mg "int" = none
  bool : mg "bool" = none
  list : mg "list" = none
  len : mg "len" = none
  all : mg "all" = none
  any : mg "any" = none
  sum : mg "sum" = none
  zip : mg "zip" = none
  sorted : mg "sorted" = none
  tuple : mg "tuple" = none
  range : mg "range" = none
  enumerate : mg "enumerate" = none
def spNumber (K : PySem.W.Frag) : Sp := fun vs H Q _ => ∃ (x : V) (t : String), vs = [x] ∧ TyX K H x (.type t) ∧ t ∈ kinds ∧ Q (.bl (decide (t = "int"))) H
def spPerson (K : PySem.W.Frag) : Sp := fun vs H Q _ => ∃ (x : V) (t : String) (n : Int), vs = [x, .int n] ∧ TyX K H x (.type t) ∧ t ∈ kinds ∧ (t = "int" → ∃ i, x = .int i ∧ Q (.bl (decide (0 ≤ i) && decide (i < n))) H) ∧ (t ≠ "int" → Q (.bl false) H)
/-- each below the one behind it -/
def ascI (ns : List Int) : Bool := (List.range (ns.length - 1)).all fun i => decide (ns.getD i 0 < ns.getD (i + 1) 0)
def ascR (rs : List (List Int)) : Bool := (List.range (rs.length - 1)).all fun i => decide (rs.getD i [] < rs.getD (i + 1) [])
def spAscI (K : PySem.W.Frag) : Sp := fun vs H Q _ => ∃ (a : Addr) (ns : List Int), vs = [.ref a] ∧ SqL K H a (ns.map V.int) ∧ ns.length ≤ 1000 ∧ ∀ H', Grows H H' → Q (.bl (ascI ns)) H'
def spAscR (K : PySem.W.Frag) : Sp := fun vs H Q _ => ∃ (a : Addr) (bs : List (Addr × List Int)), vs = [.ref a] ∧ SqL K H a (bs.map fun b => V.ref b.1) ∧ (∀ b ∈ bs, SqL K H b.1 (b.2.map V.int)) ∧ bs.length ≤ 1000 ∧ ∀ H', Grows H H' → Q (.bl (ascR (bs.map (·.2)))) H'
section
variable {P : Program} {w : World} {K : PySem.W.Frag} {mg : Str → Option Value} {base : Heap}
theorem scNumber : FnScope ["thing"] ["thing"] (defScope sNumber) := ⟨rfl, rfl, rfl, by decide +kernel, rfl, by decide +kernel, by decide +kernel⟩
theorem scPerson : FnScope ["thing", "persons"] ["thing", "persons"] (defScope sPerson) := ⟨rfl, rfl, rfl, by decide +kernel, rfl, by decide +kernel, by decide +kernel⟩
theorem scAsc : FnScope ["items", "low", "high"] ["items"] (defScope sAsc) := ⟨rfl, rfl, rfl, by decide +kernel, rfl, by decide +kernel, by decide +kernel⟩
theorem ok_number {f : Addr} {fd : FuncData} (F : Fun K "is_number" "is_number" sNumber f fd) (T : TxtP mg) : FnOk P w K mg base CX0 1 f fd ["thing"] (spNumber K) := by
  refine F.ok scNumber (fun vs H Q E h => ?_) (fun cdv A outer s H vs Q E hr h => ?_)
  · obtain ⟨x, t, rfl, _⟩ := h
    rfl
  · obtain ⟨x, t, rfl, ty, hk, k⟩ := h
    refine ⟨_, (pss_one (ps_ret (pe_and (pe_callB call_isi (by rfl) T.isi (by decide +kernel) (pa_cons (pv 0) (pa_cons (pe_bltn (v := .ty "int") (u := .type "int") (by rfl) T.int (by decide +kernel) rfl) pa_nil))) (pe_one (pe_not (pe_callB call_isi (by rfl) T.isi (by decide +kernel) (pa_cons (pv 0) (pa_cons (pe_bltn (v := .ty "bool") (u := .type "bool") (by rfl) T.bool (by decide +kernel) rfl) pa_nil)))))))), ?_⟩
    simp only [kinds, List.mem_cons, List.not_mem_nil, or_false] at hk
    rcases hk with rfl | rfl | rfl | rfl | rfl | rfl | rfl
    · exact ⟨_, rfl, _, _, _, _, true, rfl, .ty "int", ty, kit_ty (by decide +kernel), true, rfl, _, rfl, _, _, _, _, false, rfl, .ty "bool", ty, kit_ty (by decide +kernel), false, rfl, k⟩
    · exact ⟨_, rfl, _, _, _, _, true, rfl, .ty "int", ty, kit_ty (by decide +kernel), true, rfl, _, rfl, _, _, _, _, true, rfl, .ty "bool", ty, kit_ty (by decide +kernel), true, rfl, k⟩
    all_goals exact ⟨_, rfl, _, _, _, _, false, rfl, .ty "int", ty, kit_ty (by decide +kernel), false, rfl, k⟩
theorem ok_person (Z : ProgF K mg) (T : TxtP mg) : FnOk P w K mg base CX0 2 Z.fPer Z.dPer ["thing", "persons"] (spPerson K) := by
  have GNum : FnOk P w K mg base CX0 1 Z.fNum Z.dNum ["thing"] (spNumber K) := ok_number Z.FNum T
  refine Z.FPer.ok scPerson (fun vs H Q E h => ?_) (fun cdv A outer s H vs Q E hr h => ?_)
  · obtain ⟨x, t, n, rfl, _⟩ := h
    rfl
  · obtain ⟨x, t, n, rfl, ty, hk, k1, k2⟩ := h
    refine ⟨_, (pss_one (ps_ret (pe_and (pe_call GNum (hr.mono (by decide)) rfl Z.gNum Z.FNum.kp Z.bNum .nil pass0 (pa_cons (pv 0) pa_nil)) (pe_one (pe_chain op_le op_lt pe_int (pv 0) (pv 1)))))), ?_⟩
    refine ⟨_, rfl, x, t, rfl, ty, hk, ?_⟩
    by_cases e : t = "int"
    · obtain ⟨i, rfl, q⟩ := k1 e
      refine ⟨_, rfl, ?_⟩
      rw [if_pos (decide_eq_true e)]
      refine ⟨_, rfl, _, _, rfl, rfl, _, rfl, ?_⟩
      by_cases l : 0 ≤ i
      · rw [if_pos (decide_eq_true l)]
        refine ⟨_, rfl, _, _, rfl, rfl, ?_⟩
        rw [decide_eq_true l, Bool.true_and] at q
        exact q
      · rw [if_neg (by rw [decide_eq_false l]; exact Bool.false_ne_true)]
        rw [decide_eq_false l, Bool.false_and] at q
        exact q
    · refine ⟨_, rfl, ?_⟩
      rw [if_neg (by rw [decide_eq_false e]; exact Bool.false_ne_true)]
      exact k2 e
theorem at_map {α : Type} {f : α → V} {ns : List α} {i : Nat} {x : V} {d : α} (h : (ns.map f)[i]? = some x) : x = f (ns.getD i d) := by
  rw [List.getElem?_map] at h
  obtain ⟨z, hz, e⟩ := Option.map_eq_some_iff.mp h
  rw [← e, List.getD_eq_getElem?_getD, hz]
  rfl
theorem at_tail {α : Type} {f : α → V} {ns : List α} {i : Nat} {x : V} {d : α} (h : (ns.map f).tail[i]? = some x) : x = f (ns.getD (i + 1) d) := by
  rw [List.getElem?_tail] at h
  exact at_map h
theorem all_rng (n : Nat) (p : Nat → Bool) : ((List.range n).map p).all id = (List.range n).all p := by
  rw [List.all_map]
  rfl
theorem ok_ascI {f : Addr} {fd : FuncData} (F : Fun K "is_ascending" "is_ascending" sAsc f fd) (T : TxtP mg) : FnOk P w K mg base CX0 1 f fd ["items"] (spAscI K) := by
  refine F.ok scAsc (fun vs H Q E h => ?_) (fun cdv A outer s H vs Q E hr h => ?_)
  · obtain ⟨a, ns, rfl, _⟩ := h
    rfl
  · obtain ⟨a, ns, rfl, hS, hn, k⟩ := h
    refine ⟨_, (pss_one (ps_ret (pe_callB (cr_all rfl) (by rfl) T.all (by decide +kernel) (pa_cons (pe_lc (own := [("low", 1), ("high", 2)]) (g := gTup K 2 (gCons (gName 1) (gCons (gName 2) gNil))) (tt := tYes) rfl scAsc.nd (pi_zip (by rfl) T.zip (pa_cons (pv 0) (pa_cons (pe_slice sl_list (pv 0) (po_some pe_int) po_none) pa_nil))) (blkOk_by (own := [("low", 1), ("high", 2)]) (N := ["items", "low", "high"]) (sc := defScope sAsc) (by decide +kernel)) (fun _ _ _ _ _ => pg_tup rfl (pgs_cons (pg_name (i := 1) scAsc.nd rfl (Or.inl rfl)) (pgs_cons (pg_name (i := 2) scAsc.nd rfl (Or.inl rfl)) pgs_nil))) (fun _ _ _ _ _ => pts_nil) (fun _ _ _ _ _ => (pe_cmpR op_lt (pv 1) (pv 2) (nomark _)))) pa_nil)))), ?_⟩
    refine ⟨_, rfl, _, rfl, 1, rfl, a, _, rfl, hS, fun c nc => ?_⟩
    rw [cut_tail]
    refine ⟨a, c, _, _, rfl, (Grows.new nc).seq hS, SqL.of upd_same, fun D hD => lc_zipM (K := K) (fun i => V.bl (decide (ns.getD i 0 < ns.getD (i + 1) 0))) hD ((Grows.new nc).seq hS) (SqL.of upd_same) (by rw [List.length_map]; omega) (fun i x y T H' R hx hy sm hT kR => ?_) fun H' sm eD => ?_⟩
    · refine ⟨T, _, rfl, SqT.of upd_same, rfl, _, _, rfl, _, _, rfl, rfl, ?_⟩
      obtain rfl := at_map (d := 0) hx
      obtain rfl := at_tail (d := 0) hy
      exact ⟨rfl, _, rfl, _, rfl, _, _, rfl, rfl, kR _ .refl⟩
    · have e : min (ns.map V.int).length (ns.map V.int).tail.length = ns.length - 1 := by
        rw [List.length_tail, List.length_map]
        omega
      rw [e] at eD
      refine ⟨D, (List.range (ns.length - 1)).map fun i => decide (ns.getD i 0 < ns.getD (i + 1) 0), rfl, SqL.of (by rw [eD, List.map_map]; rfl), ?_⟩
      rw [all_rng]
      exact k H' ((Grows.new nc).trans sm)
theorem ok_ascR {f : Addr} {fd : FuncData} (F : Fun K "is_ascending" "is_ascending" sAsc f fd) (T : TxtP mg) : FnOk P w K mg base CX0 1 f fd ["items"] (spAscR K) := by
  refine F.ok scAsc (fun vs H Q E h => ?_) (fun cdv A outer s H vs Q E hr h => ?_)
  · obtain ⟨a, bs, rfl, _⟩ := h
    rfl
  · obtain ⟨a, bs, rfl, hS, hb, hn, k⟩ := h
    refine ⟨_, (pss_one (ps_ret (pe_callB (cr_all rfl) (by rfl) T.all (by decide +kernel) (pa_cons (pe_lc (own := [("low", 1), ("high", 2)]) (g := gTup K 2 (gCons (gName 1) (gCons (gName 2) gNil))) (tt := tYes) rfl scAsc.nd (pi_zip (by rfl) T.zip (pa_cons (pv 0) (pa_cons (pe_slice sl_list (pv 0) (po_some pe_int) po_none) pa_nil))) (blkOk_by (own := [("low", 1), ("high", 2)]) (N := ["items", "low", "high"]) (sc := defScope sAsc) (by decide +kernel)) (fun _ _ _ _ _ => pg_tup rfl (pgs_cons (pg_name (i := 1) scAsc.nd rfl (Or.inl rfl)) (pgs_cons (pg_name (i := 2) scAsc.nd rfl (Or.inl rfl)) pgs_nil))) (fun _ _ _ _ _ => pts_nil) (fun _ _ _ _ _ => (pe_cmpR (r := rLtR K) (op_ltR (by exact hr.units)) (pv 1) (pv 2) (nomark _)))) pa_nil)))), ?_⟩
    refine ⟨_, rfl, _, rfl, 1, rfl, a, _, rfl, hS, fun c nc => ?_⟩
    rw [cut_tail]
    have hbD : ∀ i : Nat, i < bs.length → SqL K H (bs.getD i (0, [])).1 ((bs.getD i (0, [])).2.map V.int) := fun i hi => by
      rw [List.getD_eq_getElem?_getD, List.getElem?_eq_getElem hi]
      exact hb _ (List.getElem_mem hi)
    refine ⟨a, c, _, _, rfl, (Grows.new nc).seq hS, SqL.of upd_same, fun D hD => lc_zipM (K := K) (fun i => V.bl (decide ((bs.getD i (0, [])).2 < (bs.getD (i + 1) (0, [])).2))) hD ((Grows.new nc).seq hS) (SqL.of upd_same) (by rw [List.length_map]; omega) (fun i x y T H' R hx hy sm hT kR => ?_) fun H' sm eD => ?_⟩
    · have i1 := (List.getElem?_eq_some_iff.mp hx).1
      have i2 := (List.getElem?_eq_some_iff.mp hy).1
      rw [List.length_map] at i1
      rw [List.length_tail, List.length_map] at i2
      refine ⟨T, _, rfl, SqT.of upd_same, rfl, _, _, rfl, _, _, rfl, rfl, ?_⟩
      obtain rfl := at_map (d := (0, [])) hx
      obtain rfl := at_tail (d := (0, [])) hy
      have st : Grows H (upd H' T (.tup [V.ref (bs.getD i (0, [])).1, V.ref (bs.getD (i + 1) (0, [])).1])) := ((Grows.new nc).trans sm).trans (Grows.new hT)
      exact ⟨rfl, _, rfl, _, rfl, _, _, _, _, rfl, rfl, st.seq (hbD i i1), st.seq (hbD (i + 1) (by omega)), kR _ .refl⟩
    · have e : min (bs.map fun b => V.ref b.1).length (bs.map fun b => V.ref b.1).tail.length = bs.length - 1 := by
        rw [List.length_tail, List.length_map]
        omega
      rw [e] at eD
      refine ⟨D, (List.range (bs.length - 1)).map fun i => decide ((bs.getD i (0, [])).2 < (bs.getD (i + 1) (0, [])).2), rfl, SqL.of (by rw [eD, List.map_map]; rfl), ?_⟩
      rw [all_rng]
      have q := k H' ((Grows.new nc).trans sm)
      unfold ascR at q
      rw [List.length_map] at q
      have fe : ∀ i, (bs.map (·.2)).getD i [] = (bs.getD i (0, [])).2 := fun i => by
        rw [List.getD_eq_getElem?_getD, List.getD_eq_getElem?_getD, List.getElem?_map]
        cases bs[i]? <;> rfl
      simp only [fe] at q
      exact q
end
end K35

namespace K35
open PySem PySem.Spec PyProof.Rows L2 SortR LcM
theorem ty_list {K : PySem.W.Frag} {H : Hp} {a : Addr} {xs : List V} (h : SqL K H a xs) : TyX K H (.ref a) (.type "list") := by
  rcases h with (h | ⟨o, h⟩) | ⟨o, its, n, h, hc, _⟩
  · exact .base (.lst h)
  · exact .base (.frz h)
  · exact .kList h hc
def inR (n : Int) (ns : List Int) : Bool := (List.range ns.length).all fun i => decide (0 ≤ ns.getD i 0) && decide (ns.getD i 0 < n)
def plist (n : Int) (ns : List Int) : Bool := inR n ns && ascI ns
def group (n : Int) (ns : List Int) : Bool := plist n ns && decide (2 ≤ (ns.length : Int))
def maskI (ns : List Int) : Int := ((List.range ns.length).map fun i => 1 * 2 ^ (ns.getD i 0).toNat).sum
def crossI (i j : Int) : Bool := !inV (.int (Builtin.bitAnd i j)) [.int 0, .int i, .int j]
def anyX (rs : List (List Int)) : Bool := (List.range (Comb.prs rs.length).length).any fun t => crossI (maskI (rs.getD ((Comb.prs rs.length).getD t (0, 0)).1 [])) (maskI (rs.getD ((Comb.prs rs.length).getD t (0, 0)).2 []))
def isP (rs : List (List Int)) : Bool := decide ((rs.length : Int) < 20) && ((List.range rs.length).all fun i => group (rs.length + 1) (rs.getD i [])) && ascR rs && !anyX rs
def spPL (K : PySem.W.Frag) (m : Int → List Int → Bool) : Sp := fun vs H Q _ => ∃ (a : Addr) (n : Int) (ns : List Int), vs = [.ref a, .int n] ∧ SqL K H a (ns.map V.int) ∧ ns.length ≤ 1000 ∧ ∀ H', Grows H H' → Q (.bl (m n ns)) H'
def spMask (K : PySem.W.Frag) : Sp := fun vs H Q _ => ∃ (a : Addr) (ns : List Int), vs = [.ref a] ∧ SqL K H a (ns.map V.int) ∧ ns.length ≤ 1000 ∧ (∀ x ∈ ns, 0 ≤ x ∧ x ≤ 1000) ∧ ∀ H', Grows H H' → Q (.int (maskI ns)) H'
def spCross : Sp := fun vs H Q _ => ∃ (i j : Int), vs = [.int i, .int j] ∧ ∀ H', Grows H H' → Q (.bl (crossI i j)) H'
section
variable {P : Program} {w : World} {K : PySem.W.Frag} {mg : Str → Option Value} {base : Heap}
theorem scPList : FnScope ["thing", "persons", "item"] ["thing", "persons"] (defScope sPList) := ⟨rfl, rfl, rfl, by decide +kernel, rfl, by decide +kernel, by decide +kernel⟩
theorem scGroup : FnScope ["thing", "persons"] ["thing", "persons"] (defScope sGroup) := ⟨rfl, rfl, rfl, by decide +kernel, rfl, by decide +kernel, by decide +kernel⟩
theorem scMask : FnScope ["group", "person"] ["group"] (defScope sMask) := ⟨rfl, rfl, rfl, by decide +kernel, rfl, by decide +kernel, by decide +kernel⟩
theorem scCross : FnScope ["one", "other"] ["one", "other"] (defScope sCross) := ⟨rfl, rfl, rfl, by decide +kernel, rfl, by decide +kernel, by decide +kernel⟩
theorem ok_plist (Z : ProgF K mg) (T : TxtP mg) : FnOk P w K mg base CX0 3 Z.fPL Z.dPL ["thing", "persons"] (spPL K plist) := by
  have GPer : FnOk P w K mg base CX0 2 Z.fPer Z.dPer ["thing", "persons"] (spPerson K) := ok_person Z T
  have GAsc : FnOk P w K mg base CX0 1 Z.fAsc Z.dAsc ["items"] (spAscI K) := ok_ascI Z.FAsc T
  refine Z.FPL.ok scPList (fun vs H Q E h => ?_) (fun cdv A outer s H vs Q E hr h => ?_)
  · obtain ⟨a, n, ns, rfl, _⟩ := h
    rfl
  · obtain ⟨a, n, ns, rfl, hS, hn, k⟩ := h
    refine ⟨_, (pss_cons (ps_if (pt_not (pt_val (pe_callB call_isi (by rfl) T.isi (by decide +kernel) (pa_cons (pv 0) (pa_cons (pe_bltn (v := .ty "list") (u := .type "list") (by rfl) T.list (by decide +kernel) rfl) pa_nil))))) (pss_one (ps_ret pe_bl)) pss_nil)
      (pss_one (ps_ret (pe_and (pe_callB (cr_all rfl) (by rfl) T.all (by decide +kernel) (pa_cons (pe_lc (own := [("item", 2)]) (g := gName 2) (tt := tYes) rfl scPList.nd (pi_list (pv 0)) (blkOk_by (own := [("item", 2)]) (N := ["thing", "persons", "item"]) (sc := defScope sPList) (by decide +kernel)) (fun _ _ _ _ _ => pg_name (i := 2) scPList.nd rfl (Or.inl rfl)) (fun _ _ _ _ _ => pts_nil) (fun _ _ _ _ _ => (pe_call GPer (hr.mono (by decide)) rfl Z.gPer Z.FPer.kp Z.bPer .nil pass0 (pa_cons (pv 2) (pa_cons (pv 1) pa_nil))))) pa_nil)) (pe_one (pe_call GAsc (hr.mono (by decide)) rfl Z.gAsc Z.FAsc.kp Z.bAsc .nil pass0 (pa_cons (pv 0) pa_nil))))))), ?_⟩
    refine ⟨_, rfl, _, _, _, _, true, rfl, .ty "list", ty_list hS, kit_ty (by decide +kernel), true, rfl, ?_⟩
    refine iteF ⟨_, rfl, a, rfl, ⟨_, hS⟩, fun D hD => lc_listM (K := K) (fun i => V.bl (decide (0 ≤ ns.getD i 0) && decide (ns.getD i 0 < n))) hD hS (by rw [List.length_map]; omega) (fun i x H' R hx sm kR => ?_) fun H' sm eD => ?_⟩
    · obtain rfl := at_map (d := 0) hx
      refine ⟨rfl, _, rfl, _, rfl, _, "int", n, rfl, .base (.int _), by decide, fun _ => ⟨_, rfl, kR _ .refl⟩, fun z => absurd rfl z⟩
    · rw [List.length_map] at eD
      refine ⟨D, (List.range ns.length).map fun i => decide (0 ≤ ns.getD i 0) && decide (ns.getD i 0 < n), rfl, SqL.of (by rw [eD, List.map_map]; rfl), _, rfl, ?_⟩
      rw [all_rng]
      show if inR n ns = true then _ else _
      by_cases hi : inR n ns = true
      · rw [if_pos hi]
        refine ⟨_, rfl, a, ns, rfl, sm.seq hS, hn, fun H2 s2 => ?_⟩
        have q := k H2 (sm.trans s2)
        unfold plist at q
        rw [hi, Bool.true_and] at q
        exact q
      · rw [if_neg hi]
        have q := k H' sm
        unfold plist at q
        rw [Bool.eq_false_iff.mpr hi, Bool.false_and] at q
        exact q
theorem ok_group (Z : ProgF K mg) (T : TxtP mg) : FnOk P w K mg base CX0 4 Z.fGr Z.dGr ["thing", "persons"] (spPL K group) := by
  have GPL : FnOk P w K mg base CX0 3 Z.fPL Z.dPL ["thing", "persons"] (spPL K plist) := ok_plist Z T
  refine Z.FGr.ok scGroup (fun vs H Q E h => ?_) (fun cdv A outer s H vs Q E hr h => ?_)
  · obtain ⟨a, n, ns, rfl, _⟩ := h
    rfl
  · obtain ⟨a, n, ns, rfl, hS, hn, k⟩ := h
    refine ⟨_, (pss_one (ps_ret (pe_and (pe_call GPL (hr.mono (by decide)) rfl Z.gPL Z.FPL.kp Z.bPL .nil pass0 (pa_cons (pv 0) (pa_cons (pv 1) pa_nil))) (pe_one (pe_cmpR op_ge (pe_callB call_len_seq (by rfl) T.len (by decide +kernel) (pa_cons (pv 0) pa_nil)) pe_int (nomark _)))))), ?_⟩
    refine ⟨_, rfl, _, rfl, a, n, ns, rfl, hS, hn, fun H2 s2 => ⟨_, rfl, ?_⟩⟩
    have q := k H2 s2
    unfold group at q
    by_cases hi : plist n ns = true
    · rw [if_pos hi]
      rw [hi, Bool.true_and] at q
      refine ⟨_, rfl, a, _, rfl, .inl (s2.seq hS), _, _, rfl, rfl, ?_⟩
      rw [List.length_map]
      exact q
    · rw [if_neg hi]
      rw [Bool.eq_false_iff.mpr hi, Bool.false_and] at q
      exact q
theorem ok_mask (Z : ProgF K mg) (T : TxtP mg) : FnOk P w K mg base CX0 1 Z.fMask Z.dMask ["group"] (spMask K) := by
  refine Z.FMask.ok scMask (fun vs H Q E h => ?_) (fun cdv A outer s H vs Q E hr h => ?_)
  · obtain ⟨a, ns, rfl, _⟩ := h
    rfl
  · obtain ⟨a, ns, rfl, hS, hn, hr0, k⟩ := h
    refine ⟨_, (pss_one (ps_ret (pe_callB (cr_sum rfl) (by rfl) T.sum (by decide +kernel) (pa_cons (pe_lc (own := [("person", 1)]) (g := gName 1) (tt := tYes) rfl scMask.nd (pi_list (pv 0)) (blkOk_by (own := [("person", 1)]) (N := ["group", "person"]) (sc := defScope sMask) (by decide +kernel)) (fun _ _ _ _ _ => pg_name (i := 1) scMask.nd rfl (Or.inl rfl)) (fun _ _ _ _ _ => pts_nil) (fun _ _ _ _ _ => (pe_op op_shl pe_int (pv 1)))) pa_nil)))), ?_⟩
    refine ⟨_, rfl, a, rfl, ⟨_, hS⟩, fun D hD => lc_listM (K := K) (fun i => V.int (1 * 2 ^ (ns.getD i 0).toNat)) hD hS (by rw [List.length_map]; omega) (fun i x H' R hx sm kR => ?_) fun H' sm eD => ?_⟩
    · have il := (List.getElem?_eq_some_iff.mp hx).1
      rw [List.length_map] at il
      obtain rfl := at_map (d := 0) hx
      have mem : ns.getD i 0 ∈ ns := by
        rw [List.getD_eq_getElem?_getD, List.getElem?_eq_getElem il]
        exact List.getElem_mem il
      obtain ⟨m0, m1⟩ := hr0 _ mem
      exact ⟨rfl, _, rfl, _, _, rfl, rfl, ⟨m0, by omega, by decide⟩, kR _ .refl⟩
    · rw [List.length_map] at eD
      refine ⟨D, (List.range ns.length).map fun i => 1 * 2 ^ (ns.getD i 0).toNat, rfl, SqL.of (by rw [eD, List.map_map]; rfl), ?_⟩
      exact k H' sm
theorem ok_cross (Z : ProgF K mg) : FnOk P w K mg base CX0 1 Z.fCross Z.dCross ["one", "other"] spCross := by
  refine Z.FCross.ok scCross (fun vs H Q E h => ?_) (fun cdv A outer s H vs Q E hr h => ?_)
  · obtain ⟨i, j, rfl, _⟩ := h
    rfl
  · obtain ⟨i, j, rfl, k⟩ := h
    refine ⟨_, (pss_one (ps_ret (pe_cmpR op_notIn_seq (pe_op op_and (pv 0) (pv 1)) (pe_tup (pa_cons pe_int (pa_cons (pv 0) (pa_cons (pv 1) pa_nil)))) (by rfl)))), ?_⟩
    refine ⟨_, rfl, _, rfl, _, _, rfl, rfl, _, rfl, _, rfl, (by show 3 ≤ sizeLine; decide), fun t ht => ⟨t, _, rfl, .inr (SqT.of upd_same), rfl, rfl, ?_⟩⟩
    exact k _ (Grows.new ht)
end
end K35

namespace K35
open PySem PySem.Spec PyProof.Rows L2 SortR LcM
/-- a list of lists of ints, as it stands -/
structure Rw (K : PySem.W.Frag) (H : Hp) (a : Addr) (bs : List (Addr × List Int)) : Prop where
  top : SqL K H a (bs.map fun b => V.ref b.1)
  each : ∀ b ∈ bs, SqL K H b.1 (b.2.map V.int)
theorem Rw.keep {K : PySem.W.Frag} {H H' : Hp} {a : Addr} {bs : List (Addr × List Int)} (r : Rw K H a bs) (s : Grows H H') : Rw K H' a bs := ⟨s.seq r.top, fun b m => s.seq (r.each b m)⟩
theorem Rw.at {K : PySem.W.Frag} {H : Hp} {a : Addr} {bs : List (Addr × List Int)} (r : Rw K H a bs) {i : Nat} (hi : i < bs.length) : SqL K H (bs.getD i (0, [])).1 ((bs.getD i (0, [])).2.map V.int) := by
  rw [List.getD_eq_getElem?_getD, List.getElem?_eq_getElem hi]
  exact r.each _ (List.getElem_mem hi)
theorem snd_at (bs : List (Addr × List Int)) (i : Nat) : (bs.map (·.2)).getD i [] = (bs.getD i (0, [])).2 := by
  rw [List.getD_eq_getElem?_getD, List.getD_eq_getElem?_getD, List.getElem?_map]
  cases bs[i]? <;> rfl
theorem mem_at {bs : List (Addr × List Int)} {i : Nat} (hi : i < bs.length) : (bs.getD i (0, [])).2 ∈ bs.map (·.2) := by
  rw [List.getD_eq_getElem?_getD, List.getElem?_eq_getElem hi]
  exact List.mem_map.mpr ⟨_, List.getElem_mem hi, rfl⟩
theorem none_back {H H' : Hp} {a : Addr} (s : Grows H H') (h : H' a = none) : H a = none := by
  rcases Option.eq_none_or_eq_some (H a) with z | ⟨o, z⟩
  · exact z
  · rw [s _ _ z] at h
    cases h
theorem nw_back {H0 H1 H : Hp} {cs : List (Addr × List Int)} (n : Nw H1 H cs) (s : Grows H0 H1) : Nw H0 H cs := ⟨n.lists, fun c m => none_back s (n.new c m), n.nodup⟩
theorem snd_of {cs : List (Addr × List Int)} {R : Nat → List Int} {n i : Nat} (e : cs.map (·.2) = (List.range n).map R) (hi : i < n) : (cs.getD i (0, [])).2 = R i := by
  rw [← snd_at, e, List.getD_eq_getElem?_getD, List.getElem?_map, List.getElem?_range hi]
  rfl
theorem any_rng (n : Nat) (p : Nat → Bool) : ((List.range n).map p).any id = (List.range n).any p := by
  rw [List.any_map]
  rfl
/-- of the size that may come -/
def Sz (rs : List (List Int)) : Prop := rs.length ≤ 1000 ∧ ∀ r ∈ rs, r.length ≤ 1000
def spAny (K : PySem.W.Frag) : Sp := fun vs H Q _ => ∃ (a : Addr) (bs : List (Addr × List Int)), vs = [.ref a] ∧ Rw K H a bs ∧ Sz (bs.map (·.2)) ∧ (∀ r ∈ bs.map (·.2), ∀ x ∈ r, 0 ≤ x ∧ x ≤ 1000) ∧ ∀ H', Grows H H' → Q (.bl (anyX (bs.map (·.2)))) H'
def spIs (K : PySem.W.Frag) : Sp := fun vs H Q _ => ∃ (a : Addr) (bs : List (Addr × List Int)), vs = [.ref a] ∧ Rw K H a bs ∧ Sz (bs.map (·.2)) ∧ ∀ H', Grows H H' → Q (.bl (isP (bs.map (·.2)))) H'
def spPs (K : PySem.W.Frag) : Sp := fun vs H Q _ => ∃ (a : Addr) (bs : List (Addr × List Int)), vs = [.ref a] ∧ Rw K H a bs ∧ Sz (bs.map (·.2)) ∧ isP (bs.map (·.2)) = true ∧ ∀ H', Grows H H' → Q (.int (bs.length + 1)) H'
section
variable {P : Program} {w : World} {K : PySem.W.Frag} {mg : Str → Option Value} {base : Heap}
theorem scAny : FnScope ["groups", "masks", "group", "one", "other"] ["groups"] (defScope sAny) := ⟨rfl, rfl, rfl, by decide +kernel, rfl, by decide +kernel, by decide +kernel⟩
theorem scParting : FnScope ["thing", "persons", "group"] ["thing"] (defScope sParting) := ⟨rfl, rfl, rfl, by decide +kernel, rfl, by decide +kernel, by decide +kernel⟩
theorem scPersons : FnScope ["parting"] ["parting"] (defScope sPersons) := ⟨rfl, rfl, rfl, by decide +kernel, rfl, by decide +kernel, by decide +kernel⟩
theorem ok_any (Z : ProgF K mg) (T : TxtP mg) : FnOk P w K mg base CX0 2 Z.fAny Z.dAny ["groups"] (spAny K) := by
  have GMask : FnOk P w K mg base CX0 1 Z.fMask Z.dMask ["group"] (spMask K) := ok_mask Z T
  have GCross : FnOk P w K mg base CX0 1 Z.fCross Z.dCross ["one", "other"] spCross := ok_cross Z
  refine Z.FAny.ok scAny (fun vs H Q E h => ?_) (fun cdv A outer s H vs Q E hr h => ?_)
  · obtain ⟨a, bs, rfl, _⟩ := h
    rfl
  · obtain ⟨a, bs, rfl, hB, ⟨hz1, hz2⟩, hx, k⟩ := h
    refine ⟨_, (pss_cons (ps_setLc (i := 1) (own := [("group", 2)]) (g := gName 2) (tt := tYes) rfl scAny.nd rfl rfl (sw_true rfl rfl rfl (by decide +kernel)) (pi_list (pv 0)) (blkOk_by (own := [("group", 2)]) (N := ["groups", "masks", "group", "one", "other"]) (sc := defScope sAny) (by decide +kernel)) (fun _ _ _ _ _ => pg_name (i := 2) scAny.nd rfl (Or.inl rfl)) (fun _ _ _ _ _ => pts_nil) (fun _ _ _ _ _ => (pe_call GMask (hr.mono (by decide)) rfl Z.gMask Z.FMask.kp Z.bMask .nil pass0 (pa_cons (pv 2) pa_nil))))
      (pss_one (ps_ret (pe_callB (cr_any rfl) (by rfl) T.any (by decide +kernel) (pa_cons (pe_lc (own := [("one", 3), ("other", 4)]) (g := gTup K 2 (gCons (gName 3) (gCons (gName 4) gNil))) (tt := tYes) rfl scAny.nd (Comb.pi_comb (by rfl) Z.gComb (pa_cons (pv 1) (pa_cons pe_int pa_nil))) (blkOk_by (own := [("one", 3), ("other", 4)]) (N := ["groups", "masks", "group", "one", "other"]) (sc := defScope sAny) (by decide +kernel)) (fun _ _ _ _ _ => pg_tup rfl (pgs_cons (pg_name (i := 3) scAny.nd rfl (Or.inl rfl)) (pgs_cons (pg_name (i := 4) scAny.nd rfl (Or.inl rfl)) pgs_nil))) (fun _ _ _ _ _ => pts_nil) (fun _ _ _ _ _ => (pe_call GCross (hr.mono (by decide)) rfl Z.gCross Z.FCross.kp Z.bCross .nil pass0 (pa_cons (pv 3) (pa_cons (pv 4) pa_nil))))) pa_nil))))), ?_⟩
    rw [List.length_map] at hz1
    refine ⟨_, rfl, a, rfl, ⟨_, hB.top⟩, fun D hD => lc_listM (K := K) (fun i => V.int (maskI (bs.getD i (0, [])).2)) hD hB.top (by rw [List.length_map]; omega) (fun i x H' R hx' sm kR => ?_) fun H' sm eD => ?_⟩
    · have il := (List.getElem?_eq_some_iff.mp hx').1
      rw [List.length_map] at il
      obtain rfl := at_map (d := (0, [])) hx'
      exact ⟨rfl, _, rfl, _, _, rfl, sm.seq (hB.at il), hz2 _ (mem_at il), hx _ (mem_at il), fun H2 s2 => kR _ s2⟩
    · rw [List.length_map] at eD
      refine ⟨_, rfl, D, _, rfl, SqL.of eD, fun D2 hD2 => lc_combM (xs := (List.range bs.length).map fun i => V.int (maskI (bs.getD i (0, [])).2)) (fun t => V.bl (crossI (maskI (bs.getD ((Comb.prs bs.length).getD t (0, 0)).1 (0, [])).2) (maskI (bs.getD ((Comb.prs bs.length).getD t (0, 0)).2 (0, [])).2))) hD2 (by rw [List.length_map, List.length_range]; exact hz1) (fun t i j x y T H' R ht ex ey sm2 hT kR => ?_) fun H2 sm2 eD2 => ?_⟩
      · rw [List.length_map, List.length_range] at ht
        rw [List.getElem?_map] at ex ey
        have gx : x = .int (maskI (bs.getD i (0, [])).2) := by
          obtain ⟨z, hz, e⟩ := Option.map_eq_some_iff.mp ex
          have e2 := (List.getElem?_eq_some_iff.mp hz)
          obtain ⟨l2, e3⟩ := e2
          rw [List.getElem_range] at e3
          rw [← e, ← e3]
        have gy : y = .int (maskI (bs.getD j (0, [])).2) := by
          obtain ⟨z, hz, e⟩ := Option.map_eq_some_iff.mp ey
          have e2 := (List.getElem?_eq_some_iff.mp hz)
          obtain ⟨l2, e3⟩ := e2
          rw [List.getElem_range] at e3
          rw [← e, ← e3]
        subst gx gy
        have et : (Comb.prs bs.length).getD t (0, 0) = (i, j) := by
          rw [List.getD_eq_getElem?_getD, ht]
          rfl
        rw [et] at kR
        exact ⟨T, _, rfl, SqT.of upd_same, rfl, _, _, rfl, _, _, rfl, rfl, rfl, _, rfl, _, rfl, _, _, rfl, fun H3 s3 => kR _ s3⟩
      · rw [List.length_map, List.length_range] at eD2
        refine ⟨D2, (List.range (Comb.prs bs.length).length).map fun t => crossI (maskI (bs.getD ((Comb.prs bs.length).getD t (0, 0)).1 (0, [])).2) (maskI (bs.getD ((Comb.prs bs.length).getD t (0, 0)).2 (0, [])).2), rfl, SqL.of (by rw [eD2, List.map_map]; rfl), ?_⟩
        rw [any_rng]
        have q := k H2 (sm.trans sm2)
        unfold anyX at q
        simp only [List.length_map, snd_at] at q
        exact q
theorem rows_in {n : Int} {ns : List Int} (h : group n ns = true) (hn : n ≤ 1000) : ∀ x ∈ ns, 0 ≤ x ∧ x ≤ 1000 := by
  unfold group plist at h
  simp only [Bool.and_eq_true] at h
  obtain ⟨⟨h1, _⟩, _⟩ := h
  intro x hx
  obtain ⟨i, hi, e⟩ := List.getElem_of_mem hx
  have q := List.all_eq_true.mp h1 i (List.mem_range.mpr hi)
  simp only [Bool.and_eq_true, decide_eq_true_eq] at q
  rw [List.getD_eq_getElem?_getD, List.getElem?_eq_getElem hi] at q
  have q' : 0 ≤ ns[i] ∧ ns[i] < n := q
  rw [e] at q'
  omega
theorem ok_is (Z : ProgF K mg) (T : TxtP mg) : FnOk P w K mg base CX0 5 Z.fIs Z.dIs ["thing"] (spIs K) := by
  have GGr : FnOk P w K mg base CX0 4 Z.fGr Z.dGr ["thing", "persons"] (spPL K group) := ok_group Z T
  have GAsc : FnOk P w K mg base CX0 1 Z.fAsc Z.dAsc ["items"] (spAscR K) := ok_ascR Z.FAsc T
  have GAny : FnOk P w K mg base CX0 2 Z.fAny Z.dAny ["groups"] (spAny K) := ok_any Z T
  refine Z.FIs.ok scParting (fun vs H Q E h => ?_) (fun cdv A outer s H vs Q E hr h => ?_)
  · obtain ⟨a, bs, rfl, _⟩ := h
    rfl
  · obtain ⟨a, bs, rfl, hB, hz, k⟩ := h
    refine ⟨_, (pss_cons (ps_if (PW.pt (pw_or (pt_not (pt_val (pe_callB call_isi (by rfl) T.isi (by decide +kernel) (pa_cons (pv 0) (pa_cons (pe_bltn (v := .ty "list") (u := .type "list") (by rfl) T.list (by decide +kernel) rfl) pa_nil))))) (pw_or1 (pt_cmpR op_ge (pe_callB call_len_seq (by rfl) T.len (by decide +kernel) (pa_cons (pv 0) pa_nil)) (pe_glob (v := .int 20) rfl Z.gMost ⟨_, rfl⟩) (nomark _))))) (pss_one (ps_ret pe_bl)) pss_nil)
      (pss_cons (ps_set (i := 1) scParting.nd rfl (.inr rfl) (pe_op op_add (pe_callB call_len_seq (by rfl) T.len (by decide +kernel) (pa_cons (pv 0) pa_nil)) pe_int))
      (pss_cons (ps_if (pt_not (pt_val (pe_callB (cr_all rfl) (by rfl) T.all (by decide +kernel) (pa_cons (pe_lc (own := [("group", 2)]) (g := gName 2) (tt := tYes) rfl scParting.nd (pi_list (pv 0)) (blkOk_by (own := [("group", 2)]) (N := ["thing", "persons", "group"]) (sc := defScope sParting) (by decide +kernel)) (fun _ _ _ _ _ => pg_name (i := 2) scParting.nd rfl (Or.inl rfl)) (fun _ _ _ _ _ => pts_nil) (fun _ _ _ _ _ => (pe_call GGr (hr.mono (by decide)) rfl Z.gGr Z.FGr.kp Z.bGr .nil pass0 (pa_cons (pv 2) (pa_cons (pv 1) pa_nil))))) pa_nil)))) (pss_one (ps_ret pe_bl)) pss_nil)
      (pss_one (ps_ret (pe_and (pe_call GAsc (hr.mono (by decide)) rfl Z.gAsc Z.FAsc.kp Z.bAsc .nil pass0 (pa_cons (pv 0) pa_nil)) (pe_one (pe_not (pe_call GAny (hr.mono (by decide)) rfl Z.gAny Z.FAny.kp Z.bAny .nil pass0 (pa_cons (pv 0) pa_nil)))))))))), ?_⟩
    have hz' := hz
    obtain ⟨hz1, hz2⟩ := hz
    rw [List.length_map] at hz1
    refine ⟨_, rfl, _, _, _, _, true, rfl, .ty "list", ty_list hB.top, kit_ty (by decide +kernel), true, rfl, iteF ⟨_, rfl, a, _, rfl, .inl hB.top, _, _, rfl, rfl, _, rfl, ?_⟩⟩
    rw [List.length_map]
    refine ite2 (fun e => ?_) (fun e => ?_)
    · have ge := of_decide_eq_true e
      have q := k H .refl
      unfold isP at q
      rw [List.length_map, decide_eq_false (by omega), Bool.false_and, Bool.false_and, Bool.false_and] at q
      exact q
    · have lt : (bs.length : Int) < 20 := by
        rcases Int.lt_or_le (bs.length : Int) 20 with z | z
        · exact z
        · exact absurd (decide_eq_true z) e
      refine ⟨_, rfl, a, _, rfl, .inl hB.top, _, _, rfl, rfl, ?_⟩
      rw [List.length_map]
      refine ⟨_, rfl, a, rfl, ⟨_, hB.top⟩, fun D hD => lc_listM (K := K) (fun i => V.bl (group (bs.length + 1) (bs.getD i (0, [])).2)) hD hB.top (by rw [List.length_map]; omega) (fun i x H' R hx' sm kR => ?_) fun H' sm eD => ?_⟩
      · have il := (List.getElem?_eq_some_iff.mp hx').1
        rw [List.length_map] at il
        obtain rfl := at_map (d := (0, [])) hx'
        exact ⟨rfl, _, rfl, _, rfl, _, _, _, rfl, sm.seq (hB.at il), hz2 _ (mem_at il), fun H2 s2 => kR _ s2⟩
      · rw [List.length_map] at eD
        refine ⟨D, (List.range bs.length).map fun i => group (bs.length + 1) (bs.getD i (0, [])).2, rfl, SqL.of (by rw [eD, List.map_map]; rfl), ?_⟩
        rw [all_rng]
        refine ⟨_, rfl, ?_⟩
        have val : ∀ H2, Grows H H2 → Q (.bl (((List.range bs.length).all fun i => group (bs.length + 1) (bs.getD i (0, [])).2) && ascR (bs.map (·.2)) && !anyX (bs.map (·.2)))) H2 := fun H2 s2 => by
          have q := k H2 s2
          unfold isP at q
          simp only [List.length_map, snd_at] at q
          rw [decide_eq_true lt, Bool.true_and] at q
          exact q
        by_cases hg : ((List.range bs.length).all fun i => group (bs.length + 1) (bs.getD i (0, [])).2) = true
        · rw [hg] at val ⊢
          refine iteF ⟨_, rfl, a, bs, rfl, (hB.keep sm).top, (hB.keep sm).each, hz1, fun H2 s2 => ⟨_, rfl, ?_⟩⟩
          by_cases ha : ascR (bs.map (·.2)) = true
          · rw [if_pos ha]
            have hx : ∀ r ∈ bs.map (·.2), ∀ x ∈ r, 0 ≤ x ∧ x ≤ 1000 := fun r hr x hx => by
              obtain ⟨i, hi, e⟩ := List.getElem_of_mem hr
              rw [List.length_map] at hi
              have g := List.all_eq_true.mp hg i (List.mem_range.mpr hi)
              have e2 : (bs.getD i (0, [])).2 = r := by
                rw [← snd_at, List.getD_eq_getElem?_getD, List.getElem?_eq_getElem (by rw [List.length_map]; exact hi), e]
                rfl
              rw [e2] at g
              exact rows_in g (by omega) x hx
            refine ⟨_, rfl, a, bs, rfl, (hB.keep sm).keep s2, hz', hx, fun H3 s3 => ⟨_, rfl, ?_⟩⟩
            have q := val H3 ((sm.trans s2).trans s3)
            rw [ha, Bool.true_and, Bool.true_and] at q
            exact q
          · rw [if_neg ha]
            have q := val H2 (sm.trans s2)
            rw [Bool.eq_false_iff.mpr ha, Bool.true_and, Bool.false_and] at q
            exact q
        · have q := val H' sm
          rw [Bool.eq_false_iff.mpr hg] at q ⊢
          rw [Bool.false_and, Bool.false_and] at q
          exact iteT q
theorem ok_persons (Z : ProgF K mg) (T : TxtP mg) : FnOk P w K mg base CX0 6 Z.fPs Z.dPs ["parting"] (spPs K) := by
  have GIs : FnOk P w K mg base CX0 5 Z.fIs Z.dIs ["thing"] (spIs K) := ok_is Z T
  refine Z.FPs.ok scPersons (fun vs H Q E h => ?_) (fun cdv A outer s H vs Q E hr h => ?_)
  · obtain ⟨a, bs, rfl, _⟩ := h
    rfl
  · obtain ⟨a, bs, rfl, hB, hz, hp, k⟩ := h
    refine ⟨_, (pss_cons (ps_if (pt_not (pt_val (pe_call GIs (hr.mono (by decide)) rfl Z.gIs Z.FIs.kp Z.bIs .nil pass0 (pa_cons (pv 0) pa_nil)))) (pss_one ps_never) pss_nil)
      (pss_one (ps_ret (pe_op op_add (pe_callB call_len_seq (by rfl) T.len (by decide +kernel) (pa_cons (pv 0) pa_nil)) pe_int)))), ?_⟩
    refine ⟨_, rfl, a, bs, rfl, hB, hz, fun H2 s2 => ?_⟩
    rw [hp]
    refine ⟨_, rfl, iteF ⟨_, rfl, a, _, rfl, .inl (s2.seq hB.top), _, _, rfl, rfl, ?_⟩⟩
    rw [List.length_map]
    exact k H2 s2
end
end K35

namespace K35
open PySem PySem.Spec PyProof.Rows L2 SortR LcM
theorem plist_of {n : Int} {ks : List Int} (up : ks.Pairwise (· < ·)) (rng : ∀ x ∈ ks, 0 ≤ x ∧ x < n) : plist n ks = true := by
  unfold plist inR ascI
  rw [Bool.and_eq_true]
  refine ⟨List.all_eq_true.mpr fun i hi => ?_, List.all_eq_true.mpr fun i hi => ?_⟩
  · have il := List.mem_range.mp hi
    have e : ks.getD i 0 = ks[i] := by rw [List.getD_eq_getElem?_getD, List.getElem?_eq_getElem il]; rfl
    have := rng _ (List.getElem_mem il)
    rw [e, decide_eq_true this.1, decide_eq_true this.2]
    rfl
  · have il := List.mem_range.mp hi
    have l1 : i < ks.length := by omega
    have l2 : i + 1 < ks.length := by omega
    have e1 : ks.getD i 0 = ks[i] := by rw [List.getD_eq_getElem?_getD, List.getElem?_eq_getElem l1]; rfl
    have e2 : ks.getD (i + 1) 0 = ks[i + 1] := by rw [List.getD_eq_getElem?_getD, List.getElem?_eq_getElem l2]; rfl
    rw [e1, e2]
    exact decide_eq_true (List.pairwise_iff_getElem.mp up i (i + 1) l1 l2 (Nat.lt_succ_self i))
theorem gr_none {p a : Addr} {H H' : Hp} (g : Gr p H H') (h : H' a = none) (n : a ≠ p) : H a = none := by
  rcases Option.eq_none_or_eq_some (H a) with z | ⟨o, z⟩
  · exact z
  · rw [g a o n z] at h
    cases h
theorem rg_ints (n : Int) : rgV 0 n = ((List.range n.toNat).map fun i => (0 + (i : Nat) : Int)).map V.int := by
  unfold rgV
  rw [List.map_map, Int.sub_zero]
  rfl
theorem rg_up (n : Nat) : ((List.range n).map fun i => (0 + (i : Nat) : Int)).Pairwise (· < ·) := by
  rw [List.pairwise_map]
  exact List.pairwise_lt_range.imp fun {a b} h => by omega
theorem rg_in (n : Nat) : ∀ x ∈ (List.range n).map fun i => (0 + (i : Nat) : Int), 0 ≤ x ∧ x < n := fun x hx => by
  obtain ⟨i, hi, e⟩ := List.mem_map.mp hx
  have := List.mem_range.mp hi
  omega
theorem inV_ints (i : Int) (ns : List Int) : inV (.int i) (ns.map V.int) = decide (i ∈ ns) := by
  unfold inV
  induction ns with
  | nil => rfl
  | cons x ns ih =>
    rw [List.map_cons, List.any_cons, ih]
    show ((x == i) || decide (i ∈ ns)) = decide (i ∈ x :: ns)
    by_cases e : x = i
    · rw [e, beq_self_eq_true, Bool.true_or, decide_eq_true List.mem_cons_self]
    · rw [beq_eq_false_iff_ne.mpr e, Bool.false_or]
      by_cases m : i ∈ ns
      · rw [decide_eq_true m, decide_eq_true (List.mem_cons_of_mem _ m)]
      · rw [decide_eq_false m, decide_eq_false fun z => (List.mem_cons.mp z).elim (fun q => e q.symm) m]
theorem flat_ints (ns : List Int) : (ns.map V.int).all flatV = true := by
  rw [List.all_map]
  exact List.all_eq_true.mpr fun _ _ => rfl
end K35

namespace K35
open PySem PySem.Spec PyProof.Rows L2 SortR LcM
theorem rng_map {α β : Type} (ns : List α) (d : α) (f : α → β) : (List.range ns.length).map (fun i => f (ns.getD i d)) = ns.map f := by
  refine List.ext_getElem (by rw [List.length_map, List.length_map, List.length_range]) fun j j1 j2 => ?_
  rw [List.length_map] at j2
  rw [List.getElem_map, List.getElem_map, List.getElem_range, List.getD_eq_getElem?_getD, List.getElem?_eq_getElem j2]
  rfl
theorem maskI_mk {ns : List Int} : maskI ns = ((mk (ns.map Int.toNat) : Nat) : Int) := by
  unfold maskI
  rw [rng_map ns 0 fun x => (1 : Int) * 2 ^ x.toNat]
  induction ns with
  | nil => rfl
  | cons x ns ih =>
    rw [List.map_cons, List.sum_cons, ih, List.map_cons, mk_cons, Int.one_mul, Int.natCast_add, Int.natCast_pow]
    rfl
/-- ascending lists of persons that lie apart, or one within the other -/
def Nice (xs ys : List Int) : Prop := (∀ z ∈ xs, z ∉ ys) ∨ (∀ z ∈ xs, z ∈ ys) ∨ ∀ z ∈ ys, z ∈ xs
theorem up_nat {xs : List Int} (h : xs.Pairwise (· < ·)) (p : ∀ x ∈ xs, 0 ≤ x) : (xs.map Int.toNat).Pairwise (· < ·) := by
  rw [List.pairwise_map]
  exact h.imp_of_mem fun {a b} ha hb lt => by
    have := p a ha
    have := p b hb
    omega
theorem mem_nat {xs : List Int} (p : ∀ x ∈ xs, 0 ≤ x) {i : Nat} : i ∈ xs.map Int.toNat ↔ (i : Int) ∈ xs := by
  rw [List.mem_map]
  constructor
  · rintro ⟨x, hx, rfl⟩
    rw [Int.toNat_of_nonneg (p x hx)]
    exact hx
  · intro h
    exact ⟨_, h, rfl⟩
theorem crossI_no {xs ys : List Int} (hx : xs.Pairwise (· < ·)) (hy : ys.Pairwise (· < ·)) (px : ∀ x ∈ xs, 0 ≤ x) (py : ∀ x ∈ ys, 0 ≤ x) (h : Nice xs ys) : crossI (maskI xs) (maskI ys) = false := by
  have h' : (∀ z ∈ xs.map Int.toNat, z ∉ ys.map Int.toNat) ∨ (∀ z ∈ xs.map Int.toNat, z ∈ ys.map Int.toNat) ∨ ∀ z ∈ ys.map Int.toNat, z ∈ xs.map Int.toNat := by
    rcases h with h | h | h
    · exact .inl fun z hz hz2 => h _ ((mem_nat px).mp hz) ((mem_nat py).mp hz2)
    · exact .inr (.inl fun z hz => (mem_nat py).mpr (h _ ((mem_nat px).mp hz)))
    · exact .inr (.inr fun z hz => (mem_nat px).mpr (h _ ((mem_nat py).mp hz)))
  have m := mk_and (up_nat hx px) (up_nat hy py) h'
  rw [maskI_mk, maskI_mk]
  unfold crossI
  rw [PyProof.Rows.bitAnd_pp (Int.natCast_nonneg _) (Int.natCast_nonneg _), Int.toNat_natCast, Int.toNat_natCast]
  generalize mk (xs.map Int.toNat) = a at m
  generalize mk (ys.map Int.toNat) = b at m
  have e : inV (.int ((a &&& b : Nat) : Int)) [.int 0, .int (a : Int), .int (b : Int)] = true := by
    unfold inV
    rcases m with m | m | m
    · rw [m]
      rfl
    · rw [m]
      simp [eqV]
    · rw [m]
      simp [eqV]
  rw [e]
  rfl
end K35

namespace K35
open PySem PySem.Spec PyProof.Rows L2 SortR LcM
/-! ### families that grow newcomer by newcomer -/
theorem len_sub : ∀ {xs ys : List Int}, xs.Nodup → (∀ z ∈ xs, z ∈ ys) → xs.length ≤ ys.length
  | [], _, _, _ => Nat.zero_le _
  | x :: xs, ys, h, s => by
    obtain ⟨nx, n⟩ := List.nodup_cons.mp h
    have m : x ∈ ys := s x List.mem_cons_self
    have q := len_sub n (ys := ys.erase x) fun z hz => (List.mem_erase_of_ne fun e => nx (by rw [← e]; exact hz)).mpr (s z (List.mem_cons_of_mem _ hz))
    rw [List.length_erase_of_mem m] at q
    have := List.length_pos_of_mem m
    rw [List.length_cons]
    omega
theorem sub_back {xs ys : List Int} (h : xs.Nodup) (s : ∀ z ∈ xs, z ∈ ys) (l : ys.length ≤ xs.length) : ∀ z ∈ ys, z ∈ xs := fun z hz => by
  apply Classical.byContradiction
  intro no
  have q := len_sub (List.nodup_cons.mpr ⟨no, h⟩) fun y hy => (List.mem_cons.mp hy).elim (fun e => by rw [e]; exact hz) (s y)
  rw [List.length_cons] at q
  omega
theorem up_nodup {xs : List Int} (h : xs.Pairwise (· < ·)) : xs.Nodup := h.imp fun {a b} lt e => by omega
theorem Nice.symm {xs ys : List Int} (h : Nice xs ys) : Nice ys xs := by
  rcases h with h | h | h
  · exact .inl fun z hz hx => h z hx hz
  · exact .inr (.inr h)
  · exact .inr (.inl h)
theorem Nice.same {xs : List Int} : Nice xs xs := .inr (.inl fun _ h => h)
/-- what the newcomer is beside or around -/
def baseB (rs : List (List Int)) (item : Int) : List Int := if 0 ≤ item then [item] else rs.getD (0 - item - 1).toNat []
/-- whether a group is around it -/
def inB (b w : List Int) : Bool := decide (b.length < w.length) && decide (b.headD 0 ∈ w)
def growB (f : Int) (b w : List Int) : List Int := if inB b w = true then w ++ [f] else w
def stepB (rs : List (List Int)) (item : Int) : List (List Int) := rs.map (growB ((rs.length : Int) + 1) (baseB rs item)) ++ [baseB rs item ++ [(rs.length : Int) + 1]]
def famB (is : List Int) : Nat → List (List Int)
  | 0 => []
  | n + 1 => stepB (famB is n) (is.getD n 0)
theorem stepB_len (rs : List (List Int)) (item : Int) : (stepB rs item).length = rs.length + 1 := by
  unfold stepB
  rw [List.length_append, List.length_map]
  rfl
theorem famB_len (is : List Int) : ∀ n, (famB is n).length = n
  | 0 => rfl
  | n + 1 => by
    show (stepB (famB is n) _).length = n + 1
    rw [stepB_len, famB_len is n]
structure Fam (rs : List (List Int)) : Prop where
  up : ∀ r ∈ rs, r.Pairwise (· < ·)
  two : ∀ r ∈ rs, 2 ≤ r.length
  rng : ∀ r ∈ rs, ∀ x ∈ r, 0 ≤ x ∧ x ≤ (rs.length : Int)
  nice : rs.Pairwise fun a b => Nice a b ∧ a ≠ b
theorem pw_mem {α : Type} {R : α → α → Prop} (sy : ∀ a b, R a b → R b a) {xs : List α} (h : xs.Pairwise R) {a b : α} (ha : a ∈ xs) (hb : b ∈ xs) : a = b ∨ R a b := by
  induction h with
  | nil => cases ha
  | @cons x xs hx _ ih =>
    rcases List.mem_cons.mp ha with e1 | e1
    · rcases List.mem_cons.mp hb with e2 | e2
      · exact .inl (e1.trans e2.symm)
      · rw [e1]
        exact .inr (hx b e2)
    · rcases List.mem_cons.mp hb with e2 | e2
      · rw [e2]
        exact .inr (sy _ _ (hx a e1))
      · exact ih e1 e2
theorem Fam.two_nice {rs : List (List Int)} (F : Fam rs) {a b : List Int} (ha : a ∈ rs) (hb : b ∈ rs) : Nice a b := by
  rcases pw_mem (R := fun a b => Nice a b ∧ a ≠ b) (fun a b h => ⟨h.1.symm, h.2.symm⟩) F.nice ha hb with e | e
  · rw [e]
    exact .same
  · exact e.1
structure Bas (rs : List (List Int)) (b : List Int) : Prop where
  up : b.Pairwise (· < ·)
  ne : ∃ h t, b = h :: t
  rng : ∀ x ∈ b, 0 ≤ x ∧ x ≤ (rs.length : Int)
  nice : ∀ w ∈ rs, Nice b w
theorem Fam.bas {rs : List (List Int)} (F : Fam rs) {item : Int} (h0 : -(rs.length : Int) ≤ item) (h1 : item ≤ rs.length) : Bas rs (baseB rs item) := by
  unfold baseB
  by_cases p : 0 ≤ item
  · rw [if_pos p]
    refine ⟨List.pairwise_singleton _ _, ⟨_, _, rfl⟩, fun x hx => by rw [List.mem_singleton.mp hx]; exact ⟨p, h1⟩, fun w _ => ?_⟩
    by_cases m : item ∈ w
    · exact .inr (.inl fun z hz => by rw [List.mem_singleton.mp hz]; exact m)
    · exact .inl fun z hz => by rw [List.mem_singleton.mp hz]; exact m
  · rw [if_neg p]
    have lt : (0 - item - 1).toNat < rs.length := by omega
    have e : rs.getD (0 - item - 1).toNat [] = rs[(0 - item - 1).toNat] := by rw [List.getD_eq_getElem?_getD, List.getElem?_eq_getElem lt]; rfl
    have m : rs.getD (0 - item - 1).toNat [] ∈ rs := by rw [e]; exact List.getElem_mem lt
    refine ⟨F.up _ m, ?_, F.rng _ m, fun w hw => F.two_nice m hw⟩
    have t := F.two _ m
    cases z : rs.getD (0 - item - 1).toNat [] with
    | nil => rw [z] at t; exact absurd t (by decide)
    | cons x y => exact ⟨x, y, rfl⟩
theorem Bas.head {rs : List (List Int)} {b : List Int} (B : Bas rs b) : b.headD 0 ∈ b := by
  obtain ⟨h, t, e⟩ := B.ne
  rw [e]
  exact List.mem_cons_self
theorem Bas.sub {rs : List (List Int)} {b w : List Int} (B : Bas rs b) (F : Fam rs) (hw : w ∈ rs) (i : inB b w = true) : (∀ z ∈ b, z ∈ w) ∧ b.length < w.length := by
  unfold inB at i
  simp only [Bool.and_eq_true, decide_eq_true_eq] at i
  refine ⟨?_, i.1⟩
  rcases B.nice w hw with h | h | h
  · exact absurd i.2 (h _ B.head)
  · exact h
  · have := len_sub (up_nodup (F.up w hw)) h
    omega
theorem Bas.out {rs : List (List Int)} {b w : List Int} (B : Bas rs b) (hw : w ∈ rs) (i : inB b w = false) : (∀ z ∈ b, z ∉ w) ∨ ∀ z ∈ w, z ∈ b := by
  rcases B.nice w hw with h | h | h
  · exact .inl h
  · refine .inr (sub_back (up_nodup B.up) h ?_)
    apply Classical.byContradiction
    intro l
    unfold inB at i
    rw [decide_eq_true (show b.length < w.length by omega), decide_eq_true (h _ B.head)] at i
    cases i
  · exact .inr h
theorem nice_both {a b : List Int} {f h : Int} (ha : h ∈ a) (hb : h ∈ b) (n : Nice a b) : Nice (a ++ [f]) (b ++ [f]) := by
  rcases n with n | n | n
  · exact absurd hb (n h ha)
  · exact .inr (.inl fun z hz => (List.mem_append.mp hz).elim (fun q => List.mem_append.mpr (.inl (n z q))) fun q => List.mem_append.mpr (.inr q))
  · exact .inr (.inr fun z hz => (List.mem_append.mp hz).elim (fun q => List.mem_append.mpr (.inl (n z q))) fun q => List.mem_append.mpr (.inr q))
theorem nice_one {rs : List (List Int)} {b w1 w2 : List Int} {f : Int} (B : Bas rs b) (F : Fam rs) (h1 : w1 ∈ rs) (h2 : w2 ∈ rs) (i1 : inB b w1 = true) (i2 : inB b w2 = false) (nf : f ∉ w2) : Nice (w1 ++ [f]) w2 := by
  obtain ⟨s, l⟩ := B.sub F h1 i1
  rcases F.two_nice h1 h2 with n | n | n
  · refine .inl fun z hz h => ?_
    rcases List.mem_append.mp hz with q | q
    · exact n z q h
    · rw [List.mem_singleton.mp q] at h
      exact nf h
  · have := len_sub (up_nodup (F.up w1 h1)) n
    unfold inB at i2
    rw [decide_eq_true (show b.length < w2.length by omega), decide_eq_true (n _ (s _ B.head))] at i2
    cases i2
  · exact .inr (.inr fun z hz => List.mem_append.mpr (.inl (n z hz)))
theorem Fam.step {rs : List (List Int)} (F : Fam rs) {item : Int} (h0 : -(rs.length : Int) ≤ item) (h1 : item ≤ rs.length) : Fam (stepB rs item) := by
  have B := F.bas h0 h1
  obtain ⟨f, ef⟩ : ∃ f : Int, f = (rs.length : Int) + 1 := ⟨_, rfl⟩
  have nf : ∀ w ∈ rs, f ∉ w := fun w hw z => by
    have := (F.rng w hw f z).2
    omega
  have nb : f ∉ baseB rs item := fun z => by
    have := (B.rng f z).2
    omega
  have up1 : ∀ {w : List Int}, w.Pairwise (· < ·) → (∀ x ∈ w, x ≤ (rs.length : Int)) → (w ++ [f]).Pairwise (· < ·) := fun {w} u r => List.pairwise_append.mpr ⟨u, List.pairwise_singleton _ _, fun a ha b hb => by
    rw [List.mem_singleton.mp hb]
    have := r a ha
    omega⟩
  have mem : ∀ r ∈ stepB rs item, (∃ w ∈ rs, r = growB f (baseB rs item) w) ∨ r = baseB rs item ++ [f] := fun r hr => by
    unfold stepB at hr
    rw [← ef] at hr
    rcases List.mem_append.mp hr with q | q
    · obtain ⟨w, hw, e⟩ := List.mem_map.mp q
      exact .inl ⟨w, hw, e.symm⟩
    · exact .inr (List.mem_singleton.mp q)
  have big : ((stepB rs item).length : Int) = f := by
    rw [stepB_len, ef]
    rfl
  refine ⟨fun r hr => ?_, fun r hr => ?_, fun r hr x hx => ?_, ?_⟩
  · rcases mem r hr with ⟨w, hw, rfl⟩ | rfl
    · unfold growB
      split
      · exact up1 (F.up w hw) fun x hx => (F.rng w hw x hx).2
      · exact F.up w hw
    · exact up1 B.up fun x hx => (B.rng x hx).2
  · rcases mem r hr with ⟨w, hw, rfl⟩ | rfl
    · have := F.two w hw
      unfold growB
      split
      · rw [List.length_append]
        omega
      · exact this
    · obtain ⟨h, t, e⟩ := B.ne
      rw [e, List.length_append, List.length_cons]
      show 2 ≤ t.length + 1 + 1
      omega
  · rw [big]
    have fin : ∀ {w : List Int}, (∀ x ∈ w, 0 ≤ x ∧ x ≤ (rs.length : Int)) → x ∈ w ++ [f] → 0 ≤ x ∧ x ≤ f := fun {w} r h => by
      rcases List.mem_append.mp h with q | q
      · have := r x q
        omega
      · rw [List.mem_singleton.mp q]
        omega
    rcases mem r hr with ⟨w, hw, rfl⟩ | rfl
    · unfold growB at hx
      split at hx
      · exact fin (F.rng w hw) hx
      · exact fin (F.rng w hw) (List.mem_append.mpr (.inl hx))
    · exact fin B.rng hx
  · unfold stepB
    rw [← ef]
    refine List.pairwise_append.mpr ⟨?_, List.pairwise_singleton _ _, fun a ha b hb => ?_⟩
    · rw [List.pairwise_map]
      refine F.nice.imp_of_mem fun {w1 w2} m1 m2 ⟨n, ne⟩ => ?_
      unfold growB
      cases i1 : inB (baseB rs item) w1 <;> cases i2 : inB (baseB rs item) w2
      · exact ⟨n, ne⟩
      · refine ⟨(nice_one B F m2 m1 i2 i1 (nf w1 m1)).symm, fun e => nf w1 m1 ?_⟩
        rw [if_neg Bool.false_ne_true, if_pos rfl] at e
        rw [e]
        exact List.mem_append.mpr (.inr List.mem_cons_self)
      · refine ⟨nice_one B F m1 m2 i1 i2 (nf w2 m2), fun e => nf w2 m2 ?_⟩
        rw [if_neg Bool.false_ne_true, if_pos rfl] at e
        rw [← e]
        exact List.mem_append.mpr (.inr List.mem_cons_self)
      · refine ⟨nice_both ((B.sub F m1 i1).1 _ B.head) ((B.sub F m2 i2).1 _ B.head) n, fun e => ne ?_⟩
        rw [if_pos rfl, if_pos rfl] at e
        exact List.append_cancel_right e
    · rw [List.mem_singleton.mp hb]
      obtain ⟨w, hw, e⟩ := List.mem_map.mp ha
      rw [← e]
      unfold growB
      cases i : inB (baseB rs item) w
      · rw [if_neg Bool.false_ne_true]
        refine ⟨?_, fun q => nf w hw ?_⟩
        · rcases B.out hw i with n | n
          · refine .inl fun z hz h => ?_
            rcases List.mem_append.mp h with q | q
            · exact n z q hz
            · rw [List.mem_singleton.mp q] at hz
              exact nf w hw hz
          · exact .inr (.inl fun z hz => List.mem_append.mpr (.inl (n z hz)))
        · rw [q]
          exact List.mem_append.mpr (.inr List.mem_cons_self)
      · rw [if_pos rfl]
        obtain ⟨s, l⟩ := B.sub F hw i
        refine ⟨.inr (.inr fun z hz => (List.mem_append.mp hz).elim (fun q => List.mem_append.mpr (.inl (s z q))) fun q => List.mem_append.mpr (.inr q)), fun q => ?_⟩
        have := congrArg List.length (List.append_cancel_right q)
        omega
theorem famB_ok {is : List Int} (h : Bnd is) : ∀ n, n ≤ is.length → Fam (famB is n)
  | 0, _ => ⟨(fun _ h => nomatch h), (fun _ h => nomatch h), (fun _ h => nomatch h), List.Pairwise.nil⟩
  | n + 1, hn => by
    have e : is[n]? = some is[n] := List.getElem?_eq_getElem hn
    have b := h n _ e
    have eg : is.getD n 0 = is[n] := by rw [List.getD_eq_getElem?_getD, e]; rfl
    have L := famB_len is n
    exact (famB_ok h n (Nat.le_of_succ_le hn)).step (by rw [L, eg]; exact b.1) (by rw [L, eg]; exact b.2)
/-! ### such a family, sorted, is a parting -/
theorem sorted_rows (rs : List (List Int)) : (rs.mergeSort fun p q => decide (p ≤ q)).Pairwise (· ≤ ·) := by
  have h := List.pairwise_mergeSort (le := fun p q : List Int => decide (p ≤ q)) (fun a b c h1 h2 => decide_eq_true (List.le_trans (of_decide_eq_true h1) (of_decide_eq_true h2)))
    (fun a b => by
      simp only [Bool.or_eq_true, decide_eq_true_eq]
      exact List.le_total a b) rs
  exact h.imp fun {a b} z => of_decide_eq_true z
theorem strict_rows {rs : List (List Int)} (h : rs.Pairwise (· ≤ ·)) (n : rs.Nodup) : rs.Pairwise (· < ·) :=
  (h.and n).imp fun {a b} z => (List.le_iff_lt_or_eq.mp z.1).resolve_right z.2
theorem ascR_of {rs : List (List Int)} (up : rs.Pairwise (· < ·)) : ascR rs = true := by
  unfold ascR
  refine List.all_eq_true.mpr fun i hi => ?_
  have il := List.mem_range.mp hi
  have l1 : i < rs.length := by omega
  have l2 : i + 1 < rs.length := by omega
  have e1 : rs.getD i [] = rs[i] := by rw [List.getD_eq_getElem?_getD, List.getElem?_eq_getElem l1]; rfl
  have e2 : rs.getD (i + 1) [] = rs[i + 1] := by rw [List.getD_eq_getElem?_getD, List.getElem?_eq_getElem l2]; rfl
  rw [e1, e2]
  exact decide_eq_true (List.pairwise_iff_getElem.mp up i (i + 1) l1 l2 (Nat.lt_succ_self i))
def sortB (rs : List (List Int)) : List (List Int) := rs.mergeSort fun p q => decide (p ≤ q)
theorem isP_fam {rs : List (List Int)} (F : Fam rs) (h : rs.length < 20) : isP (sortB rs) = true := by
  have perm : (sortB rs).Perm rs := List.mergeSort_perm _ _
  have len : (sortB rs).length = rs.length := perm.length_eq
  have mem : ∀ r ∈ sortB rs, r ∈ rs := fun r hr => perm.mem_iff.mp hr
  have nd : (sortB rs).Nodup := perm.nodup_iff.mpr (F.nice.imp fun {a b} z => z.2)
  unfold isP
  simp only [Bool.and_eq_true, decide_eq_true_eq, Bool.not_eq_true']
  refine ⟨⟨⟨by omega, List.all_eq_true.mpr fun i hi => ?_⟩, ascR_of (strict_rows (sorted_rows rs) nd)⟩, ?_⟩
  · have il := List.mem_range.mp hi
    have e : (sortB rs).getD i [] = (sortB rs)[i] := by rw [List.getD_eq_getElem?_getD, List.getElem?_eq_getElem il]; rfl
    have m := mem _ (List.getElem_mem il)
    rw [e]
    unfold group
    rw [plist_of (F.up _ m) fun x hx => ?_, Bool.true_and]
    · exact decide_eq_true (by have := F.two _ m; omega)
    · have := F.rng _ m x hx
      omega
  · unfold anyX
    refine List.any_eq_false.mpr fun k hk => ?_
    have kl := List.mem_range.mp hk
    obtain ⟨i, j, e⟩ : ∃ i j, (Comb.prs (sortB rs).length)[k] = (i, j) := ⟨_, _, rfl⟩
    have ek : (Comb.prs (sortB rs).length)[k]? = some (i, j) := by rw [List.getElem?_eq_getElem kl, e]
    obtain ⟨l1, l2, _⟩ := Comb.prs_step ek
    have ed : (Comb.prs (sortB rs).length).getD k (0, 0) = (i, j) := by rw [List.getD_eq_getElem?_getD, ek]; rfl
    have il : i < (sortB rs).length := by omega
    have e1 : (sortB rs).getD i [] = (sortB rs)[i] := by rw [List.getD_eq_getElem?_getD, List.getElem?_eq_getElem il]; rfl
    have e2 : (sortB rs).getD j [] = (sortB rs)[j] := by rw [List.getD_eq_getElem?_getD, List.getElem?_eq_getElem l2]; rfl
    rw [ed]
    show ¬ crossI (maskI ((sortB rs).getD i [])) (maskI ((sortB rs).getD j [])) = true
    rw [e1, e2]
    have m1 := mem _ (List.getElem_mem il)
    have m2 := mem _ (List.getElem_mem l2)
    rw [crossI_no (F.up _ m1) (F.up _ m2) (fun x hx => (F.rng _ m1 x hx).1) (fun x hx => (F.rng _ m2 x hx).1) (F.two_nice m1 m2)]
    exact Bool.false_ne_true
end K35

namespace K35
open PySem PySem.Spec PyProof.Rows L2 SortR LcM
abbrev sGroups : Stmt := top 60
/-! ### the dict by makers: its k-th row under the key k -/
def kvO (k : Int) : List (Addr × List Int) → List (Key × V)
  | [] => []
  | b :: bs => (.inl k, .ref b.1) :: kvO (k + 1) bs
theorem kvO_len : ∀ (k : Int) (bs : List (Addr × List Int)), (kvO k bs).length = bs.length
  | _, [] => rfl
  | k, b :: bs => by
    show (kvO (k + 1) bs).length + 1 = bs.length + 1
    rw [kvO_len]
theorem kvO_vals : ∀ (k : Int) (bs : List (Addr × List Int)), (kvO k bs).map (·.2) = bs.map fun b => V.ref b.1
  | _, [] => rfl
  | k, b :: bs => by
    show V.ref b.1 :: (kvO (k + 1) bs).map (·.2) = V.ref b.1 :: bs.map fun b => V.ref b.1
    rw [kvO_vals]
theorem kvO_keys : ∀ (k : Int) (bs : List (Addr × List Int)), (kvO k bs).map (fun kv => kV kv.1) = ((List.range bs.length).map fun j => k + (j : Nat)).map V.int
  | _, [] => rfl
  | k, b :: bs => by
    show V.int k :: (kvO (k + 1) bs).map (fun kv => kV kv.1) = _
    have e : ((List.range bs.length).map Nat.succ).map (fun j : Nat => k + (j : Int)) = (List.range bs.length).map fun j : Nat => k + 1 + (j : Int) := by
      rw [List.map_map]
      refine List.map_congr_left fun j _ => ?_
      show k + ((j + 1 : Nat) : Int) = k + 1 + (j : Int)
      omega
    rw [kvO_keys, List.length_cons, List.range_succ_eq_map, List.map_cons, List.map_cons, e, show k + ((0 : Nat) : Int) = k by omega]
theorem kvO_at : ∀ (k : Int) (bs : List (Addr × List Int)) (j : Nat) (b : Addr × List Int), bs[j]? = some b → valV (kvO k bs) (.inl (k + (j : Nat))) = some (.ref b.1)
  | _, [], j, b, e => by rw [List.getElem?_nil] at e; cases e
  | k, c :: bs, 0, b, e => by
    cases e
    exact valV_pos (by show (Sum.inl k : Key) = Sum.inl (k + ((0 : Nat) : Int)); rw [show k + ((0 : Nat) : Int) = k by omega])
  | k, c :: bs, j + 1, b, e => by
    have z := kvO_at (k + 1) bs j b (by rw [List.getElem?_cons_succ] at e; exact e)
    rw [show k + 1 + (j : Int) = k + ((j + 1 : Nat) : Int) by omega] at z
    refine Eq.trans (valV_neg fun q => ?_) z
    have := Sum.inl.inj q
    omega
theorem kvO_none : ∀ (k m : Int) (bs : List (Addr × List Int)), m < k ∨ k + bs.length ≤ m → valV (kvO k bs) (.inl m) = none
  | _, _, [], _ => rfl
  | k, m, c :: bs, h => by
    rw [List.length_cons] at h
    refine Eq.trans (valV_neg fun q => ?_) (kvO_none (k + 1) m bs (by omega))
    have := Sum.inl.inj q
    omega
theorem kvO_map : ∀ (k m : Int) (v : V) (bs : List (Addr × List Int)), m < k → (kvO k bs).map (fun kv => if kv.1 = (.inl m : Key) then (kv.1, v) else kv) = kvO k bs
  | _, _, _, [], _ => rfl
  | k, m, v, c :: bs, h => by
    show (if (.inl k : Key) = .inl m then ((.inl k : Key), v) else (.inl k, .ref c.1)) :: (kvO (k + 1) bs).map _ = _
    rw [if_neg (fun q => by have := Sum.inl.inj q; omega), kvO_map (k + 1) m v bs (by omega)]
    rfl
theorem kvO_set : ∀ (k : Int) (bs : List (Addr × List Int)) (j : Nat) (a : Addr) (r : List Int), j < bs.length → (kvO k bs).map (fun kv => if kv.1 = (.inl (k + (j : Nat)) : Key) then (kv.1, .ref a) else kv) = kvO k (bs.set j (a, r))
  | _, [], j, _, _, h => absurd h (Nat.not_lt_zero _)
  | k, c :: bs, 0, a, r, h => by
    show (if (.inl k : Key) = .inl (k + ((0 : Nat) : Int)) then ((.inl k : Key), V.ref a) else (.inl k, .ref c.1)) :: (kvO (k + 1) bs).map _ = (.inl k, .ref a) :: kvO (k + 1) bs
    rw [if_pos (by rw [show k + ((0 : Nat) : Int) = k by omega]), kvO_map (k + 1) _ _ bs (by omega)]
  | k, c :: bs, j + 1, a, r, h => by
    have z := kvO_set (k + 1) bs j a r (Nat.lt_of_succ_lt_succ h)
    rw [show k + 1 + (j : Int) = k + ((j + 1 : Nat) : Int) by omega] at z
    show (if (.inl k : Key) = .inl (k + ((j + 1 : Nat) : Int)) then ((.inl k : Key), V.ref a) else (.inl k, .ref c.1)) :: (kvO (k + 1) bs).map _ = (.inl k, .ref c.1) :: kvO (k + 1) (bs.set j (a, r))
    rw [if_neg (fun q => by have := Sum.inl.inj q; omega), z]
theorem put_at {k : Int} {bs : List (Addr × List Int)} {j : Nat} {a : Addr} (r : List Int) (h : j < bs.length) : putK (kvO k bs) (.inl (k + (j : Nat))) (.ref a) = kvO k (bs.set j (a, r)) := by
  unfold putK
  rw [valV_any, kvO_at k bs j _ (List.getElem?_eq_getElem h), if_pos (show (some (V.ref bs[j].1)).isSome = true from rfl), kvO_set k bs j a r h]
theorem kvO_end : ∀ (k : Int) (bs : List (Addr × List Int)) (a : Addr) (r : List Int), kvO k bs ++ [(.inl (k + bs.length), .ref a)] = kvO k (bs ++ [(a, r)])
  | k, [], a, r => by
    show [((.inl (k + ((0 : Nat) : Int)) : Key), V.ref a)] = [(.inl k, .ref a)]
    rw [show k + ((0 : Nat) : Int) = k by omega]
  | k, c :: bs, a, r => by
    have z := kvO_end (k + 1) bs a r
    rw [show k + 1 + (bs.length : Int) = k + ((bs.length + 1 : Nat) : Int) by omega] at z
    show (.inl k, .ref c.1) :: (kvO (k + 1) bs ++ [((.inl (k + ((bs.length + 1 : Nat) : Int)) : Key), V.ref a)]) = (.inl k, .ref c.1) :: kvO (k + 1) (bs ++ [(a, r)])
    rw [z]
theorem put_end {k : Int} {bs : List (Addr × List Int)} {a : Addr} (r : List Int) : putK (kvO k bs) (.inl (k + bs.length)) (.ref a) = kvO k (bs ++ [(a, r)]) := by
  unfold putK
  rw [valV_any, kvO_none k _ bs (.inr (by omega)), if_neg (show ¬ (none : Option V).isSome = true from Bool.false_ne_true), kvO_end k bs a r]
/-- the rows as they stand, under their keys -/
structure Mad (H0 : Hp) (D : Addr) (bs : List (Addr × List Int)) (rs : List (List Int)) (H : Hp) : Prop where
  grow : Grows H0 H
  top : H D = some (.dK (kvO 1 bs))
  each : ∀ b ∈ bs, H b.1 = some (.lst (b.2.map V.int)) ∧ b.1 ≠ D
  rows : bs.map (·.2) = rs
  new : ∀ b ∈ bs, H0 b.1 = none
theorem Mad.keep {H0 H H' : Hp} {D : Addr} {bs : List (Addr × List Int)} {rs : List (List Int)} (m : Mad H0 D bs rs H) (g : Grows H H') : Mad H0 D bs rs H' := ⟨m.grow.trans g, g _ _ m.top, fun b h => ⟨g _ _ (m.each b h).1, (m.each b h).2⟩, m.rows, m.new⟩
theorem Mad.len {H0 H : Hp} {D : Addr} {bs : List (Addr × List Int)} {rs : List (List Int)} (m : Mad H0 D bs rs H) : bs.length = rs.length := by
  rw [← m.rows, List.length_map]
theorem set_same {α : Type} : ∀ {xs : List α} {j : Nat} {x : α}, xs[j]? = some x → xs.set j x = xs
  | [], _, _, h => by rw [List.getElem?_nil] at h; cases h
  | y :: ys, 0, x, h => by
    cases h
    rfl
  | y :: ys, j + 1, x, h => by
    have z := set_same (xs := ys) (j := j) (x := x) (by rw [List.getElem?_cons_succ] at h; exact h)
    show y :: ys.set j x = y :: ys
    rw [z]
theorem upd_D {H0 H : Hp} {D : Addr} {o : HO} (hD : H0 D = none) (g : Grows H0 H) : Grows H0 (upd H D o) := fun b u e => by
  rw [upd_ne fun z => by rw [z, hD] at e; cases e]
  exact g b u e
theorem Mad.set {H0 H H2 : Hp} {D y : Addr} {bs : List (Addr × List Int)} {rs : List (List Int)} {r : List Int} {j : Nat} (m : Mad H0 D bs rs H) (hD : H0 D = none) (g : Grows H H2) (hy : H2 y = some (.lst (r.map V.int))) (ny : y ≠ D) (nw : H0 y = none) : Mad H0 D (bs.set j (y, r)) (rs.set j r) (upd H2 D (.dK (kvO 1 (bs.set j (y, r))))) :=
  ⟨upd_D hD (m.grow.trans g), upd_same, fun b hb => by
    rcases List.mem_or_eq_of_mem_set hb with z | z
    · exact ⟨by rw [upd_ne (m.each b z).2]; exact g _ _ (m.each b z).1, (m.each b z).2⟩
    · rw [z]
      exact ⟨by rw [upd_ne ny]; exact hy, ny⟩, by rw [List.map_set, m.rows], fun b hb => by
    rcases List.mem_or_eq_of_mem_set hb with z | z
    · exact m.new b z
    · rw [z]
      exact nw⟩
theorem Mad.add {H0 H H2 : Hp} {D y : Addr} {bs : List (Addr × List Int)} {rs : List (List Int)} {r : List Int} (m : Mad H0 D bs rs H) (hD : H0 D = none) (g : Grows H H2) (hy : H2 y = some (.lst (r.map V.int))) (ny : y ≠ D) (nw : H0 y = none) : Mad H0 D (bs ++ [(y, r)]) (rs ++ [r]) (upd H2 D (.dK (kvO 1 (bs ++ [(y, r)])))) :=
  ⟨upd_D hD (m.grow.trans g), upd_same, fun b hb => by
    rcases List.mem_append.mp hb with z | z
    · exact ⟨by rw [upd_ne (m.each b z).2]; exact g _ _ (m.each b z).1, (m.each b z).2⟩
    · rw [List.mem_singleton.mp z]
      exact ⟨by rw [upd_ne ny]; exact hy, ny⟩, by rw [List.map_append, m.rows]; rfl, fun b hb => by
    rcases List.mem_append.mp hb with z | z
    · exact m.new b z
    · rw [List.mem_singleton.mp z]
      exact nw⟩
/-- rows of which the first ones are grown -/
def mixB (G : List Int → List Int) (rs : List (List Int)) (j : Nat) : List (List Int) := (rs.take j).map G ++ rs.drop j
theorem mix_zero {G : List Int → List Int} {rs : List (List Int)} : mixB G rs 0 = rs := rfl
theorem mix_all {G : List Int → List Int} {rs : List (List Int)} : mixB G rs rs.length = rs.map G := by
  unfold mixB
  rw [List.take_length, List.drop_length, List.append_nil]
theorem mix_len {G : List Int → List Int} {rs : List (List Int)} {j : Nat} (h : j ≤ rs.length) : (mixB G rs j).length = rs.length := by
  unfold mixB
  rw [List.length_append, List.length_map, List.length_take, List.length_drop]
  omega
theorem mix_at {G : List Int → List Int} {rs : List (List Int)} {j : Nat} {r : List Int} (h : rs[j]? = some r) : (mixB G rs j)[j]? = some r := by
  have l := (List.getElem?_eq_some_iff.mp h).1
  unfold mixB
  have e : ((rs.take j).map G).length = j := by
    rw [List.length_map, List.length_take]
    omega
  rw [List.getElem?_append_right (by omega), e, Nat.sub_self, List.getElem?_drop, Nat.add_zero]
  exact h
theorem mix_set {G : List Int → List Int} : ∀ {rs : List (List Int)} {j : Nat} {r : List Int}, rs[j]? = some r → (mixB G rs j).set j (G r) = mixB G rs (j + 1)
  | [], j, r, h => by rw [List.getElem?_nil] at h; cases h
  | c :: rs, 0, r, h => by
    cases h
    rfl
  | c :: rs, j + 1, r, h => by
    have z := mix_set (G := G) (rs := rs) (j := j) (r := r) (by rw [List.getElem?_cons_succ] at h; exact h)
    show G c :: (mixB G rs j).set j (G r) = G c :: mixB G rs (j + 1)
    rw [z]
theorem mix_same {G : List Int → List Int} {rs : List (List Int)} {j : Nat} {r : List Int} (h : rs[j]? = some r) (e : G r = r) : mixB G rs (j + 1) = mixB G rs j := by
  rw [← mix_set h, e]
  exact set_same (mix_at h)
theorem sort_snd (bs : List (Addr × List Int)) : (bs.mergeSort rowLe).map (·.2) = sortB (bs.map (·.2)) := by
  unfold sortB
  exact (List.map_mergeSort fun _ _ _ _ => rfl)
def spGroups (K : PySem.W.Frag) : Sp := fun vs H Q _ => ∃ (a : Addr) (is : List Int), vs = [.ref a] ∧ SqL K H a (is.map V.int) ∧ Bnd is ∧ is.length ≤ 19 ∧
  ∀ (p : Addr) (cs : List (Addr × List Int)) (H' : Hp), Grows H H' → H p = none → H' p = some (.lst (cs.map fun c => V.ref c.1)) → (∀ c ∈ cs, H' c.1 = some (.lst (c.2.map V.int)) ∧ H c.1 = none) → cs.map (·.2) = sortB (famB is is.length) → Q (.ref p) H'
section
variable {P : Program} {w : World} {K : PySem.W.Frag} {mg : Str → Option Value} {base : Heap}
theorem scGroups : FnScope ["items", "made", "place", "item", "base", "maker", "wide"] ["items"] (defScope sGroups) := ⟨rfl, rfl, rfl, by decide +kernel, rfl, by decide +kernel, by decide +kernel⟩
theorem ok_groups {f : Addr} {fd : FuncData} (F : Fun K "_law_groups" "_law_groups" sGroups f fd) (T : TxtP mg) : FnOk P w K mg base CX0 1 f fd ["items"] (spGroups K) := by
  refine F.ok scGroups (fun vs H Q E h => ?_) (fun cdv A outer s H vs Q E hr h => ?_)
  · obtain ⟨a, is, rfl, _⟩ := h
    rfl
  · obtain ⟨a, is, rfl, hS, hb, hl, k⟩ := h
    have hu := hu_of hr
    refine ⟨_, (pss_cons (ps_set (i := 1) scGroups.nd rfl (.inl rfl) pe_dnewK)
      (pss_cons (ps_for PassesOwn.never rfl (pi_enum (by rfl) T.enumerate (pa_cons (pv 0) pa_nil)) (pg_tup (by rfl) (pgs_cons (pg_name (i := 2) scGroups.nd rfl (.inl rfl)) (pgs_cons (pg_name (i := 3) scGroups.nd rfl (.inl rfl)) pgs_nil)))
      (pss_cons (ps_set (i := 4) scGroups.nd rfl (.inl rfl) (pe_ifExp (pt_cmpR op_ge (pv 3) pe_int (nomark _)) (pe_lst (pa_cons (pv 3) pa_nil)) (pe_dget hu (pv 1) (pe_op op_sub pe_int (pv 3)) (fun _ _ => rfl))))
      (pss_cons (ps_for PassesOwn.never rfl (pi_list (pe_callTy (call_list_dK (by rfl)) (by rfl) T.list (by decide +kernel) (pa_cons (pv 1) pa_nil))) (pg_name (i := 5) scGroups.nd rfl (.inl rfl))
      (pss_cons (ps_set (i := 6) scGroups.nd rfl (.inl rfl) (pe_dget hu (pv 1) (pv 5) (fun _ _ => rfl)))
      (pss_one (ps_if (PW.pt (pw_and (pt_cmpR op_gt (pe_callB call_len_seq (by rfl) T.len (by decide +kernel) (pa_cons (pv 6) pa_nil)) (pe_callB call_len_seq (by rfl) T.len (by decide +kernel) (pa_cons (pv 4) pa_nil)) (nomark _)) (pw_and1 (pt_cmpR op_in_seq (pe_ix (r := rIxL K) ix_list (pv 4) pe_int (fun _ _ => rfl)) (pv 6) (by rfl))))) (pss_one (ps_dput hu (pv 1) (pv 5) (pe_op op_cat (pv 6) (pe_lst (pa_cons (pe_op op_add (pv 2) pe_int) pa_nil))) rfl)) pss_nil))))
      (pss_one (ps_dput hu (pv 1) (pe_op op_add (pv 2) pe_int) (pe_op op_cat (pv 4) (pe_lst (pa_cons (pe_op op_add (pv 2) pe_int) pa_nil))) rfl)))))
      (pss_one (ps_ret (pe_sortVals hr.units (by rfl) (by rfl) T.sorted (pv 1)))))), ?_⟩
    refine fun D hD => ?_
    refine ⟨_, rfl, a, _, rfl, Grows.seq (Grows.new hD) hS, for_enumL (K := K) (xs := is.map V.int) (fun i σ H' => ∃ (bs : List (Addr × List Int)) (o2 o3 o4 o5 o6 : Option V), σ = [some (.ref a), some (.ref D), o2, o3, o4, o5, o6] ∧ Mad H D bs (famB is i) H')
      ⟨[], none, none, none, none, none, rfl, ⟨Grows.new hD, upd_same, (fun _ h => nomatch h), rfl, fun _ h => nomatch h⟩⟩ (fun i σ H' ⟨bs, o2, o3, o4, o5, o6, e, m⟩ => Grows.seq m.grow hS) (fun i x Tp σ H' hx ⟨bs, o2, o3, o4, o5, o6, e, m⟩ hT => ?_) fun σ H' ⟨bs, o2, o3, o4, o5, o6, e, m⟩ => ?_⟩
    · subst e
      have il := (List.getElem?_eq_some_iff.mp hx).1
      rw [List.length_map] at il
      obtain rfl := at_map (d := 0) hx
      obtain ⟨x, ex⟩ : ∃ x : Int, x = is.getD i 0 := ⟨_, rfl⟩
      have bx : -(i : Int) ≤ x ∧ x ≤ (i : Int) := by
        refine hb i x ?_
        rw [ex, List.getD_eq_getElem?_getD, List.getElem?_eq_getElem il]
        rfl
      rw [← ex]
      refine ⟨Tp, _, rfl, SqT.of upd_same, rfl, _, _, rfl, _, _, rfl, rfl, ?_⟩
      have m1 := m.keep (Grows.new (o := .tup [V.int ((i : Nat) : Int), V.int x]) hT)
      generalize upd H' Tp (.tup [V.int ((i : Nat) : Int), V.int x]) = H1 at m1 ⊢
      clear m hT
      have li : (famB is i).length = i := famB_len is i
      refine seq_all (fun σ' H2 => ∃ pb : Addr, σ' = [some (.ref a), some (.ref D), some (.int ((i : Nat) : Int)), some (.int x), some (.ref pb), o5, o6] ∧ Grows H1 H2 ∧ H2 pb = some (.lst ((baseB (famB is i) x).map V.int)) ∧ pb ≠ D) (fun σ' H2 ⟨pb, e, g, ep, np⟩ => ?_) fun k2 => ?_
      · subst e
        have m2 := m1.keep g
        clear m1 g
        refine ⟨_, rfl, D, _, rfl, m2.top, fun L hL => ⟨L, rfl, ⟨_, SqL.of upd_same⟩, ?_⟩⟩
        have m3 := m2.keep (Grows.new (o := .lst ((kvO 1 bs).map fun kv => kV kv.1)) hL)
        obtain ⟨G, eG⟩ : ∃ G : List Int → List Int, G = growB ((i : Int) + 1) (baseB (famB is i) x) := ⟨_, rfl⟩
        have nL : L ≠ D := (ne_of_none m2.top hL).symm
        refine for_list (K := K) (xs := (kvO 1 bs).map fun kv => kV kv.1) (fun j σ H3 => ∃ (cs : List (Addr × List Int)) (p5 p6 : Option V), σ = [some (.ref a), some (.ref D), some (.int ((i : Nat) : Int)), some (.int x), some (.ref pb), p5, p6] ∧ Mad H D cs (mixB G (famB is i) j) H3 ∧ Gr D (upd H2 L (.lst ((kvO 1 bs).map fun kv => kV kv.1))) H3)
          ⟨bs, _, _, rfl, m3, .refl⟩ (fun j σ H3 _ ⟨cs, p5, p6, e, m4, gr⟩ => SqL.of (gr _ _ nL upd_same)) (fun j v σ H3 hv ⟨cs, p5, p6, e, m4, gr⟩ => ?_) fun σ H3 ⟨cs, p5, p6, e, m4, gr⟩ => ?_
        · subst e
          have lk : (kvO 1 bs).length = i := by rw [kvO_len, m2.len, li]
          have ji : j < i := by
            have := (List.getElem?_eq_some_iff.mp hv).1
            rw [List.length_map, lk] at this
            exact this
          have lc : cs.length = i := by rw [m4.len, mix_len (by rw [li]; exact Nat.le_of_lt ji), li]
          obtain rfl : v = .int (1 + (j : Int)) := by
            rw [kvO_keys, List.getElem?_map, List.getElem?_map, List.getElem?_range (by rw [m2.len, li]; exact ji)] at hv
            cases hv
            rfl
          have jc : j < cs.length := by rw [lc]; exact ji
          have jr : j < (famB is i).length := by rw [li]; exact ji
          obtain ⟨c, ec⟩ : ∃ c, cs[j]? = some c := ⟨_, List.getElem?_eq_getElem jc⟩
          obtain ⟨r, er⟩ : ∃ r, (famB is i)[j]? = some r := ⟨_, List.getElem?_eq_getElem jr⟩
          have mc : c ∈ cs := List.mem_of_getElem? ec
          have cr : c.2 = r := by
            have z := mix_at (G := G) er
            rw [← m4.rows, List.getElem?_map, ec] at z
            exact Option.some.inj z
          have dg : DGet H3 D (.int (1 + (j : Int))) (some (.ref c.1)) := by
            have z := DGet.k (k := .inl (1 + (j : Int))) m4.top
            rw [kvO_at 1 cs j _ ec] at z
            exact z
          have ew : H3 c.1 = some (.lst (r.map V.int)) := by
            rw [← cr]
            exact (m4.each c mc).1
          have ep3 : H3 pb = some (.lst ((baseB (famB is i) x).map V.int)) := gr _ _ np (Grows.new hL _ _ ep)
          have same : G r = r → ∃ (cs : List (Addr × List Int)) (p5 p6 : Option V), [some (.ref a), some (.ref D), some (.int ((i : Nat) : Int)), some (.int x), some (.ref pb), some (.int (1 + (j : Int))), some (.ref c.1)] = [some (.ref a), some (.ref D), some (.int ((i : Nat) : Int)), some (.int x), some (.ref pb), p5, p6] ∧ Mad H D cs (mixB G (famB is i) (j + 1)) H3 ∧ Gr D (upd H2 L (.lst ((kvO 1 bs).map fun kv => kV kv.1))) H3 := fun e => ⟨cs, _, _, rfl, by rw [mix_same er e]; exact m4, gr⟩
          refine ⟨_, rfl, _, rfl, D, _, rfl, dg, ?_⟩
          refine ⟨_, rfl, c.1, _, rfl, .inl (SqL.of ew), _, rfl, pb, _, rfl, .inl (SqL.of ep3), _, _, rfl, rfl, _, rfl, iteN _ (fun c1 => ?_) fun c1 => ?_⟩
          · have c1 := of_decide_eq_true c1
            rw [List.length_map, List.length_map] at c1
            have B := (famB_ok hb i (Nat.le_of_lt il)).bas (item := x) (by rw [li]; exact bx.1) (by rw [li]; exact bx.2)
            obtain ⟨h, t, eb⟩ := B.ne
            refine ⟨_, rfl, pb, _, 0, .int h, rfl, rfl, SqL.of ep3, (by rw [eb]; exact atI_nat (j := 0) rfl), _, rfl, c.1, _, rfl, .inl (SqL.of ew), rfl, flat_ints r, _, rfl, iteN _ (fun c2 => ?_) fun c2 => ?_⟩
            · rw [if_neg Bool.false_ne_true, inV_ints] at c2
              have c2 := of_decide_eq_true c2
              have eGr : G r = r ++ [(i : Int) + 1] := by
                rw [eG]
                unfold growB inB
                rw [decide_eq_true (show (baseB (famB is i) x).length < r.length by omega), decide_eq_true (show (baseB (famB is i) x).headD 0 ∈ r by rw [eb]; exact c2)]
                rfl
              refine ⟨_, rfl, _, rfl, _, _, rfl, rfl, (by show 1 ≤ sizeLine; decide), fun q hq => ⟨c.1, q, _, _, rfl, rfl, Grows.new hq _ _ ew, upd_same, ?_, fun y hy => ⟨_, rfl, _, rfl, D, _, rfl, DPut.k (k := .inl (1 + (j : Int))) ((Grows.new hq).trans (Grows.new hy) _ _ m4.top) (by rw [kvO_len, lc]; exact small1000 (by omega)), ?_⟩⟩⟩
              · rw [List.length_map]
                have := len_sub (xs := r) (ys := (List.range (i + 1)).map fun z => ((z : Nat) : Int)) (up_nodup ((famB_ok hb i (Nat.le_of_lt il)).up r (List.mem_of_getElem? er))) fun z hz => by
                  have q := (famB_ok hb i (Nat.le_of_lt il)).rng r (List.mem_of_getElem? er) z hz
                  rw [li] at q
                  exact List.mem_map.mpr ⟨z.toNat, List.mem_range.mpr (by omega), by omega⟩
                rw [List.length_map, List.length_range] at this
                exact Nat.le_trans (show r.length + 1 ≤ 100 by omega) (by decide)
              · have gg : Grows H3 (upd (upd H3 q (.lst [V.int ((i : Int) + 1)])) y (.lst (r.map V.int ++ [V.int ((i : Int) + 1)]))) := (Grows.new hq).trans (Grows.new hy)
                have ny : y ≠ D := (ne_of_none (Grows.new hq _ _ m4.top) hy).symm
                rw [put_at (r ++ [(i : Int) + 1]) jc]
                refine ⟨cs.set j (y, r ++ [(i : Int) + 1]), _, _, rfl, ?_, fun b o n e => by rw [upd_ne n]; exact gg _ _ (gr b o n e)⟩
                rw [← mix_set er, eGr]
                exact m4.set hD gg (by rw [upd_same, List.map_append]; rfl) ny (none_back (m4.grow.trans (Grows.new hq)) hy)
            · rw [if_neg Bool.false_ne_true, inV_ints] at c2
              refine same ?_
              rw [eG]
              unfold growB inB
              rw [decide_eq_false (show ¬ (baseB (famB is i) x).headD 0 ∈ r by rw [eb]; exact of_decide_eq_false c2), Bool.and_false, if_neg Bool.false_ne_true]
          · have c1 := of_decide_eq_false c1
            rw [List.length_map, List.length_map] at c1
            refine same ?_
            rw [eG]
            unfold growB inB
            rw [decide_eq_false (show ¬ (baseB (famB is i) x).length < r.length by omega), Bool.false_and, if_neg Bool.false_ne_true]
        · subst e
          have lk : ((kvO 1 bs).map fun kv => kV kv.1).length = (famB is i).length := by rw [List.length_map, kvO_len, m2.len]
          rw [lk, mix_all] at m4
          have lc : cs.length = i := by rw [m4.len, List.length_map, li]
          have ep3 : H3 pb = some (.lst ((baseB (famB is i) x).map V.int)) := gr _ _ np (Grows.new hL _ _ ep)
          refine ⟨_, rfl, _, rfl, _, _, rfl, rfl, (by show 1 ≤ sizeLine; decide), fun q hq => ⟨pb, q, _, _, rfl, rfl, Grows.new hq _ _ ep3, upd_same, ?_, fun y hy => ⟨_, rfl, _, rfl, _, _, rfl, rfl, D, _, rfl, DPut.k (k := .inl ((i : Int) + 1)) ((Grows.new hq).trans (Grows.new hy) _ _ m4.top) (by rw [kvO_len, lc]; exact small1000 (by omega)), ?_⟩⟩⟩
          · have B := (famB_ok hb i (Nat.le_of_lt il)).bas (item := x) (by rw [li]; exact bx.1) (by rw [li]; exact bx.2)
            rw [List.length_map]
            have := len_sub (xs := baseB (famB is i) x) (ys := (List.range (i + 1)).map fun z => ((z : Nat) : Int)) (up_nodup B.up) fun z hz => by
              have q := B.rng z hz
              rw [li] at q
              exact List.mem_map.mpr ⟨z.toNat, List.mem_range.mpr (by omega), by omega⟩
            rw [List.length_map, List.length_range] at this
            exact Nat.le_trans (show (baseB (famB is i) x).length + 1 ≤ 100 by omega) (by decide)
          · have gg : Grows H3 (upd (upd H3 q (.lst [V.int ((i : Int) + 1)])) y (.lst ((baseB (famB is i) x).map V.int ++ [V.int ((i : Int) + 1)]))) := (Grows.new hq).trans (Grows.new hy)
            have ny : y ≠ D := (ne_of_none (Grows.new hq _ _ m4.top) hy).symm
            have ke : ((i : Int) + 1) = 1 + ((cs.length : Nat) : Int) := by rw [lc]; omega
            have pe : putK (kvO 1 cs) (.inl ((i : Int) + 1)) (.ref y) = kvO 1 (cs ++ [(y, baseB (famB is i) x ++ [(i : Int) + 1])]) := by
              rw [show (.inl ((i : Int) + 1) : Key) = .inl (1 + ((cs.length : Nat) : Int)) from congrArg Sum.inl ke]
              exact put_end _
            rw [pe]
            refine ⟨cs ++ [(y, baseB (famB is i) x ++ [(i : Int) + 1])], _, _, _, _, _, rfl, ?_⟩
            have e : famB is (i + 1) = (famB is i).map G ++ [baseB (famB is i) x ++ [(i : Int) + 1]] := by
              show stepB (famB is i) (is.getD i 0) = _
              unfold stepB
              rw [← ex, li, eG]
            rw [e]
            exact m4.add hD gg (by rw [upd_same, List.map_append]; rfl) ny (none_back (m4.grow.trans (Grows.new hq)) hy)
      · refine ⟨_, rfl, _, _, rfl, rfl, _, rfl, iteN _ (fun c => ?_) fun c => ?_⟩
        · have c := of_decide_eq_true c
          refine ⟨_, rfl, (by show 1 ≤ sizeLine; decide), fun q hq => k2 _ _ ⟨q, rfl, Grows.new hq, ?_, (ne_of_none m1.top hq).symm⟩⟩
          rw [upd_same]
          unfold baseB
          rw [if_pos c]
          rfl
        · have c := of_decide_eq_false c
          have lj : (0 - x - 1).toNat < bs.length := by
            rw [m1.len, li]
            omega
          have eb := List.getElem?_eq_getElem lj
          have dg : DGet H1 D (.int (0 - x)) (some (.ref bs[(0 - x - 1).toNat].1)) := by
            have z := DGet.k (k := .inl (1 + (((0 - x - 1).toNat : Nat) : Int))) m1.top
            rw [kvO_at 1 bs _ _ eb] at z
            have e : (1 + (((0 - x - 1).toNat : Nat) : Int)) = 0 - x := by omega
            have z2 : DGet H1 D (.int (1 + (((0 - x - 1).toNat : Nat) : Int))) (some (.ref bs[(0 - x - 1).toNat].1)) := z
            generalize hg : (1 + (((0 - x - 1).toNat : Nat) : Int)) = u at e z2
            rw [e] at z2
            exact z2
          have mem := List.getElem_mem lj
          refine ⟨_, rfl, _, rfl, _, _, rfl, rfl, D, _, rfl, dg, k2 _ _ ⟨_, rfl, .refl, ?_, (m1.each _ mem).2⟩⟩
          rw [(m1.each _ mem).1]
          unfold baseB
          rw [if_neg c, ← m1.rows, List.getD_eq_getElem?_getD, List.getElem?_map, eb]
          rfl
    · subst e
      rw [List.length_map] at m
      refine ⟨_, rfl, D, _, bs, rfl, m.top, kvO_vals 1 bs, fun b h => (m.each b h).1, fun p hp => ?_⟩
      have g := m.grow.trans (Grows.new (o := .lst ((bs.mergeSort rowLe).map fun b => V.ref b.1)) hp)
      refine k p (bs.mergeSort rowLe) _ g (none_back m.grow hp) upd_same (fun c h => ?_) (by rw [sort_snd, m.rows])
      exact ⟨Grows.new hp _ _ (m.each c (List.mem_mergeSort.mp h)).1, m.new c (List.mem_mergeSort.mp h)⟩
end
end K35

/-! ### a def that is called, amid an except suite, with the exception that is handled -/
namespace Held
open PySem PySem.Spec PyProof.Rows L2 L2H
structure FnP (P : Program) (w : World) (K : PySem.W.Frag) (mg : Str → Option Value) (base : Heap) (lv : Nat) (g : Addr) (fd : FuncData) (ps : List Str) (pin : Addr × Obj) (sp : Sp) : Prop where
  arity : ∀ vs H Q, sp vs H Q L2.E0 → vs.length = ps.length
  go : ∀ (A : Around) (outer : List Env) (s : Shared) (H : Hp) (zs : Args) (us : List Value) (vs : List V) (Q : VK), RoomH lv A → PinOk outer H s pin → Env0 P w K mg base A outer s H → BindsTo s fd zs (ps.zip us) → Vals vs us →
    sp vs H Q L2.E0 → codeAny (model P w) A (.call (.ref g) zs) (CR L2.CX0 outer P w H s Q L2.E0) s
theorem fnP_of {P : Program} {w : World} {K : PySem.W.Frag} {mg : Str → Option Value} {base : Heap} {x qual : Str} {st : Stmt} {g : Addr} {fd : FuncData} {N ps : List Str} {lv : Nat} {sp : Sp} {pin : Addr × Obj} (F : L2.Fun K x qual st g fd) (S : FnScope N ps (defScope st))
    (arity : ∀ vs H Q, sp vs H Q L2.E0 → vs.length = ps.length)
    (body : ∀ (cdv : Value) (A : Around) (outer : List Env) (s : Shared) (H : Hp) (vs : List V) (Q : VK), RoomH lv (A.deeper (envOfC qual (defScope st) s.heap.objs.size g cdv)) → sp vs H Q L2.E0 →
      ∃ t, PSs (cxH L2.CX0 P w K mg base N qual (defScope st) g cdv A outer s H L2.E0 pin) (defBody st) t ∧ t { nx := fun _ H' => Q .non H', rt := Q } (L2.start N vs) H) : FnP P w K mg base (lv + 1) g fd ps pin sp := by
  obtain ⟨oc, od, kV, doc, pm, an, cdv, ct, osl, rfl, at_, code⟩ := F.ex
  refine ⟨arity, fun A outer s H zs us vs Q room hp e0 binds rel now => ?_⟩
  have stays : ∀ b o, base.get? b = some o → s.heap.get? b = some o := fun b o e => (e0.bs b o e).1
  have KX : K.In s.heap := e0.mod.kin.keeps stays
  have places : ∀ y ∈ ps.zip us, (defScope st).names.lookup y.1 = some .local ∨ ((defScope st).names.lookup y.1 = some .cell ∧ ((cellsFrom (s.heap.objs.size + 1) (defScope st).names []).lookup y.1).isSome = true) := by
    rintro ⟨n, v⟩ hy
    have hn := (List.of_mem_zip hy).1
    rcases S.par n hn with q | q
    · exact Or.inl q
    · exact Or.inr ⟨q, PySem.W.cellsFrom_some _ _ _ (Or.inl q)⟩
  apply codeAny_call_function room.depth (KX _ _ at_) rfl S.co S.gen rfl (PySem.W.codeRec_of KX code)
  apply binds
  apply wpAny_newFunctionEnv_cells S.kind places
  intro env he s1 x
  subst he
  refine ⟨(e0.mod.nolimit.keeps stays).keeps x.toInCall.keep, codeAny_func ?_⟩
  obtain ⟨t, ht, hq⟩ := body cdv A outer s H vs Q (room.deeper _) now
  have I := inv_startH (CX := L2.CX0) (P := P) (w := w) (K := K) (mg := mg) (base := base) (E := L2.E0) S hp e0 (arity _ _ _ now) rel x
  refine wpAny_mono (ht.run [] s1 (L2.start N vs) H _ I hq) (fun fl s' hs => ?_) (fun e s' hs => hs)
  cases fl with
  | brk =>
    obtain ⟨_, _, _, no⟩ := hs
    exact no.elim
  | cont =>
    obtain ⟨_, _, _, no⟩ := hs
    exact no.elim
  | next =>
    obtain ⟨σ', H', J, q⟩ := hs
    exact ⟨V.non, H', J.os, J.bare, J.base, J.hok, rfl, q⟩
  | ret u =>
    obtain ⟨v, σ', H', J, rv, q⟩ := hs
    exact ⟨v, H', J.os, J.bare, J.base, J.hok, rv, q⟩
def tCallP (sp : Sp) (t : TA) : TE := fun σ H Q => t σ H fun vs H1 => sp vs H1 Q L2.E0
section
variable {X : Cx} {lv : Nat} {g : Addr} {fd : FuncData} {ps : List Str} {sp : Sp} {pin : Addr × Obj} {x : Str} {q pos : Pos} {e : Expr} {es : List Expr} {t : TA}
theorem pe_callP (F : FnP X.prog X.w X.K X.mg X.base lv g fd ps pin sp) (room : RoomH lv X.A) (there : pin ∈ X.pn) (hg : Gl X x) (hm : X.mg x = some (.ref g)) (hk : PySem.W.keepIn X.K (.ref g) = true) (hb : Binds X.K fd ps [])
    (ha : PA X (e :: es) t) (nd : (x == ("__debug__" : Str)) = false := by decide) (st : starEach (e :: es) X.env = (false, eval e X.env) :: starEach es X.env := by rfl) (np : (backTo pos (starEach es X.env)).any (·.1) = false := by rfl) :
    PE X (.Call (.Name x q) (e :: es) [] pos) (tCallP sp t) := by
  constructor
  intro pins s σ H Q I h
  apply wpAny_Call_Name_kw (ld_glob I hg hm _ nd)
  refine PySem.W.callWith_K (h₀ := X.base) I.ok.mod.kin hk (thn (ha.run pos pins s σ H _ I h) ?_) st np
  rintro us s1 ⟨vs, H1, J, rel, now⟩
  refine ⟨J.kIn, ?_⟩
  have P1 := J.pin pin (List.mem_append_left _ there)
  have ok : PinOk X.stack H1 s1 pin := ⟨P1.1, P1.2.1, fun m => by
    rcases List.mem_cons.mp (J.stkSub pin.1 m) with z | z
    · exact P1.2.2.1 z
    · exact P1.2.2.2.1 z, P1.2.2.2.2⟩
  have hl : (us ++ []).length = ps.length := by
    rw [List.append_nil, ← rel.length]
    exact F.arity _ _ _ now
  have b := hb s1 us J.kIn hl
  rw [List.append_nil] at b
  refine wpAny_call (codeAny_mono (F.go X.A X.stack s1 H1 ⟨us, []⟩ us vs Q room ok J.env0 b rel now) ?_)
  intro r s' hr
  match r, hr with
  | .error e, hr => exact hr.elim
  | .ok (.ret u), hr => exact J.after hr
  | .ok .next, hr => exact hr.elim
  | .ok .brk, hr => exact hr.elim
  | .ok .cont, hr => exact hr.elim
/-- isinstance of what is pinned: an exception without a dict -/
def rIsP (K : PySem.W.Frag) (a D : Addr) : List V → Hp → VK → Prop := fun xs H Q => ∃ (c : V) (cv : Value) (b : Bool), xs = [.ref a, c] ∧ (∀ u, RelV c u → u = cv) ∧ PySem.W.kitOne K (.ref D) cv = some b ∧ Q (.bl b) H
theorem call_isP {D a : Addr} {oe : Obj} (C : ExcC X.K D) (there : (a, oe) ∈ X.pn) (z : Zc (.ref D) none oe) (hf : ∃ vs, oe.data = .fields vs) : CallR X (.builtin "isinstance") (rIsP X.K a D) := by
  intro pins s σ H xs us Q I r h
  obtain ⟨c, cv, b, rfl, hcv, e, q⟩ := h
  match us, r with
  | [_, _], .cons rx (.cons rt .nil) =>
    cases rx
    cases hcv _ rt
    have at_ := (I.pin (a, oe) (List.mem_append_left _ there)).1
    have J : PySem.W.InstAt s.heap a oe D none := by
      obtain ⟨vs, ev⟩ := hf
      obtain ⟨z1, z2⟩ := z
      cases oe
      simp only at z1 z2 ev
      cases z1
      cases z2
      cases ev
      exact ⟨at_, rfl, rfl, trivial⟩
    exact PySem.W.kia_one (PySem.W.handS_kitx_exc C.hg C.hk C.hs C.hd C.ha C.hn C.ht C.hm) I.kIn J e (fun z => nomatch z) fun tk => ⟨.bl b, H, I.kept (t' := tk) fun _ _ z => z, rfl, q⟩
end
/-! ### f(e, ..), f an expression that gives one of some defs -/
def tCallF (K : PySem.W.Frag) (D : Addr → Sp) (E : L2.St → XK) (tf : TE) (t : TA) : TE := fun σ H Q => tf σ H fun y H1 => ∃ g, y = V.ref g ∧ PySem.W.keepIn K (.ref g) = true ∧ t σ H1 fun vs H2 => D g vs H2 Q (E σ)
section
variable {X : Cx} {CX : CXT} {lv : Nat} {D : Addr → Sp} {E : L2.St → XK} {pos : Pos} {fe e : Expr} {es : List Expr} {tf : TE} {t : TA}
theorem pe_callF (hf : PE X fe tf) (F : ∀ g vs H Q E', D g vs H Q E' → ∃ fd ps sp, FnOk X.prog X.w X.K X.mg X.base CX lv g fd ps sp ∧ Binds X.K fd ps [] ∧ sp vs H Q E') (room : Room lv X.A) (hx : ∀ σ, PassesAt CX X σ (E σ))
    (ha : PA X (e :: es) t)
    (ht : eval (.Call fe (e :: es) [] pos) X.env = (do callWith pos (← eval fe X.env) [] (backTo pos (starEach (e :: es) X.env)) (backToKw pos (keywordEach [] X.env))) := by rfl)
    (st : starEach (e :: es) X.env = (false, eval e X.env) :: starEach es X.env := by rfl) (np : (backTo pos (starEach es X.env)).any (·.1) = false := by rfl) : PE X (.Call fe (e :: es) [] pos) (tCallF X.K D E tf t) := by
  constructor
  intro pins s σ H Q I h
  refine Call_ (thn (hf.run pins s σ H _ I h) ?_) ht
  rintro u s1 ⟨y, H1, J, ry, g, ey, kg, now⟩
  subst ey
  obtain rfl : u = Value.ref g := ry
  refine PySem.W.callWith_K (h₀ := X.base) I.ok.mod.kin kg (thn (ha.run pos pins s1 σ H1 _ J now) ?_) st np
  rintro us s2 ⟨vs, H2, J2, rel, due⟩
  obtain ⟨fd, ps, sp, G, hb, ok⟩ := F _ _ _ _ _ due
  exact ⟨J2.kIn, run_fnS G room hb (hx σ) J2 rel ok⟩
end
end Held

namespace K35
open PySem PySem.Spec PyProof.Rows L2 SortR LcM Held
abbrev sWord : Stmt := top 62
/-! ### isinstance(e, (C1, C2, ..)) of what is pinned -/
def rIsPT (K : PySem.W.Frag) (a D : Addr) : List V → Hp → VK → Prop := fun xs H Q => ∃ (tp : Addr) (cs : List V) (us : List Value) (b : Bool), xs = [.ref a, .ref tp] ∧ H tp = some (.tup cs) ∧ Paired ClsV cs us ∧ PySem.W.kitAny K (.ref D) us = some b ∧ Q (.bl b) H
theorem call_isPT {X : Cx} {D a : Addr} {oe : Obj} (C : ExcC X.K D) (there : (a, oe) ∈ X.pn) (z : Zc (.ref D) none oe) (hf : ∃ vs, oe.data = .fields vs) : CallR X (.builtin "isinstance") (rIsPT X.K a D) := by
  intro pins s σ H xs us Q I r h
  obtain ⟨tp, cs, ws, b, rfl, hT, k, e, q⟩ := h
  match us, r with
  | [_, _], .cons rx (.cons rt .nil) =>
    cases rx
    cases rt
    have at_ := (I.pin (a, oe) (List.mem_append_left _ there)).1
    have J : PySem.W.InstAt s.heap a oe D none := by
      obtain ⟨vs, ev⟩ := hf
      obtain ⟨z1, z2⟩ := z
      cases oe
      simp only at z1 z2 ev
      cases z1
      cases z2
      cases ev
      exact ⟨at_, rfl, rfl, trivial⟩
    obtain ⟨_, its, rv, o, h1, h2, n, h3⟩ := (show ObjOk X.prog X.w H s.heap tp (.tup cs) from I.hok tp _ hT)
    cases ClsV.all k rv
    cases o
    simp only at h2 h3
    cases h2
    cases h3
    exact PySem.W.kia_tup (PySem.W.handS_kitx_exc C.hg C.hk C.hs C.hd C.ha C.hn C.ht C.hm) I.kIn J h1 e (fun z => nomatch z) fun tk => ⟨.bl b, H, I.kept (t' := tk) fun _ _ z => z, rfl, q⟩
/-- what is never come to -/
def tNever : TE := fun _ _ _ => False
theorem pe_never {X : Cx} {e : Expr} : PE X e tNever := ⟨fun _ _ _ _ _ _ h => h.elim⟩
/-! ### the classes of errors -/
abbrev nmL : List Str := ["InvalidPersons", "InvalidPerson", "InvalidGroups", "InvalidGroup", "InvalidNumber", "InvalidParting", "InvalidPartings", "Crossing", "InvalidComing", "InvalidIndex", "InvalidNode", "InvalidPairs", "InvalidText", "Lacking", "NoPerson", "NothingToUndo", "Refused"]
abbrev nmX (i : Nat) : Str := nmL.getD i ""
abbrev ca (c : List Addr) (i : Nat) : Addr := c.getD i 0
structure TxtE (K : PySem.W.Frag) (mg : Str → Option Value) (c : List Addr) (pe : Addr) : Prop where
  g : ∀ i, i < 17 → mg (nmX i) = some (.ref (ca c i))
  gp : mg "PartError" = some (.ref pe)
  ve : mg "ValueError" = none
  ex : ∀ i, i < 7 → ExcC K (ca c i)
  kd : ∀ i, i < 7 → ∀ j, j < 17 → PySem.W.kitOne K (.ref (ca c i)) (.ref (ca c j)) = some (decide (i = j))
  kp : ∀ i, i < 7 → PySem.W.kitOne K (.ref (ca c i)) (.ref pe) = some true
  kv : ∀ i, i < 7 → PySem.W.kitOne K (.ref (ca c i)) (.type "ValueError") = some true
  exc : ∀ i, i < 7 → PySem.W.excIn K (ca c i) PySem.HandSPX.veTail "ValueError.__new__" = true
  kc : ∀ i, i < 7 → PySem.W.keepIn K (.ref (ca c i)) = true
  ty : ∀ i, i < 7 → PySem.W.typeIn K (.ref (ca c i)) = some (.type "type")
  te : ∀ i, i < 7 → PySem.W.exmOne K (.ref (ca c i)) (.ref pe) = some true
/-- the i-th error is let out, all that stood stands -/
def Rz (c : List Addr) (H : Hp) (E : XK) (i : Nat) : Prop := ∀ H', Grows H H' → E (.ref (ca c i)) none H'
/-! ### rows of words and whether they fit -/
abbrev WP := Str × Bool
def AllW (H : Hp) : List V → List WP → Prop
  | [], [] => True
  | v :: vs, p :: ps => (∃ t, v = .ref t ∧ H t = some (.tup [.str p.1, .bl p.2])) ∧ AllW H vs ps
  | [], _ :: _ => False
  | _ :: _, [] => False
theorem AllW.keep {H H' : Hp} (g : ∀ b o, H b = some (.tup o) → H' b = some (.tup o)) : ∀ {vs : List V} {ps : List WP}, AllW H vs ps → AllW H' vs ps
  | [], [], h => h
  | _ :: _, _ :: _, ⟨⟨t, e, ht⟩, r⟩ => ⟨⟨t, e, g _ _ ht⟩, AllW.keep g r⟩
  | [], _ :: _, h => h.elim
  | _ :: _, [], h => h.elim
theorem AllW.grow {H H' : Hp} (g : Grows H H') {vs : List V} {ps : List WP} (h : AllW H vs ps) : AllW H' vs ps := h.keep fun b o e => g b _ e
theorem AllW.app {H : Hp} : ∀ {vs us : List V} {ps qs : List WP}, AllW H vs ps → AllW H us qs → AllW H (vs ++ us) (ps ++ qs)
  | [], _, [], _, _, h => h
  | _ :: _, _, _ :: _, _, ⟨a, r⟩, h => ⟨a, AllW.app r h⟩
  | [], _, _ :: _, _, h, _ => h.elim
  | _ :: _, _, [], _, h, _ => h.elim
theorem AllW.len {H : Hp} : ∀ {vs : List V} {ps : List WP}, AllW H vs ps → vs.length = ps.length
  | [], [], _ => rfl
  | _ :: _, _ :: _, ⟨_, r⟩ => congrArg (· + 1) (AllW.len r)
  | [], _ :: _, h => h.elim
  | _ :: _, [], h => h.elim
theorem AllW.at_ {H : Hp} : ∀ {vs : List V} {ps : List WP} {j : Nat} {v : V}, AllW H vs ps → vs[j]? = some v → ∃ p t, ps[j]? = some p ∧ v = .ref t ∧ H t = some (.tup [.str p.1, .bl p.2])
  | _ :: _, p :: _, 0, v, ⟨⟨t, e, ht⟩, _⟩, h => by
    cases h
    exact ⟨p, t, rfl, e, ht⟩
  | _ :: vs, _ :: ps, j + 1, v, ⟨_, r⟩, h => AllW.at_ (vs := vs) (ps := ps) (j := j) r (by rw [List.getElem?_cons_succ] at h; exact h)
  | [], _, j, v, _, h => by rw [List.getElem?_nil] at h; cases h
  | _ :: _, [], _, _, h, _ => h.elim
def MWs (σ : L2.St) (t : TA) (ps : List WP) : Prop := ∀ (H : Hp) (R : List V → Hp → Prop), (∀ vs H', Grows H H' → AllW H' vs ps → R vs H') → t σ H R
theorem mws_nil {σ : L2.St} : MWs σ tNil [] := fun H R k => k [] H .refl True.intro
theorem mws_cons {σ : L2.St} {w : Str} {b : Bool} {tb : TE} {t : TA} {ps : List WP} (hb : ∀ H Q, (∀ H', Grows H H' → Q (.bl b) H') → tb σ H Q) (h : MWs σ t ps) : MWs σ (tCons (tTup (tCons (tC (.str w)) (tCons tb tNil))) t) ((w, b) :: ps) := fun H R k =>
  hb H _ fun H1 g1 => ⟨(by show 2 ≤ sizeLine; decide), fun q hq => h _ _ fun vs H2 g2 a2 => k _ _ ((g1.trans (Grows.new hq)).trans g2) ⟨⟨q, rfl, g2 _ _ upd_same⟩, a2⟩⟩
theorem w_lst {σ : L2.St} {t : TA} {ps : List WP} {i : Nat} {rest : TS} {D : Ends} {H : Hp} (h : MWs σ t ps) (l : ps.length ≤ 100) (k : ∀ q vs H', Grows H H' → H' q = some (.lst vs) → AllW H' vs ps → rest D (σ.set i (some (.ref q))) H') : tSeq (tAsg (tLst t) (gName i)) rest D σ H :=
  h H _ fun vs H1 g1 a1 => ⟨by rw [a1.len]; exact Nat.le_trans l (by decide), fun q hq => k q vs _ (g1.trans (Grows.new hq)) upd_same (a1.grow (Grows.new hq))⟩
theorem w_cat {σ : L2.St} {t : TA} {ps qs : List WP} {us : List V} {i j : Nat} {a : Addr} {rest : TS} {D : Ends} {H : Hp} (hv : σ[j]? = some (some (.ref a))) (ha : H a = some (.lst us)) (au : AllW H us qs) (h : MWs σ t ps) (l : qs.length + ps.length ≤ 100)
    (k : ∀ q vs H', Grows H H' → H q = none → H' q = some (.lst vs) → AllW H' vs (qs ++ ps) → rest D (σ.set i (some (.ref q))) H') : tSeq (tAsg (tOp rCat (tVar j) (tLst t)) (gName i)) rest D σ H :=
  ⟨_, hv, h H _ fun vs H1 g1 a1 => ⟨by rw [a1.len]; exact Nat.le_trans (show ps.length ≤ 100 by omega) (by decide), fun q hq => ⟨a, q, _, _, rfl, rfl, (g1.trans (Grows.new hq)) _ _ ha, upd_same, by rw [au.len, a1.len]; exact Nat.le_trans l (by decide), fun y hy => by
    have g2 := (g1.trans (Grows.new (o := .lst vs) hq))
    have g3 := g2.trans (Grows.new (o := .lst (us ++ vs)) hy)
    exact k y _ _ g3 (none_back g2 hy) upd_same ((au.grow g3).app (a1.grow ((Grows.new hq).trans (Grows.new hy))))⟩⟩⟩
/-- the words that fit -/
def wordL : List Str := ["many", "who", "knots", "knot", "far", "lot", "lots", "cross"]
def spWord (a : Addr) (i : Nat) : Sp := fun vs H Q _ => vs = [.ref a] ∧ ∀ H', Grows H H' → Q (.str (wordL.getD i "")) H'
end K35

/-! ### as FnP, the exception being the one that is handled -/
namespace Held
open PySem PySem.Spec PyProof.Rows L2 L2H
structure FnQ (P : Program) (w : World) (K : PySem.W.Frag) (mg : Str → Option Value) (base : Heap) (lv : Nat) (g : Addr) (fd : FuncData) (ps : List Str) (pin : Addr × Obj) (sp : Sp) : Prop where
  arity : ∀ vs H Q, sp vs H Q L2.E0 → vs.length = ps.length
  go : ∀ (A : Around) (outer : List Env) (s : Shared) (H : Hp) (zs : Args) (us : List Value) (vs : List V) (Q : VK), RoomH lv A → Hot1 A pin → PinOk outer H s pin → Env0 P w K mg base A outer s H → BindsTo s fd zs (ps.zip us) → Vals vs us →
    sp vs H Q L2.E0 → codeAny (model P w) A (.call (.ref g) zs) (CR L2.CX0 outer P w H s Q L2.E0) s
theorem fnQ_of {P : Program} {w : World} {K : PySem.W.Frag} {mg : Str → Option Value} {base : Heap} {x qual : Str} {st : Stmt} {g : Addr} {fd : FuncData} {N ps : List Str} {lv : Nat} {sp : Sp} {pin : Addr × Obj} (F : L2.Fun K x qual st g fd) (S : FnScope N ps (defScope st))
    (arity : ∀ vs H Q, sp vs H Q L2.E0 → vs.length = ps.length)
    (body : ∀ (cdv : Value) (A : Around) (outer : List Env) (s : Shared) (H : Hp) (vs : List V) (Q : VK), RoomH lv (A.deeper (envOfC qual (defScope st) s.heap.objs.size g cdv)) → Hot1 A pin → sp vs H Q L2.E0 →
      ∃ t, PSs (cxH L2.CX0 P w K mg base N qual (defScope st) g cdv A outer s H L2.E0 pin) (defBody st) t ∧ t { nx := fun _ H' => Q .non H', rt := Q } (L2.start N vs) H) : FnQ P w K mg base (lv + 1) g fd ps pin sp := by
  obtain ⟨oc, od, kV, doc, pm, an, cdv, ct, osl, rfl, at_, code⟩ := F.ex
  refine ⟨arity, fun A outer s H zs us vs Q room warm hp e0 binds rel now => ?_⟩
  have stays : ∀ b o, base.get? b = some o → s.heap.get? b = some o := fun b o e => (e0.bs b o e).1
  have KX : K.In s.heap := e0.mod.kin.keeps stays
  have places : ∀ y ∈ ps.zip us, (defScope st).names.lookup y.1 = some .local ∨ ((defScope st).names.lookup y.1 = some .cell ∧ ((cellsFrom (s.heap.objs.size + 1) (defScope st).names []).lookup y.1).isSome = true) := by
    rintro ⟨n, v⟩ hy
    have hn := (List.of_mem_zip hy).1
    rcases S.par n hn with q | q
    · exact Or.inl q
    · exact Or.inr ⟨q, PySem.W.cellsFrom_some _ _ _ (Or.inl q)⟩
  apply codeAny_call_function room.depth (KX _ _ at_) rfl S.co S.gen rfl (PySem.W.codeRec_of KX code)
  apply binds
  apply wpAny_newFunctionEnv_cells S.kind places
  intro env he s1 x
  subst he
  refine ⟨(e0.mod.nolimit.keeps stays).keeps x.toInCall.keep, codeAny_func ?_⟩
  obtain ⟨t, ht, hq⟩ := body cdv A outer s H vs Q (room.deeper _) warm now
  have I := inv_startH (CX := L2.CX0) (P := P) (w := w) (K := K) (mg := mg) (base := base) (E := L2.E0) S hp e0 (arity _ _ _ now) rel x
  refine wpAny_mono (ht.run [] s1 (L2.start N vs) H _ I hq) (fun fl s' hs => ?_) (fun e s' hs => hs)
  cases fl with
  | brk =>
    obtain ⟨_, _, _, no⟩ := hs
    exact no.elim
  | cont =>
    obtain ⟨_, _, _, no⟩ := hs
    exact no.elim
  | next =>
    obtain ⟨σ', H', J, q⟩ := hs
    exact ⟨V.non, H', J.os, J.bare, J.base, J.hok, rfl, q⟩
  | ret u =>
    obtain ⟨v, σ', H', J, rv, q⟩ := hs
    exact ⟨v, H', J.os, J.bare, J.base, J.hok, rv, q⟩
section
variable {X : Cx} {lv : Nat} {g : Addr} {fd : FuncData} {ps : List Str} {sp : Sp} {pin : Addr × Obj} {x : Str} {q pos : Pos} {e : Expr} {es : List Expr} {t : TA}
theorem pe_callQ (F : FnQ X.prog X.w X.K X.mg X.base lv g fd ps pin sp) (room : RoomH lv X.A) (warm : Hot1 X.A pin) (there : pin ∈ X.pn) (hg : Gl X x) (hm : X.mg x = some (.ref g)) (hk : PySem.W.keepIn X.K (.ref g) = true) (hb : Binds X.K fd ps [])
    (ha : PA X (e :: es) t) (nd : (x == ("__debug__" : Str)) = false := by decide) (st : starEach (e :: es) X.env = (false, eval e X.env) :: starEach es X.env := by rfl) (np : (backTo pos (starEach es X.env)).any (·.1) = false := by rfl) :
    PE X (.Call (.Name x q) (e :: es) [] pos) (tCallP sp t) := by
  constructor
  intro pins s σ H Q I h
  apply wpAny_Call_Name_kw (ld_glob I hg hm _ nd)
  refine PySem.W.callWith_K (h₀ := X.base) I.ok.mod.kin hk (thn (ha.run pos pins s σ H _ I h) ?_) st np
  rintro us s1 ⟨vs, H1, J, rel, now⟩
  refine ⟨J.kIn, ?_⟩
  have P1 := J.pin pin (List.mem_append_left _ there)
  have ok : PinOk X.stack H1 s1 pin := ⟨P1.1, P1.2.1, fun m => by
    rcases List.mem_cons.mp (J.stkSub pin.1 m) with z | z
    · exact P1.2.2.1 z
    · exact P1.2.2.2.1 z, P1.2.2.2.2⟩
  have hl : (us ++ []).length = ps.length := by
    rw [List.append_nil, ← rel.length]
    exact F.arity _ _ _ now
  have b := hb s1 us J.kIn hl
  rw [List.append_nil] at b
  refine wpAny_call (codeAny_mono (F.go X.A X.stack s1 H1 ⟨us, []⟩ us vs Q room warm ok J.env0 b rel now) ?_)
  intro r s' hr
  match r, hr with
  | .error e, hr => exact hr.elim
  | .ok (.ret u), hr => exact J.after hr
  | .ok .next, hr => exact hr.elim
  | .ok .brk, hr => exact hr.elim
  | .ok .cont, hr => exact hr.elim
theorem hot_in {A : Around} {env : Env} {p : Addr × Obj} (h : Hot1 A p) : Hot1 (A.deeper env) p := h
end
end Held

namespace K35
open PySem PySem.Spec PyProof.Rows L2 L2H SortR LcM Held
section
variable {P : Program} {w : World} {K : PySem.W.Frag} {mg : Str → Option Value} {base : Heap} {c : List Addr} {pe : Addr}
def rowsW (i : Nat) : List WP := [(("many" : Str), decide (i = 0)), (("who" : Str), decide (i = 1))] ++ [(("knots" : Str), decide (i = 2)), (("knot" : Str), decide (i = 3))] ++ [(("far" : Str), decide (i = 4)), (("lot" : Str), decide (i = 5))] ++ [(("lots" : Str), decide (i = 6)), (("cross" : Str), decide (i = 7))] ++ [(("other" : Str), false)] ++ [(("more" : Str), false)]
theorem sh (z : Str) (h : PyData.strOk z = true) : SeqAt.shaped (.list [.str z]) = true := by
  unfold SeqAt.shaped
  simp [PyData.canLay0, PyData.canLayAll0, PyData.depth, PyData.depthAll, h]
theorem kit_no (V : TxtE K mg c pe) {i : Nat} (hi : i < 7) : ∀ js : List Nat, (∀ j ∈ js, 7 ≤ j ∧ j < 17) → PySem.W.kitAny K (.ref (ca c i)) (js.map fun j => .ref (ca c j)) = some false
  | [], _ => kitAny_nil
  | j :: js, h => by
    have hj := h j List.mem_cons_self
    have e := V.kd i hi j hj.2
    rw [decide_eq_false (show ¬ i = j by omega)] at e
    exact kitAny_cons (b := false) e (fun _ => kit_no V hi js fun x hx => h x (List.mem_cons_of_mem _ hx)) (fun z => nomatch z)
theorem own_all (c : List Addr) : ∀ js : List Nat, Paired ClsV (js.map fun j => V.ref (ca c j)) (js.map fun j => Value.ref (ca c j))
  | [] => .nil
  | j :: js => .cons (ClsV.own _) (own_all c js)
theorem w_app {K' : PySem.W.Frag} {σ : L2.St} {i : Nat} {q : Addr} {vs : List V} {ps : List WP} {wd : Str} {b : Bool} {tb : TE} {rest : TS} {D : Ends} {H0 H : Hp} (hv : σ[i]? = some (some (.ref q))) (e : H q = some (.lst vs)) (al : AllW H vs ps) (n0 : H0 q = none) (g0 : Grows H0 H)
    (hb : ∀ H Q, (∀ H', Grows H H' → Q (.bl b) H') → tb σ H Q) (l : ps.length ≤ 100) (k : ∀ vs' H', Grows H0 H' → H' q = some (.lst vs') → AllW H' vs' (ps ++ [(wd, b)]) → rest D σ H') :
    tSeq (tDrop (tBM K' "list" rAppend (tVar i) (tCons (tTup (tCons (tC (.str wd)) (tCons tb tNil))) tNil))) rest D σ H := by
  refine ⟨_, hv, .inl ⟨rfl, _, SqL.of e⟩, hb _ _ fun H1 g1 => ⟨(by show 2 ≤ sizeLine; decide), fun t ht => ⟨q, vs, _, rfl, rfl, (g1.trans (Grows.new ht)) _ _ e, ?_, ?_⟩⟩⟩
  · rw [al.len]
    exact small1000 (by omega)
  · have g2 := g1.trans (Grows.new (o := .tup [.str wd, .bl b]) ht)
    have nt : t ≠ q := (ne_of_none (g1 _ _ e) ht).symm
    refine k (vs ++ [.ref t]) _ (fun b o eb => ?_) upd_same (AllW.app (al.keep fun b o eb => ?_) ⟨⟨t, rfl, by rw [upd_ne nt]; exact upd_same⟩, True.intro⟩)
    · rw [upd_ne fun z => by rw [z, n0] at eb; cases eb]
      exact g2 _ _ (g0 _ _ eb)
    · rw [upd_ne fun z => by rw [z, e] at eb; cases eb]
      exact g2 _ _ eb
theorem scWord : FnScope ["e", "found", "words", "word", "is_one"] ["e"] (defScope sWord) := ⟨rfl, rfl, rfl, by decide +kernel, rfl, by decide +kernel, by decide +kernel⟩
theorem ok_word {f : Addr} {fd : FuncData} (F : Fun K "_law_word_of" "_law_word_of" sWord f fd) (T : TxtP mg) (V : TxtE K mg c pe) (a : Addr) (oe : Obj) (i : Nat) (hi : i < 7) (hz : Zc (.ref (ca c i)) none oe) (hf : ∃ vs, oe.data = .fields vs) : FnQ P w K mg base 1 f fd ["e"] (a, oe) (spWord a i) := by
  refine fnQ_of F scWord (fun vs H Q h => ?_) (fun cdv A outer s H vs Q hr warm0 h => ?_)
  · obtain ⟨rfl, _⟩ := h
    rfl
  · obtain ⟨rfl, k⟩ := h
    have hu64 : (A.deeper (envOfC "_law_word_of" (defScope sWord) s.heap.objs.size f cdv)).units + 64 < cLine := by have := hr.un; omega
    have warm : Hot1 (A.deeper (envOfC "_law_word_of" (defScope sWord) s.heap.objs.size f cdv)) (a, oe) := hot_in warm0
    refine ⟨_, (pss_cons (ps_set (i := 1) scWord.nd rfl (.inl rfl) (pe_lst (pa_cons (pe_tup (pa_cons pe_str (pa_cons (pe_callB (call_isP (V.ex i hi) (List.mem_singleton.mpr rfl) hz hf) (by rfl) T.isi (by decide +kernel) (pa_cons (pv 0) (pa_cons (pe_glob (v := .ref (ca c 0)) rfl (V.g 0 (by decide)) rfl) pa_nil))) pa_nil))) (pa_cons (pe_tup (pa_cons pe_str (pa_cons (pe_callB (call_isP (V.ex i hi) (List.mem_singleton.mpr rfl) hz hf) (by rfl) T.isi (by decide +kernel) (pa_cons (pv 0) (pa_cons (pe_glob (v := .ref (ca c 1)) rfl (V.g 1 (by decide)) rfl) pa_nil))) pa_nil))) pa_nil))))
      (pss_cons (ps_set (i := 1) scWord.nd rfl (.inl rfl) (pe_op op_cat (pv 1) (pe_lst (pa_cons (pe_tup (pa_cons pe_str (pa_cons (pe_callB (call_isP (V.ex i hi) (List.mem_singleton.mpr rfl) hz hf) (by rfl) T.isi (by decide +kernel) (pa_cons (pv 0) (pa_cons (pe_glob (v := .ref (ca c 2)) rfl (V.g 2 (by decide)) rfl) pa_nil))) pa_nil))) (pa_cons (pe_tup (pa_cons pe_str (pa_cons (pe_callB (call_isP (V.ex i hi) (List.mem_singleton.mpr rfl) hz hf) (by rfl) T.isi (by decide +kernel) (pa_cons (pv 0) (pa_cons (pe_glob (v := .ref (ca c 3)) rfl (V.g 3 (by decide)) rfl) pa_nil))) pa_nil))) pa_nil)))))
      (pss_cons (ps_set (i := 1) scWord.nd rfl (.inl rfl) (pe_op op_cat (pv 1) (pe_lst (pa_cons (pe_tup (pa_cons pe_str (pa_cons (pe_callB (call_isP (V.ex i hi) (List.mem_singleton.mpr rfl) hz hf) (by rfl) T.isi (by decide +kernel) (pa_cons (pv 0) (pa_cons (pe_glob (v := .ref (ca c 4)) rfl (V.g 4 (by decide)) rfl) pa_nil))) pa_nil))) (pa_cons (pe_tup (pa_cons pe_str (pa_cons (pe_callB (call_isP (V.ex i hi) (List.mem_singleton.mpr rfl) hz hf) (by rfl) T.isi (by decide +kernel) (pa_cons (pv 0) (pa_cons (pe_glob (v := .ref (ca c 5)) rfl (V.g 5 (by decide)) rfl) pa_nil))) pa_nil))) pa_nil)))))
      (pss_cons (ps_set (i := 1) scWord.nd rfl (.inl rfl) (pe_op op_cat (pv 1) (pe_lst (pa_cons (pe_tup (pa_cons pe_str (pa_cons (pe_callB (call_isP (V.ex i hi) (List.mem_singleton.mpr rfl) hz hf) (by rfl) T.isi (by decide +kernel) (pa_cons (pv 0) (pa_cons (pe_glob (v := .ref (ca c 6)) rfl (V.g 6 (by decide)) rfl) pa_nil))) pa_nil))) (pa_cons (pe_tup (pa_cons pe_str (pa_cons (pe_callB (call_isP (V.ex i hi) (List.mem_singleton.mpr rfl) hz hf) (by rfl) T.isi (by decide +kernel) (pa_cons (pv 0) (pa_cons (pe_glob (v := .ref (ca c 7)) rfl (V.g 7 (by decide)) rfl) pa_nil))) pa_nil))) pa_nil)))))
      (pss_cons (ps_expr (pe_bm PySem.F.plainAttrs_list PySem.F.slot_list_append PySem.F.type_list_append mt_append (pv 1) (pa_cons (pe_tup (pa_cons pe_str (pa_cons (pe_callB (call_isPT (V.ex i hi) (List.mem_singleton.mpr rfl) hz hf) (by rfl) T.isi (by decide +kernel) (pa_cons (pv 0) (pa_cons (pe_tup (pa_cons (pe_glob (v := .ref (ca c 8)) rfl (V.g 8 (by decide)) rfl) (pa_cons (pe_glob (v := .ref (ca c 9)) rfl (V.g 9 (by decide)) rfl) (pa_cons (pe_glob (v := .ref (ca c 10)) rfl (V.g 10 (by decide)) rfl) (pa_cons (pe_glob (v := .ref (ca c 11)) rfl (V.g 11 (by decide)) rfl) pa_nil))))) pa_nil))) pa_nil))) pa_nil)))
      (pss_cons (ps_expr (pe_bm PySem.F.plainAttrs_list PySem.F.slot_list_append PySem.F.type_list_append mt_append (pv 1) (pa_cons (pe_tup (pa_cons pe_str (pa_cons (pe_callB (call_isPT (V.ex i hi) (List.mem_singleton.mpr rfl) hz hf) (by rfl) T.isi (by decide +kernel) (pa_cons (pv 0) (pa_cons (pe_tup (pa_cons (pe_glob (v := .ref (ca c 12)) rfl (V.g 12 (by decide)) rfl) (pa_cons (pe_glob (v := .ref (ca c 13)) rfl (V.g 13 (by decide)) rfl) (pa_cons (pe_glob (v := .ref (ca c 14)) rfl (V.g 14 (by decide)) rfl) (pa_cons (pe_glob (v := .ref (ca c 15)) rfl (V.g 15 (by decide)) rfl) (pa_cons (pe_glob (v := .ref (ca c 16)) rfl (V.g 16 (by decide)) rfl) pa_nil)))))) pa_nil))) pa_nil))) pa_nil)))
      (pss_cons (HotLc.ps_setLcH (i := 2) (p := (a, oe)) (own := [("word", 3), ("is_one", 4)]) (g := gTup K 2 (gCons (gName 3) (gCons (gName 4) gNil))) warm List.mem_cons_self scWord.nd rfl rfl (sw_true rfl rfl rfl (by decide +kernel)) (pv 1) (blkOk_by (N := ["e", "found", "words", "word", "is_one"]) (own := [("word", 3), ("is_one", 4)]) (sc := defScope sWord) (by decide +kernel)) (fun _ _ _ _ _ => HotLc.pg_tupH ⟨(a, oe), warm, List.mem_cons_self⟩ (pgs_cons (pg_name (i := 3) scWord.nd rfl (Or.inl rfl)) (pgs_cons (pg_name (i := 4) scWord.nd rfl (Or.inl rfl)) pgs_nil))) (fun _ _ _ _ _ => pts_one (pt_val (pv 4))) (fun _ _ _ _ _ => pv 3))
      (pss_cons (ps_if (PW.pt (pw_or (pt_cmpR op_ne (pe_callB call_len_seq (by rfl) T.len (by decide +kernel) (pa_cons (pv 2) pa_nil)) pe_int (nomark _)) (pw_or (pt_not (pt_val (pe_callB (call_isP (V.ex i hi) (List.mem_singleton.mpr rfl) hz hf) (by rfl) T.isi (by decide +kernel) (pa_cons (pv 0) (pa_cons (pe_glob (v := .ref pe) rfl V.gp rfl) pa_nil))))) (pw_or1 (pt_not (pt_val (pe_callB (call_isP (V.ex i hi) (List.mem_singleton.mpr rfl) hz hf) (by rfl) T.isi (by decide +kernel) (pa_cons (pv 0) (pa_cons (pe_bltn (v := .ty "ValueError") (u := .type "ValueError") (by rfl) V.ve (by decide +kernel) rfl) pa_nil))))))))) (pss_one (ps_ret pe_str)) pss_nil)
      (pss_one (ps_ret (pe_ifExp (pt_cmpR (op_eqD hu64) (pv 2) (pe_lst (pa_cons pe_str pa_nil)) (nomark _)) pe_never (pe_ix (r := rIxL K) ix_list (pv 2) pe_int (fun _ _ => rfl))))))))))))), ?_⟩
    have one : ∀ (σ : L2.St) (j : Nat), j < 17 → σ[0]? = some (some (.ref a)) → ∀ (H : Hp) (Q : VK), (∀ H', Grows H H' → Q (.bl (decide (i = j))) H') → (tCB (rIsP K a (ca c i)) (tCons (tVar 0) (tCons (tC (.ref (ca c j))) tNil))) σ H Q := fun σ j hj e H Q q => ⟨_, e, _, _, _, rfl, fun u h => h, V.kd i hi j hj, q H .refl⟩
    refine w_lst (mws_cons (one _ 0 (by decide) rfl) (mws_cons (one _ 1 (by decide) rfl) mws_nil)) (Nat.le_of_ble_eq_true rfl) fun q1 vs1 H1 g1 e1 a1 => ?_
    refine w_cat rfl e1 a1 (mws_cons (one _ 2 (by decide) rfl) (mws_cons (one _ 3 (by decide) rfl) mws_nil)) (Nat.le_of_ble_eq_true rfl) fun q2 vs2 H2 g2 n2 e2 a2 => ?_
    refine w_cat rfl e2 a2 (mws_cons (one _ 4 (by decide) rfl) (mws_cons (one _ 5 (by decide) rfl) mws_nil)) (Nat.le_of_ble_eq_true rfl) fun q3 vs3 H3 g3 n3 e3 a3 => ?_
    refine w_cat rfl e3 a3 (mws_cons (one _ 6 (by decide) rfl) (mws_cons (one _ 7 (by decide) rfl) mws_nil)) (Nat.le_of_ble_eq_true rfl) fun q4 vs4 H4 g4 n4 e4 a4 => ?_
    have g03 : Grows H H3 := (g1.trans g2).trans g3
    have no : ∀ (js : List Nat), (∀ j ∈ js, 7 ≤ j ∧ j < 17) → ∀ (σ : L2.St) (tt : TA), σ[0]? = some (some (.ref a)) → (∀ (H : Hp) (R : List L2.V → Hp → Prop), R (js.map fun j => L2.V.ref (ca c j)) H → tt σ H R) → js.length ≤ 100 → ∀ (H : Hp) (Q : VK), (∀ H', Grows H H' → Q (.bl false) H') → (tCB (rIsPT K a (ca c i)) (tCons (tVar 0) (tCons (tTup tt) tNil))) σ H Q := fun js hj σ tt e ht l H Q q =>
      ⟨_, e, ht _ _ ⟨by rw [List.length_map]; exact Nat.le_trans l (by decide), fun t0 h0 => ⟨t0, _, _, false, rfl, upd_same, own_all c js, kit_no V hi js hj, q _ (Grows.new h0)⟩⟩⟩
    refine w_app rfl e4 a4 n4 g4 (no [8, 9, 10, 11] (by decide) _ _ rfl (fun H R r => r) (by decide)) (Nat.le_of_ble_eq_true rfl) fun vs5 H5 g5 e5 a5 => ?_
    refine w_app rfl e5 a5 n4 g5 (no [12, 13, 14, 15, 16] (by decide) _ _ rfl (fun H R r => r) (by decide)) (Nat.le_of_ble_eq_true rfl) fun vs6 H6 g6 e6 a6 => ?_
    have lv := a6.len
    refine ⟨_, rfl, q4, rfl, ⟨_, SqL.of e6⟩, fun D hD => lc_listT (K := K) (fun j => ((rowsW i).getD j ("", false)).2) (fun j => .str ((rowsW i).getD j ("", false)).1) hD (SqL.of e6) (by rw [lv]; exact Nat.le_of_ble_eq_true rfl) (fun j x G Ry Rn hx sm ky kn => ?_) fun H7 g7 e7 => ?_⟩
    · obtain ⟨pr, t, ep, et, at_t⟩ := a6.at_ hx
      subst et
      have er : (rowsW i).getD j ("", false) = pr := by
        rw [List.getD_eq_getElem?_getD]
        show ((rowsW i)[j]?).getD _ = pr
        rw [show (rowsW i)[j]? = some pr from ep]
        rfl
      rw [er] at ky kn
      refine ⟨t, _, rfl, SqT.of (sm _ _ at_t), rfl, _, _, rfl, _, _, rfl, rfl, rfl, _, rfl, _, rfl, iteN _ (fun h => ?_) fun h => ?_⟩
      · exact ⟨_, rfl, ky h G .refl⟩
      · exact kn h G .refl
    · have kw : kept (fun j => ((rowsW i).getD j ("", false)).2) (fun j => .str ((rowsW i).getD j ("", false)).1) vs6.length = [.str (wordL.getD i "")] := by
        rw [lv]
        match i, hi with
        | 0, _ => rfl
        | 1, _ => rfl
        | 2, _ => rfl
        | 3, _ => rfl
        | 4, _ => rfl
        | 5, _ => rfl
        | 6, _ => rfl
        | n + 7, h => exact absurd h (by omega)
      rw [kw] at e7
      have wok : PyData.strOk (wordL.getD i "") = true := by
        match i, hi with
        | 0, _ => decide +kernel
        | 1, _ => decide +kernel
        | 2, _ => decide +kernel
        | 3, _ => decide +kernel
        | 4, _ => decide +kernel
        | 5, _ => decide +kernel
        | 6, _ => decide +kernel
        | n + 7, h => exact absurd h (by omega)
      have ne : PyData.eqv (.list [.str (wordL.getD i "")]) (.list [.str "cross"]) = false := by
        match i, hi with
        | 0, _ => decide +kernel
        | 1, _ => decide +kernel
        | 2, _ => decide +kernel
        | 3, _ => decide +kernel
        | 4, _ => decide +kernel
        | 5, _ => decide +kernel
        | 6, _ => decide +kernel
        | n + 7, h => exact absurd h (by omega)
      refine ⟨_, rfl, D, _, rfl, .inl (SqL.of e7), rfl, _, rfl, iteNS rfl ?_⟩
      refine ⟨_, rfl, _, _, true, rfl, fun u h => h, V.kp i hi, _, rfl, iteF ?_⟩
      refine ⟨_, rfl, _, _, true, rfl, fun u h => h, V.kv i hi, _, rfl, iteF ?_⟩
      refine ⟨_, rfl, (by show 1 ≤ sizeLine; decide), fun q hq => ⟨.list [.str (wordL.getD i "")], .list [.str "cross"], .lst (SqL.of (Grows.new hq _ _ e7)) (.cons (.str _) .nil), .lst (SqL.of upd_same) (.cons (.str _) .nil), sh _ wok, sh _ (by decide +kernel), _, rfl, ?_⟩⟩
      rw [ne]
      exact iteF ⟨_, rfl, D, _, 0, _, rfl, rfl, SqL.of (Grows.new hq _ _ e7), atI_nat (j := 0) rfl, k _ (g03.trans (g6.trans (g7.trans (Grows.new hq))))⟩
end
end K35

namespace K35
open PySem PySem.Spec PyProof.Rows L2 SortR LcM Held
/-- as Fun.ok, for a def that may raise an error without a context -/
theorem _root_.L2.Fun.okN {P : Program} {w : World} {K : PySem.W.Frag} {mg : Str → Option Value} {base : Heap} {x qual : Str} {st : Stmt} {f : Addr} {fd : FuncData} {N ps : List Str} {k : Nat} {sp : Sp} (F : Fun K x qual st f fd) (S : FnScope N ps (defScope st)) (len : ∀ vs H Q E, sp vs H Q E → vs.length = ps.length)
    (body : ∀ (cdv : Value) (A : Around) (outer : List Env) (s : Shared) (H : Hp) (vs : List V) (Q : VK) (E : XK), Room k (A.deeper (envOfC qual (defScope st) s.heap.objs.size f cdv)) → sp vs H Q E →
      ∃ t, PSs (cxOf (L2N.CX P w) P w K mg base N qual (defScope st) f cdv A outer s H E) (defBody st) t ∧ t { nx := fun _ H' => Q .non H', rt := Q } (L2.start N vs) H) : FnOk P w K mg base (L2N.CX P w) (k + 1) f fd ps sp := by
  rcases F.ex with ⟨oc, od, kV, doc, pm, an, cdv, ct, osl, rfl, at_, code⟩
  exact L2.fn_of at_ code S len fun A outer s H vs Q E hr now => body cdv A outer s H vs Q E hr now
abbrev sNeedPs : Stmt := top 29
abbrev sFC : Stmt := top 51
structure FmF (K : PySem.W.Frag) (mg : Str → Option Value) where
  (fNPs fFC : Addr)
  (dNPs dFC : FuncData)
  FNPs : Fun K "need_persons" "need_persons" sNeedPs fNPs dNPs
  FFC : Fun K "family_counts" "family_counts" sFC fFC dFC
  gNPs : mg "need_persons" = some (.ref fNPs)
  gFC : mg "family_counts" = some (.ref fFC)
  bNPs : Binds K dNPs ["persons"] []
  bFC : Binds K dFC ["persons"] []
/-- all is well, or there can't be so many persons -/
def spNPs (c : List Addr) : Sp := fun vs H Q E => ∃ n : Int, vs = [.int n] ∧ ((1 ≤ n ∧ n ≤ 20 ∧ ∀ H', Grows H H' → Q .non H') ∨ (¬ (1 ≤ n ∧ n ≤ 20) ∧ Rz c H E 0))
def spFC (c : List Addr) : Sp := fun vs H Q E => ∃ n : Int, vs = [.int n] ∧ ((¬ (1 ≤ n ∧ n ≤ 20) ∧ Rz c H E 0) ∨ (1 ≤ n ∧ n ≤ 20 ∧ ∀ v H', Grows H H' → Q v H'))
section
variable {P : Program} {w : World} {K : PySem.W.Frag} {mg : Str → Option Value} {base : Heap} {c : List Addr} {pe : Addr}
theorem Rz.now {H : Hp} {E : XK} {i : Nat} (r : Rz c H E i) : E (.ref (ca c i)) none H := r H .refl
theorem scNeedPs : FnScope ["persons"] ["persons"] (defScope sNeedPs) := ⟨rfl, rfl, rfl, by decide +kernel, rfl, by decide +kernel, by decide +kernel⟩
theorem scFC : FnScope ["persons", "counts", "come", "groups", "fewer", "alike"] ["persons"] (defScope sFC) := ⟨rfl, rfl, rfl, by decide +kernel, rfl, by decide +kernel, by decide +kernel⟩
theorem ok_nps (Z : ProgF K mg) (T : TxtP mg) (U : FmF K mg) (V : TxtE K mg c pe) : FnOk P w K mg base (L2N.CX P w) 2 U.fNPs U.dNPs ["persons"] (spNPs c) := by
  have GNum : FnOk P w K mg base CX0 1 Z.fNum Z.dNum ["thing"] (spNumber K) := ok_number Z.FNum T
  refine U.FNPs.okN scNeedPs (fun vs H Q E h => ?_) (fun cdv A outer s H vs Q E hr h => ?_)
  · obtain ⟨n, rfl, _⟩ := h
    rfl
  · obtain ⟨n, rfl, k⟩ := h
    refine ⟨_, (pss_one (ps_if (PW.pt (pw_or (pt_not (pt_val (pe_call GNum (hr.mono (by decide)) rfl Z.gNum Z.FNum.kp Z.bNum .nil pass0 (pa_cons (pv 0) pa_nil)))) (pw_or1 (pt_not (pt_chain op_le op_le pe_int (pv 0) (pe_glob (v := .int 20) rfl Z.gMost ⟨_, rfl⟩)))))) (pss_one (L2N.ps_raise rfl (L2N.takes_of rfl rfl rfl rfl) (L2N.pmk_own PySem.F.excBase_ValueError (V.exc 0 (by decide)) (V.g 0 (by decide)) (V.kc 0 (by decide)) (raises_own (V.ex 0 (by decide)).hs (V.ty 0 (by decide))) rfl))) pss_nil)), ?_⟩
    refine ⟨_, rfl, .int n, "int", rfl, .base (.int n), by simp [kinds], _, rfl, iteF ⟨_, rfl, _, _, rfl, rfl, _, rfl, ?_⟩⟩
    rcases k with ⟨h1, h2, k⟩ | ⟨no, k⟩
    · rw [if_pos (decide_eq_true h1)]
      refine ⟨_, _, rfl, rfl, _, rfl, ?_⟩
      rw [decide_eq_true h2]
      exact iteF (k H .refl)
    · by_cases h1 : 1 ≤ n
      · rw [if_pos (decide_eq_true h1)]
        refine ⟨_, _, rfl, rfl, _, rfl, ?_⟩
        rw [decide_eq_false (show ¬ n ≤ 20 from fun z => no ⟨h1, z⟩)]
        exact iteT k.now
      · rw [decide_eq_false h1]
        exact iteF ⟨_, rfl, iteT k.now⟩
theorem ok_fc (Z : ProgF K mg) (T : TxtP mg) (U : FmF K mg) (V : TxtE K mg c pe) : FnOk P w K mg base (L2N.CX P w) 3 U.fFC U.dFC ["persons"] (spFC c) := by
  have GNPs := ok_nps (P := P) (w := w) (base := base) Z T U V
  refine U.FFC.okN scFC (fun vs H Q E h => ?_) (fun cdv A outer s H vs Q E hr h => ?_)
  · obtain ⟨n, rfl, _⟩ := h
    rfl
  · obtain ⟨n, rfl, h⟩ := h
    refine ⟨_, (pss_cons (ps_expr (pe_callS GNPs (hr.mono (by decide)) rfl U.gNPs U.FNPs.kp U.bNPs (fun σ => L2N.passAt (L2N.takes_of rfl rfl rfl rfl) σ) (pa_cons (pv 0) pa_nil)))
      (pss_cons (ps_set (i := 1) scFC.nd rfl (.inl rfl) (pe_lst (pa_cons pe_int pa_nil)))
      (pss_cons (ps_for (passes_of rfl) rfl (pi_range2 (by rfl) T.range (pa_cons pe_int (pa_cons (pe_op op_add (pv 0) pe_int) pa_nil))) (pg_name (i := 2) scFC.nd rfl (.inr rfl))
      (pss_one (ps_setLc (i := 1) (own := [("groups", 3), ("fewer", 4), ("alike", 5)]) (g := gTup K 2 (gCons (gName 3) (gCons (gTup K 2 (gCons (gName 4) (gCons (gName 5) gNil))) gNil))) (tt := tYes) rfl scFC.nd rfl rfl (sw_true rfl rfl rfl (by decide +kernel)) (EnZ.pi_enZ (by rfl) T.enumerate (EnZ.ev_zip (by rfl) T.zip (pa_cons (pe_op op_cat (pe_lst (pa_cons pe_int pa_nil)) (pv 1)) (pa_cons (pe_op op_cat (pv 1) (pe_lst (pa_cons pe_int pa_nil))) pa_nil)))) (blkOk_by (own := [("groups", 3), ("fewer", 4), ("alike", 5)]) (N := ["persons", "counts", "come", "groups", "fewer", "alike"]) (sc := defScope sFC) (by decide +kernel)) (fun _ _ _ _ _ => pg_tup rfl (pgs_cons (pg_name (i := 3) scFC.nd rfl (Or.inl rfl)) (pgs_cons (pg_tup rfl (pgs_cons (pg_name (i := 4) scFC.nd rfl (Or.inl rfl)) (pgs_cons (pg_name (i := 5) scFC.nd rfl (Or.inl rfl)) pgs_nil))) pgs_nil))) (fun _ _ _ _ _ => pts_nil) (fun _ _ _ _ _ => (pe_op op_add (pe_op op_mul (pe_op op_sub (pe_op op_add (pv 2) (pv 3)) pe_int) (pv 4)) (pe_op op_mul (pv 3) (pv 5)))))))
      (pss_one (ps_ret (pv 1)))))), ?_⟩
    rcases h with ⟨no, k⟩ | ⟨n1, n2, k⟩
    · exact ⟨_, rfl, n, rfl, .inr ⟨no, k⟩⟩
    · refine ⟨_, rfl, n, rfl, .inl ⟨n1, n2, fun H1 g1 => ⟨(by show 1 ≤ sizeLine; decide), fun z hz => ?_⟩⟩⟩
      have g2 := g1.trans (Grows.new (o := .lst [L2.V.int 1]) hz)
      refine ⟨_, rfl, _, _, rfl, rfl, 2, n + 1, rfl, ⟨by decide, by decide, by omega, by omega⟩, for_range (lo := 2) (n := (n + 1 - 2).toNat) (fun i σ H' => ∃ (a : Addr) (cs : List Int) (o2 o3 o4 o5 : Option L2.V), σ = [some (.int n), some (.ref a), o2, o3, o4, o5] ∧ Grows H H' ∧ H' a = some (.lst (cs.map L2.V.int)) ∧ cs.length = i + 1)
        ⟨z, [1], none, none, none, none, rfl, g2, upd_same, rfl⟩ (fun i σ H' il ⟨a, cs, o2, o3, o4, o5, e, g, ea, el⟩ => ?_) fun σ H' ⟨a, cs, o2, o3, o4, o5, e, g, ea, el⟩ => ?_⟩
      · subst e
        have gz : ∀ {H2 : Hp} {z : Addr} {o : HO}, H2 z = none → Grows H2 (upd H2 z o) := fun h => Grows.new h
        refine ⟨(by show 1 ≤ sizeLine; decide), fun z0 hz0 => ⟨_, rfl, z0, a, _, _, rfl, rfl, upd_same, gz hz0 _ _ ea, ?_, fun y0 hy0 => ?_⟩⟩
        · rw [List.length_map, el]
          show 1 + (i + 1) ≤ sizeLine
          exact Nat.le_trans (show 1 + (i + 1) ≤ 100 by omega) (by decide)
        have ga := (gz (o := .lst [L2.V.int 0]) hz0).trans (gz (o := .lst ([L2.V.int 0] ++ cs.map L2.V.int)) hy0)
        refine ⟨_, rfl, (by show 1 ≤ sizeLine; decide), fun z1 hz1 => ⟨a, z1, _, _, rfl, rfl, (ga.trans (gz hz1)) _ _ ea, upd_same, ?_, fun y1 hy1 => ?_⟩⟩
        · rw [List.length_map, el]
          show i + 1 + 1 ≤ sizeLine
          exact Nat.le_trans (show i + 1 + 1 ≤ 100 by omega) (by decide)
        have gb := (gz (o := .lst [L2.V.int 0]) hz1).trans (gz (o := .lst (cs.map L2.V.int ++ [L2.V.int 0])) hy1)
        refine ⟨y0, y1, (0 :: cs).map L2.V.int, (cs ++ [0]).map L2.V.int, rfl, SqL.of (gb _ _ upd_same), SqL.of (by rw [upd_same, List.map_append]; rfl), fun D hD => EnZ.lc_enZM (K := K) (fun j => L2.V.int ((2 + (i : Int) + (j : Int) - 2) * (0 :: cs).getD j 0 + (j : Int) * (cs ++ [0]).getD j 0)) hD (xs := (0 :: cs).map L2.V.int) (ys := (cs ++ [0]).map L2.V.int) (SqL.of (gb _ _ upd_same)) (SqL.of (by rw [upd_same, List.map_append]; rfl)) (by rw [List.length_map, List.length_cons]; omega) (fun j x y S T H4 R hx hy g4 hS hT ne kR => ?_) fun H5 g5 e5 => ?_⟩
        · have jl := (List.getElem?_eq_some_iff.mp hx).1
          rw [List.length_map, List.length_cons] at jl
          obtain rfl := at_map (d := 0) hx
          obtain rfl := at_map (d := 0) hy
          refine ⟨T, _, rfl, SqT.of upd_same, rfl, _, _, rfl, _, _, rfl, S, _, rfl, SqT.of (by rw [upd_ne ne]; exact upd_same), rfl, _, _, rfl, _, _, rfl, rfl, rfl, rfl, ?_⟩
          exact ⟨_, rfl, _, rfl, _, _, rfl, rfl, _, _, rfl, rfl, _, rfl, _, _, rfl, rfl, .inl ⟨by omega, by omega⟩, _, rfl, _, rfl, _, _, rfl, rfl, .inl ⟨by omega, by omega⟩, _, _, rfl, rfl, kR _ .refl⟩
        · refine ⟨D, (List.range (min ((0 :: cs).map L2.V.int).length ((cs ++ [0]).map L2.V.int).length)).map fun j : Nat => (2 + (i : Int) + (j : Int) - 2) * (0 :: cs).getD j 0 + (j : Int) * (cs ++ [0]).getD j 0, _, _, _, _, rfl, ((g.trans ga).trans gb).trans g5, by rw [e5, List.map_map]; rfl, ?_⟩
          rw [List.length_map, List.length_range, List.length_map, List.length_map, List.length_cons, List.length_append, List.length_singleton, el, Nat.min_self]
      · subst e
        exact ⟨_, rfl, k _ _ g⟩
end
end K35

namespace K35
open PySem PySem.Spec PyProof.Rows L2 SortR LcM Held
abbrev sHof : Stmt := top 52
abbrev sAHi : Stmt := top 53
structure HiF (K : PySem.W.Frag) (mg : Str → Option Value) extends FmF K mg where
  (fHof fAHi : Addr)
  (dHof dAHi : FuncData)
  FHof : Fun K "histories_of" "histories_of" sHof fHof dHof
  FAHi : Fun K "all_histories" "all_histories" sAHi fAHi dAHi
  gHof : mg "histories_of" = some (.ref fHof)
  gAHi : mg "all_histories" = some (.ref fAHi)
  bHof : Binds K dHof ["parts"] []
  bAHi : Binds K dAHi ["persons"] []
  gComb2 : mg "comb" = some (.builtin "math.comb")
/-- in how many ways up to 20 parts are joined: one at least, and not too great -/
def spHof : Sp := fun vs H Q _ => ∃ n : Int, vs = [.int n] ∧ 0 ≤ n ∧ n ≤ 21 ∧ ∀ v : Int, 1 ≤ v → v < 2 ^ 180 → Q (.int v) H
section
variable {P : Program} {w : World} {K : PySem.W.Frag} {mg : Str → Option Value} {base : Heap} {c : List Addr} {pe : Addr}
theorem scHof : FnScope ["parts", "ways", "there"] ["parts"] (defScope sHof) := ⟨rfl, rfl, rfl, by decide +kernel, rfl, by decide +kernel, by decide +kernel⟩
theorem scAHi : FnScope ["persons"] ["persons"] (defScope sAHi) := ⟨rfl, rfl, rfl, by decide +kernel, rfl, by decide +kernel, by decide +kernel⟩
theorem few441 : ∀ i, i ≤ 20 → (441 : Int) ^ i < 2 ^ 180 := fun i hi => by
  have z : ∀ i, i < 21 → (441 : Int) ^ i < 2 ^ 180 := by decide +kernel
  exact z i (by omega)
theorem ok_hof (T : TxtP mg) (U : HiF K mg) : FnOk P w K mg base CX0 1 U.fHof U.dHof ["parts"] spHof := by
  refine U.FHof.ok scHof (fun vs H Q E h => ?_) (fun cdv A outer s H vs Q E hr h => ?_)
  · obtain ⟨n, rfl, _⟩ := h
    rfl
  · obtain ⟨n, rfl, n0, n1, k⟩ := h
    refine ⟨_, (pss_cons (ps_set (i := 1) scHof.nd rfl (.inl rfl) pe_int)
      (pss_cons (ps_for PassesOwn.never rfl (pi_range2 (by rfl) T.range (pa_cons pe_int (pa_cons (pe_op op_add (pv 0) pe_int) pa_nil))) (pg_name (i := 2) scHof.nd rfl (.inl rfl))
      (pss_one (ps_set (i := 1) scHof.nd rfl (.inl rfl) (pe_op op_mul (pv 1) (pe_callBfun (id := "math.comb") MathC.cr_comb rfl U.gComb2 (pa_cons (pv 2) (pa_cons pe_int pa_nil)))))))
      (pss_one (ps_ret (pv 1))))), ?_⟩
    refine ⟨_, rfl, _, _, rfl, rfl, 2, n + 1, rfl, ⟨by decide, by decide, by omega, by omega⟩, for_range (lo := 2) (n := (n + 1 - 2).toNat) (fun i σ H' => ∃ (v : Int) (o2 : Option V), σ = [some (.int n), some (.int v), o2] ∧ H' = H ∧ 1 ≤ v ∧ v ≤ 441 ^ i)
      ⟨1, none, rfl, rfl, Int.le_refl _, Int.le_refl _⟩ (fun i σ H' il ⟨v, o2, e, eh, v0, v1⟩ => ?_) fun σ H' ⟨v, o2, e, eh, v0, v1⟩ => ?_⟩
    · subst e
      subst eh
      obtain ⟨c0, c1⟩ := MathC.comb2 (a := 2 + (i : Int)) (by omega)
      have c2 : PySem.W.mcComb (2 + (i : Int)) 2 ≤ 441 := Int.le_trans c1 (Int.mul_le_mul (show 2 + (i : Int) ≤ 21 by omega) (show 2 + (i : Int) ≤ 21 by omega) (by omega) (by decide))
      refine ⟨_, rfl, _, rfl, _, _, rfl, by omega, by omega, by decide, _, _, rfl, rfl, .inr ⟨by omega, by omega⟩, v * PySem.W.mcComb (2 + (i : Int)) 2, _, rfl, rfl, ?_, ?_⟩
      · have := Int.mul_le_mul v0 c0 (by decide) (by omega)
        omega
      · rw [Int.pow_succ]
        exact Int.mul_le_mul v1 c2 (by omega) (by omega)
    · subst e
      subst eh
      exact ⟨_, rfl, k v v0 (Int.lt_of_le_of_lt v1 (few441 _ (by omega)))⟩
theorem ok_ahi (Z : ProgF K mg) (T : TxtP mg) (U : HiF K mg) (V : TxtE K mg c pe) : FnOk P w K mg base (L2N.CX P w) 3 U.fAHi U.dAHi ["persons"] (spFC c) := by
  have GNPs := ok_nps (P := P) (w := w) (base := base) Z T U.toFmF V
  have GHof : FnOk P w K mg base CX0 1 U.fHof U.dHof ["parts"] spHof := ok_hof T U
  refine U.FAHi.okN scAHi (fun vs H Q E h => ?_) (fun cdv A outer s H vs Q E hr h => ?_)
  · obtain ⟨n, rfl, _⟩ := h
    rfl
  · obtain ⟨n, rfl, h⟩ := h
    refine ⟨_, (pss_cons (ps_expr (pe_callS GNPs (hr.mono (by decide)) rfl U.gNPs U.FNPs.kp U.bNPs (fun σ => L2N.passAt (L2N.takes_of rfl rfl rfl rfl) σ) (pa_cons (pv 0) pa_nil)))
      (pss_one (ps_ret (pe_call GHof (hr.mono (by decide)) rfl U.gHof U.FHof.kp U.bHof .nil pass0 (pa_cons (pv 0) pa_nil))))), ?_⟩
    rcases h with ⟨no, k⟩ | ⟨n1, n2, k⟩
    · exact ⟨_, rfl, n, rfl, .inr ⟨no, k⟩⟩
    · exact ⟨_, rfl, n, rfl, .inl ⟨n1, n2, fun H1 g1 => ⟨_, rfl, n, rfl, by omega, by omega, fun v _ _ => k _ _ g1⟩⟩⟩
end
end K35

namespace K35
open PySem PySem.Spec PyProof.Rows L2 SortR LcM Held
abbrev sWays : Stmt := top 41
abbrev sApart : Stmt := top 46
abbrev sWwc : Stmt := top 47
structure ChF (K : PySem.W.Frag) (mg : Str → Option Value) extends HiF K mg where
  (fWays fApart fWwc : Addr)
  (dWays dApart dWwc : FuncData)
  FWays : Fun K "ways_of" "ways_of" sWays fWays dWays
  FApart : Fun K "ways_apart" "ways_apart" sApart fApart dApart
  FWwc : Fun K "ways_with_changes" "ways_with_changes" sWwc fWwc dWwc
  gWays : mg "ways_of" = some (.ref fWays)
  gApart : mg "ways_apart" = some (.ref fApart)
  gWwc : mg "ways_with_changes" = some (.ref fWwc)
  bWays : Binds K dWays ["many"] []
  bApart : Binds K dApart ["persons", "many"] []
  bWwc : Binds K dWwc ["marked", "others", "changes"] []
  gFact : mg "factorial" = some (.builtin "math.factorial")
theorem mulW_of {i j : Int} {a b : Nat} (ha : i.natAbs < 2 ^ a) (hb : j.natAbs < 2 ^ b) (a0 : 0 < a) (b0 : 0 < b) (l : a + b ≤ 100000) : CMulW i j := by
  have x := PySem.Flt.log2_lt_of a0 ha
  have y := PySem.Flt.log2_lt_of b0 hb
  unfold CMulW
  omega
theorem few_comb (a b : Nat) (ha : a < 40) (hb : b < 40) : (PySem.W.mcComb a b).natAbs < 2 ^ 64 := by
  have all : ∀ a b : Fin 40, decide ((PySem.W.mcComb (a.val : Int) (b.val : Int)).natAbs < 2 ^ 64) = true := by decide +kernel
  exact of_decide_eq_true (all ⟨a, ha⟩ ⟨b, hb⟩)
def spWays : Sp := fun vs H Q _ => ∃ m : Nat, vs = [.int m] ∧ m ≤ 40 ∧ ∀ v : Int, 1 ≤ v → v.natAbs < 2 ^ 320 → (m ≤ 2 → v = 1) → Q (.int v) H
def spApart : Sp := fun vs H Q _ => ∃ p m : Int, vs = [.int p, .int m] ∧ 1 ≤ m ∧ m ≤ p ∧ p ≤ 19 ∧ ∀ v : Int, v.natAbs < 2 ^ 384 → Q (.int v) H
def spWwc : Sp := fun vs H Q _ => ∃ a b ch : Int, vs = [.int a, .int b, .int ch] ∧ 1 ≤ ch ∧ ch ≤ a ∧ ch ≤ b ∧ a + b ≤ 20 ∧ ∀ v : Int, Q (.int v) H
section
variable {P : Program} {w : World} {K : PySem.W.Frag} {mg : Str → Option Value} {base : Heap} {c : List Addr} {pe : Addr}
theorem scWays : FnScope ["many", "ways", "odd"] ["many"] (defScope sWays) := ⟨rfl, rfl, rfl, by decide +kernel, rfl, by decide +kernel, by decide +kernel⟩
theorem scApart : FnScope ["persons", "many"] ["persons", "many"] (defScope sApart) := ⟨rfl, rfl, rfl, by decide +kernel, rfl, by decide +kernel, by decide +kernel⟩
theorem scWwc : FnScope ["marked", "others", "changes", "persons", "ways"] ["marked", "others", "changes"] (defScope sWwc) := ⟨rfl, rfl, rfl, by decide +kernel, rfl, by decide +kernel, by decide +kernel⟩
def rgN (m : Nat) : Nat := (Builtin.Range.rangeSize 3 (2 * (m : Int) - 2) 2).toNat
theorem ways_rg : ∀ m : Nat, m ≤ 40 → RgC 3 (2 * (m : Int) - 2) 2 (rgN m) ∧ rgN m ≤ 39 ∧ (m ≤ 2 → rgN m = 0) := fun m hm => by
  have all : ∀ i : Fin 41, (Builtin.Range.small 3 (2 * ((i.val : Nat) : Int) - 2) 2 && decide (rgN i.val ≤ 39) && (!decide (i.val ≤ 2) || decide (rgN i.val = 0)) && decide (0 ≤ Builtin.Range.rangeSize 3 (2 * ((i.val : Nat) : Int) - 2) 2)) = true := by decide +kernel
  have q := all ⟨m, by omega⟩
  simp only [Bool.and_eq_true, Bool.or_eq_true, Bool.not_eq_true', decide_eq_false_iff_not, decide_eq_true_eq] at q
  exact ⟨⟨by decide, by decide, q.1.1.1, (Int.toNat_of_nonneg q.2).symm⟩, q.1.1.2, fun h => q.1.2.elim (fun z => absurd h z) id⟩
theorem ok_ways (T : TxtP mg) (U : ChF K mg) : FnOk P w K mg base CX0 1 U.fWays U.dWays ["many"] spWays := by
  refine U.FWays.ok scWays (fun vs H Q E h => ?_) (fun cdv A outer s H vs Q E hr h => ?_)
  · obtain ⟨m, rfl, _⟩ := h
    rfl
  · obtain ⟨m, rfl, hm, k⟩ := h
    refine ⟨_, (pss_cons (ps_set (i := 1) scWays.nd rfl (.inl rfl) pe_int)
      (pss_cons (ps_for PassesOwn.never rfl (pi_range3 rfl T.range (pa_cons pe_int (pa_cons (pe_op op_sub (pe_op op_mul pe_int (pv 0)) pe_int) (pa_cons pe_int pa_nil)))) (pg_name (i := 2) scWays.nd rfl (.inl rfl))
      (pss_one (ps_set (i := 1) scWays.nd rfl (.inl rfl) (pe_op op_mul (pv 1) (pv 2)))))
      (pss_one (ps_ret (pv 1))))), ?_⟩
    obtain ⟨r1, r2, r3⟩ := ways_rg m hm
    refine ⟨_, rfl, _, _, rfl, rfl, .inl ⟨by decide, by decide⟩, _, _, rfl, rfl, _, _, _, _, rfl, r1, for_rangeC (lo := 3) (c := 2) (n := rgN m) (fun i σ H' => ∃ (v : Int) (o : Option V), σ = [some (.int m), some (.int v), o] ∧ 1 ≤ v ∧ v.natAbs < 2 ^ (8 * i + 1) ∧ (i = 0 → v = 1) ∧ H' = H)
      ⟨1, none, rfl, by decide, by decide, (fun _ => rfl), rfl⟩ (fun i σ H' hi ⟨v, o, e, v1, v2, v3, eH⟩ => ?_) fun σ H' ⟨v, o, e, v1, v2, v3, eH⟩ => ?_⟩
    · subst e eH
      refine ⟨_, rfl, _, rfl, _, _, rfl, rfl, .inr ⟨by omega, by omega⟩, ?_⟩
      have b1 : (3 + (i : Nat) * 2 : Int).natAbs < 2 ^ 8 := by
        have : i < 40 := by omega
        show _ < 256
        omega
      refine ⟨_, _, rfl, ?_, ?_, fun z => absurd z (Nat.succ_ne_zero i), rfl⟩
      · have : (1 : Int) * 1 ≤ v * (3 + (i : Nat) * 2) := Int.mul_le_mul v1 (by omega) (by decide) (by omega)
        omega
      · rw [Int.natAbs_mul, show 8 * (i + 1) + 1 = (8 * i + 1) + 8 by omega, Nat.pow_add]
        exact Nat.mul_lt_mul'' v2 b1
    · subst e eH
      refine ⟨_, rfl, k v v1 (Nat.lt_of_lt_of_le v2 (Nat.pow_le_pow_right (by decide) (by omega))) fun h => v3 (r3 h)⟩
theorem ok_apart (T : TxtP mg) (U : ChF K mg) : FnOk P w K mg base CX0 2 U.fApart U.dApart ["persons", "many"] spApart := by
  have GWays : FnOk P w K mg base CX0 1 U.fWays U.dWays ["many"] spWays := ok_ways T U
  refine U.FApart.ok scApart (fun vs H Q E h => ?_) (fun cdv A outer s H vs Q E hr h => ?_)
  · obtain ⟨p, m, rfl, _⟩ := h
    rfl
  · obtain ⟨p, m, rfl, m0, m1, p1, k⟩ := h
    refine ⟨_, (pss_one (ps_ret (pe_op op_mulW (pe_callBfun (id := "math.comb") MathC.cr_comb rfl U.gComb2 (pa_cons (pe_op op_sub (pe_op op_sub (pe_op op_mulW pe_int (pv 0)) (pv 1)) pe_int) (pa_cons (pe_op op_sub (pv 1) pe_int) pa_nil))) (pe_call GWays (hr.mono (by decide)) rfl U.gWays U.FWays.kp U.bWays .nil pass0 (pa_cons (pe_op op_add (pe_op op_sub (pv 0) (pv 1)) pe_int) pa_nil))))), ?_⟩
    have small : ∀ x : Int, 0 ≤ x → x < 100 → x.natAbs < 2 ^ 10 := fun x h0 h1 => by omega
    obtain ⟨a, ea⟩ : ∃ a : Nat, (2 * p - m - 1 : Int) = (a : Nat) := ⟨(2 * p - m - 1).toNat, by omega⟩
    obtain ⟨b, eb⟩ : ∃ b : Nat, (m - 1 : Int) = (b : Nat) := ⟨(m - 1).toNat, by omega⟩
    obtain ⟨d, ed⟩ : ∃ d : Nat, (p - m + 1 : Int) = (d : Nat) := ⟨(p - m + 1).toNat, by omega⟩
    refine ⟨_, rfl, _, _, rfl, rfl, mulW_of (a := 10) (b := 10) (by decide) (small p (by omega) (by omega)) (by decide) (by decide) (by decide), _, rfl, _, _, rfl, rfl, _, _, rfl, rfl, _, rfl, _, _, rfl, rfl, _, _, rfl, by omega, by omega, by omega, _, rfl, _, rfl, _, _, rfl, rfl, _, _, rfl, rfl, d, by show [L2.V.int (p - m + 1)] = [L2.V.int ((d : Nat) : Int)]; rw [ed], by omega, fun v v0 v1 _ => ?_⟩
    have cb : (PySem.W.mcComb (2 * p - m - 1) (m - 1)).natAbs < 2 ^ 64 := by
      rw [ea, eb]
      exact few_comb a b (by omega) (by omega)
    exact ⟨_, _, rfl, rfl, mulW_of cb v1 (by decide) (by decide) (by decide), k _ (wide_lt cb v1)⟩
theorem ok_wwc (T : TxtP mg) (U : ChF K mg) : FnOk P w K mg base CX0 3 U.fWwc U.dWwc ["marked", "others", "changes"] spWwc := by
  have GWays : FnOk P w K mg base CX0 1 U.fWays U.dWays ["many"] spWays := ok_ways T U
  have GApart : FnOk P w K mg base CX0 2 U.fApart U.dApart ["persons", "many"] spApart := ok_apart T U
  refine U.FWwc.ok scWwc (fun vs H Q E h => ?_) (fun cdv A outer s H vs Q E hr h => ?_)
  · obtain ⟨a, b, ch, rfl, _⟩ := h
    rfl
  · obtain ⟨a, b, ch, rfl, c0, ca, cb, ab, k⟩ := h
    refine ⟨_, (pss_cons (ps_set (i := 3) scWwc.nd rfl (.inl rfl) (pe_op op_add (pv 0) (pv 1)))
      (pss_cons (ps_set (i := 4) scWwc.nd rfl (.inl rfl) (pe_op op_mulW (pe_op op_mulW (pe_call GApart (hr.mono (by decide)) rfl U.gApart U.FApart.kp U.bApart .nil pass0 (pa_cons (pv 0) (pa_cons (pv 2) pa_nil))) (pe_call GApart (hr.mono (by decide)) rfl U.gApart U.FApart.kp U.bApart .nil pass0 (pa_cons (pv 1) (pa_cons (pv 2) pa_nil)))) (pe_callBfun (id := "math.factorial") MathC.cr_fact rfl U.gFact (pa_cons (pe_op op_sub (pv 2) pe_int) pa_nil))))
      (pss_one (ps_ret (pe_op op_fdivW (pe_op op_mulW (pe_op op_mulW (pv 4) (pe_op op_sub (pe_op op_mulW pe_int (pv 3)) (pe_op op_mulW pe_int (pv 2)))) (pe_call GWays (hr.mono (by decide)) rfl U.gWays U.FWays.kp U.bWays .nil pass0 (pa_cons (pv 3) pa_nil))) (pe_call GWays (hr.mono (by decide)) rfl U.gWays U.FWays.kp U.bWays .nil pass0 (pa_cons (pe_op op_add (pe_op op_sub (pv 3) (pv 2)) pe_int) pa_nil))))))), ?_⟩
    have small : ∀ x : Int, -100 < x → x < 100 → x.natAbs < 2 ^ 10 := fun x h0 h1 => by omega
    obtain ⟨n, en⟩ : ∃ n : Nat, (a + b : Int) = (n : Nat) := ⟨(a + b).toNat, by omega⟩
    obtain ⟨d, ed⟩ : ∃ d : Nat, (a + b - ch + 1 : Int) = (d : Nat) := ⟨(a + b - ch + 1).toNat, by omega⟩
    refine ⟨_, rfl, _, rfl, _, _, rfl, rfl, ?_⟩
    refine ⟨_, rfl, _, rfl, a, ch, rfl, c0, ca, by omega, fun x x1 => ⟨_, rfl, _, rfl, b, ch, rfl, c0, cb, by omega, fun y y1 => ⟨_, _, rfl, rfl, mulW_of x1 y1 (by decide) (by decide) (by decide), ?_⟩⟩⟩
    have f0 : ((Builtin.Math.factorialNat (ch - 1).toNat : Nat) : Int).natAbs < 2 ^ 1281 := by
      rw [Int.natAbs_natCast]
      exact Nat.lt_of_le_of_lt (PySem.W.mc_fac_le _ (by omega)) (Nat.pow_lt_pow_right (by decide) (by omega))
    refine ⟨_, rfl, _, _, rfl, rfl, _, rfl, by omega, by omega, _, _, rfl, rfl, mulW_of (wide_lt x1 y1) f0 (by decide) (by decide) (by decide), ?_⟩
    have w4 := wide_lt (wide_lt x1 y1) f0
    refine ⟨_, rfl, _, rfl, _, _, rfl, rfl, mulW_of (a := 10) (b := 10) (by decide) (small _ (by omega) (by omega)) (by decide) (by decide) (by decide), _, rfl, _, _, rfl, rfl, mulW_of (a := 10) (b := 10) (by decide) (small _ (by omega) (by omega)) (by decide) (by decide) (by decide), _, _, rfl, rfl, ?_⟩
    have r10 : (2 * (a + b) - 3 * ch).natAbs < 2 ^ 10 := small _ (by omega) (by omega)
    refine ⟨_, _, rfl, rfl, mulW_of w4 r10 (by decide) (by decide) (by decide), _, rfl, n, by show [L2.V.int (a + b)] = [L2.V.int ((n : Nat) : Int)]; rw [en], by omega, fun v v0 v1 _ => ⟨_, _, rfl, rfl, mulW_of (wide_lt w4 r10) v1 (by decide) (by decide) (by decide), ?_⟩⟩
    exact ⟨_, rfl, _, rfl, _, _, rfl, rfl, _, _, rfl, rfl, d, by show [L2.V.int (a + b - ch + 1)] = [L2.V.int ((d : Nat) : Int)]; rw [ed], by omega, fun u u0 u1 _ => ⟨_, _, rfl, rfl, wide_div (by omega) u1 (by decide) (by decide), k _⟩⟩
end
end K35

namespace K35
open PySem PySem.Spec PyProof.Rows L2 SortR LcM Held
abbrev sNeedN : Stmt := top 30
abbrev sCC : Stmt := top 48
structure CcF (K : PySem.W.Frag) (mg : Str → Option Value) extends ChF K mg where
  (fNN fCC : Addr)
  (dNN dCC : FuncData)
  FNN : Fun K "need_number" "need_number" sNeedN fNN dNN
  FCC : Fun K "change_counts" "change_counts" sCC fCC dCC
  gNN : mg "need_number" = some (.ref fNN)
  gCC : mg "change_counts" = some (.ref fCC)
  bNN : Binds K dNN ["number", "least", "most"] []
  bCC : Binds K dCC ["persons", "number"] []
theorem ln_le {a b : Str} {m n : Nat} (ha : a.length ≤ m) (hb : b.length ≤ n) : (a ++ b).length ≤ m + n := by
  rw [Str.length_append]
  omega
theorem ln_ok {n m : Nat} (h : n ≤ m) (k : m ≤ 100000) : n ≤ sizeLine := by
  rw [sizeLine_eq]
  omega
theorem fmt_int {i : Nat} {σ : L2.St} {H : Hp} {v : Int} {Q : VK} (h0 : 0 ≤ v) (h1 : v ≤ 100) (hi : σ[i]? = some (some (.int v))) (k : ∀ y : Str, y.length ≤ 5000 → Q (.str y) H) : tFmt (tVar i) σ H Q := by
  have l : v.natAbs.log2 < 1920 := by
    have z : v.natAbs < 2 ^ 64 := by omega
    have := PySem.Flt.log2_lt_of (by decide) z
    omega
  refine ⟨_, hi, .inr ⟨v, rfl, l, k _ ?_⟩⟩
  have e := int_text_length_le (k := 1920) (by decide) l
  show (Str.ofString (toString v)).length ≤ 5000
  rw [PySem.ofString_length]
  omega
/-- all is well, or the number is out of its limits -/
def spNN (c : List Addr) : Sp := fun vs H Q E => ∃ x l m : Int, vs = [.int x, .int l, .int m] ∧ 0 ≤ l ∧ l ≤ 100 ∧ 0 ≤ m ∧ m ≤ 100 ∧ ((l ≤ x ∧ x ≤ m ∧ ∀ H', Grows H H' → Q .non H') ∨ (¬ (l ≤ x ∧ x ≤ m) ∧ Rz c H E 4))
/-- no such company, no such number of its persons, or all is well -/
def spCC (c : List Addr) : Sp := fun vs H Q E => ∃ n x : Int, vs = [.int n, .int x] ∧ ((¬ (1 ≤ n ∧ n ≤ 20) ∧ Rz c H E 0) ∨ (1 ≤ n ∧ n ≤ 20 ∧ ((¬ (0 ≤ x ∧ x ≤ n) ∧ Rz c H E 4) ∨ (0 ≤ x ∧ x ≤ n ∧ ∀ v H', Grows H H' → Q v H'))))
section
variable {P : Program} {w : World} {K : PySem.W.Frag} {mg : Str → Option Value} {base : Heap} {c : List Addr} {pe : Addr}
theorem scNeedN : FnScope ["number", "least", "most"] ["number", "least", "most"] (defScope sNeedN) := ⟨rfl, rfl, rfl, by decide +kernel, rfl, by decide +kernel, by decide +kernel⟩
theorem scCC : FnScope ["persons", "number", "most", "changes"] ["persons", "number"] (defScope sCC) := ⟨rfl, rfl, rfl, by decide +kernel, rfl, by decide +kernel, by decide +kernel⟩
theorem Rz.keep {H H' : Hp} {E : XK} {i : Nat} (r : Rz c H E i) (g : Grows H H') : Rz c H' E i := fun H2 g2 => r H2 (g.trans g2)
theorem ok_nn (Z : ProgF K mg) (T : TxtP mg) (U : CcF K mg) (V : TxtE K mg c pe) : FnOk P w K mg base (L2N.CX P w) 2 U.fNN U.dNN ["number", "least", "most"] (spNN c) := by
  have GNum : FnOk P w K mg base CX0 1 Z.fNum Z.dNum ["thing"] (spNumber K) := ok_number Z.FNum T
  refine U.FNN.okN scNeedN (fun vs H Q E h => ?_) (fun cdv A outer s H vs Q E hr h => ?_)
  · obtain ⟨x, l, m, rfl, _⟩ := h
    rfl
  · obtain ⟨x, l, m, rfl, l0, l1, m0, m1, k⟩ := h
    refine ⟨_, (pss_one (ps_if (PW.pt (pw_or (pt_not (pt_val (pe_call GNum (hr.mono (by decide)) rfl Z.gNum Z.FNum.kp Z.bNum .nil pass0 (pa_cons (pv 0) pa_nil)))) (pw_or1 (pt_not (pt_chain op_le op_le (pv 1) (pv 0) (pv 2)))))) (pss_one (L2N.ps_raise rfl (L2N.takes_of rfl rfl rfl rfl) (MkN.pmk_one PySem.F.excBase_ValueError (V.exc 4 (by decide)) (V.g 4 (by decide)) (V.kc 4 (by decide)) (raises_own (V.ex 4 (by decide)).hs (V.ty 4 (by decide))) rfl (pe_joined (.cons pe_str (.cons (pe_fmt (pv 1)) (.cons pe_str (.cons (pe_fmt (pv 2)) .nil)))))))) pss_nil)), ?_⟩
    refine ⟨_, rfl, .int x, "int", rfl, .base (.int x), by simp [kinds], _, rfl, iteF ⟨_, rfl, _, rfl, _, _, rfl, rfl, _, rfl, ?_⟩⟩
    rcases k with ⟨h1, h2, k⟩ | ⟨no, k⟩
    · rw [if_pos (decide_eq_true h1)]
      refine ⟨_, rfl, _, _, rfl, rfl, _, rfl, ?_⟩
      rw [decide_eq_true h2]
      exact iteF (k H .refl)
    · by_cases h1 : l ≤ x
      · rw [if_pos (decide_eq_true h1)]
        refine ⟨_, rfl, _, _, rfl, rfl, _, rfl, ?_⟩
        rw [decide_eq_false (show ¬ x ≤ m from fun z => no ⟨h1, z⟩)]
        have w1 := ln_le (a := Str.empty) (b := "no number from ") (m := 0) (n := 100) (by decide +kernel) (by decide +kernel)
        refine iteT ⟨_, rfl, ln_ok w1 (by decide), ?_⟩
        show tFmt (tVar 1) _ _ _
        refine fmt_int l0 l1 rfl fun y1 h1 => ⟨_, rfl, ln_ok (ln_le w1 h1) (by decide), ?_⟩
        have w2 := ln_le (ln_le w1 h1) (b := " to ") (n := 100) (by decide +kernel)
        refine ⟨_, rfl, ln_ok w2 (by decide), ?_⟩
        show tFmt (tVar 2) _ _ _
        exact fmt_int m0 m1 rfl fun y2 h2 => ⟨_, rfl, ln_ok (ln_le w2 h2) (by decide), k.now⟩
      · rw [decide_eq_false h1]
        refine iteF ⟨_, rfl, ?_⟩
        have w1 := ln_le (a := Str.empty) (b := "no number from ") (m := 0) (n := 100) (by decide +kernel) (by decide +kernel)
        refine iteT ⟨_, rfl, ln_ok w1 (by decide), ?_⟩
        show tFmt (tVar 1) _ _ _
        refine fmt_int l0 l1 rfl fun y1 h1 => ⟨_, rfl, ln_ok (ln_le w1 h1) (by decide), ?_⟩
        have w2 := ln_le (ln_le w1 h1) (b := " to ") (n := 100) (by decide +kernel)
        refine ⟨_, rfl, ln_ok w2 (by decide), ?_⟩
        show tFmt (tVar 2) _ _ _
        exact fmt_int m0 m1 rfl fun y2 h2 => ⟨_, rfl, ln_ok (ln_le w2 h2) (by decide), k.now⟩
theorem ok_cc (Z : ProgF K mg) (T : TxtP mg) (T0 : Txt0 mg) (U : CcF K mg) (V : TxtE K mg c pe) : FnOk P w K mg base (L2N.CX P w) 4 U.fCC U.dCC ["persons", "number"] (spCC c) := by
  have GNPs := ok_nps (P := P) (w := w) (base := base) Z T U.toFmF V
  have GNN := ok_nn (P := P) (w := w) (base := base) Z T U V
  have GWays : FnOk P w K mg base CX0 1 U.fWays U.dWays ["many"] spWays := ok_ways T U.toChF
  have GWwc : FnOk P w K mg base CX0 3 U.fWwc U.dWwc ["marked", "others", "changes"] spWwc := ok_wwc T U.toChF
  refine U.FCC.okN scCC (fun vs H Q E h => ?_) (fun cdv A outer s H vs Q E hr h => ?_)
  · obtain ⟨n, x, rfl, _⟩ := h
    rfl
  · obtain ⟨n, x, rfl, h⟩ := h
    refine ⟨_, (pss_cons (ps_expr (pe_callS GNPs (hr.mono (by decide)) rfl U.gNPs U.FNPs.kp U.bNPs (fun σ => L2N.passAt (L2N.takes_of rfl rfl rfl rfl) σ) (pa_cons (pv 0) pa_nil)))
      (pss_cons (ps_expr (pe_callS GNN (hr.mono (by decide)) rfl U.gNN U.FNN.kp U.bNN (fun σ => L2N.passAt (L2N.takes_of rfl rfl rfl rfl) σ) (pa_cons (pv 1) (pa_cons pe_int (pa_cons (pv 0) pa_nil)))))
      (pss_cons (ps_if (pt_cmpR op_in_seq (pv 1) (pe_tup (pa_cons pe_int (pa_cons (pv 0) pa_nil))) (by rfl)) (pss_one (ps_ret (pe_lst (pa_cons (pe_call GWays (hr.mono (by decide)) rfl U.gWays U.FWays.kp U.bWays .nil pass0 (pa_cons (pv 0) pa_nil)) pa_nil)))) pss_nil)
      (pss_cons (ps_set (i := 2) scCC.nd rfl (.inl rfl) (pe_callB (call_min2 rfl) (by rfl) T0.min (by decide +kernel) (pa_cons (pv 1) (pa_cons (pe_op op_sub (pv 0) (pv 1)) pa_nil))))
      (pss_one (ps_ret (pe_op op_cat (pe_lst (pa_cons pe_int pa_nil)) (pe_lc (own := [("changes", 3)]) (g := gName 3) (tt := tYes) rfl scCC.nd (pi_range2 (by rfl) T.range (pa_cons pe_int (pa_cons (pe_op op_add (pv 2) pe_int) pa_nil))) (blkOk_by (own := [("changes", 3)]) (N := ["persons", "number", "most", "changes"]) (sc := defScope sCC) (by decide +kernel)) (fun _ _ _ _ _ => pg_name (i := 3) scCC.nd rfl (Or.inl rfl)) (fun _ _ _ _ _ => pts_nil) (fun _ _ _ _ _ => (pe_call GWwc (hr.mono (by decide)) rfl U.gWwc U.FWwc.kp U.bWwc .nil pass0 (pa_cons (pv 1) (pa_cons (pe_op op_sub (pv 0) (pv 1)) (pa_cons (pv 3) pa_nil))))))))))))), ?_⟩
    rcases h with ⟨no, k⟩ | ⟨n1, n2, h⟩
    · exact ⟨_, rfl, n, rfl, .inr ⟨no, k⟩⟩
    · refine ⟨_, rfl, n, rfl, .inl ⟨n1, n2, fun H1 g1 => ⟨_, rfl, _, rfl, x, 0, n, rfl, by decide, by decide, by omega, by omega, ?_⟩⟩⟩
      rcases h with ⟨no, k⟩ | ⟨x0, x1, k⟩
      · exact .inr ⟨no, k.keep g1⟩
      · refine .inl ⟨x0, x1, fun H2 g2 => ?_⟩
        have g12 := g1.trans g2
        refine ⟨_, rfl, _, rfl, (by show 2 ≤ sizeLine; decide), fun t ht => ⟨t, _, rfl, .inr (SqT.of upd_same), rfl, rfl, _, rfl, iteN _ (fun e => ?_) fun e => ?_⟩⟩
        · have g3 := g12.trans (Grows.new (o := .tup [L2.V.int 0, L2.V.int n]) ht)
          obtain ⟨m, em⟩ : ∃ m : Nat, n = (m : Nat) := ⟨n.toNat, by omega⟩
          exact ⟨_, rfl, m, by show [L2.V.int n] = [L2.V.int ((m : Nat) : Int)]; rw [em], by omega, fun v _ _ _ => ⟨(by show 1 ≤ sizeLine; decide), fun q hq => k _ _ (g3.trans (Grows.new hq))⟩⟩
        · have g3 := g12.trans (Grows.new (o := .tup [L2.V.int 0, L2.V.int n]) ht)
          rw [if_neg Bool.false_ne_true, show [L2.V.int 0, L2.V.int n] = ([0, n] : List Int).map L2.V.int from rfl, inV_ints] at e
          have e := of_decide_eq_false e
          have y0 : x ≠ 0 := fun z => e (by rw [z]; exact List.mem_cons_self)
          have y1 : x ≠ n := fun z => e (by rw [z]; exact List.mem_cons_of_mem _ List.mem_cons_self)
          obtain ⟨mo, emo⟩ : ∃ mo : Int, mo = (if n - x < x then n - x else x) := ⟨_, rfl⟩
          have mb : 1 ≤ mo ∧ mo ≤ x ∧ mo ≤ n - x := by
            rw [emo]
            split <;> omega
          refine ⟨_, rfl, _, rfl, _, rfl, _, _, rfl, rfl, _, _, rfl, ?_⟩
          rw [← emo]
          refine ⟨(by show 1 ≤ sizeLine; decide), fun q hq => ⟨_, rfl, _, _, rfl, rfl, 1, mo + 1, rfl, ⟨by decide, by decide, by omega, by omega⟩, fun D hD => ?_⟩⟩
          have g4 := g3.trans (Grows.new (o := .lst [L2.V.int 0]) hq)
          have e4 : upd (upd H2 t (.tup [L2.V.int 0, L2.V.int n])) q (.lst [L2.V.int 0]) q = some (.lst [L2.V.int 0]) := upd_same
          generalize upd (upd H2 t (.tup [L2.V.int 0, L2.V.int n])) q (.lst [L2.V.int 0]) = H3 at g4 e4 hD ⊢
          refine lc_range (lo := 1) (n := (mo + 1 - 1).toNat) (fun i G => Grows H3 G ∧ ∃ vs, G D = some (.lst vs) ∧ vs.length = i) ⟨Grows.new hD, [], upd_same, rfl⟩ (fun i G hi ⟨gg, vs, eD, lv⟩ => ?_) fun G ⟨gg, vs, eD, lv⟩ => ?_
          · refine ⟨rfl, ?_⟩
            unfold tYes
            dsimp only
            rw [if_pos rfl]
            refine ⟨_, rfl, _, rfl, _, rfl, _, _, rfl, rfl, _, rfl, x, n - x, 1 + (i : Int), rfl, by omega, by omega, by omega, by omega, fun v => ⟨vs, eD, ?_, fun b o eb => ?_, vs ++ [L2.V.int v], upd_same, ?_⟩⟩
            · rw [lv]
              exact small1000 (by omega)
            · rw [upd_ne (ne_of_none eb hD)]
              exact gg _ _ eb
            · rw [List.length_append, lv]
              rfl
          · refine ⟨q, D, _, _, rfl, rfl, gg _ _ e4, eD, ?_, fun y hy => k _ _ ((g4.trans gg).trans (Grows.new hy))⟩
            rw [lv]
            show 1 + (mo + 1 - 1).toNat ≤ sizeLine
            exact Nat.le_trans (show 1 + (mo + 1 - 1).toNat ≤ 100 by omega) (by decide)
end
end K35

namespace K35
open PySem PySem.Spec PyProof.Rows L2 SortR LcM RepA
/-! ### data that lasts -/
theorem grows_seqT {K : PySem.W.Frag} {H H' : Hp} (s : Grows H H') {a : Addr} {xs : List V} (h : SqT K H a xs) : SqT K H' a xs := by
  rcases h with (h | ⟨o, h⟩) | h
  · exact .inl (.inl (s _ _ h))
  · exact .inl (.inr ⟨o, s _ _ h⟩)
  · exact .inr h
theorem Dp.grow {K : PySem.W.Frag} {H H' : Hp} (s : Grows H H') {x : V} {d : PyData} (h : Dp K H x d) : Dp K H' x d := by
  refine Dp.rec (motive_1 := fun x d _ => Dp K H' x d) (motive_2 := fun xs ds _ => DpAll K H' xs ds) ?_ ?_ ?_ ?_ ?_ ?_ ?_ ?_ h
  · exact .non
  · exact fun b => .bl b
  · exact fun i => .int i
  · exact fun x => .str x
  · exact fun q _ ih => .lst (s.seq q) ih
  · exact fun q _ ih => .tup (grows_seqT s q) ih
  · exact .nil
  · exact fun _ _ a b => .cons a b
theorem DpAll.grow {K : PySem.W.Frag} {H H' : Hp} (s : Grows H H') : ∀ {xs : List V} {ds : List PyData}, DpAll K H xs ds → DpAll K H' xs ds
  | _, _, .nil => .nil
  | _, _, .cons a b => .cons (Dp.grow s a) (DpAll.grow s b)
theorem Dd.grow {K : PySem.W.Frag} {H H' : Hp} (s : Grows H H') {x : V} {d : PyData} (h : Dd K H x d) : Dd K H' x d := by
  rcases h with h | ⟨a, e, q, ed⟩
  · exact .inl (Dp.grow s h)
  · exact .inr ⟨a, e, s _ _ q, ed⟩
theorem DpAll.len {K : PySem.W.Frag} {H : Hp} : ∀ {xs : List V} {ds : List PyData}, DpAll K H xs ds → xs.length = ds.length
  | _, _, .nil => rfl
  | _, _, .cons _ b => congrArg (· + 1) (DpAll.len b)
theorem DpAll.at {K : PySem.W.Frag} {H : Hp} : ∀ {ds : List PyData} {xs : List V} {i : Nat} {x : V}, DpAll K H xs ds → xs[i]? = some x → ∃ d, ds[i]? = some d ∧ Dp K H x d
  | [], _, _, _, .nil, h => nomatch h
  | d :: ds, _, i, x, .cons (vs := vs) a b, h => by
    cases i with
    | zero =>
      cases h
      exact ⟨_, rfl, a⟩
    | succ i =>
      have h' : vs[i]? = some x := h
      obtain ⟨e, he, q⟩ := DpAll.at b h'
      exact ⟨e, he, q⟩
def tyName : PyData → String
  | .none => "NoneType"
  | .bool _ => "bool"
  | .int _ => "int"
  | .str _ => "str"
  | .list _ => "list"
  | .tuple _ => "tuple"
  | .dict _ => "dict"
theorem dd_ty {K : PySem.W.Frag} {H : Hp} {x : V} {d : PyData} (h : Dd K H x d) : TyX K H x (.type (tyName d)) := by
  rcases h with h | ⟨a, rfl, q, rfl⟩
  · cases h with
    | non => exact .base .non
    | bl b => exact .base (.bl b)
    | int i => exact .base (.int i)
    | str s => exact .base (.str s)
    | lst q _ => exact ty_list q
    | tup q _ =>
      rcases q with (q | ⟨o, q⟩) | ⟨o, its, n, q, hc, _⟩
      · exact .base (.tup q)
      · exact .fTuple q
      · exact .kTuple q hc
  · exact .base (.dK q)
theorem ty_kinds (d : PyData) : tyName d ∈ kinds := by
  cases d <;> simp [tyName, kinds]
end K35

namespace K35
open PySem PySem.Spec PyProof.Rows L2 SortR LcM RepA
/-! ### the program's tests, on any data -/
def persD (n : Int) : PyData → Bool
  | .int i => decide (0 ≤ i) && decide (i < n)
  | _ => false
def toI : PyData → Int
  | .int i => i
  | _ => 0
def plistD (n : Int) : PyData → Bool
  | .list ds => ds.all (persD n) && ascI (ds.map toI)
  | _ => false
def grpD (n : Int) : PyData → Bool
  | .list ds => plistD n (.list ds) && decide (2 ≤ (ds.length : Int))
  | _ => false
def toR : PyData → List Int
  | .list ds => ds.map toI
  | _ => []
def isPD : PyData → Bool
  | .list ds => decide ((ds.length : Int) < 20) && ds.all (grpD (ds.length + 1)) && ascR (ds.map toR) && !anyX (ds.map toR)
  | _ => false
theorem plistD_list (n : Int) (ds : List PyData) : plistD n (.list ds) = (ds.all (persD n) && ascI (ds.map toI)) := rfl
theorem grpD_list (n : Int) (ds : List PyData) : grpD n (.list ds) = (plistD n (.list ds) && decide (2 ≤ (ds.length : Int))) := rfl
theorem isPD_list (ds : List PyData) : isPD (.list ds) = (decide ((ds.length : Int) < 20) && ds.all (grpD (ds.length + 1)) && ascR (ds.map toR) && !anyX (ds.map toR)) := rfl
/-- lists within are not too long -/
def Lim (d : PyData) : Prop := ∀ ds, d = .list ds → ds.length ≤ 1000
def Lim2 (d : PyData) : Prop := ∀ ds, d = .list ds → ds.length ≤ 1000 ∧ ∀ e ∈ ds, Lim e
theorem all_at {α : Type} (d : α) (f : α → Bool) (ds : List α) : ((List.range ds.length).all fun i => f (ds.getD i d)) = ds.all f := by
  rw [Bool.eq_iff_iff, List.all_eq_true, List.all_eq_true]
  refine ⟨fun h x hx => ?_, fun h i hi => ?_⟩
  · obtain ⟨i, hi, e⟩ := List.getElem_of_mem hx
    have := h i (List.mem_range.mpr hi)
    rw [List.getD_eq_getElem?_getD, List.getElem?_eq_getElem hi] at this
    rw [← e]
    exact this
  · have il := List.mem_range.mp hi
    rw [List.getD_eq_getElem?_getD, List.getElem?_eq_getElem il]
    exact h _ (List.getElem_mem il)
theorem pers_int {n : Int} {d : PyData} (h : persD n d = true) : d = .int (toI d) := by
  cases d with
  | int i => rfl
  | _ => cases h
/-- data that are ints stand as ints -/
theorem ints_of {K : PySem.W.Frag} {H : Hp} : ∀ {xs : List V} {ds : List PyData}, DpAll K H xs ds → (∀ d ∈ ds, d = .int (toI d)) → xs = (ds.map toI).map V.int
  | _, _, .nil, _ => rfl
  | _, _, .cons (v := v) (d := d) a b, h => by
    have e := h d List.mem_cons_self
    rw [List.map_cons, List.map_cons, ← ints_of b fun x hx => h x (List.mem_cons_of_mem _ hx)]
    rw [e] at a
    cases a
    rw [e]
theorem grp_list {n : Int} {d : PyData} (h : grpD n d = true) : ∃ ds, d = .list ds ∧ (∀ e ∈ ds, e = .int (toI e)) := by
  cases d with
  | list ds =>
    refine ⟨ds, rfl, fun e he => ?_⟩
    rw [grpD_list, plistD_list] at h
    simp only [Bool.and_eq_true] at h
    exact pers_int (List.all_eq_true.mp h.1.1 e he)
  | _ => cases h
/-- data that are groups stand as rows -/
theorem rows_of {K : PySem.W.Frag} {H : Hp} {n : Int} : ∀ {xs : List V} {ds : List PyData}, DpAll K H xs ds → (∀ d ∈ ds, grpD n d = true) → ∃ bs : List (Addr × List Int), xs = bs.map (fun b => V.ref b.1) ∧ bs.map (·.2) = ds.map toR ∧ ∀ b ∈ bs, SqL K H b.1 (b.2.map V.int)
  | _, _, .nil, _ => ⟨[], rfl, rfl, fun _ h => nomatch h⟩
  | _, _, .cons (v := v) (d := d) a b, h => by
    obtain ⟨bs, e1, e2, e3⟩ := rows_of b fun x hx => h x (List.mem_cons_of_mem _ hx)
    obtain ⟨es, rfl, hi⟩ := grp_list (h d List.mem_cons_self)
    cases a with
    | @lst r xs _ q all =>
      have e := ints_of all hi
      refine ⟨(r, es.map toI) :: bs, by rw [List.map_cons, ← e1], by rw [List.map_cons, List.map_cons, e2]; rfl, fun c hc => ?_⟩
      rcases List.mem_cons.mp hc with z | z
      · rw [z, ← e]
        exact q
      · exact e3 c z
def spPLD (K : PySem.W.Frag) (m : Int → PyData → Bool) : Sp := fun vs H Q _ => ∃ (x : V) (d : PyData) (n : Int), vs = [x, .int n] ∧ Dd K H x d ∧ Lim d ∧ ∀ H', Grows H H' → Q (.bl (m n d)) H'
def spIsD (K : PySem.W.Frag) : Sp := fun vs H Q _ => ∃ (x : V) (d : PyData), vs = [x] ∧ Dd K H x d ∧ Lim2 d ∧ ∀ H', Grows H H' → Q (.bl (isPD d)) H'
theorem dd_list {K : PySem.W.Frag} {H : Hp} {x : V} {ds : List PyData} (h : Dd K H x (.list ds)) : ∃ a xs, x = .ref a ∧ SqL K H a xs ∧ DpAll K H xs ds := by
  rcases h with h | ⟨a, e, q, ed⟩
  · cases h with
    | lst q all => exact ⟨_, _, rfl, q, all⟩
  · cases ed
theorem not_list {d : PyData} (h : ¬ ∃ ds, d = .list ds) : decide (tyName d = "list") = false := by
  cases d with
  | list ds => exact absurd ⟨ds, rfl⟩ h
  | _ => rfl
section
variable {P : Program} {w : World} {K : PySem.W.Frag} {mg : Str → Option Value} {base : Heap}
theorem ok_plistD (Z : ProgF K mg) (T : TxtP mg) : FnOk P w K mg base CX0 3 Z.fPL Z.dPL ["thing", "persons"] (spPLD K plistD) := by
  have GPer : FnOk P w K mg base CX0 2 Z.fPer Z.dPer ["thing", "persons"] (spPerson K) := ok_person Z T
  have GAsc : FnOk P w K mg base CX0 1 Z.fAsc Z.dAsc ["items"] (spAscI K) := ok_ascI Z.FAsc T
  refine Z.FPL.ok scPList (fun vs H Q E h => ?_) (fun cdv A outer s H vs Q E hr h => ?_)
  · obtain ⟨x, d, n, rfl, _⟩ := h
    rfl
  · obtain ⟨x, d, n, rfl, hd, lim, k⟩ := h
    refine ⟨_, (pss_cons (ps_if (pt_not (pt_val (pe_callB call_isi (by rfl) T.isi (by decide +kernel) (pa_cons (pv 0) (pa_cons (pe_bltn (v := .ty "list") (u := .type "list") (by rfl) T.list (by decide +kernel) rfl) pa_nil))))) (pss_one (ps_ret pe_bl)) pss_nil)
      (pss_one (ps_ret (pe_and (pe_callB (cr_all rfl) (by rfl) T.all (by decide +kernel) (pa_cons (pe_lc (own := [("item", 2)]) (g := gName 2) (tt := tYes) rfl scPList.nd (pi_list (pv 0)) (blkOk_by (own := [("item", 2)]) (N := ["thing", "persons", "item"]) (sc := defScope sPList) (by decide +kernel)) (fun _ _ _ _ _ => pg_name (i := 2) scPList.nd rfl (Or.inl rfl)) (fun _ _ _ _ _ => pts_nil) (fun _ _ _ _ _ => (pe_call GPer (hr.mono (by decide)) rfl Z.gPer Z.FPer.kp Z.bPer .nil pass0 (pa_cons (pv 2) (pa_cons (pv 1) pa_nil))))) pa_nil)) (pe_one (pe_call GAsc (hr.mono (by decide)) rfl Z.gAsc Z.FAsc.kp Z.bAsc .nil pass0 (pa_cons (pv 0) pa_nil))))))), ?_⟩
    have ty := dd_ty hd
    by_cases isl : ∃ ds, d = .list ds
    · obtain ⟨ds, rfl⟩ := isl
      obtain ⟨a, xs, rfl, hS, all⟩ := dd_list hd
      have hn := lim ds rfl
      have xl := DpAll.len all
      refine ⟨_, rfl, _, _, _, _, true, rfl, .ty "list", ty_list hS, kit_ty (by decide +kernel), true, rfl, ?_⟩
      refine iteF ⟨_, rfl, a, rfl, ⟨_, hS⟩, fun D hD => lc_listM (K := K) (fun i => V.bl (persD n (ds.getD i .none))) hD hS (by rw [xl]; omega) (fun i x H' R hx sm kR => ?_) fun H' sm eD => ?_⟩
      · obtain ⟨e, he, de⟩ := DpAll.at all hx
        have eg : ds.getD i .none = e := by rw [List.getD_eq_getElem?_getD, he]; rfl
        rw [eg] at kR
        refine ⟨rfl, _, rfl, _, rfl, x, tyName e, n, rfl, dd_ty (.inl (Dp.grow sm de)), ty_kinds e, fun z => ?_, fun z => ?_⟩
        · cases de with
          | int i => exact ⟨i, rfl, kR _ .refl⟩
          | _ => exact absurd z (by simp only [tyName]; decide)
        · have ef : persD n e = false := by
            cases e with
            | int i => exact absurd rfl z
            | _ => rfl
          have q := kR H' .refl
          rw [ef] at q
          exact q
      · rw [xl] at eD
        refine ⟨D, (List.range ds.length).map fun i => persD n (ds.getD i .none), rfl, SqL.of (by rw [eD, List.map_map]; rfl), _, rfl, ?_⟩
        rw [all_rng, all_at PyData.none (persD n) ds]
        by_cases hi : ds.all (persD n) = true
        · rw [if_pos hi]
          have ei := ints_of all fun d hd => pers_int (List.all_eq_true.mp hi d hd)
          rw [ei] at hS
          refine ⟨_, rfl, a, ds.map toI, rfl, sm.seq hS, by rw [List.length_map]; exact hn, fun H2 s2 => ?_⟩
          have q := k H2 (sm.trans s2)
          rw [plistD_list, hi, Bool.true_and] at q
          exact q
        · rw [if_neg hi]
          have q := k H' sm
          rw [plistD_list, Bool.eq_false_iff.mpr hi, Bool.false_and] at q
          exact q
    · have ef : plistD n d = false := by
        cases d <;> first | rfl | exact absurd ⟨_, rfl⟩ isl
      have q := k H .refl
      rw [ef] at q
      refine ⟨_, rfl, _, _, _, _, false, rfl, .ty "list", ty, kit_ty ?_, false, rfl, iteT q⟩
      cases d <;> first | exact absurd ⟨_, rfl⟩ isl | (simp only [tyName]; decide +kernel)
theorem ok_grpD (Z : ProgF K mg) (T : TxtP mg) : FnOk P w K mg base CX0 4 Z.fGr Z.dGr ["thing", "persons"] (spPLD K grpD) := by
  have GPL : FnOk P w K mg base CX0 3 Z.fPL Z.dPL ["thing", "persons"] (spPLD K plistD) := ok_plistD Z T
  refine Z.FGr.ok scGroup (fun vs H Q E h => ?_) (fun cdv A outer s H vs Q E hr h => ?_)
  · obtain ⟨x, d, n, rfl, _⟩ := h
    rfl
  · obtain ⟨x, d, n, rfl, hd, lim, k⟩ := h
    refine ⟨_, (pss_one (ps_ret (pe_and (pe_call GPL (hr.mono (by decide)) rfl Z.gPL Z.FPL.kp Z.bPL .nil pass0 (pa_cons (pv 0) (pa_cons (pv 1) pa_nil))) (pe_one (pe_cmpR op_ge (pe_callB call_len_seq (by rfl) T.len (by decide +kernel) (pa_cons (pv 0) pa_nil)) pe_int (nomark _)))))), ?_⟩
    refine ⟨_, rfl, _, rfl, x, d, n, rfl, hd, lim, fun H2 s2 => ⟨_, rfl, ?_⟩⟩
    have q := k H2 s2
    by_cases hi : plistD n d = true
    · rw [if_pos hi]
      cases d with
      | list ds =>
        obtain ⟨a, xs, rfl, hS, all⟩ := dd_list hd
        rw [grpD_list, hi, Bool.true_and] at q
        refine ⟨_, rfl, a, _, rfl, .inl (s2.seq hS), _, _, rfl, rfl, ?_⟩
        rw [DpAll.len all]
        exact q
      | _ => cases hi
    · rw [if_neg hi]
      have ef : grpD n d = false := by
        cases d with
        | list ds =>
          rw [grpD_list, Bool.eq_false_iff.mpr hi, Bool.false_and]
        | _ => rfl
      rw [ef] at q
      exact q
theorem ok_isD (Z : ProgF K mg) (T : TxtP mg) : FnOk P w K mg base CX0 5 Z.fIs Z.dIs ["thing"] (spIsD K) := by
  have GGr : FnOk P w K mg base CX0 4 Z.fGr Z.dGr ["thing", "persons"] (spPLD K grpD) := ok_grpD Z T
  have GAsc : FnOk P w K mg base CX0 1 Z.fAsc Z.dAsc ["items"] (spAscR K) := ok_ascR Z.FAsc T
  have GAny : FnOk P w K mg base CX0 2 Z.fAny Z.dAny ["groups"] (spAny K) := ok_any Z T
  refine Z.FIs.ok scParting (fun vs H Q E h => ?_) (fun cdv A outer s H vs Q E hr h => ?_)
  · obtain ⟨x, d, rfl, _⟩ := h
    rfl
  · obtain ⟨x, d, rfl, hd, lim, k⟩ := h
    refine ⟨_, (pss_cons (ps_if (PW.pt (pw_or (pt_not (pt_val (pe_callB call_isi (by rfl) T.isi (by decide +kernel) (pa_cons (pv 0) (pa_cons (pe_bltn (v := .ty "list") (u := .type "list") (by rfl) T.list (by decide +kernel) rfl) pa_nil))))) (pw_or1 (pt_cmpR op_ge (pe_callB call_len_seq (by rfl) T.len (by decide +kernel) (pa_cons (pv 0) pa_nil)) (pe_glob (v := .int 20) rfl Z.gMost ⟨_, rfl⟩) (nomark _))))) (pss_one (ps_ret pe_bl)) pss_nil)
      (pss_cons (ps_set (i := 1) scParting.nd rfl (.inr rfl) (pe_op op_add (pe_callB call_len_seq (by rfl) T.len (by decide +kernel) (pa_cons (pv 0) pa_nil)) pe_int))
      (pss_cons (ps_if (pt_not (pt_val (pe_callB (cr_all rfl) (by rfl) T.all (by decide +kernel) (pa_cons (pe_lc (own := [("group", 2)]) (g := gName 2) (tt := tYes) rfl scParting.nd (pi_list (pv 0)) (blkOk_by (own := [("group", 2)]) (N := ["thing", "persons", "group"]) (sc := defScope sParting) (by decide +kernel)) (fun _ _ _ _ _ => pg_name (i := 2) scParting.nd rfl (Or.inl rfl)) (fun _ _ _ _ _ => pts_nil) (fun _ _ _ _ _ => (pe_call GGr (hr.mono (by decide)) rfl Z.gGr Z.FGr.kp Z.bGr .nil pass0 (pa_cons (pv 2) (pa_cons (pv 1) pa_nil))))) pa_nil)))) (pss_one (ps_ret pe_bl)) pss_nil)
      (pss_one (ps_ret (pe_and (pe_call GAsc (hr.mono (by decide)) rfl Z.gAsc Z.FAsc.kp Z.bAsc .nil pass0 (pa_cons (pv 0) pa_nil)) (pe_one (pe_not (pe_call GAny (hr.mono (by decide)) rfl Z.gAny Z.FAny.kp Z.bAny .nil pass0 (pa_cons (pv 0) pa_nil)))))))))), ?_⟩
    have ty := dd_ty hd
    by_cases isl : ∃ ds, d = .list ds
    · obtain ⟨ds, rfl⟩ := isl
      obtain ⟨a, xs, rfl, hS, all⟩ := dd_list hd
      obtain ⟨hn, lims⟩ := lim ds rfl
      have xl := DpAll.len all
      refine ⟨_, rfl, _, _, _, _, true, rfl, .ty "list", ty_list hS, kit_ty (by decide +kernel), true, rfl, iteF ⟨_, rfl, a, _, rfl, .inl hS, _, _, rfl, rfl, _, rfl, ?_⟩⟩
      rw [xl]
      refine ite2 (fun e => ?_) (fun e => ?_)
      · have ge := of_decide_eq_true e
        have q := k H .refl
        rw [isPD_list, decide_eq_false (by omega), Bool.false_and, Bool.false_and, Bool.false_and] at q
        exact q
      · have lt : (ds.length : Int) < 20 := by
          rcases Int.lt_or_le (ds.length : Int) 20 with z | z
          · exact z
          · exact absurd (decide_eq_true z) e
        refine ⟨_, rfl, a, _, rfl, .inl hS, _, _, rfl, rfl, ?_⟩
        rw [xl]
        refine ⟨_, rfl, a, rfl, ⟨_, hS⟩, fun D hD => lc_listM (K := K) (fun i => V.bl (grpD (ds.length + 1) (ds.getD i .none))) hD hS (by rw [xl]; omega) (fun i x H' R hx' sm kR => ?_) fun H' sm eD => ?_⟩
        · obtain ⟨e, he, de⟩ := DpAll.at all hx'
          have eg : ds.getD i .none = e := by rw [List.getD_eq_getElem?_getD, he]; rfl
          have em : e ∈ ds := List.mem_of_getElem? he
          rw [eg] at kR
          exact ⟨rfl, _, rfl, _, rfl, x, e, _, rfl, .inl (Dp.grow sm de), lims e em, fun H2 s2 => kR _ s2⟩
        · rw [xl] at eD
          refine ⟨D, (List.range ds.length).map fun i => grpD (ds.length + 1) (ds.getD i .none), rfl, SqL.of (by rw [eD, List.map_map]; rfl), ?_⟩
          rw [all_rng, all_at PyData.none (grpD (ds.length + 1)) ds]
          refine ⟨_, rfl, ?_⟩
          have val : ∀ H2, Grows H H2 → Q (.bl (ds.all (grpD (ds.length + 1)) && ascR (ds.map toR) && !anyX (ds.map toR))) H2 := fun H2 s2 => by
            have q := k H2 s2
            rw [isPD_list, decide_eq_true lt, Bool.true_and] at q
            exact q
          by_cases hg : ds.all (grpD (ds.length + 1)) = true
          · rw [hg] at val ⊢
            have hga := List.all_eq_true.mp hg
            obtain ⟨bs, e1, e2, e3⟩ := rows_of all hga
            have hB : Rw K H a bs := ⟨by rw [← e1]; exact hS, e3⟩
            have bl : bs.length = ds.length := by
              have := congrArg List.length e2
              rwa [List.length_map, List.length_map] at this
            rw [← e2] at val
            have rin : ∀ r ∈ bs.map (·.2), r.length ≤ 1000 ∧ ∀ x ∈ r, 0 ≤ x ∧ x ≤ 1000 := fun r hr => by
              rw [e2] at hr
              obtain ⟨d, hd, rfl⟩ := List.mem_map.mp hr
              have g := hga d hd
              obtain ⟨es, rfl, hi⟩ := grp_list g
              refine ⟨?_, fun x hx => ?_⟩
              · show (es.map toI).length ≤ 1000
                rw [List.length_map]
                exact lims _ hd es rfl
              · obtain ⟨e, he, rfl⟩ := List.mem_map.mp hx
                rw [grpD_list, plistD_list] at g
                simp only [Bool.and_eq_true] at g
                have pe := List.all_eq_true.mp g.1.1 e he
                rw [hi e he] at pe
                unfold persD at pe
                simp only [Bool.and_eq_true, decide_eq_true_eq] at pe
                omega
            have hz' : Sz (bs.map (·.2)) := ⟨by rw [List.length_map]; omega, fun r hr => (rin r hr).1⟩
            refine iteF ⟨_, rfl, a, bs, rfl, (hB.keep sm).top, (hB.keep sm).each, by omega, fun H2 s2 => ⟨_, rfl, ?_⟩⟩
            by_cases ha : ascR (bs.map (·.2)) = true
            · rw [if_pos ha]
              refine ⟨_, rfl, a, bs, rfl, (hB.keep sm).keep s2, hz', fun r hr => (rin r hr).2, fun H3 s3 => ⟨_, rfl, ?_⟩⟩
              have q := val H3 ((sm.trans s2).trans s3)
              rw [ha, Bool.true_and, Bool.true_and] at q
              exact q
            · rw [if_neg ha]
              have q := val H2 (sm.trans s2)
              rw [Bool.eq_false_iff.mpr ha, Bool.true_and, Bool.false_and] at q
              exact q
          · have q := val H' sm
            rw [Bool.eq_false_iff.mpr hg] at q ⊢
            rw [Bool.false_and, Bool.false_and] at q
            exact iteT q
    · have ef : isPD d = false := by
        cases d <;> first | rfl | exact absurd ⟨_, rfl⟩ isl
      have q := k H .refl
      rw [ef] at q
      refine ⟨_, rfl, _, _, _, _, false, rfl, .ty "list", ty, kit_ty ?_, false, rfl, iteT q⟩
      cases d <;> first | exact absurd ⟨_, rfl⟩ isl | (simp only [tyName]; decide +kernel)
end
end K35

namespace K35
open PySem PySem.Spec PyProof.Rows L2 SortR LcM RepA Held
/-! ### promises put together -/
section
variable {P : Program} {w : World} {K : PySem.W.Frag} {mg : Str → Option Value} {base : Heap}
theorem fn_or {X : CXT} {k : Nat} {f : Addr} {fd : FuncData} {ps : List Str} {s1 s2 : Sp} (A : FnOk P w K mg base X k f fd ps s1) (B : FnOk P w K mg base X k f fd ps s2) : FnOk P w K mg base X k f fd ps (fun vs H Q E => s1 vs H Q E ∨ s2 vs H Q E) :=
  ⟨fun vs H Q E h => h.elim (A.len vs H Q E) (B.len vs H Q E), fun Ar o s H zs us vs Q E r e b v h => h.elim (A.run Ar o s H zs us vs Q E r e b v) (B.run Ar o s H zs us vs Q E r e b v)⟩
theorem fn_up {X : CXT} {k : Nat} {f : Addr} {fd : FuncData} {ps : List Str} {sp : Sp} (A : FnOk P w K mg base CX0 k f fd ps sp) : FnOk P w K mg base X k f fd ps sp :=
  ⟨A.len, fun Ar o s H zs us vs Q E r e b v h => codeAny_mono (A.run Ar o s H zs us vs Q E r e b v h) fun rr ss z => by
    cases rr with
    | error _ => exact False.elim z
    | ok fl => cases fl <;> exact z⟩
end
/-! ### what is no parting -/
def NoP (K : PySem.W.Frag) (H : Hp) (x : V) : Prop := (∃ d, Dd K H x d ∧ Lim2 d ∧ isPD d = false) ∨ ∃ t, TyX K H x t ∧ PySem.W.kitOne K t (.type "list") = some false
def spIsN (K : PySem.W.Frag) : Sp := fun vs H Q _ => ∃ x, vs = [x] ∧ NoP K H x ∧ ∀ H', Grows H H' → Q (.bl false) H'
def spPsN (K : PySem.W.Frag) (c : List Addr) : Sp := fun vs H _ E => ∃ x, vs = [x] ∧ NoP K H x ∧ Rz c H E 5
section
variable {P : Program} {w : World} {K : PySem.W.Frag} {mg : Str → Option Value} {base : Heap} {c : List Addr} {pe : Addr}
theorem ok_isN (Z : ProgF K mg) (T : TxtP mg) : FnOk P w K mg base CX0 5 Z.fIs Z.dIs ["thing"] (spIsN K) := by
  have A : FnOk P w K mg base CX0 5 Z.fIs Z.dIs ["thing"] (spIsD K) := ok_isD Z T
  have B : FnOk P w K mg base CX0 5 Z.fIs Z.dIs ["thing"] (fun vs H Q _ => ∃ x t, vs = [x] ∧ TyX K H x t ∧ PySem.W.kitOne K t (.type "list") = some false ∧ ∀ H', Grows H H' → Q (.bl false) H') := by
    have GGr : FnOk P w K mg base CX0 4 Z.fGr Z.dGr ["thing", "persons"] (spPLD K grpD) := ok_grpD Z T
    have GAsc : FnOk P w K mg base CX0 1 Z.fAsc Z.dAsc ["items"] (spAscR K) := ok_ascR Z.FAsc T
    have GAny : FnOk P w K mg base CX0 2 Z.fAny Z.dAny ["groups"] (spAny K) := ok_any Z T
    refine Z.FIs.ok scParting (fun vs H Q E h => ?_) (fun cdv A outer s H vs Q E hr h => ?_)
    · obtain ⟨x, t, rfl, _⟩ := h
      rfl
    · obtain ⟨x, t, rfl, ty, kt, k⟩ := h
      refine ⟨_, (pss_cons (ps_if (PW.pt (pw_or (pt_not (pt_val (pe_callB call_isi (by rfl) T.isi (by decide +kernel) (pa_cons (pv 0) (pa_cons (pe_bltn (v := .ty "list") (u := .type "list") (by rfl) T.list (by decide +kernel) rfl) pa_nil))))) (pw_or1 (pt_cmpR op_ge (pe_callB call_len_seq (by rfl) T.len (by decide +kernel) (pa_cons (pv 0) pa_nil)) (pe_glob (v := .int 20) rfl Z.gMost ⟨_, rfl⟩) (nomark _))))) (pss_one (ps_ret pe_bl)) pss_nil)
      (pss_cons (ps_set (i := 1) scParting.nd rfl (.inr rfl) (pe_op op_add (pe_callB call_len_seq (by rfl) T.len (by decide +kernel) (pa_cons (pv 0) pa_nil)) pe_int))
      (pss_cons (ps_if (pt_not (pt_val (pe_callB (cr_all rfl) (by rfl) T.all (by decide +kernel) (pa_cons (pe_lc (own := [("group", 2)]) (g := gName 2) (tt := tYes) rfl scParting.nd (pi_list (pv 0)) (blkOk_by (own := [("group", 2)]) (N := ["thing", "persons", "group"]) (sc := defScope sParting) (by decide +kernel)) (fun _ _ _ _ _ => pg_name (i := 2) scParting.nd rfl (Or.inl rfl)) (fun _ _ _ _ _ => pts_nil) (fun _ _ _ _ _ => (pe_call GGr (hr.mono (by decide)) rfl Z.gGr Z.FGr.kp Z.bGr .nil pass0 (pa_cons (pv 2) (pa_cons (pv 1) pa_nil))))) pa_nil)))) (pss_one (ps_ret pe_bl)) pss_nil)
      (pss_one (ps_ret (pe_and (pe_call GAsc (hr.mono (by decide)) rfl Z.gAsc Z.FAsc.kp Z.bAsc .nil pass0 (pa_cons (pv 0) pa_nil)) (pe_one (pe_not (pe_call GAny (hr.mono (by decide)) rfl Z.gAny Z.FAny.kp Z.bAny .nil pass0 (pa_cons (pv 0) pa_nil)))))))))), ?_⟩
      exact ⟨_, rfl, _, _, _, _, false, rfl, .ty "list", ty, kt, false, rfl, iteT (k H .refl)⟩
  refine (fn_or A B).imp fun vs H Q E h => ?_
  obtain ⟨x, rfl, n, k⟩ := h
  rcases n with ⟨d, hd, l, e⟩ | ⟨t, ty, kt⟩
  · exact .inl ⟨x, d, rfl, hd, l, fun H' g => by rw [e]; exact k H' g⟩
  · exact .inr ⟨x, t, rfl, ty, kt, k⟩
theorem ok_psN (Z : ProgF K mg) (T : TxtP mg) (V : TxtE K mg c pe) : FnOk P w K mg base (L2N.CX P w) 6 Z.fPs Z.dPs ["parting"] (spPsN K c) := by
  have GIs : FnOk P w K mg base CX0 5 Z.fIs Z.dIs ["thing"] (spIsN K) := ok_isN Z T
  refine Z.FPs.okN scPersons (fun vs H Q E h => ?_) (fun cdv A outer s H vs Q E hr h => ?_)
  · obtain ⟨x, rfl, _⟩ := h
    rfl
  · obtain ⟨x, rfl, n, k⟩ := h
    refine ⟨_, (pss_cons (ps_if (pt_not (pt_val (pe_call GIs (hr.mono (by decide)) rfl Z.gIs Z.FIs.kp Z.bIs .nil pass0 (pa_cons (pv 0) pa_nil)))) (pss_one (L2N.ps_raise rfl (L2N.takes_of rfl rfl rfl rfl) (L2N.pmk_own PySem.F.excBase_ValueError (V.exc 5 (by decide)) (V.g 5 (by decide)) (V.kc 5 (by decide)) (raises_own (V.ex 5 (by decide)).hs (V.ty 5 (by decide))) rfl))) pss_nil)
      (pss_one (ps_ret (pe_op op_add (pe_callB call_len_seq (by rfl) T.len (by decide +kernel) (pa_cons (pv 0) pa_nil)) pe_int)))), ?_⟩
    exact ⟨_, rfl, x, rfl, n, fun H2 g => ⟨_, rfl, iteT (k _ g)⟩⟩
end
end K35

namespace K35
open PySem PySem.Spec PyProof.Rows L2 SortR LcM RepA Held
abbrev sHist : Stmt := top 54
structure HsF (K : PySem.W.Frag) (mg : Str → Option Value) extends CcF K mg where
  fHist : Addr
  dHist : FuncData
  FHist : Fun K "histories" "histories" sHist fHist dHist
  gHist : mg "histories" = some (.ref fHist)
  bHist : Binds K dHist ["parting"] []
/-- no parting, or one: then all is well -/
def spHist (K : PySem.W.Frag) (c : List Addr) : Sp := fun vs H Q E => spPsN K c vs H Q E ∨ ∃ (a : Addr) (bs : List (Addr × List Int)), vs = [.ref a] ∧ Rw K H a bs ∧ Sz (bs.map (·.2)) ∧ isP (bs.map (·.2)) = true ∧ ∀ v H', Grows H H' → Q v H'
section
variable {P : Program} {w : World} {K : PySem.W.Frag} {mg : Str → Option Value} {base : Heap} {c : List Addr} {pe : Addr}
theorem scHist : FnScope ["parting", "sequences", "alike", "group"] ["parting"] (defScope sHist) := ⟨rfl, rfl, rfl, by decide +kernel, rfl, by decide +kernel, by decide +kernel⟩
theorem ok_psX (Z : ProgF K mg) (T : TxtP mg) (V : TxtE K mg c pe) : FnOk P w K mg base (L2N.CX P w) 6 Z.fPs Z.dPs ["parting"] (fun vs H Q E => spPsN K c vs H Q E ∨ spPs K vs H Q E) := fn_or (ok_psN Z T V) (fn_up (ok_persons Z T))
theorem ok_hist (Z : ProgF K mg) (T : TxtP mg) (U : HsF K mg) (V : TxtE K mg c pe) : FnOk P w K mg base (L2N.CX P w) 7 U.fHist U.dHist ["parting"] (spHist K c) := by
  have GPs := ok_psX (P := P) (w := w) (base := base) Z T V
  refine U.FHist.okN scHist (fun vs H Q E h => ?_) (fun cdv A outer s H vs Q E hr h => ?_)
  · rcases h with ⟨x, rfl, _⟩ | ⟨a, bs, rfl, _⟩ <;> rfl
  · rcases h with ⟨x, rfl, n, k⟩ | ⟨a, bs, rfl, rw, sz, isp, k⟩
    · refine ⟨_, (pss_cons (ps_set (i := 1) scHist.nd rfl (.inl rfl) (pe_callBfun (id := "math.factorial") MathC.cr_fact rfl U.gFact (pa_cons (pe_op op_sub (pe_callS GPs (hr.mono (by decide)) rfl Z.gPs Z.FPs.kp Z.bPs (fun σ => L2N.passAt (L2N.takes_of rfl rfl rfl rfl) σ) (pa_cons (pv 0) pa_nil)) pe_int) pa_nil)))
      (pss_cons (ps_set (i := 2) scHist.nd rfl (.inl rfl) pe_int)
      (pss_cons (ps_for (passes_of rfl) rfl (pi_list (pv 0)) (pg_name (i := 3) scHist.nd rfl (.inl rfl))
      (pss_one (ps_set (i := 2) scHist.nd rfl (.inl rfl) (pe_op op_mulW (pv 2) (pe_op op_sub (pe_callB call_len_seq (by rfl) T.len (by decide +kernel) (pa_cons (pv 3) pa_nil)) pe_int)))))
      (pss_one (ps_ret (pe_op op_fdivW (pv 1) (pv 2))))))), ?_⟩
      exact ⟨_, rfl, .inl ⟨x, rfl, n, k⟩⟩
    · refine ⟨_, (pss_cons (ps_set (i := 1) scHist.nd rfl (.inl rfl) (pe_callBfun (id := "math.factorial") MathC.cr_fact rfl U.gFact (pa_cons (pe_op op_sub (pe_callS GPs (hr.mono (by decide)) rfl Z.gPs Z.FPs.kp Z.bPs (fun σ => L2N.passAt (L2N.takes_of rfl rfl rfl rfl) σ) (pa_cons (pv 0) pa_nil)) pe_int) pa_nil)))
      (pss_cons (ps_set (i := 2) scHist.nd rfl (.inl rfl) pe_int)
      (pss_cons (ps_for (passes_of rfl) rfl (pi_list (pv 0)) (pg_name (i := 3) scHist.nd rfl (.inl rfl))
      (pss_one (ps_set (i := 2) scHist.nd rfl (.inl rfl) (pe_op op_mulW (pv 2) (pe_op op_sub (pe_callB call_len_seq (by rfl) T.len (by decide +kernel) (pa_cons (pv 3) pa_nil)) pe_int)))))
      (pss_one (ps_ret (pe_op op_fdivW (pv 1) (pv 2))))))), ?_⟩
      have few : bs.length < 20 ∧ ∀ b ∈ bs, 2 ≤ b.2.length ∧ b.2.length ≤ 1000 := by
        have q := isp
        unfold isP at q
        simp only [Bool.and_eq_true, decide_eq_true_eq, List.length_map] at q
        refine ⟨by omega, fun b hb => ⟨?_, sz.2 _ (List.mem_map.mpr ⟨b, hb, rfl⟩)⟩⟩
        obtain ⟨i, hi⟩ := List.getElem?_of_mem hb
        have il := (List.getElem?_eq_some_iff.mp hi).1
        have g := List.all_eq_true.mp q.1.1.2 i (List.mem_range.mpr il)
        rw [snd_at, List.getD_eq_getElem?_getD, hi] at g
        unfold group at g
        rw [Bool.and_eq_true] at g
        have := of_decide_eq_true g.2
        show 2 ≤ b.2.length
        have e : ((some b).getD ((0 : Addr), ([] : List Int))).2 = b.2 := rfl
        rw [e] at this
        omega
      refine ⟨_, rfl, .inr ⟨a, bs, rfl, rw, sz, isp, fun H1 g1 => ⟨_, _, rfl, rfl, _, rfl, by omega, by omega, ?_⟩⟩⟩
      have rw1 := rw.keep g1
      generalize ((Builtin.Math.factorialNat ((bs.length : Int) + 1 - 1).toNat : Nat) : Int) = seq
      refine ⟨_, rfl, a, rfl, ⟨_, rw1.top⟩, for_list (K := K) (xs := bs.map fun b => L2.V.ref b.1) (fun i σ H2 => ∃ (v : Int) (o3 : Option L2.V), σ = [some (.ref a), some (.int seq), some (.int v), o3] ∧ H2 = H1 ∧ 1 ≤ v ∧ v.natAbs < 2 ^ (10 * i + 1))
        ⟨1, _, rfl, rfl, by decide, by decide⟩ (fun i σ H2 _ ⟨v, o3, e, eh, v0, v1⟩ => by rw [eh]; exact rw1.top) (fun i x σ H2 hx ⟨v, o3, e, eh, v0, v1⟩ => ?_) fun σ H2 ⟨v, o3, e, eh, v0, v1⟩ => ?_⟩
      · subst e
        subst eh
        rw [List.getElem?_map] at hx
        obtain ⟨b, hb, rfl⟩ := Option.map_eq_some_iff.mp hx
        have mb := List.mem_of_getElem? hb
        obtain ⟨l2, l3⟩ := few.2 b mb
        have s10 : (((b.2.map L2.V.int).length : Int) - 1).natAbs < 2 ^ 10 := by
          rw [List.length_map]
          omega
        refine ⟨_, rfl, _, rfl, b.1, _, rfl, .inl (rw1.each b mb), _, _, rfl, rfl, _, _, rfl, rfl, mulW_of v1 s10 (by omega) (by decide) (by have := (List.getElem?_eq_some_iff.mp hb).1; omega), v * (((b.2.map L2.V.int).length : Int) - 1), _, rfl, rfl, ?_, ?_⟩
        · have : (1 : Int) * 1 ≤ v * (((b.2.map L2.V.int).length : Int) - 1) := Int.mul_le_mul v0 (by rw [List.length_map]; omega) (by decide) (by omega)
          omega
        · rw [show 10 * (i + 1) + 1 = (10 * i + 1) + 10 by omega]
          exact wide_lt v1 s10
      · subst e
        subst eh
        rw [List.length_map] at v1
        exact ⟨_, rfl, _, rfl, _, _, rfl, rfl, wide_div (by omega) v1 (by omega) (by omega), k _ _ g1⟩
end
end K35

namespace K35
open PySem PySem.Spec PyProof.Rows L2 SortR LcM RepA Held
abbrev sFrac : Stmt := top 34
abbrev sHM : Stmt := top 55
def spHM : Sp := fun vs H Q _ => ∃ s o : Int, vs = [.int s, .int o] ∧ 2 ≤ s ∧ 0 ≤ o ∧ s + o ≤ 20 ∧ ∀ (v : Int) H', Grows H H' → Q (.int v) H'
theorem at_some {xs : List Int} {j : Nat} (h : j < xs.length) : ∃ x : Int, (xs.map L2.V.int)[j]? = some (.int x) := ⟨xs[j], by rw [List.getElem?_map, List.getElem?_eq_getElem h]; rfl⟩
structure FrF (K : PySem.W.Frag) (mg : Str → Option Value) extends HsF K mg where
  (fFrac fHM : Addr)
  (dFrac dHM : FuncData)
  FFrac : Fun K "fraction" "fraction" sFrac fFrac dFrac
  FHM : Fun K "histories_making" "histories_making" sHM fHM dHM
  gFrac : mg "fraction" = some (.ref fFrac)
  gHM : mg "histories_making" = some (.ref fHM)
  bFrac : Binds K dFrac ["top", "bottom"] []
  bHM : Binds K dHM ["size", "others"] []
  gGcd : mg "gcd" = some (.builtin "math.gcd")
def spFrac : Sp := fun vs H Q _ => ∃ x y : Int, vs = [.int x, .int y] ∧ 1 ≤ y ∧ y < 2 ^ 180 ∧ ∀ v H', Grows H H' → Q v H'
section
variable {P : Program} {w : World} {K : PySem.W.Frag} {mg : Str → Option Value} {base : Heap} {c : List Addr} {pe : Addr}
theorem scFrac : FnScope ["top", "bottom", "divisor"] ["top", "bottom"] (defScope sFrac) := ⟨rfl, rfl, rfl, by decide +kernel, rfl, by decide +kernel, by decide +kernel⟩
theorem scHM : FnScope ["size", "others", "ways", "outside", "inside", "ahead"] ["size", "others"] (defScope sHM) := ⟨rfl, rfl, rfl, by decide +kernel, rfl, by decide +kernel, by decide +kernel⟩
theorem ok_frac (U : FrF K mg) : FnOk P w K mg base CX0 1 U.fFrac U.dFrac ["top", "bottom"] spFrac := by
  refine U.FFrac.ok scFrac (fun vs H Q E h => ?_) (fun cdv A outer s H vs Q E hr h => ?_)
  · obtain ⟨x, y, rfl, _⟩ := h
    rfl
  · obtain ⟨x, y, rfl, y0, y1, k⟩ := h
    refine ⟨_, (pss_cons (ps_set (i := 2) scFrac.nd rfl (.inl rfl) (pe_callBfun (id := "math.gcd") cr_gcd rfl U.gGcd (pa_cons (pv 0) (pa_cons (pv 1) pa_nil))))
      (pss_one (ps_ret (pe_tup (pa_cons (pe_op op_fdivW (pv 0) (pv 2)) (pa_cons (pe_op op_fdivW (pv 1) (pv 2)) pa_nil)))))), ?_⟩
    have d0 : 0 < Nat.gcd x.natAbs y.natAbs := Nat.gcd_pos_of_pos_right _ (by omega)
    have d1 : Nat.gcd x.natAbs y.natAbs ≤ y.natAbs := Nat.le_of_dvd (by omega) (Nat.gcd_dvd_right _ _)
    have c : ∀ z : Int, CDivW z ((Nat.gcd x.natAbs y.natAbs : Nat) : Int) := fun z => wide_div (b := 180) (by omega) (by rw [Int.natAbs_natCast]; omega) (by decide) (by decide)
    exact ⟨_, rfl, _, rfl, x, y, rfl, _, rfl, _, rfl, _, _, rfl, rfl, c x, _, rfl, _, rfl, _, _, rfl, rfl, c y, (by show 2 ≤ sizeLine; decide), fun t ht => k _ _ (Grows.new ht)⟩
theorem ok_hm (T : TxtP mg) (U : FrF K mg) : FnOk P w K mg base CX0 2 U.fHM U.dHM ["size", "others"] spHM := by
  have GHof : FnOk P w K mg base CX0 1 U.fHof U.dHof ["parts"] spHof := ok_hof T U.toHiF
  refine U.FHM.ok scHM (fun vs H Q E h => ?_) (fun cdv A outer s H vs Q E hr h => ?_)
  · obtain ⟨x, y, rfl, _⟩ := h
    rfl
  · obtain ⟨sz, o, rfl, s0, o0, so, k⟩ := h
    refine ⟨_, (pss_cons (ps_setLc (i := 2) (own := [("outside", 3)]) (g := gName 3) (tt := tYes) rfl scHM.nd rfl rfl (sw_true rfl rfl rfl (by decide +kernel)) (pi_range1 (by rfl) T.range (pa_cons (pe_op op_add (pv 1) pe_int) pa_nil)) (blkOk_by (own := [("outside", 3)]) (N := ["size", "others", "ways", "outside", "inside", "ahead"]) (sc := defScope sHM) (by decide +kernel)) (fun _ _ _ _ _ => pg_name (i := 3) scHM.nd rfl (Or.inl rfl)) (fun _ _ _ _ _ => pts_nil) (fun _ _ _ _ _ => (pe_call GHof (hr.mono (by decide)) rfl U.gHof U.FHof.kp U.bHof .nil pass0 (pa_cons (pe_op op_add (pv 3) pe_int) pa_nil))))
      (pss_cons (ps_for PassesOwn.never rfl (pi_range2 (by rfl) T.range (pa_cons pe_int (pa_cons (pe_op op_add (pv 0) pe_int) pa_nil))) (pg_name (i := 4) scHM.nd rfl (.inl rfl))
      (pss_cons (ps_set (i := 5) scHM.nd rfl (.inl rfl) (pv 2))
      (pss_cons (ps_set (i := 2) scHM.nd rfl (.inl rfl) (pe_lst (pa_cons (pe_op op_mul (pe_callBfun (id := "math.comb") MathC.cr_comb rfl U.gComb2 (pa_cons (pv 4) (pa_cons pe_int pa_nil))) (pe_ix (r := rIxL K) ix_list (pv 5) pe_int (fun _ _ => rfl))) pa_nil)))
      (pss_one (ps_for PassesOwn.never rfl (pi_range2 (by rfl) T.range (pa_cons pe_int (pa_cons (pe_op op_add (pv 1) pe_int) pa_nil))) (pg_name (i := 3) scHM.nd rfl (.inl rfl))
      (pss_one (ps_expr (pe_bm PySem.F.plainAttrs_list PySem.F.slot_list_append PySem.F.type_list_append mt_append (pv 2) (pa_cons (pe_op op_add (pe_op op_mul (pe_callBfun (id := "math.comb") MathC.cr_comb rfl U.gComb2 (pa_cons (pv 4) (pa_cons pe_int pa_nil))) (pe_ix (r := rIxL K) ix_list (pv 5) (pv 3) (fun _ _ => rfl))) (pe_op op_mul (pe_callBfun (id := "math.comb") MathC.cr_comb rfl U.gComb2 (pa_cons (pv 3) (pa_cons pe_int pa_nil))) (pe_ix (r := rIxL K) ix_list (pv 2) (pe_un un_neg pe_int) (fun _ _ => rfl)))) pa_nil)))))))))
      (pss_one (ps_ret (pe_ix (r := rIxL K) ix_list (pv 2) (pv 1) (fun _ _ => rfl)))))), ?_⟩
    have c2 : ∀ a : Int, 2 ≤ a → a ≤ 20 → -(2 ^ 64) < PySem.W.mcComb a 2 ∧ PySem.W.mcComb a 2 < 2 ^ 64 := fun a h0 h1 => by
      obtain ⟨x, y⟩ := MathC.comb2 h0
      have : a * a ≤ 20 * 20 := Int.mul_le_mul h1 h1 (by omega) (by decide)
      omega
    refine ⟨_, rfl, _, _, rfl, rfl, o + 1, rfl, by omega, by omega, fun D hD => ?_⟩
    refine lc_range (n := (o + 1).toNat) (fun i G => Grows H G ∧ ∃ vs : List Int, G D = some (.lst (vs.map L2.V.int)) ∧ vs.length = i) ⟨Grows.new hD, [], upd_same, rfl⟩ (fun i G hi ⟨gg, vs, eD, lv⟩ => ?_) fun G ⟨gg, vs, eD, lv⟩ => ?_
    · refine ⟨rfl, ?_⟩
      unfold tYes
      dsimp only
      rw [if_pos rfl]
      refine ⟨_, rfl, _, _, rfl, rfl, 0 + (i : Int) + 1, rfl, by omega, by omega, fun v _ _ => ⟨_, eD, ?_, fun b u eb => ?_, vs ++ [v], by rw [upd_same, List.map_append]; rfl, ?_⟩⟩
      · rw [List.length_map, lv]
        exact small1000 (by omega)
      · rw [upd_ne (ne_of_none eb hD)]
        exact gg _ _ eb
      · rw [List.length_append, lv]
        rfl
    · have c3 : ∀ a : Int, 1 ≤ a → a ≤ 20 → -(2 ^ 64) < PySem.W.mcComb a 2 ∧ PySem.W.mcComb a 2 < 2 ^ 64 := fun a h0 h1 => by
        by_cases e : a = 1
        · rw [PySem.W.mcComb_above (by omega)]
          decide
        · exact c2 a (by omega) h1
      have at_ : ∀ (xs : List Int) (z : Int), 0 ≤ z → z < xs.length → ∃ x : Int, atI (xs.map L2.V.int) z = some (.int x) := fun xs z h0 h1 => by
        obtain ⟨x, ex⟩ := at_some (xs := xs) (j := z.toNat) (by omega)
        have q := atI_nat ex
        rw [Int.toNat_of_nonneg h0] at q
        exact ⟨x, q⟩
      have last : ∀ xs : List Int, 1 ≤ xs.length → ∃ x : Int, atI (xs.map L2.V.int) (-1) = some (.int x) := fun xs h => by
        obtain ⟨x, ex⟩ := at_some (xs := xs) (j := xs.length - 1) (by omega)
        have ix : ixN xs.length (-1) = some (xs.length - 1) := by
          unfold ixN
          rw [if_neg (by decide), if_pos (by omega)]
          congr 1
          omega
        refine ⟨x, ?_⟩
        unfold atI
        rw [List.length_map, ix]
        exact ex
      refine ⟨_, rfl, _, _, rfl, rfl, 2, sz + 1, rfl, ⟨by decide, by decide, by omega, by omega⟩, for_range (lo := 2) (n := (sz + 1 - 2).toNat) (fun i σ H' => ∃ (w : Addr) (ws : List Int) (p3 p4 p5 : Option L2.V), σ = [some (.int sz), some (.int o), some (.ref w), p3, p4, p5] ∧ Grows H H' ∧ H' w = some (.lst (ws.map L2.V.int)) ∧ ws.length = (o + 1).toNat)
        ⟨D, vs, _, _, _, rfl, gg, eD, lv⟩ (fun i σ H' hi ⟨w, ws, p3, p4, p5, e, g, ew, lw⟩ => ?_) fun σ H' ⟨w, ws, p3, p4, p5, e, g, ew, lw⟩ => ?_⟩
      · subst e
        obtain ⟨a0, e0⟩ := at_ ws 0 (by decide) (by omega)
        refine ⟨_, rfl, _, rfl, 2 + (i : Int), 2, rfl, by omega, by omega, by decide, _, rfl, w, _, 0, .int a0, rfl, rfl, SqL.of ew, e0, _, _, rfl, rfl, .inl (c2 _ (by omega) (by omega)), (by show 1 ≤ sizeLine; decide), fun q hq => ?_⟩
        have wq : w ≠ q := ne_of_none ew hq
        refine ⟨_, rfl, _, _, rfl, rfl, 1, o + 1, rfl, ⟨by decide, by decide, by omega, by omega⟩, for_range (lo := 1) (n := (o + 1 - 1).toNat) (fun j σ G2 => ∃ (us : List Int) (p3 : Option L2.V), σ = [some (.int sz), some (.int o), some (.ref q), p3, some (.int (2 + (i : Int))), some (.ref w)] ∧ Grows H' G2 ∧ G2 q = some (.lst (us.map L2.V.int)) ∧ us.length = j + 1)
          ⟨[_], _, rfl, Grows.new hq, upd_same, rfl⟩ (fun j σ G2 hj ⟨us, p3, e, g2, eq, lu⟩ => ?_) fun σ G2 ⟨us, p3, e, g2, eq, lu⟩ => ?_⟩
        · subst e
          obtain ⟨a1, e1⟩ := at_ ws (1 + (j : Int)) (by omega) (by omega)
          obtain ⟨a2, e2⟩ := last us (by omega)
          refine ⟨_, rfl, .inl ⟨rfl, _, SqL.of eq⟩, _, rfl, 2 + (i : Int), 2, rfl, by omega, by omega, by decide, _, rfl, _, rfl, w, _, 1 + (j : Int), .int a1, rfl, rfl, SqL.of (g2 _ _ ew), e1, _, _, rfl, rfl, .inl (c2 _ (by omega) (by omega)),
            _, rfl, 1 + (j : Int), 2, rfl, by omega, by omega, by decide, _, rfl, _, rfl, q, _, -1, .int a2, rfl, rfl, SqL.of eq, e2, _, _, rfl, rfl, .inl (c3 _ (by omega) (by omega)), _, _, rfl, rfl, q, _, _, rfl, rfl, eq, ?_, ?_⟩
          · rw [List.length_map]
            exact small1000 (by omega)
          · refine ⟨us ++ [PySem.W.mcComb (2 + (i : Int)) 2 * a1 + PySem.W.mcComb (1 + (j : Int)) 2 * a2], _, rfl, upd_D hq g2, by rw [upd_same, List.map_append]; rfl, by rw [List.length_append, lu]; rfl⟩
        · subst e
          exact ⟨q, us, _, _, _, rfl, g.trans g2, eq, by omega⟩
      · subst e
        obtain ⟨a3, e3⟩ := at_ ws o o0 (by omega)
        exact ⟨_, rfl, _, rfl, w, _, o, .int a3, rfl, rfl, SqL.of ew, e3, k _ _ g⟩
end
end K35

namespace K35
open PySem PySem.Spec PyProof.Rows L2 SortR LcM RepA Held
abbrev sHS : Stmt := top 56
structure ShF (K : PySem.W.Frag) (mg : Str → Option Value) extends FrF K mg where
  fHS : Addr
  dHS : FuncData
  FHS : Fun K "history_share" "history_share" sHS fHS dHS
  gHS : mg "history_share" = some (.ref fHS)
  bHS : Binds K dHS ["persons", "group"] []
/-- no list at all -/
def spNL (K : PySem.W.Frag) : Sp := fun vs H Q _ => ∃ (x : L2.V) (t : Value) (n : Int), vs = [x, .int n] ∧ TyX K H x t ∧ PySem.W.kitOne K t (.type "list") = some false ∧ ∀ H', Grows H H' → Q (.bl false) H'
/-- what is no group of n persons -/
def NoGr (K : PySem.W.Frag) (n : Int) (H : Hp) (x : L2.V) : Prop := (∃ d, Dd K H x d ∧ Lim d ∧ grpD n d = false) ∨ ∃ t, TyX K H x t ∧ PySem.W.kitOne K t (.type "list") = some false
/-- no such company, no group of it (whatever the heap has grown to), or a group -/
def spHS (K : PySem.W.Frag) (c : List Addr) : Sp := fun vs H Q E => ∃ (n : Int) (x : L2.V), vs = [.int n, x] ∧ ((¬ (1 ≤ n ∧ n ≤ 20) ∧ Rz c H E 0) ∨ (1 ≤ n ∧ n ≤ 20 ∧ (((∀ H', Grows H H' → NoGr K n H' x) ∧ Rz c H E 3) ∨
  (∃ d, Dd K H x d ∧ Lim d ∧ grpD n d = true ∧ ∀ v H', Grows H H' → Q v H'))))
theorem asc_up {ns : List Int} (h : ascI ns = true) : ns.Pairwise (· < ·) := by
  unfold ascI at h
  rw [List.all_eq_true] at h
  induction ns with
  | nil => exact .nil
  | cons x ns ih =>
    have ih := ih fun i hi => by
      have hi := List.mem_range.mp hi
      have := h (i + 1) (List.mem_range.mpr (by rw [List.length_cons]; omega))
      simpa using this
    cases ns with
    | nil => exact List.pairwise_singleton _ _
    | cons y ns =>
      have h0 : x < y := of_decide_eq_true (h 0 (List.mem_range.mpr (by simp)))
      refine List.pairwise_cons.mpr ⟨fun z hz => ?_, ih⟩
      rcases List.mem_cons.mp hz with e | e
      · rw [e]
        exact h0
      · have := (List.pairwise_cons.mp ih).1 z e
        omega
theorem grp_len {n : Int} {ds : List PyData} (n0 : 0 ≤ n) (h : grpD n (.list ds) = true) : 2 ≤ (ds.length : Int) ∧ (ds.length : Int) ≤ n := by
  rw [grpD_list, plistD_list, Bool.and_eq_true, Bool.and_eq_true] at h
  refine ⟨of_decide_eq_true h.2, ?_⟩
  have u := asc_up h.1.2
  have q := len_sub (up_nodup u) (ys := (List.range n.toNat).map fun z => ((z : Nat) : Int)) fun z hz => by
    obtain ⟨d, hd, rfl⟩ := List.mem_map.mp hz
    have p := List.all_eq_true.mp h.1.1 d hd
    have e := pers_int p
    rw [e] at p
    have p : (decide (0 ≤ toI d) && decide (toI d < n)) = true := p
    rw [Bool.and_eq_true] at p
    have p0 := of_decide_eq_true p.1
    have p1 := of_decide_eq_true p.2
    exact List.mem_map.mpr ⟨(toI d).toNat, List.mem_range.mpr (by omega), by omega⟩
  rw [List.length_map, List.length_map, List.length_range] at q
  omega
section
variable {P : Program} {w : World} {K : PySem.W.Frag} {mg : Str → Option Value} {base : Heap} {c : List Addr} {pe : Addr}
theorem scHS : FnScope ["persons", "group"] ["persons", "group"] (defScope sHS) := ⟨rfl, rfl, rfl, by decide +kernel, rfl, by decide +kernel, by decide +kernel⟩
theorem ok_plN (Z : ProgF K mg) (T : TxtP mg) : FnOk P w K mg base CX0 3 Z.fPL Z.dPL ["thing", "persons"] (spNL K) := by
  have GPer : FnOk P w K mg base CX0 2 Z.fPer Z.dPer ["thing", "persons"] (spPerson K) := ok_person Z T
  have GAsc : FnOk P w K mg base CX0 1 Z.fAsc Z.dAsc ["items"] (spAscI K) := ok_ascI Z.FAsc T
  refine Z.FPL.ok scPList (fun vs H Q E h => ?_) (fun cdv A outer s H vs Q E hr h => ?_)
  · obtain ⟨x, t, n, rfl, _⟩ := h
    rfl
  · obtain ⟨x, t, n, rfl, ty, kt, k⟩ := h
    refine ⟨_, (pss_cons (ps_if (pt_not (pt_val (pe_callB call_isi (by rfl) T.isi (by decide +kernel) (pa_cons (pv 0) (pa_cons (pe_bltn (v := .ty "list") (u := .type "list") (by rfl) T.list (by decide +kernel) rfl) pa_nil))))) (pss_one (ps_ret pe_bl)) pss_nil)
      (pss_one (ps_ret (pe_and (pe_callB (cr_all rfl) (by rfl) T.all (by decide +kernel) (pa_cons (pe_lc (own := [("item", 2)]) (g := gName 2) (tt := tYes) rfl scPList.nd (pi_list (pv 0)) (blkOk_by (own := [("item", 2)]) (N := ["thing", "persons", "item"]) (sc := defScope sPList) (by decide +kernel)) (fun _ _ _ _ _ => pg_name (i := 2) scPList.nd rfl (Or.inl rfl)) (fun _ _ _ _ _ => pts_nil) (fun _ _ _ _ _ => (pe_call GPer (hr.mono (by decide)) rfl Z.gPer Z.FPer.kp Z.bPer .nil pass0 (pa_cons (pv 2) (pa_cons (pv 1) pa_nil))))) pa_nil)) (pe_one (pe_call GAsc (hr.mono (by decide)) rfl Z.gAsc Z.FAsc.kp Z.bAsc .nil pass0 (pa_cons (pv 0) pa_nil))))))), ?_⟩
    exact ⟨_, rfl, _, _, _, _, false, rfl, .ty "list", ty, kt, false, rfl, iteT (k H .refl)⟩
theorem ok_grN (Z : ProgF K mg) (T : TxtP mg) : FnOk P w K mg base CX0 4 Z.fGr Z.dGr ["thing", "persons"] (spNL K) := by
  have GPL : FnOk P w K mg base CX0 3 Z.fPL Z.dPL ["thing", "persons"] (spNL K) := ok_plN Z T
  refine Z.FGr.ok scGroup (fun vs H Q E h => ?_) (fun cdv A outer s H vs Q E hr h => ?_)
  · obtain ⟨x, t, n, rfl, _⟩ := h
    rfl
  · obtain ⟨x, t, n, rfl, ty, kt, k⟩ := h
    refine ⟨_, (pss_one (ps_ret (pe_and (pe_call GPL (hr.mono (by decide)) rfl Z.gPL Z.FPL.kp Z.bPL .nil pass0 (pa_cons (pv 0) (pa_cons (pv 1) pa_nil))) (pe_one (pe_cmpR op_ge (pe_callB call_len_seq (by rfl) T.len (by decide +kernel) (pa_cons (pv 0) pa_nil)) pe_int (nomark _)))))), ?_⟩
    refine ⟨_, rfl, _, rfl, x, t, n, rfl, ty, kt, fun H2 s2 => ⟨_, rfl, ?_⟩⟩
    rw [if_neg Bool.false_ne_true]
    exact k H2 s2
theorem ok_hs (Z : ProgF K mg) (T : TxtP mg) (U : ShF K mg) (V : TxtE K mg c pe) : FnOk P w K mg base (L2N.CX P w) 5 U.fHS U.dHS ["persons", "group"] (spHS K c) := by
  have GNPs := ok_nps (P := P) (w := w) (base := base) Z T U.toFmF V
  have GGr : FnOk P w K mg base CX0 4 Z.fGr Z.dGr ["thing", "persons"] (fun vs H Q E => spPLD K grpD vs H Q E ∨ spNL K vs H Q E) := fn_or (ok_grpD Z T) (ok_grN Z T)
  have GFrac := ok_frac (P := P) (w := w) (base := base) U.toFrF
  have GHM := ok_hm (P := P) (w := w) (base := base) T U.toFrF
  have GHof : FnOk P w K mg base CX0 1 U.fHof U.dHof ["parts"] spHof := ok_hof T U.toHiF
  refine U.FHS.okN scHS (fun vs H Q E h => ?_) (fun cdv A outer s H vs Q E hr h => ?_)
  · obtain ⟨n, x, rfl, _⟩ := h
    rfl
  · obtain ⟨n, x, rfl, h⟩ := h
    refine ⟨_, (pss_cons (ps_expr (pe_callS GNPs (hr.mono (by decide)) rfl U.gNPs U.FNPs.kp U.bNPs (fun σ => L2N.passAt (L2N.takes_of rfl rfl rfl rfl) σ) (pa_cons (pv 0) pa_nil)))
      (pss_cons (ps_if (pt_not (pt_val (pe_call GGr (hr.mono (by decide)) rfl Z.gGr Z.FGr.kp Z.bGr .nil pass0 (pa_cons (pv 1) (pa_cons (pv 0) pa_nil))))) (pss_one (L2N.ps_raise rfl (L2N.takes_of rfl rfl rfl rfl) (L2N.pmk_own PySem.F.excBase_ValueError (V.exc 3 (by decide)) (V.g 3 (by decide)) (V.kc 3 (by decide)) (raises_own (V.ex 3 (by decide)).hs (V.ty 3 (by decide))) rfl))) pss_nil)
      (pss_one (ps_ret (pe_call GFrac (hr.mono (by decide)) rfl U.gFrac U.FFrac.kp U.bFrac .nil pass0 (pa_cons (pe_call GHM (hr.mono (by decide)) rfl U.gHM U.FHM.kp U.bHM .nil pass0 (pa_cons (pe_callB call_len_seq (by rfl) T.len (by decide +kernel) (pa_cons (pv 1) pa_nil)) (pa_cons (pe_op op_sub (pv 0) (pe_callB call_len_seq (by rfl) T.len (by decide +kernel) (pa_cons (pv 1) pa_nil))) pa_nil))) (pa_cons (pe_call GHof (hr.mono (by decide)) rfl U.gHof U.FHof.kp U.bHof .nil pass0 (pa_cons (pv 0) pa_nil)) pa_nil))))))), ?_⟩
    rcases h with ⟨no, k⟩ | ⟨n1, n2, h⟩
    · exact ⟨_, rfl, n, rfl, .inr ⟨no, k⟩⟩
    · refine ⟨_, rfl, n, rfl, .inl ⟨n1, n2, fun H1 g1 => ⟨_, rfl, _, rfl, ?_⟩⟩⟩
      rcases h with ⟨no, k⟩ | ⟨d, hd, lim, yes, k⟩
      · rcases no H1 g1 with ⟨d, hd, lim, e⟩ | ⟨t, ty, kt⟩
        · exact .inl ⟨x, d, n, rfl, hd, lim, fun H2 g2 => ⟨_, rfl, by rw [e]; exact iteT (k H2 (g1.trans g2))⟩⟩
        · exact .inr ⟨x, t, n, rfl, ty, kt, fun H2 g2 => ⟨_, rfl, iteT (k H2 (g1.trans g2))⟩⟩
      · refine .inl ⟨x, d, n, rfl, Dd.grow g1 hd, lim, fun H2 g2 => ⟨_, rfl, ?_⟩⟩
        rw [yes]
        have g12 := g1.trans g2
        obtain ⟨ds, ed, _⟩ := grp_list yes
        subst ed
        obtain ⟨a, xs, rfl, sq, all⟩ := dd_list hd
        obtain ⟨l2, ln⟩ := grp_len (by omega) yes
        have lx : (xs.length : Int) = ds.length := by rw [DpAll.len all]
        have sq2 := g12.seq sq
        exact iteF ⟨_, rfl, a, xs, rfl, .inl sq2, _, rfl, _, rfl, a, xs, rfl, .inl sq2, _, _, rfl, rfl, (xs.length : Int), n - (xs.length : Int), rfl, by omega, by omega, by omega, fun v H3 g3 => ⟨_, rfl, n, rfl, by omega, by omega, fun u u0 u1 => ⟨v, u, rfl, u0, u1, fun r H4 g4 => k r H4 (g12.trans (g3.trans g4))⟩⟩⟩
end
end K35

namespace K35
open PySem PySem.Spec PyProof.Rows L2 SortR LcM RepA Held
abbrev sAre : Stmt := top 28
abbrev sFam : Stmt := top 50
structure FaF (K : PySem.W.Frag) (mg : Str → Option Value) extends ShF K mg where
  (fAre fFam : Addr)
  (dAre dFam : FuncData)
  FAre : Fun K "are_groups" "are_groups" sAre fAre dAre
  FFam : Fun K "is_family" "is_family" sFam fFam dFam
  gAre : mg "are_groups" = some (.ref fAre)
  gFam : mg "is_family" = some (.ref fFam)
  bAre : Binds K dAre ["thing", "persons"] []
  bFam : Binds K dFam ["persons", "thing"] []
/-- what is no list of groups of n persons: no list, or a list of things that are none -/
def NoFam (K : PySem.W.Frag) (n : Int) (H : Hp) (x : L2.V) : Prop := (∃ t, TyX K H x t ∧ PySem.W.kitOne K t (.type "list") = some false) ∨ ∃ a xs, x = .ref a ∧ SqL K H a xs ∧ xs ≠ [] ∧ xs.length ≤ 1000 ∧ ∀ y ∈ xs, ∀ H', Grows H H' → NoGr K n H' y
/-- such a thing, or the rows of a parting -/
def spAre (K : PySem.W.Frag) : Sp := fun vs H Q _ => ∃ (x : L2.V) (n : Int), vs = [x, .int n] ∧ ((NoFam K n H x ∧ ∀ H', Grows H H' → Q (.bl false) H') ∨
  ∃ (a : Addr) (bs : List (Addr × List Int)), x = .ref a ∧ Rw K H a bs ∧ Sz (bs.map (·.2)) ∧ isP (bs.map (·.2)) = true ∧ n = (bs.length : Int) + 1 ∧ ∀ H', Grows H H' → Q (.bl true) H')
def spFam (K : PySem.W.Frag) (c : List Addr) : Sp := fun vs H Q E => ∃ (n : Int) (x : L2.V), vs = [.int n, x] ∧ ((¬ (1 ≤ n ∧ n ≤ 20) ∧ Rz c H E 0) ∨ (1 ≤ n ∧ n ≤ 20 ∧ ((∀ H', Grows H H' → NoFam K n H' x) ∨
  ∃ (a : Addr) (bs : List (Addr × List Int)), x = .ref a ∧ Rw K H a bs ∧ Sz (bs.map (·.2)) ∧ isP (bs.map (·.2)) = true ∧ n = (bs.length : Int) + 1) ∧ ∀ v H', Grows H H' → Q v H'))
theorem isP_all {rs : List (List Int)} (h : isP rs = true) : rs.length < 20 ∧ (∀ r ∈ rs, group (rs.length + 1) r = true) ∧ rs.Nodup := by
  unfold isP at h
  simp only [Bool.and_eq_true, decide_eq_true_eq] at h
  obtain ⟨⟨⟨h1, h2⟩, h3⟩, h4⟩ := h
  refine ⟨by omega, fun r hr => ?_, ?_⟩
  · obtain ⟨i, hi, e⟩ := List.getElem_of_mem hr
    have g := List.all_eq_true.mp h2 i (List.mem_range.mpr hi)
    rw [List.getD_eq_getElem?_getD, List.getElem?_eq_getElem hi, Option.getD_some, e] at g
    exact g
  · refine List.Pairwise.imp (R := (· < ·)) (fun {a b} z e => by rw [e] at z; exact List.lt_irrefl _ z) ?_
    clear h2
    unfold ascR at h3
    rw [List.all_eq_true] at h3
    clear h1 h4
    induction rs with
    | nil => exact .nil
    | cons x ns ih =>
      have ih := ih fun i hi => by
        have hi := List.mem_range.mp hi
        have := h3 (i + 1) (List.mem_range.mpr (by rw [List.length_cons]; omega))
        simpa using this
      cases ns with
      | nil => exact List.pairwise_singleton _ _
      | cons y ns =>
        have h0 : x < y := of_decide_eq_true (h3 0 (List.mem_range.mpr (by simp)))
        refine List.pairwise_cons.mpr ⟨fun z hz => ?_, ih⟩
        rcases List.mem_cons.mp hz with e | e
        · rw [e]
          exact h0
        · exact List.lt_trans h0 ((List.pairwise_cons.mp ih).1 z e)
section
variable {P : Program} {w : World} {K : PySem.W.Frag} {mg : Str → Option Value} {base : Heap} {c : List Addr} {pe : Addr}
theorem scAre : FnScope ["thing", "persons", "group"] ["thing", "persons"] (defScope sAre) := ⟨rfl, rfl, rfl, by decide +kernel, rfl, by decide +kernel, by decide +kernel⟩
theorem scFam : FnScope ["persons", "thing"] ["persons", "thing"] (defScope sFam) := ⟨rfl, rfl, rfl, by decide +kernel, rfl, by decide +kernel, by decide +kernel⟩
/-- is_group of what is none -/
theorem ok_grX (Z : ProgF K mg) (T : TxtP mg) : FnOk P w K mg base CX0 4 Z.fGr Z.dGr ["thing", "persons"] (fun vs H Q E => spPLD K grpD vs H Q E ∨ spNL K vs H Q E) := fn_or (ok_grpD Z T) (ok_grN Z T)
theorem ok_are (Z : ProgF K mg) (T : TxtP mg) (U : FaF K mg) : FnOk P w K mg base CX0 5 U.fAre U.dAre ["thing", "persons"] (spAre K) := by
  refine U.FAre.ok scAre (fun vs H Q E h => ?_) (fun cdv A outer s H vs Q E hr h => ?_)
  · obtain ⟨x, n, rfl, _⟩ := h
    rfl
  · obtain ⟨x, n, rfl, h⟩ := h
    rcases h with ⟨no, k⟩ | ⟨a, bs, rfl, hB, hz, hp, en, k⟩
    · have GGr : FnOk P w K mg base CX0 4 Z.fGr Z.dGr ["thing", "persons"] (fun vs H Q E => spPLD K grpD vs H Q E ∨ spNL K vs H Q E) := ok_grX Z T
      refine ⟨_, (pss_cons (ps_if (PW.pt (pw_or (pt_not (pt_val (pe_callB call_isi (by rfl) T.isi (by decide +kernel) (pa_cons (pv 0) (pa_cons (pe_bltn (v := .ty "list") (u := .type "list") (by rfl) T.list (by decide +kernel) rfl) pa_nil))))) (pw_or1 (pt_cmpR op_ge (pe_callB call_len_seq (by rfl) T.len (by decide +kernel) (pa_cons (pv 0) pa_nil)) (pe_glob (v := .int 20) rfl Z.gMost ⟨_, rfl⟩) (nomark _))))) (pss_one (ps_ret pe_bl)) pss_nil)
      (pss_cons (ps_if (pt_not (pt_val (pe_callB (cr_all rfl) (by rfl) T.all (by decide +kernel) (pa_cons (pe_lc (own := [("group", 2)]) (g := gName 2) (tt := tYes) rfl scAre.nd (pi_list (pv 0)) (blkOk_by (own := [("group", 2)]) (N := ["thing", "persons", "group"]) (sc := defScope sAre) (by decide +kernel)) (fun _ _ _ _ _ => pg_name (i := 2) scAre.nd rfl (Or.inl rfl)) (fun _ _ _ _ _ => pts_nil) (fun _ _ _ _ _ => (pe_call GGr (hr.mono (by decide)) rfl Z.gGr Z.FGr.kp Z.bGr .nil pass0 (pa_cons (pv 2) (pa_cons (pv 1) pa_nil))))) pa_nil)))) (pss_one (ps_ret pe_bl)) pss_nil)
      (pss_one (ps_ret (pe_cmpR op_eq (pe_callB (id := "len") (by exact SetT.call_lenT) (by rfl) T.len (by decide +kernel) (pa_cons (SetT.pe_scT (own := [("group", 2)]) (g := gName 2) (tt := tYes) (by exact hr.units) rfl scAre.nd (pi_list (pv 0)) (blkOk_by (own := [("group", 2)]) (N := ["thing", "persons", "group"]) (sc := defScope sAre) (by decide +kernel)) (fun _ _ _ _ _ => pg_name (i := 2) scAre.nd rfl (Or.inl rfl)) (fun _ _ _ _ _ => pts_nil) (fun _ _ _ _ _ => pe_callTy (T := "tuple") (r := rTup K) (by exact call_tupK) (by rfl) T.tuple (by decide +kernel) (pa_cons (pv 2) pa_nil))) pa_nil)) (pe_callB call_len_seq (by rfl) T.len (by decide +kernel) (pa_cons (pv 0) pa_nil)) (nomark _)))))), ?_⟩
      rcases no with ⟨t, ty, kt⟩ | ⟨a, xs, rfl, hS, ne, few, no⟩
      · exact ⟨_, rfl, _, _, _, _, false, rfl, .ty "list", ty, kt, false, rfl, iteT (k H .refl)⟩
      · refine ⟨_, rfl, _, _, _, _, true, rfl, .ty "list", ty_list hS, kit_ty (by decide +kernel), true, rfl, iteF ⟨_, rfl, a, _, rfl, .inl hS, _, _, rfl, rfl, _, rfl, ?_⟩⟩
        refine iteN _ (fun _ => k H .refl) fun _ => ?_
        refine ⟨_, rfl, a, rfl, ⟨_, hS⟩, fun D hD => lc_listM (K := K) (fun _ => V.bl false) hD hS (by omega) (fun i x H' R hx' sm kR => ?_) fun H' sm eD => ?_⟩
        · refine ⟨rfl, _, rfl, _, rfl, ?_⟩
          rcases no x (List.mem_of_getElem? hx') H' sm with ⟨d, hd, lim, e⟩ | ⟨t, ty, kt⟩
          · exact .inl ⟨x, d, n, rfl, hd, lim, fun H2 g2 => by rw [e]; exact kR _ g2⟩
          · exact .inr ⟨x, t, n, rfl, ty, kt, fun H2 g2 => kR _ g2⟩
        · refine ⟨D, (List.range xs.length).map fun i => false, rfl, SqL.of (by rw [eD, List.map_map]; rfl), ?_⟩
          rw [all_rng]
          have e : ((List.range xs.length).all fun i => false) = false := by
            cases xs with
            | nil => exact absurd rfl ne
            | cons x xs =>
              refine List.all_eq_false.mpr ⟨0, List.mem_range.mpr (Nat.zero_lt_succ _), Bool.false_ne_true⟩
          rw [e]
          exact ⟨_, rfl, iteT (k H' sm)⟩
    · have GGr : FnOk P w K mg base CX0 4 Z.fGr Z.dGr ["thing", "persons"] (spPL K group) := ok_group Z T
      refine ⟨_, (pss_cons (ps_if (PW.pt (pw_or (pt_not (pt_val (pe_callB call_isi (by rfl) T.isi (by decide +kernel) (pa_cons (pv 0) (pa_cons (pe_bltn (v := .ty "list") (u := .type "list") (by rfl) T.list (by decide +kernel) rfl) pa_nil))))) (pw_or1 (pt_cmpR op_ge (pe_callB call_len_seq (by rfl) T.len (by decide +kernel) (pa_cons (pv 0) pa_nil)) (pe_glob (v := .int 20) rfl Z.gMost ⟨_, rfl⟩) (nomark _))))) (pss_one (ps_ret pe_bl)) pss_nil)
      (pss_cons (ps_if (pt_not (pt_val (pe_callB (cr_all rfl) (by rfl) T.all (by decide +kernel) (pa_cons (pe_lc (own := [("group", 2)]) (g := gName 2) (tt := tYes) rfl scAre.nd (pi_list (pv 0)) (blkOk_by (own := [("group", 2)]) (N := ["thing", "persons", "group"]) (sc := defScope sAre) (by decide +kernel)) (fun _ _ _ _ _ => pg_name (i := 2) scAre.nd rfl (Or.inl rfl)) (fun _ _ _ _ _ => pts_nil) (fun _ _ _ _ _ => (pe_call GGr (hr.mono (by decide)) rfl Z.gGr Z.FGr.kp Z.bGr .nil pass0 (pa_cons (pv 2) (pa_cons (pv 1) pa_nil))))) pa_nil)))) (pss_one (ps_ret pe_bl)) pss_nil)
      (pss_one (ps_ret (pe_cmpR op_eq (pe_callB (id := "len") (by exact SetT.call_lenT) (by rfl) T.len (by decide +kernel) (pa_cons (SetT.pe_scT (own := [("group", 2)]) (g := gName 2) (tt := tYes) (by exact hr.units) rfl scAre.nd (pi_list (pv 0)) (blkOk_by (own := [("group", 2)]) (N := ["thing", "persons", "group"]) (sc := defScope sAre) (by decide +kernel)) (fun _ _ _ _ _ => pg_name (i := 2) scAre.nd rfl (Or.inl rfl)) (fun _ _ _ _ _ => pts_nil) (fun _ _ _ _ _ => pe_callTy (T := "tuple") (r := rTup K) (by exact call_tupK) (by rfl) T.tuple (by decide +kernel) (pa_cons (pv 2) pa_nil))) pa_nil)) (pe_callB call_len_seq (by rfl) T.len (by decide +kernel) (pa_cons (pv 0) pa_nil)) (nomark _)))))), ?_⟩
      obtain ⟨few, grp, nd⟩ := isP_all hp
      rw [List.length_map] at few
      refine ⟨_, rfl, _, _, _, _, true, rfl, .ty "list", ty_list hB.top, kit_ty (by decide +kernel), true, rfl, iteF ⟨_, rfl, a, _, rfl, .inl hB.top, _, _, rfl, rfl, _, rfl, ?_⟩⟩
      rw [List.length_map]
      rw [decide_eq_false (by omega)]
      refine iteF ⟨_, rfl, a, rfl, ⟨_, hB.top⟩, fun D hD => lc_listM (K := K) (fun i => V.bl (group n (bs.getD i (0, [])).2)) hD hB.top (by rw [List.length_map]; omega) (fun i x H' R hx' sm kR => ?_) fun H' sm eD => ?_⟩
      · have il := (List.getElem?_eq_some_iff.mp hx').1
        rw [List.length_map] at il
        obtain rfl := at_map (d := (0, [])) hx'
        exact ⟨rfl, _, rfl, _, rfl, _, _, _, rfl, sm.seq (hB.at il), hz.2 _ (mem_at il), fun H2 s2 => kR _ s2⟩
      · rw [List.length_map] at eD
        have all : ((List.range bs.length).all fun i => group n (bs.getD i (0, [])).2) = true := List.all_eq_true.mpr fun i hi => by
          have q := grp _ (mem_at (List.mem_range.mp hi))
          rw [List.length_map] at q
          rw [en]
          exact q
        refine ⟨D, (List.range bs.length).map fun i => group n (bs.getD i (0, [])).2, rfl, SqL.of (by rw [eD, List.map_map]; rfl), ?_⟩
        rw [all_rng, all]
        refine ⟨_, rfl, iteF ⟨_, rfl, a, rfl, ⟨_, sm.seq hB.top⟩, fun D2 hD2 => SetT.sc_listU (K := K) (fun i => (bs.getD i (0, [])).2) (fun i j ij jl => ?_) (by rw [List.length_map]; omega) hD2 (sm.seq hB.top) (fun i x H2 R hx' s2 kR => ?_) fun H2 L s2 eL len => ?_⟩⟩
        · rw [List.length_map] at jl
          rw [← snd_at, ← snd_at]
          intro z
          have nd := List.pairwise_iff_getElem.mp nd i j (by rw [List.length_map]; omega) (by rw [List.length_map]; omega) ij
          rw [List.getD_eq_getElem?_getD, List.getD_eq_getElem?_getD, List.getElem?_eq_getElem (by rw [List.length_map]; omega), List.getElem?_eq_getElem (by rw [List.length_map]; omega)] at z
          exact nd z
        · have il := (List.getElem?_eq_some_iff.mp hx').1
          rw [List.length_map] at il
          obtain rfl := at_map (d := (0, [])) hx'
          exact ⟨rfl, _, rfl, _, _, rfl, (sm.trans s2).seq (hB.at il), fun t2 ht2 => kR t2 _ (Grows.new ht2) upd_same⟩
        · rw [List.length_map] at len
          refine ⟨D2, L, rfl, eL, _, rfl, a, _, rfl, .inl ((sm.trans s2).seq hB.top), rfl, ?_⟩
          rw [List.length_map, len]
          have q := k H2 (sm.trans s2)
          rw [decide_eq_true rfl]
          exact q
theorem ok_fam (Z : ProgF K mg) (T : TxtP mg) (U : FaF K mg) (V : TxtE K mg c pe) : FnOk P w K mg base (L2N.CX P w) 6 U.fFam U.dFam ["persons", "thing"] (spFam K c) := by
  have GNPs := ok_nps (P := P) (w := w) (base := base) Z T U.toFmF V
  have GAre := ok_are (P := P) (w := w) (base := base) Z T U
  have GAny : FnOk P w K mg base CX0 2 Z.fAny Z.dAny ["groups"] (spAny K) := ok_any Z T
  refine U.FFam.okN scFam (fun vs H Q E h => ?_) (fun cdv A outer s H vs Q E hr h => ?_)
  · obtain ⟨n, x, rfl, _⟩ := h
    rfl
  · obtain ⟨n, x, rfl, h⟩ := h
    refine ⟨_, (pss_cons (ps_expr (pe_callS GNPs (hr.mono (by decide)) rfl U.gNPs U.FNPs.kp U.bNPs (fun σ => L2N.passAt (L2N.takes_of rfl rfl rfl rfl) σ) (pa_cons (pv 0) pa_nil)))
      (pss_one (ps_ret (pe_and (pe_call GAre (hr.mono (by decide)) rfl U.gAre U.FAre.kp U.bAre .nil pass0 (pa_cons (pv 1) (pa_cons (pv 0) pa_nil))) (pe_one (pe_not (pe_call GAny (hr.mono (by decide)) rfl Z.gAny Z.FAny.kp Z.bAny .nil pass0 (pa_cons (pv 1) pa_nil)))))))), ?_⟩
    rcases h with ⟨no, k⟩ | ⟨n1, n2, h, k⟩
    · exact ⟨_, rfl, n, rfl, .inr ⟨no, k⟩⟩
    · refine ⟨_, rfl, n, rfl, .inl ⟨n1, n2, fun H1 g1 => ⟨_, rfl, _, rfl, x, n, rfl, ?_⟩⟩⟩
      rcases h with no | ⟨a, bs, rfl, hB, hz, hp, en⟩
      · refine .inl ⟨no H1 g1, fun H2 g2 => ⟨_, rfl, ?_⟩⟩
        rw [if_neg Bool.false_ne_true]
        exact k _ _ (g1.trans g2)
      · refine .inr ⟨a, bs, rfl, hB.keep g1, hz, hp, en, fun H2 g2 => ⟨_, rfl, ?_⟩⟩
        rw [if_pos rfl]
        obtain ⟨few, grp, nd⟩ := isP_all hp
        refine ⟨_, rfl, a, bs, rfl, (hB.keep g1).keep g2, hz, fun r hr x hx => ?_, fun H3 g3 => ⟨_, rfl, k _ _ ((g1.trans g2).trans g3)⟩⟩
        have g := grp r hr
        rw [List.length_map] at g few
        unfold group plist at g
        simp only [Bool.and_eq_true] at g
        obtain ⟨i, hi, e⟩ := List.getElem_of_mem hx
        have q := List.all_eq_true.mp g.1.1 i (List.mem_range.mpr hi)
        rw [List.getD_eq_getElem?_getD, List.getElem?_eq_getElem hi, Option.getD_some, e] at q
        simp only [Bool.and_eq_true, decide_eq_true_eq] at q
        omega
end
end K35

namespace K35
open PySem PySem.Spec PyProof.Rows L2 SortR LcM
/-! ### both parts of each group of a family that grows newcomer by newcomer -/
def Half (rs : List (List Int)) (x : List Int) : Prop := x ∈ rs ∨ ∃ p : Int, x = [p] ∧ 0 ≤ p ∧ p ≤ (rs.length : Int)
structure Cut2 (rs : List (List Int)) (g a b : List Int) : Prop where
  ha : Half rs a
  hb : Half rs b
  mem : ∀ z, z ∈ g ↔ z ∈ a ∨ z ∈ b
  dis : ∀ z ∈ a, z ∉ b
def Bin (rs : List (List Int)) : Prop := ∀ g ∈ rs, ∃ a b, Cut2 rs g a b
theorem Cut2.swap {rs : List (List Int)} {g a b : List Int} (c : Cut2 rs g a b) : Cut2 rs g b a := ⟨c.hb, c.ha, fun z => (c.mem z).trans or_comm, fun z p q => c.dis z q p⟩
theorem up_same : ∀ {xs ys : List Int}, xs.Pairwise (· < ·) → ys.Pairwise (· < ·) → (∀ z, z ∈ xs ↔ z ∈ ys) → xs = ys
  | [], [], _, _, _ => rfl
  | [], y :: ys, _, _, h => nomatch (h y).mpr List.mem_cons_self
  | x :: xs, [], _, _, h => nomatch (h x).mp List.mem_cons_self
  | x :: xs, y :: ys, a, b, h => by
    obtain ⟨a1, a2⟩ := List.pairwise_cons.mp a
    obtain ⟨b1, b2⟩ := List.pairwise_cons.mp b
    have e : x = y := by
      rcases List.mem_cons.mp ((h x).mp List.mem_cons_self) with e | m
      · exact e
      · rcases List.mem_cons.mp ((h y).mpr List.mem_cons_self) with e | m2
        · exact e.symm
        · have := a1 _ m2
          have := b1 _ m
          omega
    subst e
    rw [up_same a2 b2 fun z => ⟨fun m => ?_, fun m => ?_⟩]
    · rcases List.mem_cons.mp ((h z).mp (List.mem_cons_of_mem _ m)) with e | q
      · subst e
        have := a1 _ m
        omega
      · exact q
    · rcases List.mem_cons.mp ((h z).mpr (List.mem_cons_of_mem _ m)) with e | q
      · subst e
        have := b1 _ m
        omega
      · exact q
theorem Half.up {rs : List (List Int)} (u : ∀ r ∈ rs, r.Pairwise (· < ·)) {x : List Int} (h : Half rs x) : x.Pairwise (· < ·) := by
  rcases h with h | ⟨p, rfl, _⟩
  · exact u _ h
  · exact List.pairwise_singleton _ _
theorem Half.ne {rs : List (List Int)} (two : ∀ r ∈ rs, 2 ≤ r.length) {x : List Int} (h : Half rs x) : ∃ z, z ∈ x := by
  rcases h with h | ⟨p, rfl, _⟩
  · have := two _ h
    cases x with
    | nil => exact absurd this (by decide)
    | cons z _ => exact ⟨z, List.mem_cons_self⟩
  · exact ⟨p, List.mem_cons_self⟩
/-- what lies nicely by all groups lies nicely by one person too -/
theorem Half.nice {rs : List (List Int)} {b x : List Int} (n : ∀ w ∈ rs, Nice b w) (h : Half rs x) : Nice b x := by
  rcases h with h | ⟨p, rfl, _⟩
  · exact n _ h
  · by_cases m : p ∈ b
    · exact .inr (.inr fun z hz => by rw [List.mem_singleton.mp hz]; exact m)
    · exact .inl fun z hz q => m (by rw [← List.mem_singleton.mp q]; exact hz)
theorem Bin.step {rs : List (List Int)} (N : Bin rs) (F : Fam rs) {item : Int} (h0 : -(rs.length : Int) ≤ item) (h1 : item ≤ rs.length) : Bin (stepB rs item) := by
  have B := F.bas h0 h1
  obtain ⟨f, ef⟩ : ∃ f : Int, f = (rs.length : Int) + 1 := ⟨_, rfl⟩
  obtain ⟨b, eb⟩ : ∃ b : List Int, b = baseB rs item := ⟨_, rfl⟩
  have es : stepB rs item = rs.map (growB f b) ++ [b ++ [f]] := by
    unfold stepB
    rw [← ef, ← eb]
  have big : ((stepB rs item).length : Int) = f := by
    rw [stepB_len, ef]
    rfl
  have B0 : Bas rs b := by rw [eb]; exact B
  have old : ∀ {x : List Int}, Half rs x → inB b x = false → Half (stepB rs item) x := fun {x} h i => by
    rcases h with h | ⟨p, rfl, p0, p1⟩
    · refine .inl ?_
      rw [es]
      refine List.mem_append.mpr (.inl (List.mem_map.mpr ⟨x, h, ?_⟩))
      unfold growB
      rw [i, if_neg Bool.false_ne_true]
    · exact .inr ⟨p, rfl, p0, by rw [big, ef]; omega⟩
  have notin : ∀ {x : List Int}, Half rs x → f ∉ x := fun {x} h z => by
    rcases h with h | ⟨p, rfl, p0, p1⟩
    · have := (F.rng x h f z).2
      omega
    · rw [List.mem_singleton] at z
      omega
  have hf : Half (stepB rs item) [f] := .inr ⟨f, rfl, by omega, by rw [big]; exact Int.le_refl _⟩
  have new : b ++ [f] ∈ stepB rs item := by
    rw [es]
    exact List.mem_append.mpr (.inr List.mem_cons_self)
  have bb : inB b b = false := by
    unfold inB
    rw [decide_eq_false (Nat.lt_irrefl _), Bool.false_and]
  have hb : Half (stepB rs item) b := by
    refine old ?_ bb
    rw [eb]
    unfold baseB
    by_cases p : 0 ≤ item
    · rw [if_pos p]
      exact .inr ⟨item, rfl, p, h1⟩
    · rw [if_neg p]
      have lt : (0 - item - 1).toNat < rs.length := by omega
      refine .inl ?_
      rw [List.getD_eq_getElem?_getD, List.getElem?_eq_getElem lt]
      exact List.getElem_mem lt
  intro r hr
  rw [es] at hr
  rcases List.mem_append.mp hr with q | q
  · obtain ⟨w, hw, e⟩ := List.mem_map.mp q
    obtain ⟨x, y, c⟩ := N w hw
    have uw := F.up w hw
    have len : ∀ {x : List Int}, Half rs x → (∀ z ∈ x, z ∈ w) → x.length ≤ w.length := fun h s => len_sub (up_nodup (h.up F.up)) s
    unfold growB at e
    cases i : inB b w with
    | false =>
      rw [i, if_neg Bool.false_ne_true] at e
      subst e
      have out : ∀ {x : List Int}, Half rs x → (∀ z ∈ x, z ∈ w) → inB b x = false := fun {x} h s => by
        cases j : inB b x with
        | false => rfl
        | true =>
          unfold inB at i j
          simp only [Bool.and_eq_true, decide_eq_true_eq] at j
          rw [decide_eq_true (show b.length < w.length by have := len h s; omega), decide_eq_true (s _ j.2)] at i
          cases i
      exact ⟨x, y, old c.ha (out c.ha fun z hz => (c.mem z).mpr (.inl hz)), old c.hb (out c.hb fun z hz => (c.mem z).mpr (.inr hz)), c.mem, c.dis⟩
    | true =>
      rw [i, if_pos rfl] at e
      subst e
      obtain ⟨sub, lt⟩ := B0.sub F hw i
      have hm := sub _ B0.head
      -- the part x is that with the head of b
      have main : ∀ x y, Cut2 rs w x y → b.headD 0 ∈ x → ∃ a b', Cut2 (stepB rs item) (w ++ [f]) a b' := fun x y c hx => by
        have ny : inB b y = false := by
          unfold inB
          rw [decide_eq_false (c.dis _ hx), Bool.and_false]
        have hy := old c.hb ny
        have memf : ∀ {a : List Int}, (∀ z, z ∈ a ↔ z ∈ x) → ∀ z, z ∈ w ++ [f] ↔ z ∈ a ++ [f] ∨ z ∈ y := fun {a} ea z => by
          rw [List.mem_append, List.mem_append, c.mem, ea]
          exact ⟨fun h => h.elim (fun h => h.elim (fun q => .inl (.inl q)) .inr) fun q => .inl (.inr q), fun h => h.elim (fun h => h.elim (fun q => .inl (.inl q)) .inr) fun q => .inl (.inr q)⟩
        have disf : ∀ {a : List Int}, (∀ z, z ∈ a ↔ z ∈ x) → ∀ z ∈ a ++ [f], z ∉ y := fun {a} ea z hz hzy => by
          rcases List.mem_append.mp hz with q | q
          · exact c.dis z ((ea z).mp q) hzy
          · rw [List.mem_singleton.mp q] at hzy
            exact notin c.hb hzy
        cases ix : inB b x with
        | true =>
          refine ⟨x ++ [f], y, .inl ?_, hy, memf fun z => Iff.rfl, disf fun z => Iff.rfl⟩
          rcases c.ha with h | ⟨p, rfl, _⟩
          · rw [es]
            refine List.mem_append.mpr (.inl (List.mem_map.mpr ⟨x, h, ?_⟩))
            unfold growB
            rw [ix, if_pos rfl]
          · unfold inB at ix
            simp only [Bool.and_eq_true, decide_eq_true_eq] at ix
            obtain ⟨h, t, e⟩ := B0.ne
            have := ix.1
            rw [e, List.length_cons, List.length_singleton] at this
            omega
        | false =>
          have lx : x.length ≤ b.length := by
            apply Classical.byContradiction
            intro l
            unfold inB at ix
            rw [decide_eq_true (show b.length < x.length by omega), decide_eq_true hx] at ix
            cases ix
          have e : ∀ z, z ∈ b ↔ z ∈ x := by
            rcases c.ha.nice B0.nice with n | n | n
            · exact absurd hx (n _ B0.head)
            · exact fun z => ⟨n z, sub_back (up_nodup B0.up) n lx z⟩
            · refine fun z => ⟨fun hz => ?_, n z⟩
              rcases (c.mem z).mp (sub z hz) with q | q
              · exact q
              · rcases c.hb.nice B0.nice with m | m | m
                · exact absurd q (m _ hz)
                · exact absurd (m _ B0.head) (c.dis _ hx)
                · have : w.length ≤ b.length := len_sub (up_nodup uw) fun z hz => ((c.mem z).mp hz).elim (n z) (m z)
                  omega
          exact ⟨b ++ [f], y, .inl new, hy, memf e, disf e⟩
      rcases (c.mem _).mp hm with q | q
      · exact main x y c q
      · exact main y x c.swap q
  · rw [List.mem_singleton.mp q]
    exact ⟨b, [f], hb, hf, fun z => List.mem_append, fun z hz q => by
      rw [List.mem_singleton.mp q] at hz
      have := (B0.rng f hz).2
      omega⟩
theorem famB_bin {is : List Int} (h : Bnd is) : ∀ n, n ≤ is.length → Bin (famB is n)
  | 0, _ => fun _ h => nomatch h
  | n + 1, hn => by
    have e : is[n]? = some is[n] := List.getElem?_eq_getElem hn
    have b := h n _ e
    have eg : is.getD n 0 = is[n] := by rw [List.getD_eq_getElem?_getD, e]; rfl
    have L := famB_len is n
    exact (famB_bin h n (Nat.le_of_succ_le hn)).step (famB_ok h n (Nat.le_of_succ_le hn)) (by rw [L, eg]; exact b.1) (by rw [L, eg]; exact b.2)
/-! ### what both_parts makes of them -/
/-- the part with the least person: the greatest one that begins alike -/
def firstN (rs : List (List Int)) (g : List Int) : Nat → List Int
  | 0 => [g.getD 0 0]
  | n + 1 => let f := firstN rs g n; let r := rs.getD n []
    if r.getD 0 0 = g.getD 0 0 ∧ f.length < r.length ∧ r.length < g.length then r else f
def firR (rs : List (List Int)) (g : List Int) : List Int := firstN rs g rs.length
def secR (rs : List (List Int)) (g : List Int) : List Int := g.filter fun x => decide (x ∉ firR rs g)
theorem firR_eq {rs : List (List Int)} {g A : List Int} (two : ∀ r ∈ rs, 2 ≤ r.length) (hA : A = [g.getD 0 0] ∨ (A ∈ rs ∧ A.getD 0 0 = g.getD 0 0 ∧ A.length < g.length))
    (k : ∀ r ∈ rs, r.getD 0 0 = g.getD 0 0 → r.length < g.length → r.length ≤ A.length ∧ (r.length = A.length → r = A)) : firR rs g = A := by
  have inv : ∀ n, n ≤ rs.length → (firstN rs g n = [g.getD 0 0] ∨ (firstN rs g n ∈ rs ∧ (firstN rs g n).getD 0 0 = g.getD 0 0 ∧ (firstN rs g n).length < g.length)) ∧
      ∀ i, i < n → (rs.getD i []).getD 0 0 = g.getD 0 0 → (rs.getD i []).length < g.length → (rs.getD i []).length ≤ (firstN rs g n).length := by
    intro n
    induction n with
    | zero => exact fun _ => ⟨.inl rfl, fun i hi => absurd hi (Nat.not_lt_zero i)⟩
    | succ n ih =>
      intro hn
      obtain ⟨a, b⟩ := ih (by omega)
      have mem : rs.getD n [] ∈ rs := by
        rw [List.getD_eq_getElem?_getD, List.getElem?_eq_getElem (by omega : n < rs.length)]
        exact List.getElem_mem _
      have e : firstN rs g (n + 1) = if (rs.getD n []).getD 0 0 = g.getD 0 0 ∧ (firstN rs g n).length < (rs.getD n []).length ∧ (rs.getD n []).length < g.length then rs.getD n [] else firstN rs g n := rfl
      rw [e]
      split
      · rename_i c
        refine ⟨.inr ⟨mem, c.1, c.2.2⟩, fun i hi h1 h2 => ?_⟩
        by_cases q : i = n
        · rw [q]
          exact Nat.le_refl _
        · have := b i (by omega) h1 h2
          omega
      · rename_i c
        refine ⟨a, fun i hi h1 h2 => ?_⟩
        by_cases q : i = n
        · subst q
          rcases Nat.lt_or_ge (firstN rs g i).length (rs.getD i []).length with l | l
          · exact absurd ⟨h1, l, h2⟩ c
          · exact l
        · exact b i (by omega) h1 h2
  obtain ⟨a, b⟩ := inv rs.length (Nat.le_refl _)
  unfold firR
  rcases hA with hA | ⟨m, h1, h2⟩
  · rcases a with a | ⟨a1, a2, a3⟩
    · rw [a, hA]
    · have := (k _ a1 a2 a3).1
      have := two _ a1
      rw [hA] at *
      simp only [List.length_cons, List.length_nil] at *
      omega
  · obtain ⟨i, hi, ei⟩ := List.getElem_of_mem m
    have ei2 : rs.getD i [] = A := by
      rw [List.getD_eq_getElem?_getD, List.getElem?_eq_getElem hi]
      exact ei
    have q := b i hi (by rw [ei2]; exact h1) (by rw [ei2]; exact h2)
    rw [ei2] at q
    rcases a with a | ⟨a1, a2, a3⟩
    · rw [a] at q
      have := two A m
      simp only [List.length_cons, List.length_nil] at q
      omega
    · have z := k _ a1 a2 a3
      exact z.2 (by omega)
/-- all that the program needs of a parting's parts -/
def halfB (rs : List (List Int)) (x : List Int) : Bool := decide (x ∈ rs) || (decide (x.length = 1) && decide (0 ≤ x.getD 0 0) && decide (x.getD 0 0 ≤ (rs.length : Int)))
def partsB (rs : List (List Int)) (g : List Int) : Bool := halfB rs (firR rs g) && halfB rs (secR rs g) && decide ((firR rs g).length < g.length) && decide ((secR rs g).length < g.length)
def hvB (rs : List (List Int)) : Bool := rs.all (partsB rs)
theorem Half.b {rs : List (List Int)} {x : List Int} (h : Half rs x) : halfB rs x = true := by
  unfold halfB
  rcases h with h | ⟨p, rfl, p0, p1⟩
  · rw [decide_eq_true h, Bool.true_or]
  · rw [show decide (([p] : List Int).length = 1) = true from rfl, decide_eq_true (show 0 ≤ ([p] : List Int).getD 0 0 from p0), decide_eq_true (show ([p] : List Int).getD 0 0 ≤ (rs.length : Int) from p1)]
    exact Bool.or_true _
theorem Half.of {rs : List (List Int)} {x : List Int} (h : halfB rs x = true) : Half rs x := by
  unfold halfB at h
  simp only [Bool.or_eq_true, Bool.and_eq_true, decide_eq_true_eq] at h
  rcases h with h | ⟨⟨l, p0⟩, p1⟩
  · exact .inl h
  · match x, l with
    | [p], _ => exact .inr ⟨p, rfl, p0, p1⟩
theorem hd_mem {xs : List Int} {z : Int} (h : z ∈ xs) : xs.getD 0 0 ∈ xs := by
  cases xs with
  | nil => cases h
  | cons x xs => exact List.mem_cons_self
theorem hd_le {xs : List Int} (u : xs.Pairwise (· < ·)) {z : Int} (h : z ∈ xs) : xs.getD 0 0 ≤ z := by
  cases xs with
  | nil => cases h
  | cons x xs =>
    rcases List.mem_cons.mp h with e | e
    · rw [e]
      exact Int.le_refl _
    · exact Int.le_of_lt ((List.pairwise_cons.mp u).1 z e)
theorem bin_parts {rs : List (List Int)} (up : ∀ r ∈ rs, r.Pairwise (· < ·)) (two : ∀ r ∈ rs, 2 ≤ r.length) (nice : ∀ a ∈ rs, ∀ b ∈ rs, Nice a b) {g a b : List Int} (hg : g ∈ rs) (c : Cut2 rs g a b) (low : g.getD 0 0 ∈ a) : firR rs g = a ∧ secR rs g = b := by
  have ua := c.ha.up up
  have ub := c.hb.up up
  have ug := up g hg
  have ag : ∀ z ∈ a, z ∈ g := fun z hz => (c.mem z).mpr (.inl hz)
  have ha0 : a.getD 0 0 = g.getD 0 0 := by
    have h1 := hd_le ua low
    have h2 := hd_le ug (ag _ (hd_mem low))
    omega
  obtain ⟨zb, hzb⟩ := c.hb.ne two
  have lt : a.length < g.length := by
    have : (zb :: a).length ≤ g.length := len_sub (List.nodup_cons.mpr ⟨fun q => c.dis _ q hzb, up_nodup ua⟩) fun w hw => by
      rcases List.mem_cons.mp hw with e | e
      · rw [e]
        exact (c.mem _).mpr (.inr hzb)
      · exact ag _ e
    rw [List.length_cons] at this
    omega
  have e1 : firR rs g = a := by
    refine firR_eq two ?_ fun r hr h1 h2 => ?_
    · rcases c.ha with h | ⟨p, rfl, _⟩
      · exact .inr ⟨h, ha0, lt⟩
      · refine .inl ?_
        rw [← ha0]
        rfl
    · have ur := up r hr
      have rne : r.getD 0 0 ∈ r := by
        have := two r hr
        cases r with
        | nil => exact absurd this (by decide)
        | cons x _ => exact List.mem_cons_self
      have gr : g.getD 0 0 ∈ r := by
        rw [← h1]
        exact rne
      have small : ¬ ∀ z ∈ g, z ∈ r := fun z => by
        have := len_sub (up_nodup ug) z
        omega
      have rg : ∀ z ∈ r, z ∈ g := by
        rcases nice r hr g hg with q | q | q
        · exact absurd (ag _ low) (q _ gr)
        · exact q
        · exact absurd q small
      have ra : ∀ z ∈ r, z ∈ a := by
        rcases c.hb.nice (nice r hr) with q | q | q
        · exact fun z hz => ((c.mem z).mp (rg z hz)).resolve_right (q z hz)
        · exact absurd (q _ gr) (c.dis _ low)
        · rcases c.ha.nice (nice r hr) with p | p | p
          · exact absurd low (p _ gr)
          · exact p
          · exact absurd (fun z hz => ((c.mem z).mp hz).elim (p z) (q z)) small
      exact ⟨len_sub (up_nodup ur) ra, fun e => up_same ur ua fun z => ⟨ra z, sub_back (up_nodup ur) ra (by omega) z⟩⟩
  refine ⟨e1, ?_⟩
  unfold secR
  rw [e1]
  refine up_same (ug.filter _) ub fun z => ?_
  rw [List.mem_filter, decide_eq_true_eq, c.mem]
  exact ⟨fun h => h.1.resolve_left h.2, fun h => ⟨.inr h, fun q => c.dis z q h⟩⟩
theorem hv_of {rs : List (List Int)} (up : ∀ r ∈ rs, r.Pairwise (· < ·)) (two : ∀ r ∈ rs, 2 ≤ r.length) (nice : ∀ a ∈ rs, ∀ b ∈ rs, Nice a b) (N : Bin rs) : hvB rs = true := by
  refine List.all_eq_true.mpr fun g hg => ?_
  obtain ⟨a, b, c⟩ := N g hg
  have main : ∀ a b, Cut2 rs g a b → g.getD 0 0 ∈ a → partsB rs g = true := fun a b c low => by
    obtain ⟨e1, e2⟩ := bin_parts up two nice hg c low
    have ag : ∀ z ∈ a, z ∈ g := fun z hz => (c.mem z).mpr (.inl hz)
    have bg : ∀ z ∈ b, z ∈ g := fun z hz => (c.mem z).mpr (.inr hz)
    have lt : ∀ x y : List Int, Half rs x → Half rs y → (∀ z ∈ x, z ∈ g) → (∀ z ∈ y, z ∈ g) → (∀ z ∈ x, z ∉ y) → x.length < g.length := fun x y hx hy xg yg dis => by
      obtain ⟨zb, hzb⟩ := hy.ne two
      have : (zb :: x).length ≤ g.length := len_sub (List.nodup_cons.mpr ⟨fun q => dis _ q hzb, up_nodup (hx.up up)⟩) fun w hw => by
        rcases List.mem_cons.mp hw with e | e
        · rw [e]
          exact yg _ hzb
        · exact xg _ e
      rw [List.length_cons] at this
      omega
    unfold partsB
    rw [e1, e2, c.ha.b, c.hb.b, decide_eq_true (lt a b c.ha c.hb ag bg c.dis), decide_eq_true (lt b a c.hb c.ha bg ag fun z p q => c.dis z q p)]
    rfl
  have gne : g.getD 0 0 ∈ g := by
    have := two g hg
    cases g with
    | nil => exact absurd this (by decide)
    | cons x _ => exact List.mem_cons_self
  rcases (c.mem _).mp gne with q | q
  · exact main a b c q
  · exact main b a c.swap q
theorem hv_fam {rs : List (List Int)} (F : Fam rs) (N : Bin rs) : hvB (sortB rs) = true := by
  have perm : (sortB rs).Perm rs := List.mergeSort_perm _ _
  have len : (sortB rs).length = rs.length := perm.length_eq
  have mem : ∀ r, r ∈ sortB rs ↔ r ∈ rs := fun r => perm.mem_iff
  have half : ∀ {x}, Half rs x → Half (sortB rs) x := fun {x} h => by
    rcases h with h | ⟨p, e, p0, p1⟩
    · exact .inl ((mem _).mpr h)
    · exact .inr ⟨p, e, p0, by rw [len]; exact p1⟩
  refine hv_of (fun r hr => F.up r ((mem r).mp hr)) (fun r hr => F.two r ((mem r).mp hr)) (fun a ha b hb => F.two_nice ((mem a).mp ha) ((mem b).mp hb)) fun g hg => ?_
  obtain ⟨a, b, c⟩ := N g ((mem g).mp hg)
  exact ⟨a, b, half c.ha, half c.hb, c.mem, c.dis⟩
end K35

namespace K35
open PySem PySem.Spec PyProof.Rows L2 SortR LcM RepA Held
abbrev sBoth : Stmt := top 38
abbrev sPbS : Stmt := top 39
structure PtF (K : PySem.W.Frag) (mg : Str → Option Value) extends FaF K mg where
  (fBoth fPbS : Addr)
  (dBoth dPbS : FuncData)
  FBoth : Fun K "both_parts" "both_parts" sBoth fBoth dBoth
  FPbS : Fun K "parts_by_size" "parts_by_size" sPbS fPbS dPbS
  gBoth : mg "both_parts" = some (.ref fBoth)
  gPbS : mg "parts_by_size" = some (.ref fPbS)
  bBoth : Binds K dBoth ["parting", "group"] []
  bPbS : Binds K dPbS ["parting"] []
/-- a new list of two new lists of ints -/
structure Two (H H' : Hp) (p q1 q2 : Addr) (x y : List Int) : Prop where
  top : H' p = some (.lst [.ref q1, .ref q2])
  e1 : H' q1 = some (.lst (x.map V.int))
  e2 : H' q2 = some (.lst (y.map V.int))
  np : H p = none
  n1 : H q1 = none
  n2 : H q2 = none
def spBoth (K : PySem.W.Frag) : Sp := fun vs H Q _ => ∃ (a b : Addr) (bs : List (Addr × List Int)) (g : List Int), vs = [.ref a, .ref b] ∧ Rw K H a bs ∧ SqL K H b (g.map V.int) ∧ g ≠ [] ∧ (∀ r ∈ bs.map (·.2), r ≠ []) ∧ g.length ≤ 1000 ∧ bs.length ≤ 1000 ∧
  ∀ (p q1 q2 : Addr) (H' : Hp), Grows H H' → Two H H' p q1 q2 (firR (bs.map (·.2)) g) (secR (bs.map (·.2)) g) → Q (.ref p) H'
theorem filt {α : Type} (d : α) (p : α → Bool) (cs : List α) : ((List.range cs.length).filter fun i => p (cs.getD i d)).map (fun i => cs.getD i d) = cs.filter p := by
  have e : (fun i => p (cs.getD i d)) = p ∘ (fun i => cs.getD i d) := rfl
  rw [e, ← List.filter_map]
  congr 1
  refine List.ext_getElem (by rw [List.length_map, List.length_range]) fun i h1 h2 => ?_
  rw [List.getElem_map, List.getElem_range, List.getD_eq_getElem?_getD, List.getElem?_eq_getElem h2]
  rfl
theorem at_head {r : List Int} (h : r ≠ []) : atI (r.map V.int) 0 = some (V.int (r.getD 0 0)) := by
  have pz : 0 < r.length := List.length_pos_iff.mpr h
  refine atI_nat (j := 0) ?_
  rw [List.getElem?_map, List.getD_eq_getElem?_getD, List.getElem?_eq_getElem pz]
  rfl
section
variable {P : Program} {w : World} {K : PySem.W.Frag} {mg : Str → Option Value} {base : Heap}
theorem scBoth : FnScope ["parting", "group", "first", "inner", "person"] ["parting", "group"] (defScope sBoth) := ⟨rfl, rfl, rfl, by decide +kernel, rfl, by decide +kernel, by decide +kernel⟩
theorem scPbS : FnScope ["parting", "parts", "person", "group", "part"] ["parting"] (defScope sPbS) := ⟨rfl, rfl, rfl, by decide +kernel, rfl, by decide +kernel, by decide +kernel⟩
theorem ok_both (T : TxtP mg) (Y : PtF K mg) : FnOk P w K mg base CX0 1 Y.fBoth Y.dBoth ["parting", "group"] (spBoth K) := by
  refine Y.FBoth.ok scBoth (fun vs H Q E h => ?_) (fun cdv A outer s H vs Q E hr h => ?_)
  · obtain ⟨a, b, bs, g, rfl, _⟩ := h
    rfl
  · obtain ⟨a, b, bs, g, rfl, hB, hb, hne, hrs, hgl, hbl, k⟩ := h
    refine ⟨_, (pss_cons (ps_set (i := 2) scBoth.nd rfl (.inr rfl) (pe_lst (pa_cons (pe_ix (r := rIxL K) ix_list (pv 1) pe_int (fun _ _ => rfl)) pa_nil)))
      (pss_cons (ps_for PassesOwn.never rfl (pi_list (pv 0)) (pg_name (i := 3) scBoth.nd rfl (.inl rfl))
      (pss_one (ps_if (PW.pt (pw_and (pt_cmpR op_eq (pe_ix (r := rIxL K) ix_list (pv 3) pe_int (fun _ _ => rfl)) (pe_ix (r := rIxL K) ix_list (pv 1) pe_int (fun _ _ => rfl)) (nomark _)) (pw_and1 (pt_chain op_lt op_lt (pe_callB call_len_seq (by rfl) T.len (by decide +kernel) (pa_cons (pv 2) pa_nil)) (pe_callB call_len_seq (by rfl) T.len (by decide +kernel) (pa_cons (pv 3) pa_nil)) (pe_callB call_len_seq (by rfl) T.len (by decide +kernel) (pa_cons (pv 1) pa_nil)))))) (pss_one (ps_set (i := 2) scBoth.nd rfl (.inr rfl) (pv 3))) pss_nil)))
      (pss_one (ps_ret (pe_lst (pa_cons (pe_callTy call_list_of (by rfl) T.list (by decide +kernel) (pa_cons (pv 2) pa_nil)) (pa_cons (pe_lc (own := [("person", 4)]) (g := gName 4)  rfl scBoth.nd (pi_list (pv 1)) (blkOk_by (own := [("person", 4)]) (N := ["parting", "group", "first", "inner", "person"]) (sc := defScope sBoth) (by decide +kernel)) (fun _ _ _ _ _ => pg_name (i := 4) scBoth.nd rfl (Or.inl rfl)) (fun _ _ _ _ _ => (pts_one (pt_cmpR (r := rIn K true) (by exact op_notIn_seq) (pv 4) (pv 2) (by rfl)))) (fun _ _ _ _ _ => (pv 4))) pa_nil))))))), ?_⟩
    refine ⟨_, rfl, b, _, 0, _, rfl, rfl, hb, at_head hne, (by show 1 ≤ sizeLine; decide), fun f0 hf0 => ?_⟩
    have g0 : Grows H (upd H f0 (.lst [V.int (g.getD 0 0)])) := Grows.new hf0
    refine ⟨_, rfl, a, rfl, ⟨_, (hB.keep g0).top⟩, for_list (K := K) (a := a) (xs := bs.map fun b => V.ref b.1) (fun i σ G => ∃ f o, σ = [some (.ref a), some (.ref b), some (.ref f), o, none] ∧ Grows H G ∧ SqL K G f ((firstN (bs.map (·.2)) g i).map V.int))
      ⟨f0, none, rfl, g0, SqL.of upd_same⟩ (fun i σ G _ ⟨_, _, _, g', _⟩ => (hB.keep g').top) (fun i x σ G hx ⟨f, o, e, g', ef⟩ => ?_) fun σ G ⟨f, o, e, g', ef⟩ => ?_⟩
    · subst e
      have il := (List.getElem?_eq_some_iff.mp hx).1
      rw [List.length_map] at il
      obtain rfl := at_map (d := (0, [])) hx
      have ei := (hB.keep g').at il
      have ne := hrs _ (mem_at il)
      have eb := g'.seq hb
      refine ⟨_, rfl, _, _, 0, _, rfl, rfl, ei, at_head ne, _, rfl, b, _, 0, _, rfl, rfl, eb, at_head hne, rfl, _, rfl, ?_⟩
      have same : ¬ ((bs.getD i (0, [])).2.getD 0 0 = g.getD 0 0 ∧ (firstN (bs.map (·.2)) g i).length < (bs.getD i (0, [])).2.length ∧ (bs.getD i (0, [])).2.length < g.length) → firstN (bs.map (·.2)) g (i + 1) = firstN (bs.map (·.2)) g i := fun z => by
        show (if _ then _ else _) = _
        rw [snd_at]
        exact if_neg z
      by_cases h1 : (bs.getD i (0, [])).2.getD 0 0 = g.getD 0 0
      · rw [decide_eq_true (congrArg V.int h1)]
        refine iteT ⟨_, rfl, f, _, rfl, .inl ef, _, rfl, _, _, rfl, .inl ei, _, _, rfl, rfl, _, rfl, ?_⟩
        rw [List.length_map, List.length_map]
        by_cases h2 : (firstN (bs.map (·.2)) g i).length < (bs.getD i (0, [])).2.length
        · rw [if_pos (decide_eq_true (show (((firstN (bs.map (·.2)) g i).length : Nat) : Int) < ((bs.getD i (0, [])).2.length : Nat) by omega))]
          refine ⟨_, rfl, b, _, rfl, .inl eb, _, _, rfl, rfl, _, rfl, ?_⟩
          rw [List.length_map]
          by_cases h3 : (bs.getD i (0, [])).2.length < g.length
          · rw [decide_eq_true (show (((bs.getD i (0, [])).2.length : Nat) : Int) < (g.length : Nat) by omega)]
            refine iteT ⟨_, rfl, _, _, rfl, g', ?_⟩
            have e : firstN (bs.map (·.2)) g (i + 1) = (bs.getD i (0, [])).2 := by
              show (if _ then _ else _) = _
              rw [snd_at]
              exact if_pos ⟨h1, h2, h3⟩
            rw [e]
            exact ei
          · rw [decide_eq_false (show ¬ (((bs.getD i (0, [])).2.length : Nat) : Int) < (g.length : Nat) by omega)]
            exact iteF ⟨f, _, rfl, g', by rw [same fun z => h3 z.2.2]; exact ef⟩
        · rw [if_neg (by rw [decide_eq_false (show ¬ (((firstN (bs.map (·.2)) g i).length : Nat) : Int) < ((bs.getD i (0, [])).2.length : Nat) by omega)]; exact Bool.false_ne_true)]
          refine ⟨_, rfl, iteF ⟨f, _, rfl, g', by rw [same fun z => h2 z.2.1]; exact ef⟩⟩
      · rw [decide_eq_false fun z => h1 (V.int.inj z)]
        exact iteF (iteF ⟨f, _, rfl, g', by rw [same fun z => h1 z.1]; exact ef⟩)
    · subst e
      rw [List.length_map, show firstN (bs.map (·.2)) g bs.length = firR (bs.map (·.2)) g by unfold firR; rw [List.length_map]] at ef
      have eb := g'.seq hb
      refine ⟨_, rfl, f, _, rfl, .inl ef, fun q1 hq1 => ?_⟩
      have g1 : Grows G (upd G q1 (.lst ((firR (bs.map (·.2)) g).map V.int))) := Grows.new hq1
      have eq1 : (upd G q1 (.lst ((firR (bs.map (·.2)) g).map V.int))) q1 = some (.lst ((firR (bs.map (·.2)) g).map V.int)) := upd_same
      refine ⟨_, rfl, b, rfl, ⟨_, g1.seq eb⟩, fun D hD => lc_listT (K := K) (fun i => decide (g.getD i 0 ∉ firR (bs.map (·.2)) g)) (fun i => V.int (g.getD i 0)) hD (g1.seq eb) (by rw [List.length_map]; omega) (fun i x G2 Ry Rn hx sm ky kn => ?_) fun G2 sm eD => ?_⟩
      · obtain rfl := at_map (d := 0) hx
        refine ⟨rfl, _, rfl, _, rfl, f, _, rfl, .inl ((g1.trans sm).seq ef), rfl, flat_ints _, _, rfl, ?_⟩
        show if (!inV (V.int (g.getD i 0)) ((firR (bs.map (·.2)) g).map V.int)) = true then _ else _
        rw [inV_ints]
        by_cases m : g.getD i 0 ∈ firR (bs.map (·.2)) g
        · rw [decide_eq_true m]
          exact iteF (kn (decide_eq_false fun z => z m) _ .refl)
        · rw [decide_eq_false m]
          exact iteT ⟨_, rfl, ky (decide_eq_true m) _ .refl⟩
      · rw [List.length_map] at eD
        have ek : kept (fun i => decide (g.getD i 0 ∉ firR (bs.map (·.2)) g)) (fun i => V.int (g.getD i 0)) g.length = (secR (bs.map (·.2)) g).map V.int := by
          unfold kept secR
          rw [← filt 0 (fun x => decide (x ∉ firR (bs.map (·.2)) g)) g, List.map_map]
          rfl
        rw [ek] at eD
        refine ⟨(by show 2 ≤ sizeLine; decide), fun p hp => ?_⟩
        have gp : Grows G2 (upd G2 p (.lst [V.ref q1, V.ref D])) := Grows.new hp
        have gall := ((g'.trans g1).trans sm).trans gp
        have e1p := sm _ _ eq1
        exact k p q1 D _ gall ⟨upd_same, gp _ _ e1p, gp _ _ eD, none_back ((g'.trans g1).trans sm) hp, none_back g' hq1, none_back (g'.trans g1) hD⟩
end
end K35

namespace K35
open PySem PySem.Spec PyProof.Rows L2 SortR LcM RepA Held
/-! ### the dict of all parts -/
def keyI (m : List Int) : List L2.Key := m.map Sum.inl
theorem keyI_V (m : List Int) : (keyI m).map kV = m.map V.int := by
  unfold keyI
  rw [List.map_map]
  rfl
theorem keyI_inj {m n : List Int} (h : keyI m = keyI n) : m = n := inl_inj h
/-- what stands for the part's halves: nothing, or two tuples that stand ahead -/
def HalfV (H : Hp) (ms : List (List Int)) (i : Nat) (v : V) : Prop := ∃ z, v = .ref z ∧ (H z = some (.tup []) ∨ ∃ z1 z2 i1 i2, H z = some (.tup [.ref z1, .ref z2]) ∧ i1 < i ∧ i2 < i ∧ H z1 = some (.tup ((ms.getD i1 []).map V.int)) ∧ H z2 = some (.tup ((ms.getD i2 []).map V.int)))
structure PbS (H : Hp) (ms : List (List Int)) (kvs : List (List L2.Key × V)) : Prop where
  keys : kvs.map (·.1) = ms.map keyI
  ne : ∀ m ∈ ms, m ≠ []
  vals : ∀ i k v, kvs[i]? = some (k, v) → HalfV H ms i v
theorem PbS.len {H : Hp} {ms : List (List Int)} {kvs : List (List L2.Key × V)} (p : PbS H ms kvs) : kvs.length = ms.length := by
  have := congrArg List.length p.keys
  rwa [List.length_map, List.length_map] at this
theorem HalfV.keep {H H' : Hp} {ms ns : List (List Int)} {i : Nat} {v : V} (t : ∀ b xs, H b = some (.tup xs) → H' b = some (.tup xs)) (l : i ≤ ms.length) (h : HalfV H ms i v) : HalfV H' (ms ++ ns) i v := by
  obtain ⟨z, e, h⟩ := h
  refine ⟨z, e, h.elim (fun q => .inl (t _ _ q)) fun ⟨z1, z2, i1, i2, q, l1, l2, q1, q2⟩ => .inr ⟨z1, z2, i1, i2, t _ _ q, l1, l2, ?_, ?_⟩⟩
  · rw [List.getD_eq_getElem?_getD, List.getElem?_append_left (by omega), ← List.getD_eq_getElem?_getD]
    exact t _ _ q1
  · rw [List.getD_eq_getElem?_getD, List.getElem?_append_left (by omega), ← List.getD_eq_getElem?_getD]
    exact t _ _ q2
theorem put_new {kvs : List (List L2.Key × V)} {k : List L2.Key} {v : V} (h : k ∉ kvs.map (·.1)) : putK kvs k v = kvs ++ [(k, v)] := by
  unfold putK
  rw [if_neg fun z => ?_]
  obtain ⟨kv, m, e⟩ := List.any_eq_true.mp z
  exact h (List.mem_map.mpr ⟨kv, m, of_decide_eq_true e⟩)
theorem PbS.add {H H' : Hp} {ms : List (List Int)} {kvs : List (List L2.Key × V)} {m : List Int} {v : V} (p : PbS H ms kvs) (t : ∀ b xs, H b = some (.tup xs) → H' b = some (.tup xs)) (new : m ∉ ms) (ne : m ≠ []) (hv : HalfV H' (ms ++ [m]) ms.length v) : PbS H' (ms ++ [m]) (putK kvs (keyI m) v) := by
  have nk : keyI m ∉ kvs.map (·.1) := fun z => by
    rw [p.keys] at z
    obtain ⟨n, hn, e⟩ := List.mem_map.mp z
    rw [keyI_inj e] at hn
    exact new hn
  rw [put_new nk]
  refine ⟨by rw [List.map_append, p.keys, List.map_append]; rfl, fun x hx => ?_, fun i k u e => ?_⟩
  · rcases List.mem_append.mp hx with q | q
    · exact p.ne x q
    · rw [List.mem_singleton.mp q]
      exact ne
  · rcases Nat.lt_or_ge i kvs.length with l | l
    · rw [List.getElem?_append_left l] at e
      exact (p.vals i k u e).keep t (by rw [← p.len]; omega)
    · rw [List.getElem?_append_right l] at e
      have z : i - kvs.length = 0 := by
        have := (List.getElem?_eq_some_iff.mp e).1
        rw [List.length_singleton] at this
        omega
      rw [z, List.getElem?_cons_zero] at e
      have ei : i = ms.length := by
        have := p.len
        omega
      cases e
      rw [ei]
      exact hv
theorem PbS.keep {H H' : Hp} {ms : List (List Int)} {kvs : List (List L2.Key × V)} (p : PbS H ms kvs) (t : ∀ b xs, H b = some (.tup xs) → H' b = some (.tup xs)) : PbS H' ms kvs :=
  ⟨p.keys, p.ne, fun i k v e => by
    have l := (List.getElem?_eq_some_iff.mp e).1
    have q := (p.vals i k v e).keep (ns := []) t (by rw [← p.len]; omega)
    rwa [List.append_nil] at q⟩
/-- one person each -/
def singles (n : Nat) : List (List Int) := (List.range n).map fun p : Nat => [(p : Int)]
theorem singles_more (n : Nat) : singles (n + 1) = singles n ++ [[(n : Int)]] := by
  unfold singles
  rw [List.range_succ, List.map_append]
  rfl
theorem singles_mem {n : Nat} {m : List Int} (h : m ∈ singles n) : ∃ p : Nat, p < n ∧ m = [(p : Int)] := by
  obtain ⟨p, hp, e⟩ := List.mem_map.mp h
  exact ⟨p, List.mem_range.mp hp, e.symm⟩
theorem singles_at {n p : Nat} (h : p < n) : (singles n)[p]? = some [(p : Int)] := by
  unfold singles
  rw [List.getElem?_map, List.getElem?_range h]
  rfl
/-- a new dict of all parts, those within ahead -/
def spPbS (K : PySem.W.Frag) : Sp := fun vs H Q _ => ∃ (a : Addr) (bs : List (Addr × List Int)), vs = [.ref a] ∧ Rw K H a bs ∧ Sz (bs.map (·.2)) ∧ isP (bs.map (·.2)) = true ∧ hvB (bs.map (·.2)) = true ∧
  ∀ (d : Addr) (ms : List (List Int)) (kvs : List (List L2.Key × V)) (H' : Hp), Grows H H' → H d = none → H' d = some (.dT kvs) → PbS H' ms kvs → ms.Nodup → ms.length ≤ 100 → Q (.ref d) H'
theorem at_half {rs : List (List Int)} {x : List Int} (h : halfB rs x = true) {cs : List (List Int)} (pm : cs.Perm rs) (up : cs.Pairwise fun x y => x.length ≤ y.length) {i : Nat} (hi : i < cs.length) (l : x.length < (cs.getD i []).length) :
    ∃ j, j < rs.length + 1 + i ∧ (singles (rs.length + 1) ++ cs.take i)[j]? = some x := by
  rcases Half.of h with m | ⟨p, rfl, p0, p1⟩
  · obtain ⟨j, hj, e⟩ := List.getElem_of_mem (pm.mem_iff.mpr m)
    have ji : j < i := by
      rcases Nat.lt_or_ge j i with z | z
      · exact z
      · have gi : cs.getD i [] = cs[i] := by rw [List.getD_eq_getElem?_getD, List.getElem?_eq_getElem hi]; rfl
        rcases Nat.lt_or_ge i j with q | q
        · have := List.pairwise_iff_getElem.mp up i j hi hj q
          rw [gi] at l
          rw [e] at this
          omega
        · have ej : j = i := by omega
          subst ej
          rw [gi, e] at l
          omega
    refine ⟨rs.length + 1 + j, by omega, ?_⟩
    have ls : (singles (rs.length + 1)).length = rs.length + 1 := by
      unfold singles
      rw [List.length_map, List.length_range]
    rw [List.getElem?_append_right (by omega), ls, show rs.length + 1 + j - (rs.length + 1) = j by omega, List.getElem?_take_of_lt ji, List.getElem?_eq_getElem hj, e]
  · refine ⟨p.toNat, by omega, ?_⟩
    have ls : (singles (rs.length + 1)).length = rs.length + 1 := by
      unfold singles
      rw [List.length_map, List.length_range]
    rw [List.getElem?_append_left (by omega), singles_at (by omega)]
    congr 2
    omega
section
variable {P : Program} {w : World} {K : PySem.W.Frag} {mg : Str → Option Value} {base : Heap}
theorem ok_pbs (T : TxtP mg) (U : PtF K mg) : FnOk P w K mg base CX0 2 U.fPbS U.dPbS ["parting"] (spPbS K) := by
  have GBoth : FnOk P w K mg base CX0 1 U.fBoth U.dBoth ["parting", "group"] (spBoth K) := ok_both T U
  refine U.FPbS.ok scPbS (fun vs H Q E h => ?_) (fun cdv A outer s H vs Q E hr h => ?_)
  · obtain ⟨a, bs, rfl, _⟩ := h
    rfl
  · obtain ⟨a, bs, rfl, hB, hz, hp, hv, k⟩ := h
    refine ⟨_, (pss_cons (DcT.ps_setDcT (i := 1) (own := [("person", 2)]) (g := gName 2) (tt := tYes) (by exact hr.units) rfl scPbS.nd rfl rfl (DcT.sw_dict rfl rfl rfl (by decide +kernel)) (pi_range1 (by rfl) T.range (pa_cons (pe_op op_add (pe_callB call_len_seq (by rfl) T.len (by decide +kernel) (pa_cons (pv 0) pa_nil)) pe_int) pa_nil)) (blkOk_by (own := [("person", 2)]) (N := ["parting", "parts", "person", "group", "part"]) (sc := defScope sPbS) (by decide +kernel)) (fun _ _ _ _ _ => pg_name (i := 2) scPbS.nd rfl (Or.inl rfl)) (fun _ _ _ _ _ => pts_nil) (fun _ _ _ _ _ => pe_tup (pa_cons (pv 2) pa_nil)) (fun _ _ _ _ _ => pe_tup pa_nil))
      (pss_cons (ps_for PassesOwn.never rfl (pi_list (pe_sortLen rfl (by rfl) T.sorted (by rfl) T.len (pv 0))) (pg_name (i := 3) scPbS.nd rfl (.inl rfl))
      (pss_one (ps_dput (hu_of hr) (pv 1) (pe_callTy (T := "tuple") (r := rTup K) (by exact call_tupK) (by rfl) T.tuple (by decide +kernel) (pa_cons (pv 3) pa_nil)) (pe_callTy (T := "tuple") (r := rTup K) (by exact call_tupK) (by rfl) T.tuple (by decide +kernel) (pa_cons (pe_lc (own := [("part", 4)]) (g := gName 4) (tt := tYes) rfl scPbS.nd (pi_list (pe_call GBoth (hr.mono (by decide)) rfl U.gBoth U.FBoth.kp U.bBoth .nil pass0 (pa_cons (pv 0) (pa_cons (pv 3) pa_nil)))) (blkOk_by (own := [("part", 4)]) (N := ["parting", "parts", "person", "group", "part"]) (sc := defScope sPbS) (by decide +kernel)) (fun _ _ _ _ _ => pg_name (i := 4) scPbS.nd rfl (Or.inl rfl)) (fun _ _ _ _ _ => pts_nil) (fun _ _ _ _ _ => (pe_callTy (T := "tuple") (r := rTup K) (by exact call_tupK) (by rfl) T.tuple (by decide +kernel) (pa_cons (pv 4) pa_nil)))) pa_nil)) rfl)))
      (pss_one (ps_ret (pv 1))))), ?_⟩
    obtain ⟨few, grp, nd⟩ := isP_all hp
    rw [List.length_map] at few
    refine ⟨_, rfl, a, _, rfl, .inl hB.top, _, _, rfl, rfl, ?_⟩
    obtain ⟨n, en⟩ : ∃ n : Nat, n = ((((bs.map fun b => V.ref b.1).length : Nat) : Int) + 1).toNat := ⟨_, rfl⟩
    have en2 : n = bs.length + 1 := by
      rw [en, List.length_map]
      omega
    refine ⟨_, rfl, by rw [List.length_map]; omega, by rw [List.length_map]; omega, fun D hD => ?_⟩
    have tk : ∀ {G : Hp} {u : HO} {kvs : List (List L2.Key × V)}, G D = some (.dT kvs) → ∀ b xs, G b = some (.tup xs) → upd G D u b = some (.tup xs) := fun {G u kvs} e b xs eb => by
      rw [upd_ne fun z => by rw [z, e] at eb; cases eb]
      exact eb
    have gD : ∀ {G : Hp} {u : HO}, Grows H G → Grows H (upd G D u) := fun {G u} g b o eb => by
      rw [upd_ne (ne_of_none eb hD)]
      exact g _ _ eb
    refine dc_rangeT (lo := 0) (n := _) (fun i G => Grows H G ∧ ∃ kvs, G D = some (.dT kvs) ∧ PbS G (singles i) kvs) ⟨Grows.new hD, [], upd_same, rfl, (fun _ z => nomatch z), fun i k v z => nomatch z⟩ (fun i G hi ⟨gg, kvs, eD, pb⟩ => ?_) fun G ⟨gg, kvs, eD, pb⟩ => ?_
    · refine ⟨rfl, ?_⟩
      unfold tYes
      dsimp only
      rw [if_pos rfl]
      refine ⟨_, rfl, (by show 1 ≤ sizeLine; decide), fun t ht => ⟨(by show 0 ≤ sizeLine; decide), fun z hz => ?_⟩⟩
      have g1 := Grows.new (o := .tup [V.int (0 + (i : Int))]) ht
      have g2 := g1.trans (Grows.new (o := .tup []) hz)
      have l2 : i < 100 := by rw [← en] at hi; omega
      have lk : kvs.length = i := by
        rw [pb.len]
        unfold singles
        rw [List.length_map, List.length_range]
      have at_D := g2 _ _ eD
      refine ⟨t, kvs, keyI [(i : Int)], rfl, ?_, at_D, ?_, gD (gg.trans g2), _, upd_same, ?_⟩
      · rw [keyI_V, upd_ne (fun q => by rw [← q, upd_same] at hz; cases hz), upd_same, Int.zero_add]
        rfl
      · rw [lk]
        exact Nat.lt_of_lt_of_le l2 (by decide)
      · rw [singles_more]
        refine pb.add (fun b xs eb => tk at_D b xs (g2 _ _ eb)) (fun m => ?_) (fun e => nomatch e) ⟨z, rfl, .inl (tk at_D _ _ upd_same)⟩
        obtain ⟨p, lp, e⟩ := singles_mem m
        have := List.cons.inj e
        omega
    · rw [← en, en2] at pb
      have gl : ∀ b ∈ bs, 2 ≤ b.2.length := fun b hb => by
        have g := grp b.2 (List.mem_map.mpr ⟨b, hb, rfl⟩)
        unfold group at g
        rw [Bool.and_eq_true] at g
        have := of_decide_eq_true g.2
        omega
      have allne : ∀ r ∈ bs.map (·.2), r ≠ [] := fun r hr e => by
        obtain ⟨b, hb, rfl⟩ := List.mem_map.mp hr
        have := gl b hb
        rw [e] at this
        exact absurd this (by decide)
      refine ⟨_, rfl, a, bs, rfl, (hB.keep gg).top, (hB.keep gg).each, by omega, fun cs p pm srt hp0 => ?_⟩
      have pD : p ≠ D := fun z => by
        rw [z, eD] at hp0
        cases hp0
      obtain ⟨G1, eG1⟩ : ∃ G1, G1 = upd G p (.lst (cs.map fun b => V.ref b.1)) := ⟨_, rfl⟩
      have g01 : Grows G G1 := by
        rw [eG1]
        exact Grows.new hp0
      have at_p : G1 p = some (.lst (cs.map fun b => V.ref b.1)) := by
        rw [eG1]
        exact upd_same
      rw [← eG1]
      have pm2 : (cs.map (·.2)).Perm (bs.map (·.2)) := pm.map _
      have nd2 : (cs.map (·.2)).Nodup := pm2.nodup_iff.mpr nd
      have srt2 : (cs.map (·.2)).Pairwise fun x y => x.length ≤ y.length := by
        rw [List.pairwise_map]
        exact srt
      have cl : cs.length = bs.length := pm.length_eq
      have disj : ∀ r ∈ cs.map (·.2), r ∉ singles (bs.length + 1) := fun r hr z => by
        obtain ⟨b, hb, rfl⟩ := List.mem_map.mp hr
        have := gl b (pm.mem_iff.mp hb)
        obtain ⟨q, _, e⟩ := singles_mem z
        rw [e] at this
        exact absurd this (by show ¬ 2 ≤ 1; decide)
      refine ⟨p, rfl, ⟨_, SqL.of at_p⟩, for_list (K := K) (a := p) (xs := cs.map fun b => V.ref b.1) (fun i σ G2 => ∃ o kvs2, σ = [some (.ref a), some (.ref D), none, o, none] ∧ Grows H G2 ∧ (∀ b u, b ≠ D → G1 b = some u → G2 b = some u) ∧ G2 D = some (.dT kvs2) ∧ PbS G2 (singles (bs.length + 1) ++ (cs.map (·.2)).take i) kvs2)
        ⟨none, kvs, rfl, gg.trans g01, fun _ _ _ e => e, g01 _ _ eD, by rw [List.take_zero, List.append_nil]; exact pb.keep fun b xs e => g01 _ _ e⟩ (fun i σ G2 _ ⟨o, kvs2, e, g2, kp, e2, pb2⟩ => SqL.of (kp _ _ pD at_p)) (fun i x σ G2 hx ⟨o, kvs2, e, g2, kp, e2, pb2⟩ => ?_) fun σ G2 ⟨o, kvs2, e, g2, kp, e2, pb2⟩ => ?_⟩
      · subst e
        have il := (List.getElem?_eq_some_iff.mp hx).1
        rw [List.length_map] at il
        obtain rfl := at_map (d := (0, [])) hx
        obtain ⟨b, eb⟩ : ∃ b, b = cs.getD i (0, []) := ⟨_, rfl⟩
        rw [← eb]
        have ebi : cs[i]? = some b := by
          rw [eb, List.getD_eq_getElem?_getD, List.getElem?_eq_getElem il]
          rfl
        have mc : b ∈ cs := List.mem_of_getElem? ebi
        have mb : b ∈ bs := pm.mem_iff.mp mc
        have sb : SqL K H b.1 (b.2.map V.int) := hB.each b mb
        have rb : b.2 ∈ bs.map (·.2) := List.mem_map.mpr ⟨b, mb, rfl⟩
        have pbB : partsB (bs.map (·.2)) b.2 = true := List.all_eq_true.mp hv _ rb
        unfold partsB at pbB
        simp only [Bool.and_eq_true, decide_eq_true_eq] at pbB
        obtain ⟨⟨⟨hf1, hs1⟩, lf⟩, ls⟩ := pbB
        refine ⟨_, rfl, _, rfl, a, b.1, bs, b.2, rfl, hB.keep g2, g2.seq sb, allne _ rb, allne, hz.2 _ rb, by omega, fun pp q1 q2 G3 g3 two => ⟨pp, rfl, ⟨_, SqL.of two.top⟩, fun D2 hD2 => ?_⟩⟩
        refine lc_listX (K := K) (fun j y G => ∃ q, y = .ref q ∧ G q = some (.tup ((if j = 0 then firR (bs.map (·.2)) b.2 else secR (bs.map (·.2)) b.2).map V.int))) (fun j y Ha Hb g ⟨q, e1, e2⟩ => ⟨q, e1, g _ _ e2⟩) (fun j y Ha zs ⟨q, e1, e2⟩ e3 u => ⟨q, e1, by rw [upd_ne (fun z => by rw [z, e3] at e2; cases e2)]; exact e2⟩) hD2 (SqL.of two.top) (by show 2 ≤ 1000000; decide) (fun j x Ga Rk hx gr _ kR => ?_) fun G4 ys mx => ?_
        · match j, hx with
          | 0, hx =>
            cases hx
            exact ⟨rfl, _, rfl, q1, _, rfl, SqL.of (gr _ _ two.e1), fun t ht => kR _ _ (Grows.new ht) ⟨t, rfl, upd_same⟩⟩
          | 1, hx =>
            cases hx
            exact ⟨rfl, _, rfl, q2, _, rfl, SqL.of (gr _ _ two.e2), fun t ht => kR _ _ (Grows.new ht) ⟨t, rfl, upd_same⟩⟩
          | j + 2, hx => cases hx
        · refine ⟨D2, ys, rfl, SqL.of mx.top, fun t ht => ?_⟩
          have g4 := mx.grow
          have g24 := g3.trans g4
          have gt := Grows.new (o := .tup ys) ht
          have gall := g24.trans gt
          refine ⟨_, rfl, _, rfl, b.1, _, rfl, (g2.trans gall).seq sb, fun t2 ht2 => ?_⟩
          have gt2 := Grows.new (o := .tup (b.2.map V.int)) ht2
          have gfin := gall.trans gt2
          have at_D := gfin _ _ e2
          have len2 : kvs2.length ≤ 100 := by
            rw [pb2.len, List.length_append, List.length_take]
            unfold singles
            rw [List.length_map, List.length_range]
            omega
          refine ⟨D, _, rfl, DPut.t (k := keyI b.2) at_D (by rw [keyI_V]; exact upd_same) (Nat.lt_of_le_of_lt len2 (by decide)), ?_⟩
          have tk2 := tk (u := .dT (putK kvs2 (keyI b.2) (.ref t))) at_D
          refine ⟨_, _, rfl, gD (g2.trans gfin), fun b' u ne e => by rw [upd_ne ne]; exact gfin _ _ (kp _ _ ne e), upd_same, ?_⟩
          have lys : ys.length = 2 := mx.len
          obtain ⟨y0, y1, eys⟩ : ∃ y0 y1, ys = [y0, y1] := by
            match ys, lys with
            | [y0, y1], _ => exact ⟨y0, y1, rfl⟩
          obtain ⟨z1, ez1, tz1⟩ := mx.rel 0 y0 (by rw [eys]; rfl)
          obtain ⟨z2, ez2, tz2⟩ := mx.rel 1 y1 (by rw [eys]; rfl)
          rw [if_pos rfl] at tz1
          rw [if_neg (by decide)] at tz2
          have gi : (cs.map (·.2)).getD i [] = b.2 := by
            rw [List.getD_eq_getElem?_getD, List.getElem?_map, ebi]
            rfl
          have hci : i < (cs.map (·.2)).length := by rw [List.length_map]; exact il
          obtain ⟨i1, l1, a1⟩ := at_half hf1 pm2 srt2 hci (by rw [gi]; exact lf)
          obtain ⟨i2, l2, a2⟩ := at_half hs1 pm2 srt2 hci (by rw [gi]; exact ls)
          rw [List.length_map] at l1 l2 a1 a2
          have lms : (singles (bs.length + 1) ++ (cs.map (·.2)).take i).length = bs.length + 1 + i := by
            rw [List.length_append, List.length_take]
            unfold singles
            rw [List.length_map, List.length_range, List.length_map]
            omega
          have es : singles (bs.length + 1) ++ (cs.map (·.2)).take (i + 1) = (singles (bs.length + 1) ++ (cs.map (·.2)).take i) ++ [b.2] := by
            rw [List.take_succ, List.getElem?_map, ebi, List.append_assoc]
            rfl
          rw [es]
          have at_ms : ∀ {j : Nat} {x : List Int}, (singles (bs.length + 1) ++ (cs.map (·.2)).take i)[j]? = some x → ((singles (bs.length + 1) ++ (cs.map (·.2)).take i) ++ [b.2]).getD j [] = x := fun {j x} e => by
            rw [List.getD_eq_getElem?_getD, List.getElem?_append_left (List.getElem?_eq_some_iff.mp e).1, e]
            rfl
          refine pb2.add (fun b xs eb => tk2 b xs (gfin _ _ eb)) (fun m => ?_) (allne _ rb) ⟨t, rfl, .inr ⟨z1, z2, i1, i2, ?_, by rw [lms]; exact l1, by rw [lms]; exact l2, ?_, ?_⟩⟩
          · rcases List.mem_append.mp m with q | q
            · exact disj _ (pm2.mem_iff.mpr rb) q
            · have q0 : i < (cs.map (·.2)).length := hci
              obtain ⟨j, hj, e⟩ := List.getElem_of_mem q
              rw [List.length_take] at hj
              rw [List.getElem_take] at e
              have gi2 : (cs.map (·.2))[i] = b.2 := by
                rw [List.getD_eq_getElem?_getD, List.getElem?_eq_getElem hci] at gi
                exact gi
              have := (List.nodup_iff_pairwise_ne.mp nd2)
              exact List.pairwise_iff_getElem.mp this j i (by omega) hci (by omega) (e.trans gi2.symm)
          · refine tk2 _ _ (gt2 _ _ ?_)
            rw [upd_same, eys, ez1, ez2]
          · rw [at_ms a1]
            exact tk2 _ _ (gt2 _ _ (gt _ _ tz1))
          · rw [at_ms a2]
            exact tk2 _ _ (gt2 _ _ (gt _ _ tz2))
      · subst e
        refine ⟨_, rfl, ?_⟩
        rw [List.length_map, List.take_of_length_le (by rw [List.length_map]; omega)] at pb2
        refine k D _ kvs2 _ g2 hD e2 pb2 ?_ ?_
        · refine List.nodup_append.mpr ⟨?_, nd2, fun x hx y hy e => disj y hy (by rw [← e]; exact hx)⟩
          unfold singles
          rw [List.nodup_iff_pairwise_ne, List.pairwise_map]
          exact List.nodup_range.imp fun {x y} h e => h (by have := (List.cons.inj e).1; omega)
        · rw [List.length_append, List.length_map]
          unfold singles
          rw [List.length_map, List.length_range]
          omega
end
end K35

namespace K35
open PySem PySem.Spec PyProof.Rows L2 SortR LcM RepA Held
abbrev sChg : Stmt := top 45
structure ChgF (K : PySem.W.Frag) (mg : Str → Option Value) extends PtF K mg where
  fChg : Addr
  dChg : FuncData
  FChg : Fun K "changes_of" "changes_of" sChg fChg dChg
  gChg : mg "changes_of" = some (.ref fChg)
  bChg : Binds K dChg ["parting", "some"] []
  (markT unmT : Tok)
  gMarked : mg "MARKED" = some (.int 2 markT)
  gUnmarked : mg "UNMARKED" = some (.int 1 unmT)
/-- what is no ascending list of some of n persons -/
def NoPL (K : PySem.W.Frag) (n : Int) (H : Hp) (x : L2.V) : Prop := (∃ d, Dd K H x d ∧ Lim d ∧ plistD n d = false) ∨ ∃ t, TyX K H x t ∧ PySem.W.kitOne K t (.type "list") = some false
/-- no parting; or one, and no list of its persons; or all is well -/
def spChg (K : PySem.W.Frag) (c : List Addr) : Sp := fun vs H Q E => ∃ (x y : L2.V), vs = [x, y] ∧ ((NoP K H x ∧ Rz c H E 5) ∨
  ∃ (a : Addr) (bs : List (Addr × List Int)), x = .ref a ∧ Rw K H a bs ∧ Sz (bs.map (·.2)) ∧ isP (bs.map (·.2)) = true ∧ hvB (bs.map (·.2)) = true ∧
    (((∀ H', Grows H H' → NoPL K ((bs.length : Int) + 1) H' y) ∧ Rz c H E 3) ∨ ((∃ d, Dd K H y d ∧ Lim d ∧ plistD ((bs.length : Int) + 1) d = true) ∧ ∀ v H', Grows H H' → Q v H')))
theorem plist_list {n : Int} {d : PyData} (h : plistD n d = true) : ∃ ds, d = .list ds ∧ (∀ e ∈ ds, e = .int (toI e)) := by
  cases d with
  | list ds =>
    refine ⟨ds, rfl, fun e he => ?_⟩
    rw [plistD_list] at h
    simp only [Bool.and_eq_true] at h
    exact pers_int (List.all_eq_true.mp h.1 e he)
  | _ => cases h
theorem shaped_none : SeqAt.shaped (PyData.tuple []) = true := by decide +kernel
theorem shaped_halves (m n : List Int) : SeqAt.shaped (PyData.tuple [.tuple (m.map .int), .tuple (n.map .int)]) = true := by
  unfold SeqAt.shaped
  simp only [PyData.canLay0, PyData.canLayAll0, lay_ints, PyData.depth, PyData.depthAll, PySem.W.depth_ints]
  decide
section
variable {P : Program} {w : World} {K : PySem.W.Frag} {mg : Str → Option Value} {base : Heap} {c : List Addr} {pe : Addr}
theorem dp_ints {H : Hp} (ns : List Int) : DpAll K H (ns.map V.int) (ns.map .int) := by
  induction ns with
  | nil => exact .nil
  | cons n ns ih => exact .cons (.int n) ih
theorem scChg : FnScope ["parting", "some", "changes", "marks", "part", "halves"] ["parting", "some"] (defScope sChg) := ⟨rfl, rfl, rfl, by decide +kernel, rfl, by decide +kernel, by decide +kernel⟩
theorem ok_chg (Z : ProgF K mg) (T : TxtP mg) (U : ChgF K mg) (V : TxtE K mg c pe) : FnOk P w K mg base (L2N.CX P w) 7 U.fChg U.dChg ["parting", "some"] (spChg K c) := by
  have GPs := ok_psX (P := P) (w := w) (base := base) Z T V
  have GPbS := ok_pbs (P := P) (w := w) (base := base) T U.toPtF
  have GPL : FnOk P w K mg base CX0 3 Z.fPL Z.dPL ["thing", "persons"] (fun vs H Q E => spPLD K plistD vs H Q E ∨ spNL K vs H Q E) := fn_or (ok_plistD Z T) (ok_plN Z T)
  refine U.FChg.okN scChg (fun vs H Q E h => ?_) (fun cdv A outer s H vs Q E hr h => ?_)
  · obtain ⟨x, y, rfl, _⟩ := h
    rfl
  · obtain ⟨x, y, rfl, h⟩ := h
    refine ⟨_, (pss_cons (ps_if (pt_not (pt_val (pe_call GPL (hr.mono (by decide)) rfl Z.gPL Z.FPL.kp Z.bPL .nil pass0 (pa_cons (pv 1) (pa_cons (pe_callS GPs (hr.mono (by decide)) rfl Z.gPs Z.FPs.kp Z.bPs (fun σ => L2N.passAt (L2N.takes_of rfl rfl rfl rfl) σ) (pa_cons (pv 0) pa_nil)) pa_nil))))) (pss_one (L2N.ps_raise rfl (L2N.takes_of rfl rfl rfl rfl) (L2N.pmk_own PySem.F.excBase_ValueError (V.exc 3 (by decide)) (V.g 3 (by decide)) (V.kc 3 (by decide)) (raises_own (V.ex 3 (by decide)).hs (V.ty 3 (by decide))) rfl))) pss_nil)
      (pss_cons (ps_set (i := 2) scChg.nd rfl (.inl rfl) pe_int)
      (pss_cons (ps_set (i := 3) scChg.nd rfl (.inl rfl) pe_dnewT)
      (pss_cons (ps_for (passes_of rfl) rfl (ItT.pi_itemsT (pe_call GPbS (hr.mono (by decide)) rfl U.gPbS U.FPbS.kp U.bPbS .nil pass0 (pa_cons (pv 0) pa_nil))) (pg_tup (by rfl) (pgs_cons (pg_name (i := 4) scChg.nd rfl (.inl rfl)) (pgs_cons (pg_name (i := 5) scChg.nd rfl (.inl rfl)) pgs_nil)))
      (pss_one (ps_if (pt_cmpR (op_eqD hr.units) (pv 5) (pe_tup pa_nil) (nomark _)) (pss_one (ps_dput (hu_of hr) (pv 3) (pv 4) (pe_ifExp (pt_cmpR (r := rIn K false) (by exact op_in_seq) (pe_ix (r := rIxT K) ix_tup (pv 4) pe_int (fun _ _ => rfl)) (pv 1) (by rfl)) (pe_glob (v := .int 2) rfl U.gMarked ⟨_, rfl⟩) (pe_glob (v := .int 1) rfl U.gUnmarked ⟨_, rfl⟩)) rfl)) (pss_one (ps_if (pt_truth (pe_op op_and (pe_dget (hu_of hr) (pv 3) (pe_ix (r := rIxT K) ix_tup (pv 5) pe_int (fun _ _ => rfl)) (fun _ _ => rfl)) (pe_dget (hu_of hr) (pv 3) (pe_ix (r := rIxT K) ix_tup (pv 5) pe_int (fun _ _ => rfl)) (fun _ _ => rfl))) (by intro _; rfl)) (pss_one (ps_dput (hu_of hr) (pv 3) (pv 4) (pe_op op_and (pe_dget (hu_of hr) (pv 3) (pe_ix (r := rIxT K) ix_tup (pv 5) pe_int (fun _ _ => rfl)) (fun _ _ => rfl)) (pe_dget (hu_of hr) (pv 3) (pe_ix (r := rIxT K) ix_tup (pv 5) pe_int (fun _ _ => rfl)) (fun _ _ => rfl))) rfl)) (pss_cons (ps_dput (hu_of hr) (pv 3) (pv 4) (pe_op op_or (pe_glob (v := .int 2) rfl U.gMarked ⟨_, rfl⟩) (pe_glob (v := .int 1) rfl U.gUnmarked ⟨_, rfl⟩)) rfl)
      (pss_one (ps_set (i := 2) scChg.nd rfl (.inl rfl) (pe_op op_add (pv 2) pe_int)))))))))
      (pss_one (ps_ret (pv 2))))))), ?_⟩
    rcases h with ⟨no, k⟩ | ⟨a, bs, rfl, hB, hz, hp, hv, h⟩
    · exact ⟨_, rfl, _, rfl, .inl ⟨x, rfl, no, k⟩⟩
    · refine ⟨_, rfl, _, rfl, .inr ⟨a, bs, rfl, hB, hz, hp, fun H1 g1 => ?_⟩⟩
      rcases h with ⟨no, k⟩ | ⟨⟨d, hd, lim, yes⟩, k⟩
      · rcases no H1 g1 with ⟨d, hd, lim, e⟩ | ⟨t, ty, kt⟩
        · exact .inl ⟨y, d, _, rfl, hd, lim, fun H2 g2 => ⟨_, rfl, by rw [e]; exact iteT (k H2 (g1.trans g2))⟩⟩
        · exact .inr ⟨y, t, _, rfl, ty, kt, fun H2 g2 => ⟨_, rfl, iteT (k H2 (g1.trans g2))⟩⟩
      · refine .inl ⟨y, d, _, rfl, Dd.grow g1 hd, lim, fun H2 g2 => ⟨_, rfl, ?_⟩⟩
        rw [yes]
        have g12 := g1.trans g2
        obtain ⟨ds, ed, isI⟩ := plist_list yes
        subst ed
        obtain ⟨ya, ys, rfl, sq, all⟩ := dd_list hd
        have ey := ints_of all isI
        subst ey
        refine iteF fun M hM => ?_
        have gM := g12.trans (Grows.new (o := .dT []) hM)
        have HM : H M = none := none_back g12 hM
        have tk : ∀ {G : Hp} {u : HO} {kvs : List (List L2.Key × L2.V)}, G M = some (.dT kvs) → ∀ b xs, G b = some (.tup xs) → upd G M u b = some (.tup xs) := fun {G u kvs} e b xs eb => by
          rw [upd_ne fun z => by rw [z, e] at eb; cases eb]
          exact eb
        have gU : ∀ {G : Hp} {u : HO}, Grows H G → Grows H (upd G M u) := fun {G u} g b o eb => by
          rw [upd_ne (ne_of_none eb HM)]
          exact g _ _ eb
        obtain ⟨G0, eG0⟩ : ∃ G0, G0 = upd H2 M (.dT []) := ⟨_, rfl⟩
        have at_M : G0 M = some (.dT []) := by
          rw [eG0]
          exact upd_same
        rw [← eG0] at gM ⊢
        refine ⟨_, rfl, a, bs, rfl, hB.keep gM, hz, hp, hv, fun d ms kvs H3 g3 hd3 ed pb nd lm => ⟨d, kvs, rfl, ed, fun o => ?_⟩⟩
        have dM : M ≠ d := fun z => by
          rw [← z, at_M] at hd3
          cases hd3
        have Hd : H d = none := none_back gM hd3
        obtain ⟨H4, eH4⟩ : ∃ H4, H4 = upd H3 d (.frz o (.dT kvs)) := ⟨_, rfl⟩
        have tf : ∀ b u, b ≠ d → H3 b = some u → H4 b = some u := fun b u ne e => by
          rw [eH4, upd_ne ne]
          exact e
        have g4 : Grows H H4 := fun b u e => tf b u (ne_of_none e Hd) (g3 _ _ (gM _ _ e))
        have td : ∀ b xs, H3 b = some (.tup xs) → H4 b = some (.tup xs) := fun b xs e => tf b _ (fun z => by rw [z, ed] at e; cases e) e
        rw [← eH4]
        refine ItT.for_itemsT (fun i σ G => ∃ (ch : Int) (o4 o5 : Option L2.V) (mk : List (List L2.Key × L2.V)), σ = [some (.ref a), some (.ref ya), some (.int ch), some (.ref M), o4, o5] ∧ Grows H G ∧ (∀ b u, b ≠ M → H4 b = some u → G b = some u) ∧ G M = some (.dT mk) ∧ mk.length ≤ i ∧ ∀ j, j < i → ∃ x : Int, valV mk (keyI (ms.getD j [])) = some (.int x))
          ⟨0, none, none, [], rfl, g4, fun _ _ _ e => e, tf M _ dM (g3 _ _ at_M), Nat.le_refl _, fun j hj => absurd hj (Nat.not_lt_zero j)⟩ (fun i σ G ⟨ch, o4, o5, mk, e, g, kp, em, lk, vs⟩ => kp d _ (fun z => dM z.symm) (by rw [eH4]; exact upd_same)) (fun i kk v Tt q σ G hk ⟨ch, o4, o5, mk, e, g, kp, em, lk, vs⟩ hT hq => ?_) fun σ G ⟨ch, o4, o5, mk, e, g, kp, em, lk, vs⟩ => ?_
        · subst e
          have gT := Grows.new (o := .tup [.ref q, v]) hT
          obtain ⟨GT, eGT⟩ : ∃ GT, GT = upd G Tt (.tup [.ref q, v]) := ⟨_, rfl⟩
          have at_T : GT Tt = some (.tup [.ref q, v]) := by
            rw [eGT]
            exact upd_same
          rw [← eGT] at gT ⊢
          have l4 : H4 M = some (.dT []) := tf M _ dM (g3 _ _ at_M)
          have tG : ∀ b xs, H3 b = some (.tup xs) → GT b = some (.tup xs) := fun b xs e => gT _ _ (kp b _ (fun z => by have := td b xs e; rw [z, l4] at this; cases this) (td b xs e))
          have il := (List.getElem?_eq_some_iff.mp hk).1
          rw [pb.len] at il
          obtain ⟨m, em0⟩ : ∃ m, m = ms.getD i [] := ⟨_, rfl⟩
          have em1 : ms[i]? = some m := by
            rw [em0, List.getD_eq_getElem?_getD, List.getElem?_eq_getElem il]
            rfl
          have ek : kk = keyI m := by
            have z := congrArg (fun l => l[i]?) pb.keys
            rw [List.getElem?_map, List.getElem?_map, hk, em1] at z
            exact Option.some.inj z
          have mne : m ≠ [] := pb.ne m (List.mem_of_getElem? em1)
          rw [ek, keyI_V] at hq
          have hqT := gT _ _ hq
          have at_M1 := gT _ _ em
          have sq1 := (g.trans gT).seq sq
          obtain ⟨z, ez, hzv⟩ := pb.vals i kk v hk
          -- what stands in the dict behind the turn
          have put : ∀ {G2 : Hp} (x : Int), Grows GT G2 → ∃ G5 : Hp, DPut G2 M (.ref q) (.int x) G5 ∧ ∀ (ch2 : Int) (o4 o5 : Option L2.V), ∃ (ch : Int) (p4 p5 : Option L2.V) (mk : List (List L2.Key × L2.V)), [some (L2.V.ref a), some (.ref ya), some (.int ch2), some (.ref M), o4, o5] = [some (.ref a), some (.ref ya), some (.int ch), some (.ref M), p4, p5] ∧ Grows H G5 ∧ (∀ b u, b ≠ M → H4 b = some u → G5 b = some u) ∧ G5 M = some (.dT mk) ∧ mk.length ≤ i + 1 ∧ ∀ j, j < i + 1 → ∃ x : Int, valV mk (keyI (ms.getD j [])) = some (.int x) := fun {G2} x s2 => by
            have e2 := s2 _ _ at_M1
            refine ⟨_, DPut.t (k := keyI m) e2 (by rw [keyI_V]; exact s2 _ _ hqT) ?_, fun ch2 o4 o5 => ⟨ch2, o4, o5, _, rfl, gU ((g.trans gT).trans s2), fun b u ne e => by rw [upd_ne ne]; exact s2 _ _ (gT _ _ (kp b u ne e)), upd_same, Nat.le_trans (length_putK _ _ _) (Nat.succ_le_succ lk), fun j hj => ?_⟩⟩
            · exact Nat.lt_of_le_of_lt (show mk.length ≤ 100 by omega) (by decide)
            · rw [valV_put]
              by_cases q : keyI (ms.getD j []) = keyI m
              · rw [if_pos q]
                exact ⟨x, rfl⟩
              · rw [if_neg q]
                have : j ≠ i := fun z => q (by rw [z, em0])
                exact vs j (by omega)
          subst ez
          refine ⟨Tt, _, rfl, SqT.of at_T, rfl, _, _, rfl, _, _, rfl, rfl, ?_⟩
          refine ⟨_, rfl, (by show 0 ≤ sizeLine; decide), fun e he => ?_⟩
          have g6 := Grows.new (o := .tup []) he
          rcases hzv with hz0 | ⟨z1, z2, i1, i2, hz0, l1, l2, hz1, hz2⟩
          · refine ⟨.tuple [], .tuple [], .tup (SqT.of (g6 _ _ (tG _ _ hz0))) .nil, .tup (SqT.of upd_same) .nil, shaped_none, shaped_none, _, rfl, ?_⟩
            rw [show PyData.eqv (.tuple []) (.tuple []) = true from by decide +kernel]
            refine iteT ⟨_, rfl, q, _, 0, _, rfl, rfl, SqT.of (g6 _ _ hqT), at_head mne, _, rfl, ya, _, rfl, .inl (g6.seq sq1), rfl, flat_ints _, _, rfl, ?_⟩
            obtain ⟨A2, a2, b2⟩ := put (G2 := upd GT e (.tup [])) 2 g6
            obtain ⟨A1, a1, b1⟩ := put (G2 := upd GT e (.tup [])) 1 g6
            exact ite2 (fun _ => ⟨_, rfl, _, rfl, M, A2, rfl, a2, b2 ch _ _⟩) (fun _ => ⟨_, rfl, _, rfl, M, A1, rfl, a1, b1 ch _ _⟩)
          · have h0 := g6 _ _ (tG _ _ hz0)
            have h1 := g6 _ _ (tG _ _ hz1)
            have h2 := g6 _ _ (tG _ _ hz2)
            refine ⟨.tuple [.tuple ((ms.getD i1 []).map .int), .tuple ((ms.getD i2 []).map .int)], .tuple [], .tup (SqT.of h0) (.cons (.tup (SqT.of h1) (dp_ints _)) (.cons (.tup (SqT.of h2) (dp_ints _)) .nil)), .tup (SqT.of upd_same) .nil, shaped_halves _ _, shaped_none, _, rfl, ?_⟩
            rw [show ∀ x y, PyData.eqv (.tuple [x, y]) (.tuple []) = false from fun x y => by simp only [PyData.eqv, PyData.eqvAll]]
            obtain ⟨x1, v1⟩ := vs i1 l1
            obtain ⟨x2, v2⟩ := vs i2 l2
            have eM := g6 _ _ at_M1
            have d1 : DGet (upd GT e (.tup [])) M (.ref z1) (some (.int x1)) := v1 ▸ DGet.t eM (by rw [keyI_V]; exact h1)
            have d2 : DGet (upd GT e (.tup [])) M (.ref z2) (some (.int x2)) := v2 ▸ DGet.t eM (by rw [keyI_V]; exact h2)
            refine iteF ⟨_, rfl, _, rfl, z, _, 0, .ref z1, rfl, rfl, SqT.of h0, rfl, M, _, rfl, d1, _, rfl, _, rfl, z, _, 1, .ref z2, rfl, rfl, SqT.of h0, rfl, M, _, rfl, d2, _, _, rfl, rfl, _, rfl, iteN _ (fun _ => ?_) fun _ => ?_⟩
            · obtain ⟨A2, a2, b2⟩ := put (G2 := upd GT e (.tup [])) (Builtin.bitAnd x1 x2) g6
              exact ⟨_, rfl, _, rfl, z, _, 0, .ref z1, rfl, rfl, SqT.of h0, rfl, M, _, rfl, d1, _, rfl, _, rfl, z, _, 1, .ref z2, rfl, rfl, SqT.of h0, rfl, M, _, rfl, d2, _, _, rfl, rfl, _, rfl, _, rfl, M, A2, rfl, a2, b2 ch _ _⟩
            · obtain ⟨A2, a2, b2⟩ := put (G2 := upd GT e (.tup [])) (Builtin.bitOr 2 1) g6
              exact ⟨_, _, rfl, rfl, _, rfl, _, rfl, M, A2, rfl, a2, _, rfl, _, _, rfl, rfl, b2 _ _ _⟩
        · subst e
          exact ⟨_, rfl, k _ _ g⟩
end
end K35

namespace K35
open PySem PySem.Spec PyProof.Rows L2 SortR LcM RepA Held
abbrev sCalled : Stmt := top 64
/-- what the doors lead to -/
def Door (K : PySem.W.Frag) (c : List Addr) (door : Int) (x y : L2.V) (H : Hp) (Q : VK) (E : XK) : Prop :=
  (door = 0 ∧ spFam K c [x, y] H Q E) ∨ (door = 1 ∧ spFC c [x] H Q E) ∨ (door = 2 ∧ spFC c [x] H Q E) ∨ (door = 3 ∧ spHS K c [x, y] H Q E) ∨ (door = 4 ∧ spCC c [x, y] H Q E) ∨ (door = 5 ∧ spHist K c [x] H Q E) ∨ (door = 6 ∧ spChg K c [x, y] H Q E)
def spCalled (K : PySem.W.Frag) (c : List Addr) : Sp := fun vs H Q E => ∃ (door : Int) (x y : L2.V), vs = [.int door, x, y] ∧ Door K c door x y H (fun _ H' => Q .non H') E
section
variable {P : Program} {w : World} {K : PySem.W.Frag} {mg : Str → Option Value} {base : Heap} {c : List Addr} {pe : Addr}
theorem scCalled : FnScope ["door", "first", "last"] ["door", "first", "last"] (defScope sCalled) := ⟨rfl, rfl, rfl, by decide +kernel, rfl, by decide +kernel, by decide +kernel⟩
theorem ok_called {f : Addr} {fd : FuncData} (F : Fun K "_law_called" "_law_called" sCalled f fd) (Z : ProgF K mg) (T : TxtP mg) (T0 : Txt0 mg) (U : ChgF K mg) (V : TxtE K mg c pe) : FnOk P w K mg base (L2N.CX P w) 8 f fd ["door", "first", "last"] (spCalled K c) := by
  have GFam := (ok_fam (P := P) (w := w) (base := base) Z T U.toFaF V)
  have GFC := (ok_fc (P := P) (w := w) (base := base) Z T U.toFmF V)
  have GAHi := (ok_ahi (P := P) (w := w) (base := base) Z T U.toHiF V)
  have GHS := (ok_hs (P := P) (w := w) (base := base) Z T U.toShF V)
  have GCC := (ok_cc (P := P) (w := w) (base := base) Z T T0 U.toCcF V)
  have GHist := (ok_hist (P := P) (w := w) (base := base) Z T U.toHsF V)
  have GChg := (ok_chg (P := P) (w := w) (base := base) Z T U V)
  refine F.okN scCalled (fun vs H Q E h => ?_) (fun cdv A outer s H vs Q E hr h => ?_)
  · obtain ⟨door, x, y, rfl, _⟩ := h
    rfl
  · obtain ⟨door, x, y, rfl, h⟩ := h
    refine ⟨_, (pss_one (ps_if (pt_cmpR op_eq (pv 0) pe_int (nomark _)) (pss_one (ps_expr (pe_callS GFam (hr.mono (by decide)) rfl U.gFam U.FFam.kp U.bFam (fun σ => L2N.passAt (L2N.takes_of rfl rfl rfl rfl) σ) (pa_cons (pv 1) (pa_cons (pv 2) pa_nil))))) (pss_one (ps_if (pt_cmpR op_eq (pv 0) pe_int (nomark _)) (pss_one (ps_expr (pe_callS GFC (hr.mono (by decide)) rfl U.gFC U.FFC.kp U.bFC (fun σ => L2N.passAt (L2N.takes_of rfl rfl rfl rfl) σ) (pa_cons (pv 1) pa_nil)))) (pss_one (ps_if (pt_cmpR op_eq (pv 0) pe_int (nomark _)) (pss_one (ps_expr (pe_callS GAHi (hr.mono (by decide)) rfl U.gAHi U.FAHi.kp U.bAHi (fun σ => L2N.passAt (L2N.takes_of rfl rfl rfl rfl) σ) (pa_cons (pv 1) pa_nil)))) (pss_one (ps_if (pt_cmpR op_eq (pv 0) pe_int (nomark _)) (pss_one (ps_expr (pe_callS GHS (hr.mono (by decide)) rfl U.gHS U.FHS.kp U.bHS (fun σ => L2N.passAt (L2N.takes_of rfl rfl rfl rfl) σ) (pa_cons (pv 1) (pa_cons (pv 2) pa_nil))))) (pss_one (ps_if (pt_cmpR op_eq (pv 0) pe_int (nomark _)) (pss_one (ps_expr (pe_callS GCC (hr.mono (by decide)) rfl U.gCC U.FCC.kp U.bCC (fun σ => L2N.passAt (L2N.takes_of rfl rfl rfl rfl) σ) (pa_cons (pv 1) (pa_cons (pv 2) pa_nil))))) (pss_one (ps_if (pt_cmpR op_eq (pv 0) pe_int (nomark _)) (pss_one (ps_expr (pe_callS GHist (hr.mono (by decide)) rfl U.gHist U.FHist.kp U.bHist (fun σ => L2N.passAt (L2N.takes_of rfl rfl rfl rfl) σ) (pa_cons (pv 1) pa_nil)))) (pss_one (ps_expr (pe_callS GChg (hr.mono (by decide)) rfl U.gChg U.FChg.kp U.bChg (fun σ => L2N.passAt (L2N.takes_of rfl rfl rfl rfl) σ) (pa_cons (pv 1) (pa_cons (pv 2) pa_nil))))))))))))))))), ?_⟩
    have ne : ∀ {i j : Int}, i ≠ j → decide (L2.V.int i = L2.V.int j) = false := fun h => decide_eq_false fun z => h (L2.V.int.inj z)
    rcases h with ⟨rfl, h⟩ | ⟨rfl, h⟩ | ⟨rfl, h⟩ | ⟨rfl, h⟩ | ⟨rfl, h⟩ | ⟨rfl, h⟩ | ⟨rfl, h⟩
    · refine ⟨_, rfl, rfl, _, rfl, ?_⟩
      rw [decide_eq_true rfl]
      exact iteT ⟨_, rfl, _, rfl, h⟩
    · refine ⟨_, rfl, rfl, _, rfl, ?_⟩
      rw [ne (by decide)]
      refine iteF ?_
      refine ⟨_, rfl, rfl, _, rfl, ?_⟩
      rw [decide_eq_true rfl]
      exact iteT ⟨_, rfl, h⟩
    · refine ⟨_, rfl, rfl, _, rfl, ?_⟩
      rw [ne (by decide)]
      refine iteF ?_
      refine ⟨_, rfl, rfl, _, rfl, ?_⟩
      rw [ne (by decide)]
      refine iteF ?_
      refine ⟨_, rfl, rfl, _, rfl, ?_⟩
      rw [decide_eq_true rfl]
      exact iteT ⟨_, rfl, h⟩
    · refine ⟨_, rfl, rfl, _, rfl, ?_⟩
      rw [ne (by decide)]
      refine iteF ?_
      refine ⟨_, rfl, rfl, _, rfl, ?_⟩
      rw [ne (by decide)]
      refine iteF ?_
      refine ⟨_, rfl, rfl, _, rfl, ?_⟩
      rw [ne (by decide)]
      refine iteF ?_
      refine ⟨_, rfl, rfl, _, rfl, ?_⟩
      rw [decide_eq_true rfl]
      exact iteT ⟨_, rfl, _, rfl, h⟩
    · refine ⟨_, rfl, rfl, _, rfl, ?_⟩
      rw [ne (by decide)]
      refine iteF ?_
      refine ⟨_, rfl, rfl, _, rfl, ?_⟩
      rw [ne (by decide)]
      refine iteF ?_
      refine ⟨_, rfl, rfl, _, rfl, ?_⟩
      rw [ne (by decide)]
      refine iteF ?_
      refine ⟨_, rfl, rfl, _, rfl, ?_⟩
      rw [ne (by decide)]
      refine iteF ?_
      refine ⟨_, rfl, rfl, _, rfl, ?_⟩
      rw [decide_eq_true rfl]
      exact iteT ⟨_, rfl, _, rfl, h⟩
    · refine ⟨_, rfl, rfl, _, rfl, ?_⟩
      rw [ne (by decide)]
      refine iteF ?_
      refine ⟨_, rfl, rfl, _, rfl, ?_⟩
      rw [ne (by decide)]
      refine iteF ?_
      refine ⟨_, rfl, rfl, _, rfl, ?_⟩
      rw [ne (by decide)]
      refine iteF ?_
      refine ⟨_, rfl, rfl, _, rfl, ?_⟩
      rw [ne (by decide)]
      refine iteF ?_
      refine ⟨_, rfl, rfl, _, rfl, ?_⟩
      rw [ne (by decide)]
      refine iteF ?_
      refine ⟨_, rfl, rfl, _, rfl, ?_⟩
      rw [decide_eq_true rfl]
      exact iteT ⟨_, rfl, h⟩
    · refine ⟨_, rfl, rfl, _, rfl, ?_⟩
      rw [ne (by decide)]
      refine iteF ?_
      refine ⟨_, rfl, rfl, _, rfl, ?_⟩
      rw [ne (by decide)]
      refine iteF ?_
      refine ⟨_, rfl, rfl, _, rfl, ?_⟩
      rw [ne (by decide)]
      refine iteF ?_
      refine ⟨_, rfl, rfl, _, rfl, ?_⟩
      rw [ne (by decide)]
      refine iteF ?_
      refine ⟨_, rfl, rfl, _, rfl, ?_⟩
      rw [ne (by decide)]
      refine iteF ?_
      refine ⟨_, rfl, rfl, _, rfl, ?_⟩
      rw [ne (by decide)]
      refine iteF ?_
      exact ⟨_, rfl, _, rfl, h⟩
end
end K35

namespace K35
open PySem PySem.Spec PyProof.Rows L2 L2H SortR LcM RepA Held
abbrev sRai : Stmt := top 65
/-! ### data that last, and how long their texts are -/
mutual
theorem _root_.RepA.Dq.grow {K : PySem.W.Frag} {H H' : Hp} (s : Grows H H') : ∀ {v : L2.V} {d : PyData}, Dq K H v d → Dq K H' v d
  | _, _, .base h => .base (Dd.grow s h)
  | _, _, .one e h => .one (s _ _ e) (RepA.Dq.grow s h)
  | _, _, .lst q h => .lst (s.seq q) (RepA.DqAll.grow s h)
theorem _root_.RepA.DqAll.grow {K : PySem.W.Frag} {H H' : Hp} (s : Grows H H') : ∀ {vs : List L2.V} {ds : List PyData}, DqAll K H vs ds → DqAll K H' vs ds
  | _, _, .nil => .nil
  | _, _, .cons a b => .cons (RepA.Dq.grow s a) (RepA.DqAll.grow s b)
end
structure Tx (n w : Nat) (d : PyData) : Prop where
  sh : d.showable = true
  dp : d.depth ≤ n
  lv : PyData.leavesShort 40 d = true
  wt : d.weight ≤ w
theorem Tx.le {n w m v : Nat} {d : PyData} (h : Tx n w d) (a : n ≤ m) (b : w ≤ v) : Tx m v d := ⟨h.sh, Nat.le_trans h.dp a, h.lv, Nat.le_trans h.wt b⟩
theorem tx_two {x y : PyData} (hx : Tx 20 100000 x) (hy : Tx 20 100000 y) : PyData.showableAll [x, y] = true ∧ PyData.depthAll [x, y] ≤ 40 ∧ (listText (PyData.shownAll [x, y])).length ≤ sizeLine := by
  have l : PyData.leavesShort 40 (.list [x, y]) = true := by simp only [PyData.leavesShort, PyData.leavesShortAll, hx.lv, hy.lv, Bool.and_self]
  have q := PyData.shown_le 40 (by decide) (.list [x, y]) l
  have wx := hx.wt
  have wy := hy.wt
  have dx := hx.dp
  have dy := hy.dp
  refine ⟨by simp only [PyData.showableAll, hx.sh, hy.sh, Bool.and_self], by simp only [PyData.depthAll]; omega, ?_⟩
  simp only [PyData.shown, PyData.weight, PyData.weightAll] at q
  rw [sizeLine_eq]
  omega
/-! ### _law_raised -/
def word : Option Nat → Str
  | none => "fine"
  | some i => wordL.getD i ""
/-- what the call is due to do: nothing, or the i-th error -/
def Due (K : PySem.W.Frag) (c : List Addr) (door : Int) (x y : L2.V) (r : Option Nat) (H : Hp) : Prop := ∀ (Q : VK) (E : XK), (r = none → ∀ v H', Grows H H' → Q v H') → (∀ i, r = some i → Rz c H E i) → Door K c door x y H Q E
def spRai (K : PySem.W.Frag) (c : List Addr) : Sp := fun vs H Q _ => ∃ (door : Int) (x y : L2.V) (d1 d2 : PyData) (r : Option Nat), vs = [.int door, x, y] ∧ Dq K H x d1 ∧ Dq K H y d2 ∧ Tx 20 100000 d1 ∧ Tx 20 100000 d2 ∧ (∀ i, r = some i → i < 7) ∧ (∀ H1, Grows H H1 → Due K c door x y r H1) ∧ ∀ H', Grows H H' → Q (.str (word r)) H'
theorem takes0N {X : Cx} : L2N.Takes X (fun _ _ _ _ => False) := fun _ _ x => by
  obtain ⟨_, _, _, _, _, _, _, _, _, _, _, _, _, _, _, _, z⟩ := x
  exact z.elim
theorem pss_ex {X : Cx} {b : List Stmt} {ι : Type} {Pr : ι → Prop} {t : ι → TS} (F : ∀ i, Pr i → PSs X b (t i)) : PSs X b (fun D σ H => ∃ i, Pr i ∧ t i D σ H) :=
  ⟨fun pins s σ H D I ⟨i, pi, h⟩ => (F i pi).run pins s σ H D I h⟩
abbrev tbR (K : PySem.W.Frag) (c : List Addr) : WX → TS := fun W => tDrop (tCallS (spCalled K c) (WE W) (tCons (tVar 0) (tCons (tVar 1) (tCons (tVar 2) tNil))))
abbrev tsR (c : List Addr) : Addr → Value → Option Addr → TS := fun a cls d D σ H => ∃ i : Nat, (i < 7 ∧ cls = .ref (ca c i) ∧ d = none) ∧ tAsg (tCallP (spWord a i) (tCons (tVar 5) tNil)) (gName 3) D σ H
theorem hot_of {X : Cx} {a : Addr} {oe : Obj} {pn : List (Addr × Obj)} {cls : Value} {d : Option Addr} (hz : L2N.Zn cls d oe) (hf : ∃ vs, oe.data = .fields vs) : Hot1 (X.suite a pn).A (a, oe) := by
  obtain ⟨vs, hd⟩ := hf
  exact ⟨rfl, vs, hd, hz.2.2 vs hd⟩
section
variable {P : Program} {w : World} {K : PySem.W.Frag} {mg : Str → Option Value} {base : Heap} {c : List Addr} {pe : Addr}
theorem scRai : FnScope ["door", "first", "last", "caught", "kept", "e"] ["door", "first", "last"] (defScope sRai) := ⟨rfl, rfl, rfl, by decide +kernel, rfl, by decide +kernel, by decide +kernel⟩
theorem ok_rai {f fCalled fWord : Addr} {fd dCalled dWord : FuncData} (F : Fun K "_law_raised" "_law_raised" sRai f fd) (T : TxtP mg) (gRepr : mg "repr" = none) (V : TxtE K mg c pe)
    (GCalled : FnOk P w K mg base (L2N.CX P w) 8 fCalled dCalled ["door", "first", "last"] (spCalled K c)) (FCalled : Fun K "_law_called" "_law_called" sCalled fCalled dCalled) (gCalled : mg "_law_called" = some (.ref fCalled)) (bCalled : Binds K dCalled ["door", "first", "last"] [])
    (FWord : Fun K "_law_word_of" "_law_word_of" sWord fWord dWord) (gWord : mg "_law_word_of" = some (.ref fWord)) (bWord : Binds K dWord ["e"] []) : FnG P w K mg base CX0 9 f fd ["door", "first", "last"] (spRai K c) := by
  have GWord : ∀ (a : Addr) (oe : Obj) (i : Nat) (hi : i < 7) (hz : Zc (.ref (ca c i)) none oe) (hf : ∃ vs, oe.data = .fields vs), FnQ P w K mg base 1 fWord dWord ["e"] (a, oe) (spWord a i) := ok_word FWord T V
  refine okG F scRai (fun vs H Q E h => ?_) (fun cdv A outer s H vs Q E hr noG h => ?_)
  · obtain ⟨door, x, y, d1, d2, r, rfl, _⟩ := h
    rfl
  · obtain ⟨door, x, y, d1, d2, r, rfl, q1, q2, x1, x2, six, due, kk⟩ := h
    have room1 : L2H.RoomH 1 (A.deeper (envOfC "_law_raised" (defScope sRai) s.heap.objs.size f cdv)) := L2H.roomH_of (hr.mono (show 1 ≤ 8 by decide))
    refine ⟨_, (pss_cons (ps_par (i := 3) (j := 4) (by rfl) scRai.nd rfl rfl (by decide) rfl rfl (pa_cons pe_str (pa_cons (pe_callB (call_reprQ noG hr.units) (by rfl) gRepr (by decide +kernel) (pa_cons (pe_lst (pa_cons (pv 1) (pa_cons (pv 2) pa_nil))) pa_nil)) pa_nil)) (by rfl))
      (pss_cons (L2N.ps_try_as (i := 5) (tb := tbR K c) (ts := tsR c) (Wout := fun _ _ _ _ => False) rfl rfl scRai.nd rfl rfl ⟨rfl, by decide, .inl V.gp⟩ takes0N (fun W2 pn xe tk _ => (pss_one (ps_expr (pe_callS GCalled (hr.mono (by decide)) rfl gCalled FCalled.kp bCalled (fun σ => L2N.passAt tk σ) (pa_cons (pv 0) (pa_cons (pv 1) (pa_cons (pv 2) pa_nil))))))) (fun a oe cls d pn hz hf => (pss_ex fun i hi => by
      obtain ⟨i7, rfl, rfl⟩ := hi
      exact (pss_one (ps_set (i := 3) scRai.nd rfl (.inl rfl) (pe_callQ (GWord a oe i i7 hz.zc hf) ⟨room1.dp, room1.un⟩ (hot_of hz hf) List.mem_cons_self rfl gWord FWord.kp bWord (pa_cons (pv 5) pa_nil)))))))
      (pss_one (ps_ret (pe_ifExp (pt_cmpR op_eq (pe_callB (call_reprQ noG hr.units) (by rfl) gRepr (by decide +kernel) (pa_cons (pe_lst (pa_cons (pv 1) (pa_cons (pv 2) pa_nil))) pa_nil)) (pv 4) (nomark _)) (pv 3) pe_str))))), ?_⟩
    obtain ⟨t1, t2, t3⟩ := tx_two x1 x2
    refine ⟨_, rfl, _, rfl, (by show 2 ≤ sizeLine; decide), fun q hq => ?_⟩
    have g1 := Grows.new (o := .lst [x, y]) hq
    refine ⟨q, _, [d1, d2], rfl, SqL.of upd_same, .cons (q1.grow g1) (.cons (q2.grow g1) .nil), t1, t2, t3, _, _, rfl, ?_⟩
    obtain ⟨kp, ekp⟩ : ∃ kp, kp = (PyData.list [d1, d2]).shown := ⟨_, rfl⟩
    rw [← ekp]
    -- behind the try
    have fin : ∀ (H' : Hp) (r' : Option Nat), r' = r → Grows H H' → (tRet (tIf (tTest (tOp rEq (tCB (fun xs H Q => ∃ a ys ds, xs = [L2.V.ref a] ∧ SqL K H a ys ∧ DqAll K H ys ds ∧ PyData.showableAll ds = true ∧ PyData.depthAll ds ≤ 40 ∧ (listText (PyData.shownAll ds)).length ≤ sizeLine ∧ Q (.str (PyData.list ds).shown) H) (tCons (tLst (tCons (tVar 1) (tCons (tVar 2) tNil))) tNil)) (tVar 4))) (tVar 3) (tC (.str "changed")))) { nx := fun _ G' => Q L2.V.non G', rt := Q } [some (.int door), some x, some y, some (.str (word r')), some (.str kp), none] H' := fun H' r' er g => by
      refine ⟨_, rfl, _, rfl, (by show 2 ≤ sizeLine; decide), fun q hq => ?_⟩
      have g2 := g.trans (Grows.new (o := .lst [x, y]) hq)
      refine ⟨q, _, [d1, d2], rfl, SqL.of upd_same, .cons (q1.grow g2) (.cons (q2.grow g2) .nil), t1, t2, t3, _, rfl, rfl, _, rfl, ?_⟩
      rw [← ekp, decide_eq_true rfl]
      refine iteT ⟨_, rfl, ?_⟩
      rw [er]
      exact kk _ g2
    refine ⟨_, rfl, _, rfl, _, rfl, door, x, y, rfl, due _ g1 _ _ (fun e v H' g => ?_) fun i e H' g => ?_⟩
    · exact fin H' none e.symm (g1.trans g)
    · exact ⟨true, V.te i (six i e), fun _ a ha => ⟨i, ⟨six i e, rfl, rfl⟩, _, rfl, rfl, fun H2 g2 => fin H2 (some i) e.symm ((g1.trans g).trans g2)⟩, fun q => nomatch q⟩
end
end K35

namespace K35
open PySem PySem.Spec PyProof.Rows L2 SortR LcM RepA Held
/-! ### things: data, or a dict of one text -/
def Thg (K : PySem.W.Frag) (H : Hp) (v : L2.V) (d : PyData) : Prop := Dd K H v d ∨ ∃ a s x e, v = .ref a ∧ H a = some (.dK [(Sum.inr s, x)]) ∧ Dp K H x e ∧ d = .dict [(.str s, e)]
theorem Thg.grow {K : PySem.W.Frag} {H H' : Hp} (g : Grows H H') {v : L2.V} {d : PyData} (h : Thg K H v d) : Thg K H' v d := by
  rcases h with h | ⟨a, s, x, e, e1, e2, e3, e4⟩
  · exact .inl (Dd.grow g h)
  · exact .inr ⟨a, s, x, e, e1, g _ _ e2, Dp.grow g e3, e4⟩
theorem Thg.dq {K : PySem.W.Frag} {H : Hp} {v : L2.V} {d : PyData} (h : Thg K H v d) : Dq K H v d := by
  rcases h with h | ⟨a, s, x, e, rfl, e2, e3, rfl⟩
  · exact .base h
  · exact .one e2 (.base (.inl e3))
theorem Thg.dp {K : PySem.W.Frag} {H : Hp} {v : L2.V} {d : PyData} (h : Dp K H v d) : Thg K H v d := .inl (.inl h)
def isL : PyData → Bool
  | .list _ => true
  | _ => false
theorem Thg.noList {K : PySem.W.Frag} {H : Hp} {v : L2.V} {d : PyData} (h : Thg K H v d) (n : isL d = false) : ∃ t, TyX K H v t ∧ PySem.W.kitOne K t (.type "list") = some false := by
  rcases h with h | ⟨a, s, x, e, rfl, e2, e3, rfl⟩
  · refine ⟨_, dd_ty h, kit_ty ?_⟩
    cases d <;> first | (cases n; done) | (simp only [tyName]; decide +kernel)
  · exact ⟨.type "dict", .base (.dK e2), kit_ty (by decide +kernel)⟩
theorem Thg.list {K : PySem.W.Frag} {H : Hp} {v : L2.V} {ds : List PyData} (h : Thg K H v (.list ds)) : ∃ a xs, v = .ref a ∧ SqL K H a xs ∧ DpAll K H xs ds := by
  rcases h with h | ⟨a, s, x, e, _, _, _, z⟩
  · exact dd_list h
  · cases z
/-! ### what is not too long -/
def limB : PyData → Bool
  | .list ds => decide (ds.length ≤ 1000)
  | _ => true
def lim2B : PyData → Bool
  | .list ds => decide (ds.length ≤ 1000) && ds.all limB
  | _ => true
theorem lim_of {d : PyData} (h : limB d = true) : Lim d := fun ds e => by
  subst e
  exact of_decide_eq_true h
theorem lim2_of {d : PyData} (h : lim2B d = true) : Lim2 d := fun ds e => by
  subst e
  unfold lim2B at h
  rw [Bool.and_eq_true] at h
  exact ⟨of_decide_eq_true h.1, fun x hx => lim_of (List.all_eq_true.mp h.2 x hx)⟩
theorem dd_of {K : PySem.W.Frag} {H : Hp} {v : L2.V} {d : PyData} (h : Thg K H v d) : Dd K H v d ∨ isL d = false := by
  rcases h with h | ⟨a, s, x, e, _, _, _, rfl⟩
  · exact .inl h
  · exact .inr rfl
theorem thg_nop {K : PySem.W.Frag} {H : Hp} {v : L2.V} {d : PyData} (h : Thg K H v d) (l : lim2B d = true) (e : isPD d = false) : NoP K H v := by
  rcases dd_of h with q | q
  · exact .inl ⟨d, q, lim2_of l, e⟩
  · exact .inr (h.noList q)
theorem thg_nogr {K : PySem.W.Frag} {n : Int} {H : Hp} {v : L2.V} {d : PyData} (h : Thg K H v d) (l : limB d = true) (e : grpD n d = false) : NoGr K n H v := by
  rcases dd_of h with q | q
  · exact .inl ⟨d, q, lim_of l, e⟩
  · exact .inr (h.noList q)
theorem thg_nopl {K : PySem.W.Frag} {n : Int} {H : Hp} {v : L2.V} {d : PyData} (h : Thg K H v d) (l : limB d = true) (e : plistD n d = false) : NoPL K n H v := by
  rcases dd_of h with q | q
  · exact .inl ⟨d, q, lim_of l, e⟩
  · exact .inr (h.noList q)
theorem grp_pl {n : Int} {d : PyData} (h : plistD n d = false) : grpD n d = false := by
  cases d with
  | list ds => rw [grpD_list, h, Bool.false_and]
  | _ => rfl
/-- no list of groups -/
def famNo (n : Int) : PyData → Bool
  | .list ds => !ds.isEmpty && decide (ds.length ≤ 1000) && ds.all fun e => limB e && !grpD n e
  | _ => true
theorem dp_mem {K : PySem.W.Frag} {H : Hp} : ∀ {xs : List L2.V} {ds : List PyData}, DpAll K H xs ds → ∀ x ∈ xs, ∃ d ∈ ds, Dp K H x d
  | _, _, .nil, _, h => nomatch h
  | _, _, .cons a b, x, h => by
    rcases List.mem_cons.mp h with e | e
    · rw [e]
      exact ⟨_, List.mem_cons_self, a⟩
    · obtain ⟨d, hd, q⟩ := dp_mem b x e
      exact ⟨d, List.mem_cons_of_mem _ hd, q⟩
theorem thg_nofam {K : PySem.W.Frag} {n : Int} {H : Hp} {v : L2.V} {d : PyData} (h : Thg K H v d) (f : famNo n d = true) : NoFam K n H v := by
  by_cases il : isL d = true
  · cases d with
    | list ds =>
      obtain ⟨a, xs, rfl, hS, all⟩ := h.list
      unfold famNo at f
      simp only [Bool.and_eq_true, Bool.not_eq_true', decide_eq_true_eq] at f
      have l := DpAll.len all
      refine .inr ⟨a, xs, rfl, hS, fun z => ?_, by omega, fun y hy H' g => ?_⟩
      · rw [z] at l
        have : ds = [] := List.length_eq_zero_iff.mp l.symm
        rw [this] at f
        cases f.1.1
      · obtain ⟨e, he, q⟩ := dp_mem all y hy
        have z := List.all_eq_true.mp f.2 e he
        rw [Bool.and_eq_true, Bool.not_eq_true'] at z
        exact thg_nogr (Thg.dp (Dp.grow g q)) z.1 z.2
    | _ => cases il
  · exact .inl (h.noList (Bool.eq_false_iff.mpr il))
theorem one_nofam {K : PySem.W.Frag} {n : Int} {H : Hp} {a : Addr} {v : L2.V} {d : PyData} (h : Thg K H v d) (hS : SqL K H a [v]) (l : limB d = true) (e : grpD n d = false) : NoFam K n H (.ref a) :=
  .inr ⟨a, [v], rfl, hS, (fun z => nomatch z), by show 1 ≤ 1000; decide, fun y hy H' g => by
    rw [List.mem_singleton.mp hy]
    exact thg_nogr (h.grow g) l e⟩
/-! ### texts that are not too long -/
def txB (n w : Nat) (d : PyData) : Bool := d.showable && decide (d.depth ≤ n) && PyData.leavesShort 40 d && decide (d.weight ≤ w)
theorem tx_of {n w : Nat} {d : PyData} (h : txB n w d = true) : Tx n w d := by
  unfold txB at h
  simp only [Bool.and_eq_true, decide_eq_true_eq] at h
  exact ⟨h.1.1.1, h.1.1.2, h.1.2, h.2⟩
theorem tx_all {n w : Nat} : ∀ ds : List PyData, (∀ d ∈ ds, Tx n w d) → PyData.showableAll ds = true ∧ PyData.depthAll ds ≤ n ∧ PyData.leavesShortAll 40 ds = true ∧ PyData.weightAll ds ≤ ds.length * (w + 1)
  | [], _ => by simp only [PyData.showableAll, PyData.depthAll, PyData.leavesShortAll, PyData.weightAll]; exact ⟨trivial, Nat.zero_le _, trivial, Nat.zero_le _⟩
  | d :: ds, h => by
    obtain ⟨a1, a3, a4, a5⟩ := tx_all ds fun e m => h e (List.mem_cons_of_mem _ m)
    obtain ⟨b1, b3, b4, b5⟩ := h d List.mem_cons_self
    refine ⟨?_, ?_, ?_, ?_⟩
    · simp only [PyData.showableAll, a1, b1, Bool.and_self]
    · simp only [PyData.depthAll]; omega
    · simp only [PyData.leavesShortAll, a4, b4, Bool.and_self]
    · simp only [PyData.weightAll, List.length_cons]
      rw [Nat.add_mul]
      omega
theorem tx_list {n w m : Nat} {ds : List PyData} (h : ∀ d ∈ ds, Tx n w d) (l : ds.length ≤ m) : Tx (n + 1) (m * (w + 1)) (.list ds) := by
  obtain ⟨a1, a3, a4, a5⟩ := tx_all ds h
  refine ⟨?_, ?_, ?_, ?_⟩
  · simp only [PyData.showable, a1]
  · simp only [PyData.depth]; omega
  · simp only [PyData.leavesShort, a4]
  · simp only [PyData.weight]; exact Nat.le_trans a5 (Nat.mul_le_mul_right _ l)
theorem tx_tuple {n w m : Nat} {ds : List PyData} (h : ∀ d ∈ ds, Tx n w d) (l : ds.length ≤ m) : Tx (n + 1) (m * (w + 1)) (.tuple ds) := by
  obtain ⟨a1, a3, a4, a5⟩ := tx_all ds h
  refine ⟨?_, ?_, ?_, ?_⟩
  · simp only [PyData.showable, a1]
  · simp only [PyData.depth]; omega
  · simp only [PyData.leavesShort, a4]
  · simp only [PyData.weight]; exact Nat.le_trans a5 (Nat.mul_le_mul_right _ l)
theorem tx_int {i : Int} (h : i.natAbs < 10 ^ 12) : Tx 0 110 (.int i) := by
  have s := show_ints [i] (fun x hx => by rw [List.mem_singleton.mp hx]; exact h)
  have w := weight_ints [i] (fun x hx => by rw [List.mem_singleton.mp hx]; exact h)
  have l := PyData.intsShortAll_ints [i] (fun x hx => by rw [List.mem_singleton.mp hx]; exact h)
  refine ⟨?_, ?_, ?_, ?_⟩
  · simpa [PyData.showableAll] using s
  · simp only [PyData.depth]; omega
  · have l2 : PyData.intsShort 13 (.int i) = true := by simpa [PyData.intsShortAll] using l
    have l3 := PyData.leavesShort_of_canLay0 13 (.int i) (by simp only [PyData.canLay0]) l2
    rw [PyData.leavesShort] at l3 ⊢
    exact decide_eq_true (Nat.le_trans (of_decide_eq_true l3) (by decide))
  · simp only [List.map_cons, List.map_nil, PyData.weightAll, List.length_cons, List.length_nil] at w
    omega
/-- rows of persons -/
abbrev rowD (r : List Int) : PyData := .list (r.map .int)
abbrev rowsD (rs : List (List Int)) : List PyData := rs.map rowD
def Sm (r : List Int) : Prop := r.length ≤ 25 ∧ ∀ x ∈ r, 0 ≤ x ∧ x ≤ 1000
theorem tx_row {r : List Int} (h : Sm r) : Tx 1 2775 (rowD r) := tx_list (n := 0) (w := 110) (m := 25) (fun d hd => by
  obtain ⟨x, hx, rfl⟩ := List.mem_map.mp hd
  have := h.2 x hx
  exact tx_int (by omega)) (by rw [List.length_map]; exact h.1)
theorem tx_rows {rs : List (List Int)} {m : Nat} (h : ∀ r ∈ rs, Sm r) (l : rs.length ≤ m) : Tx 2 (m * 2776) (.list (rowsD rs)) := tx_list (n := 1) (w := 2775) (m := m) (fun d hd => by
  obtain ⟨r, hr, rfl⟩ := List.mem_map.mp hd
  exact tx_row (h r hr)) (by rw [List.length_map]; exact l)
theorem tx_one {n w : Nat} {e : PyData} (h : Tx n w e) : Tx (n + 1) (w + 10) (.dict [(.str "0", e)]) := by
  have k : Tx 0 5 (.str "0") := tx_of (by decide +kernel)
  refine ⟨?_, ?_, ?_, ?_⟩
  · simp only [PyData.showable, PyData.showableKv, h.sh, k.sh, Bool.and_self]
  · have := h.dp
    have := k.dp
    simp only [PyData.depth, PyData.depthKv]
    omega
  · simp only [PyData.leavesShort, PyData.leavesShortKv, h.lv, Bool.and_true]
    exact k.lv
  · have := h.wt
    have := k.wt
    simp only [PyData.weight, PyData.weightKv]
    simp only [PyData.weight] at this
    omega
end K35

namespace K35
open PySem PySem.Spec PyProof.Rows L2 SortR LcM RepA Held
/-! ### displays of things -/
def MT (H0 : Hp) (σ : L2.St) (te : TE) (Pr : Hp → L2.V → Prop) : Prop := ∀ (H : Hp) (Q : VK), Grows H0 H → (∀ v H', Grows H H' → Pr H' v → Q v H') → te σ H Q
def MTs (H0 : Hp) (σ : L2.St) (t : TA) (Pr : Hp → L2.V → Prop) (n : Nat) : Prop := ∀ (H : Hp) (R : List L2.V → Hp → Prop), Grows H0 H → (∀ vs H', Grows H H' → vs.length = n → (∀ v ∈ vs, Pr H' v) → R vs H') → t σ H R
abbrev Last (Pr : Hp → L2.V → Prop) : Prop := ∀ H H' v, Pr H v → Grows H H' → Pr H' v
abbrev MD (H0 : Hp) (K : PySem.W.Frag) (σ : L2.St) (te : TE) (d : PyData) : Prop := MT H0 σ te fun H v => Dp K H v d
def MDs (H0 : Hp) (K : PySem.W.Frag) (σ : L2.St) (t : TA) (ds : List PyData) : Prop := ∀ (H : Hp) (R : List L2.V → Hp → Prop), Grows H0 H → (∀ vs H', Grows H H' → DpAll K H' vs ds → R vs H') → t σ H R
section
variable {H0 : Hp} {K : PySem.W.Frag} {σ : L2.St} {te : TE} {t : TA} {d : PyData} {ds : List PyData} {Pr Pr' : Hp → L2.V → Prop} {n : Nat}
theorem mt_nil : MTs H0 σ tNil Pr 0 := fun H R _ k => k [] H .refl rfl fun _ h => nomatch h
theorem mt_cons (last : Last Pr) (h1 : MT H0 σ te Pr) (h2 : MTs H0 σ t Pr n) : MTs H0 σ (tCons te t) Pr (n + 1) :=
  fun H R b k => h1 H _ b fun v H1 g1 p1 => h2 H1 _ (b.trans g1) fun vs H2 g2 l p2 => k (v :: vs) H2 (g1.trans g2) (congrArg (· + 1) l) fun x hx => by
    rcases List.mem_cons.mp hx with z | z
    · rw [z]
      exact last _ _ _ p1 g2
    · exact p2 x z
theorem mt_map (h : ∀ H v, Pr H v → Pr' H v) (m : MT H0 σ te Pr) : MT H0 σ te Pr' := fun H Q b k => m H Q b fun v H' g q => k v H' g (h _ _ q)
theorem md_nil : MDs H0 K σ tNil [] := fun H R _ k => k [] H .refl .nil
theorem md_cons (h1 : MD H0 K σ te d) (h2 : MDs H0 K σ t ds) : MDs H0 K σ (tCons te t) (d :: ds) :=
  fun H R b k => h1 H _ b fun v H1 g1 p1 => h2 H1 _ (b.trans g1) fun vs H2 g2 p2 => k (v :: vs) H2 (g1.trans g2) (.cons (Dp.grow g2 p1) p2)
theorem md_non : MD H0 K σ (tC .non) .none := fun H Q _ k => k _ H .refl .non
theorem md_bl {b : Bool} : MD H0 K σ (tC (.bl b)) (.bool b) := fun H Q _ k => k _ H .refl (.bl b)
theorem md_int {i : Int} : MD H0 K σ (tC (.int i)) (.int i) := fun H Q _ k => k _ H .refl (.int i)
theorem md_str {z : Str} : MD H0 K σ (tC (.str z)) (.str z) := fun H Q _ k => k _ H .refl (.str z)
theorem md_neg {i : Int} : MD H0 K σ (tUn (rU fun i => .int (-i)) (tC (.int i))) (.int (-i)) := fun H Q _ k => ⟨_, rfl, k _ H .refl (.int _)⟩
theorem md_pow {i j : Int} (h : CPowW i j) : MD H0 K σ (tOp (rI CPowW fun i j => .int (i ^ j.toNat)) (tC (.int i)) (tC (.int j))) (.int (i ^ j.toNat)) := fun H Q _ k => ⟨_, _, rfl, rfl, h, k _ H .refl (.int _)⟩
theorem md_var {i : Nat} {v : L2.V} (h : σ[i]? = some (some v)) (hd : Dp K H0 v d) : MD H0 K σ (tVar i) d := fun H Q b k => ⟨_, h, k _ H .refl (Dp.grow b hd)⟩
theorem md_lst (h : MDs H0 K σ t ds) (l : ds.length ≤ 1000) : MD H0 K σ (tLst t) (.list ds) := fun H Q b k => h H _ b fun vs H1 g1 all =>
  ⟨by rw [DpAll.len all]; exact Nat.le_trans l (by decide), fun q hq => k _ _ (g1.trans (Grows.new hq)) (.lst (SqL.of upd_same) (DpAll.grow (Grows.new hq) all))⟩
theorem md_tup (h : MDs H0 K σ t ds) (l : ds.length ≤ 1000) : MD H0 K σ (tTup t) (.tuple ds) := fun H Q b k => h H _ b fun vs H1 g1 all =>
  ⟨by rw [DpAll.len all]; exact Nat.le_trans l (by decide), fun q hq => k _ _ (g1.trans (Grows.new hq)) (.tup (SqT.of upd_same) (DpAll.grow (Grows.new hq) all))⟩
/-- tuple(x), x a list in a slot -/
theorem md_tupOf {i : Nat} {a : Addr} {xs : List L2.V} (h : σ[i]? = some (some (.ref a))) (hS : SqL K H0 a xs) (all : DpAll K H0 xs ds) : MD H0 K σ (tCB (rTup K) (tCons (tVar i) tNil)) (.tuple ds) := fun H Q b k =>
  ⟨_, h, a, xs, rfl, b.seq hS, fun t ht => k _ _ (Grows.new ht) (.tup (SqT.of upd_same) (DpAll.grow (b.trans (Grows.new ht)) all))⟩
theorem dp_app : ∀ {H : Hp} {xs ys : List L2.V} {ds es : List PyData}, DpAll K H xs ds → DpAll K H ys es → DpAll K H (xs ++ ys) (ds ++ es)
  | _, _, _, _, _, .nil, h => h
  | _, _, _, _, _, .cons a b, h => .cons a (dp_app b h)
/-- x + [..], x a list in a slot -/
theorem md_cat {i : Nat} {a : Addr} {xs : List L2.V} {es : List PyData} (h : σ[i]? = some (some (.ref a))) (hS : H0 a = some (.lst xs)) (all : DpAll K H0 xs ds) (m : MDs H0 K σ t es) (l : ds.length + es.length ≤ 1000) : MD H0 K σ (tOp rCat (tVar i) (tLst t)) (.list (ds ++ es)) := fun H Q b k =>
  ⟨_, h, m H _ b fun vs H1 g1 all2 => ⟨by rw [DpAll.len all2]; exact Nat.le_trans (show es.length ≤ 1000 by omega) (by decide), fun q hq => by
    have gq : Grows H1 (upd H1 q (.lst vs)) := Grows.new hq
    refine ⟨a, q, xs, vs, rfl, rfl, gq _ _ (g1 _ _ (b _ _ hS)), upd_same, by rw [DpAll.len all, DpAll.len all2]; exact Nat.le_trans l (by decide), fun y hy => ?_⟩
    have gy := gq.trans (Grows.new (o := .lst (xs ++ vs)) hy)
    exact k _ _ (g1.trans gy) (.lst (SqL.of upd_same) (dp_app (DpAll.grow ((b.trans g1).trans gy) all) (DpAll.grow gy all2)))⟩⟩
/-- x[..] + [..] -/
theorem md_catS {i : Nat} {a : Addr} {xs : List L2.V} {es : List PyData} {lo : L2.St → Hp → (Option Int → Hp → Prop) → Prop} (h : σ[i]? = some (some (.ref a))) (hS : H0 a = some (.lst xs)) {ys : List L2.V} (all : DpAll K H0 ys ds) (m : MDs H0 K σ t es) (l : ds.length + es.length ≤ 1000)
    {ts : TE} (hs : ∀ (H : Hp) (Q : VK), Grows H0 H → (∀ p, H p = none → Q (.ref p) (upd H p (.lst ys))) → ts σ H Q) : MD H0 K σ (tOp rCat ts (tLst t)) (.list (ds ++ es)) := fun H Q b k =>
  hs H _ b fun a ha => by
    have ga : Grows H (upd H a (.lst ys)) := Grows.new ha
    refine m _ _ (b.trans ga) fun vs H1 g1 all2 => ⟨by rw [DpAll.len all2]; exact Nat.le_trans (show es.length ≤ 1000 by omega) (by decide), fun q hq => ?_⟩
    have gq : Grows H1 (upd H1 q (.lst vs)) := Grows.new hq
    refine ⟨a, q, ys, vs, rfl, rfl, gq _ _ (g1 _ _ upd_same), upd_same, by rw [DpAll.len all, DpAll.len all2]; exact Nat.le_trans l (by decide), fun y hy => ?_⟩
    have gy := gq.trans (Grows.new (o := .lst (ys ++ vs)) hy)
    exact k _ _ ((ga.trans g1).trans gy) (.lst (SqL.of upd_same) (dp_app (DpAll.grow (((b.trans ga).trans g1).trans gy) all) (DpAll.grow gy all2)))
/-- x + x[..] -/
theorem md_catT {i : Nat} {a : Addr} {xs ys : List L2.V} {es : List PyData} (h : σ[i]? = some (some (.ref a))) (hS : H0 a = some (.lst xs)) (all : DpAll K H0 xs ds) (all2 : DpAll K H0 ys es) (l : ds.length + es.length ≤ 1000)
    {ts : TE} (hs : ∀ (H : Hp) (Q : VK), Grows H0 H → (∀ p, H p = none → Q (.ref p) (upd H p (.lst ys))) → ts σ H Q) : MD H0 K σ (tOp rCat (tVar i) ts) (.list (ds ++ es)) := fun H Q b k =>
  ⟨_, h, hs H _ b fun q hq => by
    have gq : Grows H (upd H q (.lst ys)) := Grows.new hq
    refine ⟨a, q, xs, ys, rfl, rfl, gq _ _ (b _ _ hS), upd_same, by rw [DpAll.len all, DpAll.len all2]; exact Nat.le_trans l (by decide), fun y hy => ?_⟩
    have gy := gq.trans (Grows.new (o := .lst (xs ++ ys)) hy)
    exact k _ _ gy (.lst (SqL.of upd_same) (dp_app (DpAll.grow (b.trans gy) all) (DpAll.grow (b.trans gy) all2)))⟩
theorem mt_dict : MT H0 σ tDNewK fun H v => Thg K H v (.dict []) := fun H Q b k q hq => k _ _ (Grows.new hq) (.inl (.inr ⟨q, rfl, upd_same, rfl⟩))
theorem seqL_but {H H' : Hp} {p a : Addr} {kvs : List (L2.Key × L2.V)} {xs : List L2.V} (hp : H p = some (.dK kvs)) (s : ∀ b o, b ≠ p → H b = some o → H' b = some o) (h : SqL K H a xs) : SqL K H' a xs := by
  rcases h with (h | ⟨o, h⟩) | h
  · exact .inl (.inl (s _ _ (fun z => by rw [z, hp] at h; cases h) h))
  · exact .inl (.inr ⟨o, s _ _ (fun z => by rw [z, hp] at h; cases h) h⟩)
  · exact .inr h
theorem seqT_but {H H' : Hp} {p a : Addr} {kvs : List (L2.Key × L2.V)} {xs : List L2.V} (hp : H p = some (.dK kvs)) (s : ∀ b o, b ≠ p → H b = some o → H' b = some o) (h : SqT K H a xs) : SqT K H' a xs := by
  rcases h with (h | ⟨o, h⟩) | h
  · exact .inl (.inl (s _ _ (fun z => by rw [z, hp] at h; cases h) h))
  · exact .inl (.inr ⟨o, s _ _ (fun z => by rw [z, hp] at h; cases h) h⟩)
  · exact .inr h
theorem dp_but {H H' : Hp} {p : Addr} {kvs : List (L2.Key × L2.V)} (hp : H p = some (.dK kvs)) (s : ∀ b o, b ≠ p → H b = some o → H' b = some o) {x : L2.V} {d : PyData} (h : Dp K H x d) : Dp K H' x d := by
  refine Dp.rec (motive_1 := fun x d _ => Dp K H' x d) (motive_2 := fun xs ds _ => DpAll K H' xs ds) ?_ ?_ ?_ ?_ ?_ ?_ ?_ ?_ h
  · exact .non
  · exact fun b => .bl b
  · exact fun i => .int i
  · exact fun x => .str x
  · exact fun q _ ih => .lst (seqL_but hp s q) ih
  · exact fun q _ ih => .tup (seqT_but hp s q) ih
  · exact .nil
  · exact fun _ _ a b => .cons a b
/-- {"0": ..} -/
theorem mt_one {z : Str} (m : MD H0 K σ te d) : MT H0 σ (tDisp [(tC (.str z), te)]) fun H v => Thg K H v (.dict [(.str z, d)]) := fun H Q b k p hp => by
  have gp : Grows H (upd H p (.dK [])) := Grows.new hp
  refine m _ _ (b.trans gp) fun v H1 g1 hd => ⟨g1 _ _ upd_same, [(Sum.inr z, v)], rfl, by show 1 ≤ 15; decide, ?_⟩
  have e1 : H1 p = some (.dK []) := g1 _ _ upd_same
  have tk : Grows H (upd H1 p (.dK [(Sum.inr z, v)])) := fun b o e => by
    rw [upd_ne (ne_of_none e hp)]
    exact (gp.trans g1) _ _ e
  exact k _ _ tk (.inr ⟨p, z, v, d, rfl, upd_same, dp_but e1 (fun b o n e => by rw [upd_ne n]; exact e) hd, rfl⟩)
end
/-! ### no parting -/
theorem no_len {ds : List PyData} (h : 20 ≤ ds.length) : isPD (.list ds) = false := by
  rw [isPD_list, decide_eq_false (by omega), Bool.false_and, Bool.false_and, Bool.false_and]
theorem no_grp {ds : List PyData} {d : PyData} (m : d ∈ ds) (no : grpD ((ds.length : Int) + 1) d = false) : isPD (.list ds) = false := by
  have z : ds.all (grpD ((ds.length : Int) + 1)) = false := by
    rw [Bool.eq_false_iff]
    intro t
    have := List.all_eq_true.mp t d m
    rw [no] at this
    cases this
  rw [isPD_list, z, Bool.and_false, Bool.false_and, Bool.false_and]
theorem no_asc {ds : List PyData} {i : Nat} (h : i + 1 < ds.length) (no : ¬ (ds.map toR).getD i [] < (ds.map toR).getD (i + 1) []) : isPD (.list ds) = false := by
  have z : ascR (ds.map toR) = false := by
    rw [Bool.eq_false_iff]
    intro t
    unfold ascR at t
    have := List.all_eq_true.mp t i (List.mem_range.mpr (by rw [List.length_map]; omega))
    exact no (of_decide_eq_true this)
  rw [isPD_list, z, Bool.and_false, Bool.false_and]
theorem toR_row (r : List Int) : toR (rowD r) = r := by
  show (r.map PyData.int).map toI = r
  rw [List.map_map]
  exact List.map_id r
theorem toR_rows (rs : List (List Int)) : (rowsD rs).map toR = rs := by
  unfold rowsD
  rw [List.map_map]
  refine (List.map_congr_left fun r _ => ?_).trans (List.map_id rs)
  exact toR_row r
theorem isP_up {rs : List (List Int)} (h : isP rs = true) : rs.Pairwise (· < ·) := by
  unfold isP at h
  simp only [Bool.and_eq_true, decide_eq_true_eq] at h
  obtain ⟨⟨⟨h1, h2⟩, h3⟩, h4⟩ := h
  clear h1 h2 h4
  unfold ascR at h3
  rw [List.all_eq_true] at h3
  induction rs with
  | nil => exact .nil
  | cons x ns ih =>
    have ih := ih fun i hi => by
      have hi := List.mem_range.mp hi
      have := h3 (i + 1) (List.mem_range.mpr (by rw [List.length_cons]; omega))
      simpa using this
    cases ns with
    | nil => exact List.pairwise_singleton _ _
    | cons y ns =>
      have h0 : x < y := of_decide_eq_true (h3 0 (List.mem_range.mpr (by simp)))
      refine List.pairwise_cons.mpr ⟨fun z hz => ?_, ih⟩
      rcases List.mem_cons.mp hz with e | e
      · rw [e]
        exact h0
      · exact List.lt_trans h0 ((List.pairwise_cons.mp ih).1 z e)
theorem not_back {a b : List Int} (h : a < b) : ¬ b < a := fun z => List.lt_irrefl _ (List.lt_trans h z)
def upto (k : Nat) : List Int := (List.range k).map fun i : Nat => (i : Int)
theorem upto_two (k : Nat) : ∃ t, upto (k + 2) = 0 :: 1 :: t := by
  refine ⟨(List.range k).map fun i => ((i + 1 + 1 : Nat) : Int), ?_⟩
  unfold upto
  rw [List.range_succ_eq_map, List.range_succ_eq_map, List.map_cons, List.map_cons, List.map_cons, List.map_map, List.map_map]
  rfl
theorem no_pre (t : List Int) : ¬ ((0 : Int) :: 1 :: t) < [0, 1] := fun h => by
  rcases List.cons_lt_cons_iff.mp h with q | ⟨_, q⟩
  · exact absurd q (by decide)
  · rcases List.cons_lt_cons_iff.mp q with q | ⟨_, q⟩
    · exact absurd q (by decide)
    · exact absurd q (List.not_lt_nil _)
/-- the company of more, and a pair behind it -/
theorem bad_more (rs : List (List Int)) : isPD (.list (rowsD rs ++ [rowD (upto (rs.length + 1 + 1)), .list [.int 0, .int 1]])) = false := by
  refine no_asc (i := rs.length) (by simp) ?_
  rw [List.map_append, toR_rows]
  obtain ⟨t, e⟩ := upto_two rs.length
  have e1 : (rs ++ List.map toR [rowD (upto (rs.length + 1 + 1)), PyData.list [.int 0, .int 1]]).getD rs.length [] = 0 :: 1 :: t := by
    rw [List.getD_eq_getElem?_getD, List.getElem?_append_right (Nat.le_refl _), Nat.sub_self]
    show toR (rowD (upto (rs.length + 1 + 1))) = _
    rw [toR_row, e]
  have e2 : (rs ++ List.map toR [rowD (upto (rs.length + 1 + 1)), PyData.list [.int 0, .int 1]]).getD (rs.length + 1) [] = [0, 1] := by
    rw [List.getD_eq_getElem?_getD, List.getElem?_append_right (by omega), Nat.add_sub_cancel_left]
    rfl
  rw [e1, e2]
  exact no_pre t
theorem bad_none (ds : List PyData) : isPD (.list (ds ++ [.none])) = false := no_grp (d := .none) (List.mem_append.mpr (.inr List.mem_cons_self)) rfl
/-- the first row once more at the end -/
theorem bad_twice {rs : List (List Int)} (h : isP rs = true) : rs = [] ∨ isPD (.list (rowsD rs ++ rowsD (rs.take 1))) = false := by
  have u := isP_up h
  cases rs with
  | nil => exact .inl rfl
  | cons r qs =>
    refine .inr ?_
    have e0 : (r :: qs).take 1 = [r] := rfl
    rw [e0]
    refine no_asc (i := qs.length) (by simp [rowsD]) ?_
    rw [List.map_append, toR_rows, toR_rows]
    have e1 : (r :: qs ++ [r]).getD (qs.length + 1) [] = r := by
      rw [List.getD_eq_getElem?_getD, List.getElem?_append_right (by simp), List.length_cons, Nat.sub_self]
      rfl
    rw [e1, List.getD_eq_getElem?_getD, List.getElem?_append_left (by simp), List.getElem?_eq_getElem (by simp), Option.getD_some]
    rcases Nat.eq_zero_or_pos qs.length with z | z
    · have : qs = [] := List.length_eq_zero_iff.mp z
      subst this
      exact List.lt_irrefl _
    · exact not_back (List.pairwise_iff_getElem.mp u 0 qs.length (by simp) (by simp) z)
/-- backwards -/
theorem bad_back {rs : List (List Int)} (h : isP rs = true) (l : 1 < rs.length) : isPD (.list (rowsD rs.reverse)) = false := by
  have u := isP_up h
  refine no_asc (i := 0) (by simp [rowsD]; omega) ?_
  rw [toR_rows, List.getD_eq_getElem?_getD, List.getD_eq_getElem?_getD, List.getElem?_reverse (by omega), List.getElem?_reverse (by omega), List.getElem?_eq_getElem (by omega), List.getElem?_eq_getElem (by omega), Option.getD_some, Option.getD_some]
  exact not_back (List.pairwise_iff_getElem.mp u _ _ (by omega) (by omega) (by omega))
/-- the rows as one row -/
theorem bad_row (ds : List PyData) (h : ∀ d ∈ ds, isL d = true) : isPD (.list [.list ds]) = false := by
  refine no_grp (d := .list ds) List.mem_cons_self ?_
  cases ds with
  | nil => rfl
  | cons d ds =>
    have z : persD (([PyData.list (d :: ds)].length : Int) + 1) d = false := by
      have := h d List.mem_cons_self
      cases d <;> first | rfl | cases this
    rw [grpD_list, plistD_list, List.all_cons, z, Bool.false_and, Bool.false_and, Bool.false_and]
theorem bad_long : isPD (.list (rowsD ((List.range 20).map fun k => upto (k + 2)))) = false := no_len (by simp [rowsD])
end K35

namespace K35
open PySem PySem.Spec PyProof.Rows L2 SortR LcM RepA Held
abbrev sBad : Stmt := top 63
section
variable {H0 H : Hp} {K : PySem.W.Frag} {σ : L2.St} {t : TA} {Pr : Hp → L2.V → Prop} {n : Nat} {i j : Nat} {rest : TS} {D : Ends}
theorem seq_lstT (last : Last Pr) (A : MTs H0 σ t Pr n) (l : n ≤ 1000) (g : Grows H0 H) (k : ∀ vs q H', Grows H H' → H' q = some (.lst vs) → vs.length = n → (∀ v ∈ vs, Pr H' v) → rest D (σ.set i (some (.ref q))) H') : tSeq (tAsg (tLst t) (gName i)) rest D σ H :=
  A H _ g fun vs H1 g1 l1 n1 => ⟨by rw [l1]; exact Nat.le_trans l (by decide), fun q hq => k vs q _ (g1.trans (Grows.new hq)) upd_same l1 fun v hv => last _ _ _ (n1 v hv) (Grows.new hq)⟩
theorem cat_any (last : Last Pr) (A : MTs H0 σ t Pr n) {a : Addr} {xs : List L2.V} (hv : σ[j]? = some (some (.ref a))) (ha : H a = some (.lst xs)) (nx : ∀ v ∈ xs, Pr H v) (l : xs.length + n ≤ 1000) (g : Grows H0 H) {Q : VK}
    (k : ∀ vs q H', Grows H H' → H' q = some (.lst (xs ++ vs)) → vs.length = n → (∀ v ∈ xs ++ vs, Pr H' v) → Q (.ref q) H') : tOp rCat (tVar j) (tLst t) σ H Q :=
  ⟨_, hv, A H _ g fun vs H1 g1 l1 n1 => ⟨by rw [l1]; exact Nat.le_trans (show n ≤ 1000 by omega) (by decide), fun q hq => by
    have gq : Grows H1 (upd H1 q (.lst vs)) := Grows.new hq
    refine ⟨a, q, xs, vs, rfl, rfl, (g1.trans gq) _ _ ha, upd_same, by rw [l1]; exact Nat.le_trans l (by decide), fun y hy => ?_⟩
    have gy := gq.trans (Grows.new (o := .lst (xs ++ vs)) hy)
    refine k vs y _ (g1.trans gy) upd_same l1 fun v hv => ?_
    rcases List.mem_append.mp hv with m | m
    · exact last _ _ _ (nx v m) (g1.trans gy)
    · exact last _ _ _ (n1 v m) gy⟩⟩
theorem seq_catT (last : Last Pr) (A : MTs H0 σ t Pr n) {a : Addr} {xs : List L2.V} (hv : σ[j]? = some (some (.ref a))) (ha : H a = some (.lst xs)) (nx : ∀ v ∈ xs, Pr H v) (l : xs.length + n ≤ 1000) (g : Grows H0 H)
    (k : ∀ vs q H', Grows H H' → H' q = some (.lst (xs ++ vs)) → vs.length = n → (∀ v ∈ xs ++ vs, Pr H' v) → rest D (σ.set i (some (.ref q))) H') : tSeq (tAsg (tOp rCat (tVar j) (tLst t)) (gName i)) rest D σ H :=
  cat_any last A hv ha nx l g k
end
/-! ### things that are no partings, or [] -/
def lyB : PyData → Bool
  | .dict _ => true
  | d => d.canLay0
def BL (K : PySem.W.Frag) (H : Hp) (v : L2.V) : Prop := ∃ d, Thg K H v d ∧ Tx 6 90000 d ∧ lyB d = true ∧ (d = .list [] ∨ (lim2B d = true ∧ isPD d = false))
theorem bl_last {K : PySem.W.Frag} : Last (BL K) := fun H H' v ⟨d, h, r⟩ g => ⟨d, h.grow g, r⟩
section
variable {H0 : Hp} {K : PySem.W.Frag} {σ : L2.St} {te : TE} {d : PyData}
theorem bl_md (h : MD H0 K σ te d) (tx : Tx 6 90000 d) (ly : lyB d = true) (l : lim2B d = true) (e : isPD d = false) : MT H0 σ te (BL K) := mt_map (fun H v q => ⟨d, .dp q, tx, ly, .inr ⟨l, e⟩⟩) h
theorem bl_c (h : MD H0 K σ te d) (tx : txB 6 90000 d = true) (ly : lyB d = true) (l : lim2B d = true) (e : isPD d = false) : MT H0 σ te (BL K) := bl_md h (tx_of tx) ly l e
theorem bl_dict : MT H0 σ tDNewK (BL K) := mt_map (fun H v q => ⟨_, q, tx_of (by decide +kernel), rfl, .inr ⟨rfl, rfl⟩⟩) mt_dict
end
theorem lay_all : ∀ {ds : List PyData}, (∀ d ∈ ds, d.canLay0 = true) → PyData.canLayAll0 ds = true
  | [], _ => by simp only [PyData.canLayAll0]
  | d :: ds, h => by
    simp only [PyData.canLayAll0]
    rw [h d List.mem_cons_self, lay_all fun e m => h e (List.mem_cons_of_mem _ m)]
    rfl
theorem lay_list {ds : List PyData} (h : ∀ d ∈ ds, d.canLay0 = true) : lyB (.list ds) = true := by
  show PyData.canLay0 (.list ds) = true
  simp only [PyData.canLay0]
  exact lay_all h
theorem lay_tuple {ds : List PyData} (h : ∀ d ∈ ds, d.canLay0 = true) : lyB (.tuple ds) = true := by
  show PyData.canLay0 (.tuple ds) = true
  simp only [PyData.canLay0]
  exact lay_all h
theorem lay_row (r : List Int) : (rowD r).canLay0 = true := by
  simp only [PyData.canLay0, lay_ints]
theorem lay_rowsM {rs : List (List Int)} : ∀ d ∈ rowsD rs, d.canLay0 = true := fun d hd => by
  obtain ⟨r, _, rfl⟩ := List.mem_map.mp hd
  exact lay_row r
theorem lim_rows {rs : List (List Int)} (h : ∀ r ∈ rs, Sm r) : ∀ d ∈ rowsD rs, limB d = true := fun d hd => by
  obtain ⟨r, hr, rfl⟩ := List.mem_map.mp hd
  have := (h r hr).1
  exact decide_eq_true (by rw [List.length_map]; omega)
theorem lim2_list {ds : List PyData} (l : ds.length ≤ 1000) (h : ∀ d ∈ ds, limB d = true) : lim2B (.list ds) = true := by
  show (decide (ds.length ≤ 1000) && ds.all limB) = true
  rw [decide_eq_true l, Bool.true_and]
  exact List.all_eq_true.mpr h
theorem cut_one (xs : List L2.V) : cutV xs none (some 1) = xs.take 1 := by
  unfold cutV
  rw [HT.sIx_none, show (some (1 : Int)) = some ((1 : Nat) : Int) from rfl, HT.sIx_nat, List.drop_zero, Nat.sub_zero]
  cases xs with
  | nil => rfl
  | cons x l =>
    have e : min 1 (x :: l).length = 1 := by rw [List.length_cons]; omega
    rw [e]
theorem rg_upto (k : Nat) : rgV 0 (k : Int) = (upto k).map L2.V.int := by
  rw [rg_ints, Int.toNat_natCast]
  unfold upto
  rw [List.map_map, List.map_map]
  refine List.map_congr_left fun i _ => ?_
  show L2.V.int (0 + (i : Nat)) = L2.V.int (i : Nat)
  rw [Int.zero_add]
theorem dp_rev {K : PySem.W.Frag} {H : Hp} : ∀ {xs : List L2.V} {ds : List PyData}, DpAll K H xs ds → DpAll K H xs.reverse ds.reverse
  | _, _, .nil => .nil
  | _, _, .cons a b => by
    rw [List.reverse_cons, List.reverse_cons]
    exact dp_app (dp_rev b) (.cons a .nil)
theorem tx_mems {n w : Nat} {rs : List (List Int)} (h : ∀ r ∈ rs, Sm r) (hn : 1 ≤ n) (hw : 2775 ≤ w) : ∀ d ∈ rowsD rs, Tx n w d := fun d hd => by
  obtain ⟨r, hr, rfl⟩ := List.mem_map.mp hd
  exact (tx_row (h r hr)).le hn hw
theorem sm_upto {k : Nat} (h : k ≤ 25) : Sm (upto k) := ⟨by unfold upto; rw [List.length_map, List.length_range]; exact h, fun x hx => by
  obtain ⟨i, hi, rfl⟩ := List.mem_map.mp hx
  have := List.mem_range.mp hi
  omega⟩
/-! ### chains -/
section
variable {g : TG} {te : TE} {vs : List Nat} {σ : L2.St} {H0 : Hp} {D : Addr} {Qd : Hp → Prop}
theorem lc_upto {n : Nat} (hD : H0 D = none) (small : n ≤ 100)
    (turn : ∀ (i : Nat) (H : Hp) (Ry : L2.V → Hp → Prop), i < n → (∀ q, H q = none → Ry (.ref q) (upd H q (.lst ((upto (i + 2)).map L2.V.int)))) → g (.int (0 + i)) (wipe σ vs) H fun σ2 H2 => wipe σ2 vs = wipe σ vs ∧ te σ2 H2 Ry)
    (done : ∀ (H : Hp) (cs : List (Addr × List Int)), Grows H0 H → cs.map (·.2) = (List.range n).map (fun k => upto (k + 2)) → H D = some (.lst (cs.map fun c => .ref c.1)) → (∀ c ∈ cs, H c.1 = some (.lst (c.2.map L2.V.int))) → Qd H) :
    ∃ W : Nat → Nat → Hp → Prop, (∃ m, W 0 m (upd H0 D (.lst []))) ∧ ∀ i m H, W i m H →
      ((Itr 0 n).stop i H ∧ Qd H) ∨ ((Itr 0 n).go i H ∧ ∃ Nx : Hp → Prop, (∀ H', Nx H' → ∃ m', m' < m ∧ W (i + 1) m' H') ∧ ∀ x H', (Itr 0 n).yld i H x H' → g x (wipe σ vs) H' fun σ2 H2 => wipe σ2 vs = wipe σ vs ∧ tYes σ2 H2 fun b H3 =>
        if b = true then te σ2 H3 fun y H4 => ∃ acc, H4 D = some (.lst acc) ∧ acc.length < sizeLine ∧ Nx (upd H4 D (.lst (acc ++ [y]))) else Nx H3) := by
  refine lc_range (lo := 0) (n := n) (fun i G => ∃ cs : List (Addr × List Int), Grows H0 G ∧ cs.map (·.2) = (List.range i).map (fun k => upto (k + 2)) ∧ G D = some (.lst (cs.map fun c => .ref c.1)) ∧ (∀ c ∈ cs, G c.1 = some (.lst (c.2.map L2.V.int))) ∧ ∀ c ∈ cs, c.1 ≠ D) ⟨[], Grows.new hD, rfl, upd_same, (fun _ h => nomatch h), fun _ h => nomatch h⟩ (fun i G hi ⟨cs, gr, ec, top, each, nw⟩ => ?_) fun G ⟨cs, gr, ec, top, each, nw⟩ => done G cs gr ec top each
  rw [yes_eq (A := fun σ2 => wipe σ2 vs = wipe σ vs)]
  refine turn i G _ hi fun q hq => ?_
  have lc : cs.length = i := by
    have := congrArg List.length ec
    rw [List.length_map, List.length_map, List.length_range] at this
    exact this
  have qD : q ≠ D := (ne_of_none top hq).symm
  have gq : Grows G (upd G q (.lst ((upto (i + 2)).map L2.V.int))) := Grows.new hq
  refine ⟨_, gq _ _ top, ?_, cs ++ [(q, upto (i + 2))], fun b o e => ?_, ?_, ?_, fun c hc => ?_, fun c hc => ?_⟩
  · rw [List.length_map, lc]
    exact Nat.lt_of_le_of_lt (show i ≤ 100 by omega) (by decide)
  · rw [upd_ne (ne_of_none e hD)]
    exact (gr.trans gq) _ _ e
  · rw [List.map_append, ec, List.range_succ, List.map_append]
    rfl
  · rw [upd_same, List.map_append]
    rfl
  · rcases List.mem_append.mp hc with m | m
    · rw [upd_ne (nw c m)]
      exact gq _ _ (each c m)
    · rw [List.mem_singleton.mp m, upd_ne qD]
      exact upd_same
  · rcases List.mem_append.mp hc with m | m
    · exact nw c m
    · rw [List.mem_singleton.mp m]
      exact qD
end
def spBad (K : PySem.W.Frag) : Sp := fun vs H Q _ => ∃ (a : Addr) (bs : List (Addr × List Int)), vs = [.ref a] ∧ H a = some (.lst (bs.map fun b => .ref b.1)) ∧ (∀ b ∈ bs, SqL K H b.1 (b.2.map L2.V.int)) ∧ isP (bs.map (·.2)) = true ∧ (∀ r ∈ bs.map (·.2), Sm r) ∧
  ∀ (p : Addr) (ws : List L2.V) (H' : Hp), Grows H H' → H' p = some (.lst ws) → ws.length = 27 → (∀ v ∈ ws, BL K H' v) → Q (.ref p) H'
section
variable {P : Program} {w : World} {K : PySem.W.Frag} {mg : Str → Option Value} {base : Heap}
theorem scBad : FnScope ["lot", "many_here", "found", "who"] ["lot"] (defScope sBad) := ⟨rfl, rfl, rfl, by decide +kernel, rfl, by decide +kernel, by decide +kernel⟩
theorem ok_bad {f : Addr} {fd : FuncData} (F : Fun K "_law_bad_lots" "_law_bad_lots" sBad f fd) (T : TxtP mg) : FnOk P w K mg base CX0 1 f fd ["lot"] (spBad K) := by
  refine F.ok scBad (fun vs H Q E h => ?_) (fun cdv A outer s H vs Q E hr h => ?_)
  · obtain ⟨a, bs, rfl, _⟩ := h
    rfl
  · obtain ⟨a, bs, rfl, hA, hB, hp, sm, k⟩ := h
    refine ⟨_, (pss_cons (ps_set (i := 1) scBad.nd rfl (.inl rfl) (pe_op op_add (pe_callB call_len_seq (by rfl) T.len (by decide +kernel) (pa_cons (pv 0) pa_nil)) pe_int))
      (pss_cons (ps_set (i := 2) scBad.nd rfl (.inl rfl) (pe_lst (pa_cons pe_non (pa_cons pe_int (pa_cons pe_bl (pa_cons pe_str (pa_cons pe_str (pa_cons (pe_tup pa_nil) (pa_cons pe_dnewK (pa_cons (pe_callTy (T := "tuple") (r := rTup K) (by exact call_tupK) (by rfl) T.tuple (by decide +kernel) (pa_cons (pv 0) pa_nil)) (pa_cons (pe_lst (pa_cons pe_non pa_nil)) (pa_cons (pe_lst (pa_cons (pe_lst pa_nil) pa_nil)) (pa_cons (pe_lst (pa_cons (pe_lst (pa_cons pe_int pa_nil)) pa_nil)) (pa_cons (pe_lst (pa_cons (pe_lst (pa_cons pe_int (pa_cons pe_int pa_nil))) pa_nil)) (pa_cons (pe_lst (pa_cons (pe_tup (pa_cons pe_int (pa_cons pe_int pa_nil))) pa_nil)) (pa_cons (pe_lst (pa_cons (pe_lst (pa_cons pe_int (pa_cons pe_int pa_nil))) pa_nil)) (pa_cons (pe_lst (pa_cons (pe_lst (pa_cons pe_int (pa_cons pe_int pa_nil))) pa_nil)) pa_nil)))))))))))))))))
      (pss_cons (ps_set (i := 2) scBad.nd rfl (.inl rfl) (pe_op op_cat (pv 2) (pe_lst (pa_cons (pe_op op_cat (pv 0) (pe_lst (pa_cons (pe_listRg rfl (by rfl) T.list (prg_1 (by rfl) T.range (pe_op op_add (pv 1) pe_int))) (pa_cons (pe_lst (pa_cons pe_int (pa_cons pe_int pa_nil))) pa_nil)))) (pa_cons (pe_op op_cat (pe_slice (r := rSlL K) sl_list (pv 0) (po_some pe_int) po_none) (pe_lst (pa_cons pe_non pa_nil))) (pa_cons (pe_lst (pa_cons (pe_lst (pa_cons pe_int (pa_cons pe_int pa_nil))) (pa_cons (pe_lst (pa_cons pe_int (pa_cons pe_int pa_nil))) pa_nil))) (pa_cons (pe_lst (pa_cons (pe_lst (pa_cons pe_int (pa_cons pe_int pa_nil))) (pa_cons (pe_lst (pa_cons pe_int (pa_cons pe_int pa_nil))) pa_nil))) pa_nil)))))))
      (pss_cons (ps_set (i := 2) scBad.nd rfl (.inl rfl) (pe_op op_cat (pv 2) (pe_lst (pa_cons (pe_op op_cat (pv 0) (pe_slice (r := rSlL K) sl_list (pv 0) po_none (po_some pe_int))) (pa_cons (pe_lst (pa_cons (pe_lst (pa_cons pe_bl (pa_cons pe_int pa_nil))) pa_nil)) (pa_cons (pe_lst (pa_cons (pe_lst (pa_cons pe_int (pa_cons (pe_op op_powW pe_int pe_int) pa_nil))) pa_nil)) (pa_cons (pe_disp (pps_cons pe_str (pv 0) pps_nil) (by rfl) (by rfl) (fun z => by cases z) (by decide)) (pa_cons (pe_lst (pa_cons (pv 0) pa_nil)) (pa_cons (pe_lst (pa_cons (pe_lst (pa_cons pe_int (pa_cons pe_int pa_nil))) (pa_cons (pe_lst (pa_cons pe_int (pa_cons pe_int (pa_cons pe_int pa_nil)))) (pa_cons (pe_lst (pa_cons pe_int (pa_cons pe_int pa_nil))) pa_nil)))) pa_nil)))))))))
      (pss_one (ps_ret (pe_op op_cat (pv 2) (pe_lst (pa_cons (pe_ifExp (pt_cmpR op_gt (pe_callB call_len_seq (by rfl) T.len (by decide +kernel) (pa_cons (pv 0) pa_nil)) pe_int (nomark _)) (pe_rev (pv 0)) (pe_lst (pa_cons (pe_lst (pa_cons pe_int (pa_cons pe_int (pa_cons pe_int pa_nil)))) pa_nil))) (pa_cons (pe_lc (own := [("who", 3)]) (g := gName 3) (tt := tYes) rfl scBad.nd (pi_range1 (by rfl) T.range (pa_cons pe_int pa_nil)) (blkOk_by (own := [("who", 3)]) (N := ["lot", "many_here", "found", "who"]) (sc := defScope sBad) (by decide +kernel)) (fun _ _ _ _ _ => pg_name (i := 3) scBad.nd rfl (Or.inl rfl)) (fun _ _ _ _ _ => pts_nil) (fun _ _ _ _ _ => (pe_listRg rfl (by rfl) T.list (prg_1 (by rfl) T.range (pe_op op_add (pv 3) pe_int))))) pa_nil)))))))))), ?_⟩
    have few := (isP_all hp).1
    rw [List.length_map] at few
    refine ⟨_, rfl, a, _, rfl, .inl (SqL.of hA), _, _, rfl, rfl, ?_⟩
    obtain ⟨mh, emh⟩ : ∃ mh : Int, mh = (((bs.map fun b => L2.V.ref b.1).length : Nat) : Int) + 1 := ⟨_, rfl⟩
    dsimp only
    show tSeq (tAsg (tLst _) (gName 2)) _ _ [some (.ref a), some (.int ((((bs.map fun b => L2.V.ref b.1).length : Nat) : Int) + 1)), none, none] H
    rw [← emh]
    have emh2 : mh = (bs.length : Int) + 1 := by rw [emh, List.length_map]
    obtain ⟨rs, ers⟩ : ∃ rs, rs = bs.map (·.2) := ⟨_, rfl⟩
    rw [← ers] at hp sm
    have rl : rs.length = bs.length := by rw [ers, List.length_map]
    have all : DpAll K H (bs.map fun b => L2.V.ref b.1) (rowsD rs) := by
      rw [ers]
      exact rows_data hB
    have dl : (rowsD rs).length = bs.length := by rw [← rl]; exact List.length_map ..
    have drs : ∀ r ∈ rs, r.length ≤ 1000 := fun r hr => by have := (sm r hr).1; omega
    have one : ∀ σ : L2.St, σ[0]? = some (some (.ref a)) → MD H K σ (tVar 0) (.list (rowsD rs)) := fun σ h => md_var h (.lst (SqL.of hA) all)
    have txR : Tx 3 60000 (.list (rowsD rs)) := (tx_rows sm (show rs.length ≤ 20 by omega)).le (by decide) (by decide)
    have txA : ∀ {ds : List PyData}, (∀ d ∈ ds, Tx 2 3000 d) → ds.length ≤ 22 → Tx 6 90000 (.list ds) := fun h l => (tx_list h l).le (by decide) (by decide)
    have txM : ∀ {qs : List (List Int)}, (∀ r ∈ qs, Sm r) → ∀ d ∈ rowsD qs, Tx 2 3000 d := fun h => tx_mems h (by decide) (by decide)
    have apM : ∀ {P : PyData → Prop} {ds es : List PyData}, (∀ d ∈ ds, P d) → (∀ d ∈ es, P d) → ∀ d ∈ ds ++ es, P d := fun h1 h2 d hd => (List.mem_append.mp hd).elim (h1 d) (h2 d)
    have iTup : ∀ {σ : L2.St}, σ[0]? = some (some (.ref a)) → MT H σ (tCB (rTup K) (tCons (tVar 0) tNil)) (BL K) := fun {σ} h =>
      bl_md (md_tupOf h (SqL.of hA) all) ((tx_tuple (txM sm) (show (rowsD rs).length ≤ 22 by omega)).le (by decide) (by decide)) (lay_tuple lay_rowsM) rfl rfl
    have up2 : Sm (upto (rs.length + 1 + 1)) := sm_upto (by omega)
    have rng : ∀ {σ : L2.St}, σ[1]? = some (some (.int mh)) → MD H K σ (tLstRg (tRg1 (tOp (rI0 fun i j => .int (i + j)) (tVar 1) (tC (.int 1))))) (rowD (upto (rs.length + 1 + 1))) := fun {σ} h G R b kk => by
      refine ⟨_, h, _, _, rfl, rfl, _, rfl, .of_le (by decide) (by omega) (by decide) (by omega), fun q hq => kk _ _ (Grows.new hq) ?_⟩
      have e : mh + 1 = ((rs.length + 1 + 1 : Nat) : Int) := by omega
      rw [e, rg_upto]
      exact .lst (SqL.of upd_same) (rows_dp _)
    have iMore : ∀ {σ : L2.St}, σ[0]? = some (some (.ref a)) → σ[1]? = some (some (.int mh)) → MT H σ (tOp rCat (tVar 0) (tLst (tCons (tLstRg (tRg1 (tOp (rI0 fun i j => .int (i + j)) (tVar 1) (tC (.int 1))))) (tCons (tLst (tCons (tC (.int 0)) (tCons (tC (.int 1)) tNil))) tNil)))) (BL K) := fun {σ} h h1 => by
      have two : ∀ d ∈ [rowD (upto (rs.length + 1 + 1)), PyData.list [.int 0, .int 1]], Tx 2 3000 d ∧ d.canLay0 = true ∧ limB d = true := fun d hd => by
        rcases List.mem_cons.mp hd with e | e
        · rw [e]
          exact ⟨(tx_row up2).le (by decide) (by decide), lay_row _, lim_rows (rs := [upto (rs.length + 1 + 1)]) (fun r hr => by rw [List.mem_singleton.mp hr]; exact up2) _ List.mem_cons_self⟩
        · rw [List.mem_singleton.mp e]
          exact ⟨tx_of (by decide +kernel), by decide +kernel, rfl⟩
      exact bl_md (md_cat h hA all (md_cons (rng h1) (md_cons (md_lst (md_cons md_int (md_cons md_int md_nil)) (Nat.le_of_ble_eq_true rfl)) md_nil)) (by rw [dl]; show bs.length + 2 ≤ 1000; omega))
        (txA (apM (txM sm) fun d hd => (two d hd).1) (by rw [List.length_append, dl]; show bs.length + 2 ≤ 22; omega)) (lay_list (apM lay_rowsM fun d hd => (two d hd).2.1)) (lim2_list (by rw [List.length_append, dl]; show bs.length + 2 ≤ 1000; omega) (apM (lim_rows sm) fun d hd => (two d hd).2.2)) (bad_more rs)
    have allT : DpAll K H ((bs.map fun b => L2.V.ref b.1).tail) (rowsD rs.tail) := by
      rw [ers]
      cases bs with
      | nil => exact .nil
      | cons b br => exact rows_data fun c hc => hB c (List.mem_cons_of_mem _ hc)
    have smT : ∀ r ∈ rs.tail, Sm r := fun r hr => sm r (List.mem_of_mem_tail hr)
    have lT : (rowsD rs.tail).length ≤ bs.length := by
      rw [List.length_map, List.length_tail]
      omega
    have iNone : ∀ {σ : L2.St}, σ[0]? = some (some (.ref a)) → MT H σ (tOp rCat (tSl (rSlL K) (tVar 0) (tPart (tC (.int 1))) tNoPart) (tLst (tCons (tC .non) tNil))) (BL K) := fun {σ} h =>
      bl_md (md_catS (i := 0) (lo := fun _ _ _ => True) h hA allT (md_cons md_non md_nil) (by show (rowsD rs.tail).length + 1 ≤ 1000; omega) (fun G R b kk => ⟨_, h, 1, rfl, a, _, rfl, SqL.of (b _ _ hA), fun p hp => by rw [cut_tail]; exact kk p hp⟩))
        (txA (apM (txM smT) fun d hd => by rw [List.mem_singleton.mp hd]; exact tx_of (by decide +kernel)) (by rw [List.length_append]; show (rowsD rs.tail).length + 1 ≤ 22; omega)) (lay_list (apM lay_rowsM fun d hd => by rw [List.mem_singleton.mp hd]; decide +kernel)) (lim2_list (by rw [List.length_append]; show (rowsD rs.tail).length + 1 ≤ 1000; omega) (apM (lim_rows smT) fun d hd => by rw [List.mem_singleton.mp hd]; rfl)) (bad_none _)
    have allO : DpAll K H ((bs.map fun b => L2.V.ref b.1).take 1) (rowsD (rs.take 1)) := by
      rw [ers]
      cases bs with
      | nil => exact .nil
      | cons b br => exact .cons (.lst (hB b List.mem_cons_self) (rows_dp _)) .nil
    have smO : ∀ r ∈ rs.take 1, Sm r := fun r hr => sm r (List.mem_of_mem_take hr)
    have lO : (rowsD (rs.take 1)).length ≤ 1 := by
      rw [List.length_map, List.length_take]
      omega
    have iTwice : ∀ {σ : L2.St}, σ[0]? = some (some (.ref a)) → MT H σ (tOp rCat (tVar 0) (tSl (rSlL K) (tVar 0) tNoPart (tPart (tC (.int 1))))) (BL K) := fun {σ} h => by
      refine mt_map (fun G v q => ?_) (md_catT h hA all allO (by omega) (fun G R b kk => ⟨_, h, 1, rfl, a, _, rfl, SqL.of (b _ _ hA), fun p hp => by rw [cut_one]; exact kk p hp⟩))
      refine ⟨_, .dp q, txA (apM (txM sm) (txM smO)) (by rw [List.length_append]; omega), lay_list (apM lay_rowsM lay_rowsM), ?_⟩
      rcases bad_twice hp with e | e
      · refine .inl ?_
        rw [e]
        rfl
      · exact .inr ⟨lim2_list (by rw [List.length_append]; omega) (apM (lim_rows sm) (lim_rows smO)), e⟩
    have lyR : PyData.canLay0 (.list (rowsD rs)) = true := lay_list lay_rowsM
    have iOne : ∀ {σ : L2.St}, σ[0]? = some (some (.ref a)) → MT H σ (tDisp [(tC (.str "0"), tVar 0)]) (BL K) := fun {σ} h =>
      mt_map (fun G v q => ⟨_, q, (tx_one txR).le (by decide) (by decide), rfl, .inr ⟨rfl, rfl⟩⟩) (mt_one (one σ h))
    have iRow : ∀ {σ : L2.St}, σ[0]? = some (some (.ref a)) → MT H σ (tLst (tCons (tVar 0) tNil)) (BL K) := fun {σ} h =>
      bl_md (md_lst (md_cons (one σ h) md_nil) (Nat.le_of_ble_eq_true rfl)) ((tx_list (n := 3) (w := 60000) (m := 1) (fun d hd => by rw [List.mem_singleton.mp hd]; exact txR) (Nat.le_refl _)).le (by decide) (by decide)) (lay_list fun d hd => by rw [List.mem_singleton.mp hd]; exact lyR) (lim2_list (by show 1 ≤ 1000; decide) fun d hd => by rw [List.mem_singleton.mp hd]; exact decide_eq_true (by omega)) (bad_row _ fun d hd => by
          obtain ⟨r, _, rfl⟩ := List.mem_map.mp hd
          rfl)
    have iBack : ∀ {σ : L2.St}, σ[0]? = some (some (.ref a)) → MT H σ (tIf (tTest (tOp (rI0 fun i j => .bl (decide (j < i))) (tCB (rLenS K) (tCons (tVar 0) tNil)) (tC (.int 1)))) (tRev K (tVar 0)) (tLst (tCons (tLst (tCons (tC (.int 0)) (tCons (tC (.int 1)) (tCons (tC (.int 2)) tNil)))) tNil))) (BL K) := fun {σ} h G R b kk => by
      refine ⟨_, h, a, _, rfl, .inl (b.seq (SqL.of hA)), _, _, rfl, rfl, _, rfl, ?_⟩
      refine iteN _ (fun e => ?_) fun _ => ?_
      · have e := of_decide_eq_true e
        rw [List.length_map] at e
        refine ⟨_, h, a, _, rfl, b.seq (SqL.of hA), fun D hD => kk _ _ (Grows.new hD) ⟨.list (rowsD rs.reverse), .dp (.lst (SqL.of upd_same) ?_), txA (txM fun r hr => sm r (List.mem_reverse.mp hr)) (by rw [List.length_map, List.length_reverse]; omega), lay_list lay_rowsM, .inr ⟨lim2_list (by rw [List.length_map, List.length_reverse]; omega) (lim_rows fun r hr => sm r (List.mem_reverse.mp hr)), bad_back hp (by omega)⟩⟩⟩
        have q := dp_rev (DpAll.grow (b.trans (Grows.new (o := .lst (bs.map fun b => L2.V.ref b.1).reverse) hD)) all)
        have er : (rowsD rs).reverse = rowsD rs.reverse := (List.map_reverse).symm
        rw [er] at q
        exact q
      · exact bl_c (K := K) (H0 := H) (md_lst (md_cons (md_lst (md_cons md_int (md_cons md_int (md_cons md_int md_nil))) (Nat.le_of_ble_eq_true rfl)) md_nil) (Nat.le_of_ble_eq_true rfl)) (by decide +kernel) (by decide +kernel) (by decide +kernel) (by decide +kernel) G R b kk
    have iLong : ∀ {σ : L2.St}, wipe σ [3] = σ → (∀ v, wipe (σ.set 3 (some v)) [3] = σ) → (∀ v, (σ.set 3 (some v))[3]? = some (some v)) → MT H σ (tLc (iRng1 (tCons (tC (.int 20)) tNil)) (gName 3) tYes (tLstRg (tRg1 (tOp (rI0 fun i j => .int (i + j)) (tVar 3) (tC (.int 2))))) [3]) (BL K) := fun {σ} h hw h3 G R b kk => by
      refine ⟨20, rfl, by decide, by decide, fun D hD => lc_upto (n := 20) hD (by decide) (fun i G2 Ry hi kR => ?_) fun G2 cs g2 ec top each => ?_⟩
      · rw [h]
        refine ⟨by rw [hw], _, h3 _, _, _, rfl, rfl, _, rfl, .of_le (by decide) (by omega) (by decide) (by omega), fun q hq => ?_⟩
        rw [show (0 + (i : Int) + 2) = ((i + 2 : Nat) : Int) by omega, rg_upto]
        exact kR q hq
      · refine kk _ _ g2 ⟨.list (rowsD (cs.map (·.2))), .dp (.lst (SqL.of top) (rows_data fun c hc => SqL.of (each c hc))), ?_⟩
        rw [ec]
        exact ⟨tx_of (by decide +kernel), by decide +kernel, .inr ⟨by decide +kernel, bad_long⟩⟩
    refine seq_lstT (n := 15) bl_last ((mt_cons bl_last (bl_c md_non (by decide +kernel) (by decide +kernel) (by decide +kernel) (by decide +kernel)) (mt_cons bl_last (bl_c md_int (by decide +kernel) (by decide +kernel) (by decide +kernel) (by decide +kernel)) (mt_cons bl_last (bl_c md_bl (by decide +kernel) (by decide +kernel) (by decide +kernel) (by decide +kernel)) (mt_cons bl_last (bl_c md_str (by decide +kernel) (by decide +kernel) (by decide +kernel) (by decide +kernel)) (mt_cons bl_last (bl_c md_str (by decide +kernel) (by decide +kernel) (by decide +kernel) (by decide +kernel)) (mt_cons bl_last (bl_c (md_tup md_nil (Nat.le_of_ble_eq_true rfl)) (by decide +kernel) (by decide +kernel) (by decide +kernel) (by decide +kernel)) (mt_cons bl_last bl_dict (mt_cons bl_last (iTup rfl) (mt_cons bl_last (bl_c (md_lst (md_cons md_non md_nil) (Nat.le_of_ble_eq_true rfl)) (by decide +kernel) (by decide +kernel) (by decide +kernel) (by decide +kernel)) (mt_cons bl_last (bl_c (md_lst (md_cons (md_lst md_nil (Nat.le_of_ble_eq_true rfl)) md_nil) (Nat.le_of_ble_eq_true rfl)) (by decide +kernel) (by decide +kernel) (by decide +kernel) (by decide +kernel)) (mt_cons bl_last (bl_c (md_lst (md_cons (md_lst (md_cons md_int md_nil) (Nat.le_of_ble_eq_true rfl)) md_nil) (Nat.le_of_ble_eq_true rfl)) (by decide +kernel) (by decide +kernel) (by decide +kernel) (by decide +kernel)) (mt_cons bl_last (bl_c (md_lst (md_cons (md_lst (md_cons md_int (md_cons md_int md_nil)) (Nat.le_of_ble_eq_true rfl)) md_nil) (Nat.le_of_ble_eq_true rfl)) (by decide +kernel) (by decide +kernel) (by decide +kernel) (by decide +kernel)) (mt_cons bl_last (bl_c (md_lst (md_cons (md_tup (md_cons md_int (md_cons md_int md_nil)) (Nat.le_of_ble_eq_true rfl)) md_nil) (Nat.le_of_ble_eq_true rfl)) (by decide +kernel) (by decide +kernel) (by decide +kernel) (by decide +kernel)) (mt_cons bl_last (bl_c (md_lst (md_cons (md_lst (md_cons md_int (md_cons md_int md_nil)) (Nat.le_of_ble_eq_true rfl)) md_nil) (Nat.le_of_ble_eq_true rfl)) (by decide +kernel) (by decide +kernel) (by decide +kernel) (by decide +kernel)) (mt_cons bl_last (bl_c (md_lst (md_cons (md_lst (md_cons md_int (md_cons md_int md_nil)) (Nat.le_of_ble_eq_true rfl)) md_nil) (Nat.le_of_ble_eq_true rfl)) (by decide +kernel) (by decide +kernel) (by decide +kernel) (by decide +kernel)) mt_nil)))))))))))))))) (by decide) .refl fun vs1 q1 H1 g1 e1 l1 n1 => ?_
    dsimp only [List.set_cons_succ, List.set_cons_zero]
    refine seq_catT (n := 4) bl_last ((mt_cons bl_last (iMore rfl rfl) (mt_cons bl_last (iNone rfl) (mt_cons bl_last (bl_c (md_lst (md_cons (md_lst (md_cons md_int (md_cons md_int md_nil)) (Nat.le_of_ble_eq_true rfl)) (md_cons (md_lst (md_cons md_int (md_cons md_int md_nil)) (Nat.le_of_ble_eq_true rfl)) md_nil)) (Nat.le_of_ble_eq_true rfl)) (by decide +kernel) (by decide +kernel) (by decide +kernel) (by decide +kernel)) (mt_cons bl_last (bl_c (md_lst (md_cons (md_lst (md_cons md_int (md_cons md_int md_nil)) (Nat.le_of_ble_eq_true rfl)) (md_cons (md_lst (md_cons md_int (md_cons md_int md_nil)) (Nat.le_of_ble_eq_true rfl)) md_nil)) (Nat.le_of_ble_eq_true rfl)) (by decide +kernel) (by decide +kernel) (by decide +kernel) (by decide +kernel)) mt_nil))))) rfl e1 n1 (by rw [l1]; decide) g1 fun vs2 q2 H2 g2 e2 l2 n2 => ?_
    dsimp only [List.set_cons_succ, List.set_cons_zero]
    refine seq_catT (n := 6) bl_last ((mt_cons bl_last (iTwice rfl) (mt_cons bl_last (bl_c (md_lst (md_cons (md_lst (md_cons md_bl (md_cons md_int md_nil)) (Nat.le_of_ble_eq_true rfl)) md_nil) (Nat.le_of_ble_eq_true rfl)) (by decide +kernel) (by decide +kernel) (by decide +kernel) (by decide +kernel)) (mt_cons bl_last (bl_c (md_lst (md_cons (md_lst (md_cons md_int (md_cons (md_pow ⟨by decide, by decide⟩) md_nil)) (Nat.le_of_ble_eq_true rfl)) md_nil) (Nat.le_of_ble_eq_true rfl)) (by decide +kernel) (by decide +kernel) (by decide +kernel) (by decide +kernel)) (mt_cons bl_last (iOne rfl) (mt_cons bl_last (iRow rfl) (mt_cons bl_last (bl_c (md_lst (md_cons (md_lst (md_cons md_int (md_cons md_int md_nil)) (Nat.le_of_ble_eq_true rfl)) (md_cons (md_lst (md_cons md_int (md_cons md_int (md_cons md_int md_nil))) (Nat.le_of_ble_eq_true rfl)) (md_cons (md_lst (md_cons md_int (md_cons md_int md_nil)) (Nat.le_of_ble_eq_true rfl)) md_nil))) (Nat.le_of_ble_eq_true rfl)) (by decide +kernel) (by decide +kernel) (by decide +kernel) (by decide +kernel)) mt_nil))))))) rfl e2 n2 (by rw [List.length_append, l1, l2]; decide) (g1.trans g2) fun vs3 q3 H3 g3 e3 l3 n3 => ?_
    dsimp only [List.set_cons_succ, List.set_cons_zero]
    have g13 := (g1.trans g2).trans g3
    refine cat_any (n := 2) bl_last ((mt_cons bl_last (iBack rfl) (mt_cons bl_last (iLong rfl (fun _ => rfl) fun _ => rfl) mt_nil))) rfl e3 n3 (by rw [List.length_append, List.length_append, l1, l2, l3]; decide) g13 fun vs4 q4 H4 g4 e4 l4 n4 => ?_
    exact k q4 _ H4 (g13.trans g4) e4 (by rw [List.length_append, List.length_append, List.length_append, l1, l2, l3, l4]) n4
end
end K35

namespace K35
open PySem PySem.Spec PyProof.Rows L2 SortR LcM RepA Held
/-! ### what the calls are due to do -/
def Gd (K : PySem.W.Frag) (c : List Addr) (H : Hp) (door : Int) (x y : L2.V) (r : Option Nat) : Prop := ∃ d1 d2, Dq K H x d1 ∧ Dq K H y d2 ∧ Tx 20 100000 d1 ∧ Tx 20 100000 d2 ∧ (∀ i, r = some i → i < 7) ∧ ∀ H1, Grows H H1 → Due K c door x y r H1
/-- a parting that stands -/
structure Lot (K : PySem.W.Frag) (H : Hp) (a : Addr) (bs : List (Addr × List Int)) (n : Int) : Prop where
  top : H a = some (.lst (bs.map fun b => .ref b.1))
  each : ∀ b ∈ bs, H b.1 = some (.lst (b.2.map L2.V.int))
  isp : isP (bs.map (·.2)) = true
  hv : hvB (bs.map (·.2)) = true
  sm : ∀ r ∈ bs.map (·.2), Sm r
  len : n = (bs.length : Int) + 1
theorem Lot.grow {K : PySem.W.Frag} {H H' : Hp} {a : Addr} {bs : List (Addr × List Int)} {n : Int} (g : Grows H H') (l : Lot K H a bs n) : Lot K H' a bs n := ⟨g _ _ l.top, fun b hb => g _ _ (l.each b hb), l.isp, l.hv, l.sm, l.len⟩
theorem Lot.rw {K : PySem.W.Frag} {H : Hp} {a : Addr} {bs : List (Addr × List Int)} {n : Int} (l : Lot K H a bs n) : Rw K H a bs := ⟨SqL.of l.top, fun b hb => SqL.of (l.each b hb)⟩
theorem Lot.few {K : PySem.W.Frag} {H : Hp} {a : Addr} {bs : List (Addr × List Int)} {n : Int} (l : Lot K H a bs n) : bs.length < 20 := by
  have := (isP_all l.isp).1
  rwa [List.length_map] at this
theorem Lot.sz {K : PySem.W.Frag} {H : Hp} {a : Addr} {bs : List (Addr × List Int)} {n : Int} (l : Lot K H a bs n) : Sz (bs.map (·.2)) := ⟨by have := l.few; rw [List.length_map]; omega, fun r hr => by have := (l.sm r hr).1; omega⟩
theorem Lot.dp {K : PySem.W.Frag} {H : Hp} {a : Addr} {bs : List (Addr × List Int)} {n : Int} (l : Lot K H a bs n) : Dp K H (.ref a) (.list (rowsD (bs.map (·.2)))) := .lst (SqL.of l.top) (rows_data fun b hb => SqL.of (l.each b hb))
theorem Lot.tx {K : PySem.W.Frag} {H : Hp} {a : Addr} {bs : List (Addr × List Int)} {n : Int} (l : Lot K H a bs n) : Tx 20 100000 (.list (rowsD (bs.map (·.2)))) :=
  (tx_rows l.sm (show (bs.map (·.2)).length ≤ 20 by have := l.few; rw [List.length_map]; omega)).le (by decide) (by decide)
/-! ### things that are no lists of persons -/
def OD (K : PySem.W.Frag) (n : Int) (H : Hp) (v : L2.V) : Prop := ∃ d, Thg K H v d ∧ Tx 6 90000 d ∧ limB d = true ∧ plistD n d = false ∧ famNo n d = true
theorem od_last {K : PySem.W.Frag} {n : Int} : Last (OD K n) := fun H H' v ⟨d, h, r⟩ g => ⟨d, h.grow g, r⟩
/-- small ascending rows -/
def PL (K : PySem.W.Frag) (n : Int) (H : Hp) (v : L2.V) : Prop := ∃ r : List Int, Dp K H v (rowD r) ∧ Sm r ∧ plistD n (rowD r) = true
theorem pl_last {K : PySem.W.Frag} {n : Int} : Last (PL K n) := fun H H' v ⟨r, h, q⟩ g => ⟨r, Dp.grow g h, q⟩
theorem tx_n : Tx 20 100000 .none := tx_of (by decide +kernel)
theorem tx_i {i : Int} (h : i.natAbs < 10 ^ 12 ∨ i = 10 ^ 30 ∨ i = -(10 ^ 30)) : Tx 20 100000 (.int i) := by
  rcases h with h | rfl | rfl
  · exact (tx_int h).le (by decide) (by decide)
  · exact tx_of (by decide +kernel)
  · exact tx_of (by decide +kernel)
abbrev SmI (i : Int) : Prop := i.natAbs < 10 ^ 12 ∨ i = 10 ^ 30 ∨ i = -(10 ^ 30)
section
variable {K : PySem.W.Frag} {c : List Addr} {H : Hp} {x y v : L2.V} {n m : Int} {a : Addr} {bs : List (Addr × List Int)}
theorem dq_non : Dq K H .non .none := .base (.inl .non)
theorem dq_int : Dq K H (.int n) (.int n) := .base (.inl (.int n))
theorem lt7 {j : Nat} (h : j < 7) : ∀ i, some j = some i → i < 7 := fun i e => by cases e; exact h
theorem no7 : ∀ i, (none : Option Nat) = some i → i < 7 := fun i e => nomatch e
/-- no such company -/
theorem gd_many {door : Int} (hd : door = 0 ∨ door = 1 ∨ door = 2 ∨ door = 3) (no : ¬ (1 ≤ m ∧ m ≤ 20)) (s : SmI m) : Gd K c H door (.int m) .non (some 0) := by
  refine ⟨.int m, .none, dq_int, dq_non, tx_i s, tx_n, lt7 (by decide), fun H1 g1 Q E h1 h2 => ?_⟩
  rcases hd with rfl | rfl | rfl | rfl
  · exact .inl ⟨rfl, m, _, rfl, .inl ⟨no, h2 0 rfl⟩⟩
  · exact .inr (.inl ⟨rfl, m, rfl, .inl ⟨no, h2 0 rfl⟩⟩)
  · exact .inr (.inr (.inl ⟨rfl, m, rfl, .inl ⟨no, h2 0 rfl⟩⟩))
  · exact .inr (.inr (.inr (.inl ⟨rfl, m, _, rfl, .inl ⟨no, h2 0 rfl⟩⟩)))
theorem gd_many4 (no : ¬ (1 ≤ m ∧ m ≤ 20)) (s : SmI m) : Gd K c H 4 (.int m) (.int (-1)) (some 0) :=
  ⟨.int m, .int (-1), dq_int, dq_int, tx_i s, tx_i (.inl (by decide)), lt7 (by decide), fun H1 g1 Q E h1 h2 => .inr (.inr (.inr (.inr (.inl ⟨rfl, m, _, rfl, .inl ⟨no, h2 0 rfl⟩⟩))))⟩
/-- no parting -/
def BadP (K : PySem.W.Frag) (H : Hp) (v : L2.V) : Prop := ∃ d, Thg K H v d ∧ Tx 6 90000 d ∧ lim2B d = true ∧ isPD d = false
theorem badp_last : Last (BadP K) := fun H H' v ⟨d, h, r⟩ g => ⟨d, h.grow g, r⟩
theorem gd_lot (h : BadP K H v) {door : Int} (hd : door = 5 ∨ door = 6) : Gd K c H door v .non (some 5) := by
  obtain ⟨d, hd0, tx, l, e⟩ := h
  refine ⟨d, .none, hd0.dq, dq_non, tx.le (by decide) (by decide), tx_n, lt7 (by decide), fun H1 g1 Q E h1 h2 => ?_⟩
  have nop := thg_nop (hd0.grow g1) l e
  rcases hd with rfl | rfl
  · exact .inr (.inr (.inr (.inr (.inr (.inl ⟨rfl, .inl ⟨_, rfl, nop, h2 5 rfl⟩⟩)))))
  · exact .inr (.inr (.inr (.inr (.inr (.inr ⟨rfl, _, _, rfl, .inl ⟨nop, h2 5 rfl⟩⟩)))))
theorem gd_knot6 (l : Lot K H a bs n) (h : OD K n H v) : Gd K c H 6 (.ref a) v (some 3) := by
  obtain ⟨d, hd, tx, lb, e, _⟩ := h
  refine ⟨_, d, .base (.inl l.dp), hd.dq, l.tx, tx.le (by decide) (by decide), lt7 (by decide), fun H1 g1 Q E h1 h2 => ?_⟩
  have l1 := l.grow g1
  exact .inr (.inr (.inr (.inr (.inr (.inr ⟨rfl, _, _, rfl, .inr ⟨a, bs, rfl, l1.rw, l1.sz, l1.isp, l1.hv, .inl ⟨fun H2 g2 => by rw [← l1.len]; exact thg_nopl ((hd.grow g1).grow g2) lb e, h2 3 rfl⟩⟩⟩)))))
theorem gd_knot3 (n1 : 1 ≤ n) (n2 : n ≤ 20) (hd : Thg K H v d) (tx : Tx 6 90000 d) (lb : limB d = true) (e : grpD n d = false) : Gd K c H 3 (.int n) v (some 3) :=
  ⟨.int n, d, dq_int, hd.dq, tx_i (.inl (by omega)), tx.le (by decide) (by decide), lt7 (by decide), fun H1 g1 Q E h1 h2 => .inr (.inr (.inr (.inl ⟨rfl, n, _, rfl, .inr ⟨n1, n2, .inl ⟨fun H2 g2 => thg_nogr ((hd.grow g1).grow g2) lb e, h2 3 rfl⟩⟩⟩)))⟩
theorem gd_fam (n1 : 1 ≤ n) (n2 : n ≤ 20) {d : PyData} (hq : Dq K H y d) (tx : Tx 20 100000 d) (h : ∀ H', Grows H H' → NoFam K n H' y) : Gd K c H 0 (.int n) y none :=
  ⟨.int n, d, dq_int, hq, tx_i (.inl (by omega)), tx, no7, fun H1 g1 Q E h1 h2 => .inl ⟨rfl, n, _, rfl, .inr ⟨n1, n2, .inl fun H2 g2 => h H2 (g1.trans g2), fun v H2 g2 => h1 rfl v H2 g2⟩⟩⟩
theorem gd_famL (l : Lot K H a bs n) (n1 : 1 ≤ n) (n2 : n ≤ 20) : Gd K c H 0 (.int n) (.ref a) none :=
  ⟨.int n, _, dq_int, .base (.inl l.dp), tx_i (.inl (by omega)), l.tx, no7, fun H1 g1 Q E h1 h2 => .inl ⟨rfl, n, _, rfl, .inr ⟨n1, n2, .inr ⟨a, bs, rfl, (l.grow g1).rw, l.sz, l.isp, l.len⟩, fun v H2 g2 => h1 rfl v H2 g2⟩⟩⟩
theorem gd_fine6 (l : Lot K H a bs n) (h : PL K n H v) : Gd K c H 6 (.ref a) v none := by
  obtain ⟨r, hd, sm, e⟩ := h
  refine ⟨_, _, .base (.inl l.dp), .base (.inl hd), l.tx, (tx_row sm).le (by decide) (by decide), no7, fun H1 g1 Q E h1 h2 => ?_⟩
  have l1 := l.grow g1
  exact .inr (.inr (.inr (.inr (.inr (.inr ⟨rfl, _, _, rfl, .inr ⟨a, bs, rfl, l1.rw, l1.sz, l1.isp, l1.hv, .inr ⟨⟨rowD r, .inl (Dp.grow g1 hd), lim_of (lim_rows (rs := [r]) (fun q hq => by rw [List.mem_singleton.mp hq]; exact sm) _ List.mem_cons_self), by rw [← l1.len]; exact e⟩, fun v H2 g2 => h1 rfl v H2 g2⟩⟩⟩)))))
theorem gd_far (n1 : 1 ≤ n) (n2 : n ≤ 20) (no : ¬ (0 ≤ m ∧ m ≤ n)) (s : SmI m) : Gd K c H 4 (.int n) (.int m) (some 4) :=
  ⟨.int n, .int m, dq_int, dq_int, tx_i (.inl (by omega)), tx_i s, lt7 (by decide), fun H1 g1 Q E h1 h2 => .inr (.inr (.inr (.inr (.inl ⟨rfl, n, _, rfl, .inr ⟨n1, n2, .inl ⟨no, h2 4 rfl⟩⟩⟩))))⟩
theorem gd_near (n1 : 1 ≤ n) (n2 : n ≤ 20) (m0 : 0 ≤ m) (m1 : m ≤ n) : Gd K c H 4 (.int n) (.int m) none :=
  ⟨.int n, .int m, dq_int, dq_int, tx_i (.inl (by omega)), tx_i (.inl (by omega)), no7, fun H1 g1 Q E h1 h2 => .inr (.inr (.inr (.inr (.inl ⟨rfl, n, _, rfl, .inr ⟨n1, n2, .inr ⟨m0, m1, fun v H2 g2 => h1 rfl v H2 g2⟩⟩⟩))))⟩
theorem gd_hist (l : Lot K H a bs n) : Gd K c H 5 (.ref a) .non none :=
  ⟨_, .none, .base (.inl l.dp), dq_non, l.tx, tx_n, no7, fun H1 g1 Q E h1 h2 => .inr (.inr (.inr (.inr (.inr (.inl ⟨rfl, .inr ⟨a, bs, rfl, (l.grow g1).rw, l.sz, l.isp, fun v H2 g2 => h1 rfl v H2 g2⟩⟩)))))⟩
theorem gd_one {door : Int} (hd : door = 1 ∨ door = 2) (n1 : 1 ≤ n) (n2 : n ≤ 20) : Gd K c H door (.int n) .non none := by
  refine ⟨.int n, .none, dq_int, dq_non, tx_i (.inl (by omega)), tx_n, no7, fun H1 g1 Q E h1 h2 => ?_⟩
  rcases hd with rfl | rfl
  · exact .inr (.inl ⟨rfl, n, rfl, .inr ⟨n1, n2, fun v H2 g2 => h1 rfl v H2 g2⟩⟩)
  · exact .inr (.inr (.inl ⟨rfl, n, rfl, .inr ⟨n1, n2, fun v H2 g2 => h1 rfl v H2 g2⟩⟩))
theorem gd_group {r : List Int} (n1 : 1 ≤ n) (n2 : n ≤ 20) (hd : Dp K H v (rowD r)) (sm : Sm r) (e : grpD n (rowD r) = true) : Gd K c H 3 (.int n) v none :=
  ⟨.int n, _, dq_int, .base (.inl hd), tx_i (.inl (by omega)), (tx_row sm).le (by decide) (by decide), no7, fun H1 g1 Q E h1 h2 => .inr (.inr (.inr (.inl ⟨rfl, n, _, rfl, .inr ⟨n1, n2, .inr ⟨rowD r, .inl (Dp.grow g1 hd), lim_of (lim_rows (rs := [r]) (fun q hq => by rw [List.mem_singleton.mp hq]; exact sm) _ List.mem_cons_self), e, fun v H2 g2 => h1 rfl v H2 g2⟩⟩⟩)))⟩
end
end K35

namespace K35
open PySem PySem.Spec PyProof.Rows L2 SortR LcM RepA Held
/-! ### words, and new lists of words -/
abbrev SV (H0 : Hp) (σ : L2.St) (te : TE) (s : Str) : Prop := MT H0 σ te fun _ v => v = .str s
def SVs (H0 : Hp) (σ : L2.St) (t : TA) (ss : List Str) : Prop := ∀ (H : Hp) (R : List L2.V → Hp → Prop), Grows H0 H → (∀ H', Grows H H' → R (ss.map L2.V.str) H') → t σ H R
def LV (H0 : Hp) (σ : L2.St) (te : TE) (ss : List Str) : Prop := ∀ (H : Hp) (Q : VK), Grows H0 H → (∀ q H', Grows H H' → H' q = some (.lst (ss.map L2.V.str)) → Q (.ref q) H') → te σ H Q
section
variable {H0 : Hp} {K : PySem.W.Frag} {c : List Addr} {σ : L2.St} {te te2 : TE} {t : TA} {s : Str} {ss ts : List Str} {Pr Px Py : Hp → L2.V → Prop} {n i : Nat} {D : Ends} {H : Hp}
theorem sv_nil : SVs H0 σ tNil [] := fun H R _ k => k H .refl
theorem sv_cons (h : SV H0 σ te s) (h2 : SVs H0 σ t ss) : SVs H0 σ (tCons te t) (s :: ss) := fun H R b k => h H _ b fun v H1 g1 e => by
  subst e
  exact h2 H1 _ (b.trans g1) fun H2 g2 => k H2 (g1.trans g2)
theorem sv_c : SV H0 σ (tC (.str s)) s := fun H Q _ k => k _ H .refl rfl
theorem lv_lst (h : SVs H0 σ t ss) (l : ss.length ≤ 1000) : LV H0 σ (tLst t) ss := fun H Q b k => h H _ b fun H1 g1 =>
  ⟨by rw [List.length_map]; exact Nat.le_trans l (by decide), fun q hq => k q _ (g1.trans (Grows.new hq)) upd_same⟩
theorem lv_cat (h1 : LV H0 σ te ss) (h2 : LV H0 σ te2 ts) (l : ss.length + ts.length ≤ 1000) : LV H0 σ (tOp rCat te te2) (ss ++ ts) := fun H Q b k =>
  h1 H _ b fun q1 H1 g1 e1 => h2 H1 _ (b.trans g1) fun q2 H2 g2 e2 => ⟨q1, q2, _, _, rfl, rfl, g2 _ _ e1, e2, by rw [List.length_map, List.length_map]; exact Nat.le_trans l (by decide), fun p hp => k p _ ((g1.trans g2).trans (Grows.new hp)) (by rw [upd_same, List.map_append])⟩
/-- the sum is new -/
theorem cat_new (h1 : LV H0 σ te ss) (h2 : LV H0 σ te2 ts) (l : ss.length + ts.length ≤ 1000) (b : Grows H0 H) {Q : VK} (k : ∀ q H', Grows H H' → H q = none → H' q = some (.lst ((ss ++ ts).map L2.V.str)) → Q (.ref q) H') : tOp rCat te te2 σ H Q :=
  h1 H _ b fun q1 H1 g1 e1 => h2 H1 _ (b.trans g1) fun q2 H2 g2 e2 => ⟨q1, q2, _, _, rfl, rfl, g2 _ _ e1, e2, by rw [List.length_map, List.length_map]; exact Nat.le_trans l (by decide), fun p hp => k p _ ((g1.trans g2).trans (Grows.new hp)) (none_back (g1.trans g2) hp) (by rw [upd_same, List.map_append])⟩
theorem lv_rep {m : Nat} (h : LV H0 σ te [s]) (l : m ≤ 1000) : LV H0 σ (tOp rRep te (tC (.int (m : Nat)))) (List.replicate m s) := fun H Q b k =>
  h H _ b fun q1 H1 g1 e1 => ⟨q1, m, _, rfl, rfl, e1, by omega, by omega, by rw [Int.toNat_natCast]; exact Nat.le_trans (show [s].length * m ≤ 1000 by simp; omega) (by decide), fun p hp => k p _ (g1.trans (Grows.new hp)) (by
    rw [upd_same, Int.toNat_natCast, List.map_replicate]
    exact congrArg (fun l => some (HO.lst l)) List.flatten_replicate_singleton)⟩
theorem lv_var {q : Addr} (h : σ[i]? = some (some (.ref q))) (e : H0 q = some (.lst (ss.map L2.V.str))) : LV H0 σ (tVar i) ss := fun H Q b k => ⟨_, h, k q H .refl (b _ _ e)⟩
/-- a thing in a slot -/
theorem mt_var {v : L2.V} (last : Last Pr) (h : σ[i]? = some (some v)) (p : Pr H0 v) : MT H0 σ (tVar i) Pr := fun H Q b k => ⟨_, h, k _ H .refl (last _ _ _ p b)⟩
theorem mt_int {m : Int} : MT H0 σ (tC (.int m)) fun _ v => v = .int m := fun H Q _ k => k _ H .refl rfl
theorem mt_non : MT H0 σ (tC .non) fun _ v => v = .non := fun H Q _ k => k _ H .refl rfl
theorem mt_is {v : L2.V} (h : σ[i]? = some (some v)) : MT H0 σ (tVar i) fun _ u => u = v := fun H Q _ k => ⟨_, h, k _ H .refl rfl⟩
theorem is_last {v : L2.V} : Last fun _ u => u = v := fun _ _ _ e _ => e
/-- a call -/
theorem sv_call {t0 t1 t2 : TE} {door : Int} {r : Option Nat} (lastx : Last Px) (h0 : MT H0 σ t0 fun _ v => v = .int door) (hx : MT H0 σ t1 Px) (hy : MT H0 σ t2 Py) (g : ∀ H x y, Grows H0 H → Px H x → Py H y → Gd K c H door x y r) :
    SV H0 σ (tCall (spRai K c) [] E0 (tCons t0 (tCons t1 (tCons t2 tNil)))) (word r) := fun H Q b k => h0 H _ b fun v0 H1 g1 e0 => hx H1 _ (b.trans g1) fun x H2 g2 px => hy H2 _ ((b.trans g1).trans g2) fun y H3 g3 py => by
  subst e0
  obtain ⟨d1, d2, q1, q2, x1, x2, six, due⟩ := g H3 x y (((b.trans g1).trans g2).trans g3) (lastx _ _ _ px g3) py
  exact ⟨door, x, y, d1, d2, r, rfl, q1, q2, x1, x2, six, due, fun H' g' => k _ H' (((g1.trans g2).trans g3).trans g') rfl⟩
/-- a comprehension over a range, the same word each time -/
theorem lv_range {m : Nat} {j : Nat} (hw : wipe σ [j] = σ) (hs : ∀ v, wipe (σ.set j (some v)) [j] = σ) (l : m ≤ 1000) (h : ∀ k : Nat, k < m → SV H0 (σ.set j (some (.int (0 + (k : Int))))) te s) : LV H0 σ (tLc (iRng1 (tCons (tC (.int (m : Nat))) tNil)) (gName j) tYes te [j]) (List.replicate m s) := fun H Q b k => by
  refine ⟨_, rfl, by omega, by omega, fun D hD => ?_⟩
  rw [Int.toNat_natCast]
  refine lc_range (lo := 0) (n := m) (fun i G => Grows H G ∧ G D = some (.lst ((List.replicate i s).map L2.V.str))) ⟨Grows.new hD, upd_same⟩ (fun i G hi ⟨gg, eD⟩ => ?_) fun G ⟨gg, eD⟩ => k D G gg eD
  rw [yes_eq (A := fun σ2 => wipe σ2 [j] = wipe σ [j]), hw]
  refine ⟨hs _, h i hi G _ (b.trans gg) fun v H' g' e => ⟨_, g' _ _ eD, ?_, fun b o eb => ?_, ?_⟩⟩
  · rw [List.length_map, List.length_replicate]
    exact Nat.lt_of_lt_of_le hi (Nat.le_trans l (by decide))
  · rw [upd_ne (ne_of_none eb hD)]
    exact g' _ _ (gg _ _ eb)
  · rw [upd_same, e, List.replicate_succ', List.map_append]
    rfl
/-- .. over a tuple of things -/
theorem lv_tup {m : Nat} {j : Nat} {σw : L2.St} (hw : wipe σ [j] = σw) (hs : ∀ v, wipe (σw.set j (some v)) [j] = σw) (l : m ≤ 1000) (last : Last Pr) (A : MTs H0 σ t Pr m) (h : ∀ (H1 : Hp) (v : L2.V), Grows H0 H1 → Pr H1 v → SV H1 (σw.set j (some v)) te s) : LV H0 σ (tLc (iTup K (tTup t)) (gName j) tYes te [j]) (List.replicate m s) := fun H Q b k => by
  refine A H _ b fun vs H1 g1 lv pv => ⟨by rw [lv]; exact Nat.le_trans l (by decide), fun T hT => ?_⟩
  have gT := Grows.new (o := .tup vs) hT
  refine ⟨T, rfl, ⟨_, SqT.of upd_same⟩, fun D hD => ?_⟩
  have gall := g1.trans gT
  refine lc_tup (K := K) (a := T) (xs := vs) (fun i G => Grows (upd H1 T (.tup vs)) G ∧ G D = some (.lst ((List.replicate i s).map L2.V.str))) ⟨Grows.new hD, upd_same⟩ (fun i G _ ⟨gg, eD⟩ => gg.tup (SqT.of upd_same)) (fun i x G hx ⟨gg, eD⟩ => ?_) fun G ⟨gg, eD⟩ => ?_
  · rw [yes_eq (A := fun σ2 => wipe σ2 [j] = wipe σ [j]), hw]
    have hi := (List.getElem?_eq_some_iff.mp hx).1
    refine ⟨hs _, h G x ((b.trans gall).trans gg) (last _ _ _ (pv x (List.mem_of_getElem? hx)) (gT.trans gg)) G _ .refl fun v H' g' e => ⟨_, g' _ _ eD, ?_, fun b o eb => ?_, ?_⟩⟩
    · rw [List.length_map, List.length_replicate]
      exact Nat.lt_of_lt_of_le hi (by rw [lv]; exact Nat.le_trans l (by decide))
    · rw [upd_ne (ne_of_none eb hD)]
      exact g' _ _ (gg _ _ eb)
    · rw [upd_same, e, List.replicate_succ', List.map_append]
      rfl
  · rw [lv] at eD
    exact k D G (gall.trans gg) eD
/-! ### lists of words compared -/
theorem dp_strs {H : Hp} : ∀ ss : List Str, DpAll K H (ss.map L2.V.str) (ss.map PyData.str)
  | [] => .nil
  | s :: ss => .cons (.str s) (dp_strs ss)
theorem eqv_strs : ∀ ss : List Str, PyData.eqvAll (ss.map .str) (ss.map .str) = true
  | [] => by simp only [List.map_nil, PyData.eqvAll]
  | s :: ss => by
    simp only [List.map_cons, PyData.eqvAll, PyData.eqv, eqv_strs ss, Bool.and_true]
    exact beq_self_eq_true s
abbrev Wok (ss : List Str) : Prop := SeqAt.shaped (PyData.list (ss.map .str)) = true
theorem eqv_same (ss : List Str) : PyData.eqv (.list (ss.map .str)) (.list (ss.map .str)) = true := by
  rw [PyData.eqv]
  exact eqv_strs ss
theorem if_ne {a : TS} (h1 : LV H0 σ te ss) (h2 : LV H0 σ te2 ss) (ok : Wok ss) (b : Grows H0 H) (k : ∀ H', Grows H H' → D.nx σ H') : tIfS (tTest (tOp (rNeD K) te te2)) a tNext D σ H :=
  h1 H _ b fun q1 H1 g1 e1 => h2 H1 _ (b.trans g1) fun q2 H2 g2 e2 => ⟨.list (ss.map .str), .list (ss.map .str), .lst (SqL.of (g2 _ _ e1)) (dp_strs ss), .lst (SqL.of e2) (dp_strs ss), ok, ok, _, rfl, by
    rw [eqv_same]
    exact iteF (k H2 (g1.trans g2))⟩
theorem seq_ne {a rest : TS} (h1 : LV H0 σ te ss) (h2 : LV H0 σ te2 ss) (ok : Wok ss) (b : Grows H0 H) (k : ∀ H', Grows H H' → rest D σ H') : tSeq (tIfS (tTest (tOp (rNeD K) te te2)) a tNext) rest D σ H := if_ne h1 h2 ok b k
theorem seq_set {rest : TS} {j : Nat} (h : LV H0 σ te ss) (b : Grows H0 H) (k : ∀ q H', Grows H H' → H' q = some (.lst (ss.map L2.V.str)) → rest D (σ.set j (some (.ref q))) H') : tSeq (tAsg te (gName j)) rest D σ H := h H _ b k
theorem seq_setN {rest : TS} {j : Nat} (h1 : LV H0 σ te ss) (h2 : LV H0 σ te2 ts) (l : ss.length + ts.length ≤ 1000) (b : Grows H0 H) (k : ∀ q H', Grows H H' → H q = none → H' q = some (.lst ((ss ++ ts).map L2.V.str)) → rest D (σ.set j (some (.ref q))) H') : tSeq (tAsg (tOp rCat te te2) (gName j)) rest D σ H := cat_new h1 h2 l b k
/-- a word that is not another than it should be -/
theorem or_ne {a : TS} {te1 te2 : TE} {s1 s2 : Str} (h1 : SV H0 σ te1 s1) (h2 : SV H0 σ te2 s2) (b : Grows H0 H) (k : ∀ H', Grows H H' → D.nx σ H') : tIfS (tOr (tTest (tOp rNe te1 (tC (.str s1)))) (tTest (tOp rNe te2 (tC (.str s2))))) a tNext D σ H :=
  h1 H _ b fun v1 H1 g1 e1 => by
    subst e1
    refine ⟨rfl, _, rfl, ?_⟩
    rw [decide_eq_true rfl]
    refine iteF (h2 H1 _ (b.trans g1) fun v2 H2 g2 e2 => ?_)
    subst e2
    refine ⟨rfl, _, rfl, ?_⟩
    rw [decide_eq_true rfl]
    exact iteF (k H2 (g1.trans g2))
theorem seq_or {a rest : TS} {te1 te2 : TE} {s1 s2 : Str} (h1 : SV H0 σ te1 s1) (h2 : SV H0 σ te2 s2) (b : Grows H0 H) (k : ∀ H', Grows H H' → rest D σ H') : tSeq (tIfS (tOr (tTest (tOp rNe te1 (tC (.str s1)))) (tTest (tOp rNe te2 (tC (.str s2))))) a tNext) rest D σ H := or_ne h1 h2 b k
/-- [x] -/
def OneOf (Pr : Hp → L2.V → Prop) (H : Hp) (v : L2.V) : Prop := ∃ q u, v = .ref q ∧ H q = some (.lst [u]) ∧ Pr H u
theorem mt_one1 (last : Last Pr) (h : MT H0 σ te Pr) : MT H0 σ (tLst (tCons te tNil)) (OneOf Pr) := fun H Q b k => h H _ b fun v H1 g1 p1 => ⟨by show 1 ≤ sizeLine; decide, fun q hq => k _ _ (g1.trans (Grows.new hq)) ⟨q, v, rfl, upd_same, last _ _ _ p1 (Grows.new hq)⟩⟩
end
end K35

namespace K35
open PySem PySem.Spec PyProof.Rows L2 SortR LcM RepA Held
theorem pers_ge {n i : Int} (h : n ≤ i) : persD n (.int i) = false := by
  show (decide (0 ≤ i) && decide (i < n)) = false
  rw [decide_eq_false (show ¬ i < n by omega), Bool.and_false]
theorem pers_lt {n i : Int} (h : i < 0) : persD n (.int i) = false := by
  show (decide (0 ≤ i) && decide (i < n)) = false
  rw [decide_eq_false (show ¬ 0 ≤ i by omega), Bool.false_and]
theorem pl_el {n : Int} {ds : List PyData} {d : PyData} (m : d ∈ ds) (no : persD n d = false) : plistD n (.list ds) = false := by
  have z : ds.all (persD n) = false := by
    rw [Bool.eq_false_iff]
    intro t
    have := List.all_eq_true.mp t d m
    rw [no] at this
    cases this
  rw [plistD_list, z, Bool.false_and]
theorem pl_as {n : Int} {ds : List PyData} (h : ascI (ds.map toI) = false) : plistD n (.list ds) = false := by rw [plistD_list, h, Bool.and_false]
theorem fam_flat {n : Int} {ds : List PyData} (ne : ds ≠ []) (l : ds.length ≤ 1000) (f : ∀ d ∈ ds, isL d = false) : famNo n (.list ds) = true := by
  show (!ds.isEmpty && decide (ds.length ≤ 1000) && ds.all fun e => limB e && !grpD n e) = true
  have e : ds.isEmpty = false := by
    cases ds with
    | nil => exact absurd rfl ne
    | cons _ _ => rfl
  rw [e, decide_eq_true l]
  refine List.all_eq_true.mpr fun d hd => ?_
  have := f d hd
  cases d <;> first | rfl | cases this
theorem pl_of {n : Int} {r : List Int} (up : r.Pairwise (· < ·)) (rng : ∀ x ∈ r, 0 ≤ x ∧ x < n) : plistD n (rowD r) = true := by
  have q := plist_of up rng
  unfold plist at q
  rw [Bool.and_eq_true] at q
  rw [plistD_list, List.map_map, show toI ∘ PyData.int = id from rfl, List.map_id, q.2, Bool.and_true]
  refine List.all_eq_true.mpr fun d hd => ?_
  obtain ⟨x, hx, rfl⟩ := List.mem_map.mp hd
  show (decide (0 ≤ x) && decide (x < n)) = true
  rw [decide_eq_true (rng x hx).1, decide_eq_true (rng x hx).2]
  rfl
theorem lim_row {r : List Int} (h : Sm r) : limB (rowD r) = true := lim_rows (rs := [r]) (fun q hq => by rw [List.mem_singleton.mp hq]; exact h) _ List.mem_cons_self
section
variable {H0 : Hp} {K : PySem.W.Frag} {σ : L2.St} {te : TE} {d : PyData} {n : Int}
theorem od_md (h : MD H0 K σ te d) (tx : Tx 6 90000 d) (l : limB d = true) (e : plistD n d = false) (f : famNo n d = true) : MT H0 σ te (OD K n) := mt_map (fun H v q => ⟨d, .dp q, tx, l, e, f⟩) h
theorem od_n (h : MD H0 K σ te d) (tx : txB 6 90000 d = true) (l : isL d = false) : MT H0 σ te (OD K n) := by
  refine od_md h (tx_of tx) ?_ ?_ ?_ <;> cases d <;> first | rfl | cases l
theorem od_f {ds : List PyData} (h : MD H0 K σ te (.list ds)) (tx : Tx 6 90000 (.list ds)) (e : plistD n (.list ds) = false) (ne : ds ≠ []) (l : ds.length ≤ 1000) (f : ∀ d ∈ ds, isL d = false) : MT H0 σ te (OD K n) := od_md h tx (decide_eq_true l) e (fam_flat ne l f)
theorem od_fb {ds : List PyData} (h : MD H0 K σ te (.list ds)) (tx : txB 6 90000 (.list ds) = true) (e : plistD n (.list ds) = false) (f : (!ds.isEmpty && decide (ds.length ≤ 1000) && ds.all fun d => !isL d) = true) : MT H0 σ te (OD K n) := by
  simp only [Bool.and_eq_true, Bool.not_eq_true', decide_eq_true_eq] at f
  exact od_f h (tx_of tx) e (fun z => by rw [z] at f; cases f.1.1) f.1.2 fun d hd => by
    have := List.all_eq_true.mp f.2 d hd
    rwa [Bool.not_eq_true'] at this
theorem od_dict : MT H0 σ tDNewK (OD K n) := mt_map (fun H v q => ⟨_, q, tx_of (by decide +kernel), rfl, rfl, rfl⟩) mt_dict
theorem od_one : MT H0 σ (tDisp [(tC (.str "0"), tC (.int 0))]) (OD K n) := mt_map (fun H v q => ⟨_, q, tx_of (by decide +kernel), rfl, rfl, rfl⟩) (mt_one md_int)
theorem od_rows : MT H0 σ (tLst (tCons (tLst (tCons (tC (.int 0)) tNil)) tNil)) (OD K n) :=
  od_md (md_lst (md_cons (md_lst (md_cons md_int md_nil) (Nat.le_of_ble_eq_true rfl)) md_nil) (Nat.le_of_ble_eq_true rfl)) (tx_of (by decide +kernel)) rfl (pl_el List.mem_cons_self rfl) (by
    show (!false && decide (1 ≤ 1000) && ((true && !(plistD n (.list [.int 0]) && decide (2 ≤ (([PyData.int 0].length : Nat) : Int)))) && true)) = true
    rw [show decide (2 ≤ (([PyData.int 0].length : Nat) : Int)) = false from rfl, Bool.and_false]
    rfl)
/-- [m], m no person -/
theorem od_ints {is : List Int} (h : MD H0 K σ te (rowD is)) (tx : Tx 6 90000 (rowD is)) (e : plistD n (rowD is) = false) (ne : is ≠ []) (l : is.length ≤ 1000) : MT H0 σ te (OD K n) :=
  od_f h tx e (fun z => ne (List.map_eq_nil_iff.mp z)) (by rw [List.length_map]; exact l) fun d hd => by
    obtain ⟨x, _, rfl⟩ := List.mem_map.mp hd
    rfl
/-- tuple(gang), gang + [n], gang + [None] -/
theorem od_tup {i : Nat} {q : Addr} {gs : List Int} (h : σ[i]? = some (some (.ref q))) (e : H0 q = some (.lst (gs.map L2.V.int))) (sm : Sm gs) : MT H0 σ (tCB (rTup K) (tCons (tVar i) tNil)) (OD K n) :=
  od_md (md_tupOf h (SqL.of e) (rows_dp gs)) ((tx_tuple (n := 0) (w := 110) (m := 25) (fun d hd => by
    obtain ⟨x, hx, rfl⟩ := List.mem_map.mp hd
    have := sm.2 x hx
    exact tx_int (by omega)) (by rw [List.length_map]; exact sm.1)).le (by decide) (by decide)) rfl rfl rfl
theorem tx_ext {gs : List Int} {d : PyData} (sm : Sm gs) (td : Tx 0 110 d) : Tx 6 90000 (.list (gs.map .int ++ [d])) := (tx_list (n := 0) (w := 110) (m := 26) (fun e he => by
  rcases List.mem_append.mp he with q | q
  · obtain ⟨x, hx, rfl⟩ := List.mem_map.mp q
    have := sm.2 x hx
    exact tx_int (by omega)
  · rw [List.mem_singleton.mp q]
    exact td) (by have := sm.1; rw [List.length_append, List.length_map]; show gs.length + 1 ≤ 26; omega)).le (by decide) (by decide)
theorem od_ext {i : Nat} {q : Addr} {gs : List Int} {te1 : TE} {d : PyData} (h : σ[i]? = some (some (.ref q))) (e : H0 q = some (.lst (gs.map L2.V.int))) (sm : Sm gs) (m : MD H0 K σ te1 d) (td : Tx 0 110 d) (no : persD n d = false) (fl : isL d = false) : MT H0 σ (tOp rCat (tVar i) (tLst (tCons te1 tNil))) (OD K n) :=
  od_f (md_cat h e (rows_dp gs) (md_cons m md_nil) (by have := sm.1; rw [List.length_map]; show gs.length + 1 ≤ 1000; omega)) (tx_ext sm td) (pl_el (List.mem_append.mpr (.inr List.mem_cons_self)) no) (fun z => by have := congrArg List.length z; rw [List.length_append] at this; exact absurd this (by show ¬ (gs.map PyData.int).length + 1 = 0; omega)) (by have := sm.1; rw [List.length_append, List.length_map]; show gs.length + 1 ≤ 1000; omega) fun x hx => by
    rcases List.mem_append.mp hx with z | z
    · obtain ⟨y, _, rfl⟩ := List.mem_map.mp z
      rfl
    · rw [List.mem_singleton.mp z]
      exact fl
/-! ### rows of persons -/
theorem pl_md {r : List Int} (h : MD H0 K σ te (rowD r)) (sm : Sm r) (e : plistD n (rowD r) = true) : MT H0 σ te (PL K n) := mt_map (fun H v q => ⟨r, q, sm, e⟩) h
/-- things that are too few for a group -/
def FG (K : PySem.W.Frag) (n : Int) (H : Hp) (v : L2.V) : Prop := ∃ d, Thg K H v d ∧ Tx 6 90000 d ∧ limB d = true ∧ grpD n d = false
theorem fg_last : Last (FG K n) := fun H H' v ⟨d, h, r⟩ g => ⟨d, h.grow g, r⟩
theorem fg_md {r : List Int} (h : MD H0 K σ te (rowD r)) (sm : Sm r) (l : r.length < 2) : MT H0 σ te (FG K n) := mt_map (fun H v q => ⟨rowD r, .dp q, (tx_row sm).le (by decide) (by decide), lim_row sm, by
  rw [grpD_list, decide_eq_false (by rw [List.length_map]; omega), Bool.and_false]⟩) h
theorem md_sub {i : Nat} (h : σ[i]? = some (some (.int n))) : MD H0 K σ (tOp (rI0 fun i j => .int (i - j)) (tVar i) (tC (.int 1))) (.int (n - 1)) := fun H Q b k => ⟨_, h, _, _, rfl, rfl, k _ H .refl (.int _)⟩
/-- list(range(n)) -/
theorem md_rng {i : Nat} {m : Nat} (h : σ[i]? = some (some (.int (m : Nat)))) (l : m ≤ 100) : MD H0 K σ (tLstRg (tRg1 (tVar i))) (rowD (upto m)) := fun H Q b k =>
  ⟨_, h, _, rfl, .of_le (by decide) (by omega) (by decide) (by omega), fun q hq => k _ _ (Grows.new hq) (.lst (SqL.of (by rw [upd_same, rg_upto])) (rows_dp _))⟩
theorem up_up (k : Nat) : (upto k).Pairwise (· < ·) := by
  unfold upto
  rw [List.pairwise_map]
  exact List.pairwise_lt_range.imp fun {a b} h => by omega
theorem up_in (k : Nat) : ∀ x ∈ upto k, 0 ≤ x ∧ x < (k : Int) := fun x hx => by
  obtain ⟨i, hi, rfl⟩ := List.mem_map.mp hx
  have := List.mem_range.mp hi
  omega
end
end K35

namespace K35
open PySem PySem.Spec PyProof.Rows L2 SortR LcM RepA Held
abbrev sRight : Stmt := top 66
def spRight : Sp := fun vs H Q _ => ∃ (p : Addr) (n m : Int), vs = [.ref p, .int n] ∧ Pch H p m ∧ m < 2 ^ 40 ∧ 1 ≤ n ∧ n ≤ 20 ∧ ∀ H', Pch H' p (m + 1000) → Gr p H H' → Q (.bl true) H'
structure LwF (P : Program) (w : World) (base : Heap) (K : PySem.W.Frag) (mg : Str → Option Value) (c : List Addr) where
  (fPick fCome fGroups fBad fRai : Addr)
  (dPick dCome dGroups dBad dRai : FuncData)
  FPick : Fun K "_law_pick" "_law_pick" sPick fPick dPick
  FCome : Fun K "_law_come" "_law_come" sCome fCome dCome
  FGroups : Fun K "_law_groups" "_law_groups" sGroups fGroups dGroups
  FBad : Fun K "_law_bad_lots" "_law_bad_lots" sBad fBad dBad
  FRai : Fun K "_law_raised" "_law_raised" sRai fRai dRai
  gPick : mg "_law_pick" = some (.ref fPick)
  gCome : mg "_law_come" = some (.ref fCome)
  gGroups : mg "_law_groups" = some (.ref fGroups)
  gBad : mg "_law_bad_lots" = some (.ref fBad)
  gRai : mg "_law_raised" = some (.ref fRai)
  bPick : Binds K dPick ["store", "bound"] []
  bCome : Binds K dCome ["store", "many_here"] []
  bGroups : Binds K dGroups ["items"] []
  bBad : Binds K dBad ["lot"] []
  bRai : Binds K dRai ["door", "first", "last"] []
  GPick : FnOk P w K mg base CX0 1 fPick dPick ["store", "bound"] spPick
  GCome : FnOk P w K mg base CX0 2 fCome dCome ["store", "many_here"] spCome
  GGroups : FnOk P w K mg base CX0 1 fGroups dGroups ["items"] (spGroups K)
  GBad : FnOk P w K mg base CX0 1 fBad dBad ["lot"] (spBad K)
  GRai : FnG P w K mg base CX0 9 fRai dRai ["door", "first", "last"] (spRai K c)
theorem nm_b {i : Nat} {v : L2.V} {t u : TS} {D : Ends} {σ : L2.St} {H : Hp} (h : tSeq t u D (σ.set i (some v)) H) : gName i v σ H (fun σ2 H2 => tSeq t u D σ2 H2) := h
theorem nm_c {i : Nat} {v : L2.V} {c : TT} {t u : TS} {D : Ends} {σ : L2.St} {H : Hp} (h : tIfS c t u D (σ.set i (some v)) H) : gName i v σ H (fun σ2 H2 => tIfS c t u D σ2 H2) := h
/-- no number of persons -/
def BadN (_ : Hp) (v : L2.V) : Prop := ∃ i : Int, v = .int i ∧ ¬ (1 ≤ i ∧ i ≤ 20) ∧ SmI i
theorem badn_last : Last BadN := fun _ _ _ h _ => h
def FarN (n : Int) (_ : Hp) (v : L2.V) : Prop := ∃ i : Int, v = .int i ∧ ¬ (0 ≤ i ∧ i ≤ n) ∧ SmI i
theorem farn_last {n : Int} : Last (FarN n) := fun _ _ _ h _ => h
def NearN (n : Int) (_ : Hp) (v : L2.V) : Prop := ∃ i : Int, v = .int i ∧ 0 ≤ i ∧ i ≤ n
theorem nearn_last {n : Int} : Last (NearN n) := fun _ _ _ h _ => h
/-- a loop over a tuple of things: what is kept is told of the slots; the heap grows -/
theorem seq_forT {K : PySem.W.Frag} {H0 H : Hp} {σ : L2.St} {Pr : Hp → L2.V → Prop} {t : TA} {m j : Nat} {tb rest : TS} {D : Ends} (last : Last Pr) (A : MTs H0 σ t Pr m) (l : m ≤ 1000) (b : Grows H0 H) (I : L2.St → Prop) (i0 : I σ)
    (hs : ∀ (v : L2.V) (σ' : L2.St) (H' : Hp) (D' : Ends), I σ' → Grows H H' → Pr H' v → (∀ σ3 H3, I σ3 → Grows H' H3 → D'.nx σ3 H3) → gName j v σ' H' fun σ2 H2 => tb D' σ2 H2) (k : ∀ σ' H', I σ' → Grows H H' → rest D σ' H') : tSeq (tFor (iTup K (tTup t)) (gName j) tb) rest D σ H :=
  A H _ b fun vs H4 g4 l4 p4 => ⟨by rw [l4]; exact Nat.le_trans l (by decide), fun T hT => ⟨T, rfl, ⟨_, SqT.of upd_same⟩, for_tup (K := K) (a := T) (xs := vs) (fun i σ' H' => I σ' ∧ Grows (upd H4 T (.tup vs)) H') ⟨i0, .refl⟩ (fun i σ' H' _ ⟨_, g⟩ => g.tup (SqT.of upd_same))
    (fun i x σ' H' hx ⟨iv, g⟩ => hs x σ' H' _ iv ((g4.trans (Grows.new hT)).trans g) (last _ _ _ (p4 x (List.mem_of_getElem? hx)) ((Grows.new hT).trans g)) fun σ3 H3 i3 g3 => ⟨i3, g.trans g3⟩) fun σ' H' ⟨iv, g⟩ => k σ' H' iv ((g4.trans (Grows.new hT)).trans g)⟩⟩
/-- .. over a list of things -/
theorem seq_forL {K : PySem.W.Frag} {H : Hp} {σ : L2.St} {Pr : Hp → L2.V → Prop} {te : TE} {j : Nat} {tb rest : TS} {D : Ends} (last : Last Pr) (A : ∀ Q : VK, (∀ q vs H', Grows H H' → H' q = some (.lst vs) → (∀ v ∈ vs, Pr H' v) → Q (.ref q) H') → te σ H Q) (I : L2.St → Prop) (i0 : I σ)
    (hs : ∀ (v : L2.V) (σ' : L2.St) (H' : Hp) (D' : Ends), I σ' → Grows H H' → Pr H' v → (∀ σ3 H3, I σ3 → Grows H' H3 → D'.nx σ3 H3) → gName j v σ' H' fun σ2 H2 => tb D' σ2 H2) (k : ∀ σ' H', I σ' → Grows H H' → rest D σ' H') : tSeq (tFor (iList K te) (gName j) tb) rest D σ H :=
  A _ fun q vs H4 g4 e4 p4 => ⟨q, rfl, ⟨_, SqL.of e4⟩, for_list (K := K) (a := q) (xs := vs) (fun i σ' H' => I σ' ∧ Grows H4 H') ⟨i0, .refl⟩ (fun i σ' H' _ ⟨_, g⟩ => g.seq (SqL.of e4))
    (fun i x σ' H' hx ⟨iv, g⟩ => hs x σ' H' _ iv (g4.trans g) (last _ _ _ (p4 x (List.mem_of_getElem? hx)) g) fun σ3 H3 i3 g3 => ⟨i3, g.trans g3⟩) fun σ' H' ⟨iv, g⟩ => k σ' H' iv (g4.trans g)⟩
theorem no30 {i : Int} (h : i = 10 ^ 30 ∨ i = -(10 ^ 30)) : ¬ (1 ≤ i ∧ i ≤ 20) := fun z => by
  rcases h with rfl | rfl
  · exact absurd z.2 (by decide)
  · exact absurd z.1 (by decide)
section
variable {H0 : Hp} {σ : L2.St} {i : Int}
theorem bn_c (h : ¬ (1 ≤ i ∧ i ≤ 20)) (s : i.natAbs < 10 ^ 12) : MT H0 σ (tC (.int i)) BadN := fun H Q _ k => k _ H .refl ⟨i, rfl, h, .inl s⟩
theorem bn_neg (h : ¬ (1 ≤ -i ∧ -i ≤ 20)) (s : (-i).natAbs < 10 ^ 12) : MT H0 σ (tUn (rU fun i => .int (-i)) (tC (.int i))) BadN := fun H Q _ k => ⟨_, rfl, k _ H .refl ⟨-i, rfl, h, .inl s⟩⟩
theorem bn_pow : MT H0 σ (tOp (rI CPowW fun i j => .int (i ^ j.toNat)) (tC (.int 10)) (tC (.int 30))) BadN := fun H Q _ k => ⟨_, _, rfl, rfl, ⟨by decide, by decide⟩, k _ H .refl ⟨10 ^ 30, rfl, no30 (.inl rfl), .inr (.inl rfl)⟩⟩
theorem bn_sub : MT H0 σ (tOp (rI0 fun i j => .int (i - j)) (tC (.int 0)) (tOp (rI CPowW fun i j => .int (i ^ j.toNat)) (tC (.int 10)) (tC (.int 30)))) BadN := fun H Q _ k => ⟨_, _, rfl, rfl, ⟨by decide, by decide⟩, _, _, rfl, rfl, k _ H .refl ⟨-(10 ^ 30), by decide +kernel, no30 (.inr rfl), .inr (.inr rfl)⟩⟩
end
section
variable {P : Program} {w : World} {K : PySem.W.Frag} {mg : Str → Option Value} {base : Heap} {c : List Addr} {pe : Addr}
theorem sm_fam {rs : List (List Int)} (F : Fam rs) (l : rs.length ≤ 19) : ∀ r ∈ rs, Sm r := fun r hr => by
  have rg := F.rng r hr
  refine ⟨?_, fun x hx => by have := rg x hx; omega⟩
  have := len_sub (xs := r) (ys := (List.range 20).map fun z => ((z : Nat) : Int)) (up_nodup (F.up r hr)) fun z hz => by
    have q := rg z hz
    exact List.mem_map.mpr ⟨z.toNat, List.mem_range.mpr (by omega), by omega⟩
  rw [List.length_map, List.length_range] at this
  omega
theorem scRight : FnScope ["store", "many_here", "lot", "gang", "who", "bad", "told", "door", "odd", "row", "far"] ["store", "many_here"] (defScope sRight) := ⟨rfl, rfl, rfl, by decide +kernel, rfl, by decide +kernel, by decide +kernel⟩
theorem ok_right {f : Addr} {fd : FuncData} (F : Fun K "_law_right" "_law_right" sRight f fd) (T : TxtP mg) (L : LwF P w base K mg c) : FnG P w K mg base CX0 10 f fd ["store", "many_here"] spRight := by
  obtain ⟨fPick, fCome, fGroups, fBad, fRai, dPick, dCome, dGroups, dBad, dRai, FPick, FCome, FGroups, FBad, FRai, gPick, gCome, gGroups, gBad, gRai, bPick, bCome, bGroups, bBad, bRai, GPick, GCome, GGroups, GBad, GRai⟩ := L
  refine okG F scRight (fun vs H Q E h => ?_) (fun cdv A outer s H vs Q E hr noG h => ?_)
  · obtain ⟨p, n, m, rfl, _⟩ := h
    rfl
  · obtain ⟨p, n, m, rfl, hP, mb, n1, n2, k⟩ := h
    obtain ⟨nn, rfl⟩ : ∃ nn : Nat, n = (nn : Int) := ⟨n.toNat, by omega⟩
    refine ⟨_, (pss_cons (ps_set (i := 2) scRight.nd rfl (.inr rfl) (pe_call GGroups (hr.mono (by decide)) rfl gGroups FGroups.kp bGroups .nil pass0 (pa_cons (pe_call GCome (hr.mono (by decide)) rfl gCome FCome.kp bCome .nil pass0 (pa_cons (pv 0) (pa_cons (pv 1) pa_nil))) pa_nil)))
      (pss_cons (ps_setLc (i := 3) (own := [("who", 4)]) (g := gName 4) rfl scRight.nd rfl rfl (sw_true rfl rfl rfl (by decide +kernel)) (pi_range1 (by rfl) T.range (pa_cons (pv 1) pa_nil)) (blkOk_by (own := [("who", 4)]) (N := ["store", "many_here", "lot", "gang", "who", "bad", "told", "door", "odd", "row", "far"]) (sc := defScope sRight) (by decide +kernel)) (fun _ _ _ _ _ => pg_name (i := 4) scRight.nd rfl (Or.inl rfl)) (fun _ _ _ _ _ => (pts_one (pt_cmpR op_eq (pe_call GPick (hr.mono (by decide)) rfl gPick FPick.kp bPick .nil pass0 (pa_cons (pv 0) (pa_cons pe_int pa_nil))) pe_int (nomark _)))) (fun _ _ _ _ _ => (pv 4)))
      (pss_cons (ps_for PassesOwn.never rfl (pi_tup (pe_tup (pa_cons pe_int (pa_cons (pe_un un_neg pe_int) (pa_cons pe_int (pa_cons (pe_op op_powW pe_int pe_int) (pa_cons (pe_op op_sub pe_int (pe_op op_powW pe_int pe_int)) pa_nil))))))) (pg_name (i := 5) scRight.nd rfl (.inr rfl))
      (pss_cons (ps_set (i := 6) scRight.nd rfl (.inl rfl) (pe_op op_cat (pe_lc (own := [("door", 7)]) (g := gName 7) (tt := tYes) rfl scRight.nd (pi_range1 (by rfl) T.range (pa_cons pe_int pa_nil)) (blkOk_by (own := [("door", 7)]) (N := ["store", "many_here", "lot", "gang", "who", "bad", "told", "door", "odd", "row", "far"]) (sc := defScope sRight) (by decide +kernel)) (fun _ _ _ _ _ => pg_name (i := 7) scRight.nd rfl (Or.inl rfl)) (fun _ _ _ _ _ => pts_nil) (fun _ _ _ _ _ => (pe_callG GRai (hr.mono (by decide)) noG rfl gRai FRai.kp bRai .nil pass0 (pa_cons (pv 7) (pa_cons (pv 5) (pa_cons pe_non pa_nil)))))) (pe_lst (pa_cons (pe_callG GRai (hr.mono (by decide)) noG rfl gRai FRai.kp bRai .nil pass0 (pa_cons pe_int (pa_cons (pv 5) (pa_cons (pe_un un_neg pe_int) pa_nil)))) pa_nil))))
      (pss_one (ps_if (pt_cmpR (op_neD hr.units) (pv 6) (pe_op op_rep (pe_lst (pa_cons pe_str pa_nil)) pe_int) (nomark _)) (pss_one (ps_ret pe_bl)) pss_nil))))
      (pss_cons (ps_for PassesOwn.never rfl (pi_list (pe_lc (own := [("odd", 8)]) (g := gName 8) rfl scRight.nd (pi_list (pe_call GBad (hr.mono (by decide)) rfl gBad FBad.kp bBad .nil pass0 (pa_cons (pv 2) pa_nil))) (blkOk_by (own := [("odd", 8)]) (N := ["store", "many_here", "lot", "gang", "who", "bad", "told", "door", "odd", "row", "far"]) (sc := defScope sRight) (by decide +kernel)) (fun _ _ _ _ _ => pg_name (i := 8) scRight.nd rfl (Or.inl rfl)) (fun _ _ _ _ _ => (pts_one (pt_cmpR (r := NeD.rNeL K) (by exact NeD.op_neL hr.units) (pv 8) (pe_lst pa_nil) (nomark _)))) (fun _ _ _ _ _ => (pv 8)))) (pg_name (i := 5) scRight.nd rfl (.inr rfl))
      (pss_one (ps_if (pt_cmpR (op_neD hr.units) (pe_lst (pa_cons (pe_callG GRai (hr.mono (by decide)) noG rfl gRai FRai.kp bRai .nil pass0 (pa_cons pe_int (pa_cons (pv 5) (pa_cons pe_non pa_nil)))) (pa_cons (pe_callG GRai (hr.mono (by decide)) noG rfl gRai FRai.kp bRai .nil pass0 (pa_cons pe_int (pa_cons (pv 5) (pa_cons pe_non pa_nil)))) pa_nil))) (pe_lst (pa_cons pe_str (pa_cons pe_str pa_nil))) (nomark _)) (pss_one (ps_ret pe_bl)) pss_nil)))
      (pss_cons (ps_set (i := 8) scRight.nd rfl (.inl rfl) (pe_lst (pa_cons pe_non (pa_cons pe_int (pa_cons pe_bl (pa_cons pe_str (pa_cons pe_str (pa_cons (pe_tup pa_nil) (pa_cons pe_dnewK (pa_cons (pe_lst (pa_cons (pe_un un_neg pe_int) pa_nil)) (pa_cons (pe_lst (pa_cons (pv 1) pa_nil)) (pa_cons (pe_lst (pa_cons pe_int (pa_cons pe_int pa_nil))) (pa_cons (pe_lst (pa_cons pe_int (pa_cons pe_int pa_nil))) (pa_cons (pe_lst (pa_cons pe_bl pa_nil)) (pa_cons (pe_lst (pa_cons pe_int (pa_cons pe_bl pa_nil))) (pa_cons (pe_lst (pa_cons pe_str pa_nil)) (pa_cons (pe_lst (pa_cons pe_non pa_nil)) (pa_cons (pe_lst (pa_cons (pe_lst (pa_cons pe_int pa_nil)) pa_nil)) pa_nil))))))))))))))))))
      (pss_cons (ps_set (i := 8) scRight.nd rfl (.inl rfl) (pe_op op_cat (pv 8) (pe_lst (pa_cons (pe_tup (pa_cons pe_int pa_nil)) (pa_cons (pe_callTy (T := "tuple") (r := rTup K) (by exact call_tupK) (by rfl) T.tuple (by decide +kernel) (pa_cons (pv 3) pa_nil)) (pa_cons (pe_op op_cat (pv 3) (pe_lst (pa_cons (pv 1) pa_nil))) (pa_cons (pe_op op_cat (pv 3) (pe_lst (pa_cons pe_non pa_nil))) (pa_cons (pe_lst (pa_cons pe_int (pa_cons (pe_op op_powW pe_int pe_int) pa_nil))) (pa_cons (pe_disp (pps_cons pe_str pe_int pps_nil) (by rfl) (by rfl) (fun z => by cases z) (by decide)) pa_nil)))))))))
      (pss_cons (ps_for PassesOwn.never rfl (pi_list (pv 8)) (pg_name (i := 5) scRight.nd rfl (.inr rfl))
      (pss_cons (ps_if (PW.pt (pw_or (pt_cmpR op_ne (pe_callG GRai (hr.mono (by decide)) noG rfl gRai FRai.kp bRai .nil pass0 (pa_cons pe_int (pa_cons (pv 2) (pa_cons (pv 5) pa_nil)))) pe_str (nomark _)) (pw_or1 (pt_cmpR op_ne (pe_callG GRai (hr.mono (by decide)) noG rfl gRai FRai.kp bRai .nil pass0 (pa_cons pe_int (pa_cons (pv 1) (pa_cons (pv 5) pa_nil)))) pe_str (nomark _))))) (pss_one (ps_ret pe_bl)) pss_nil)
      (pss_one (ps_if (PW.pt (pw_or (pt_cmpR op_ne (pe_callG GRai (hr.mono (by decide)) noG rfl gRai FRai.kp bRai .nil pass0 (pa_cons pe_int (pa_cons (pv 1) (pa_cons (pv 5) pa_nil)))) pe_str (nomark _)) (pw_or1 (pt_cmpR op_ne (pe_callG GRai (hr.mono (by decide)) noG rfl gRai FRai.kp bRai .nil pass0 (pa_cons pe_int (pa_cons (pv 1) (pa_cons (pe_lst (pa_cons (pv 5) pa_nil)) pa_nil)))) pe_str (nomark _))))) (pss_one (ps_ret pe_bl)) pss_nil))))
      (pss_cons (ps_if (pt_cmpR (op_neD hr.units) (pe_lc (own := [("row", 9)]) (g := gName 9) (tt := tYes) rfl scRight.nd (pi_tup (pe_tup (pa_cons (pe_lst pa_nil) (pa_cons (pe_lst (pa_cons pe_int pa_nil)) (pa_cons (pe_lst (pa_cons (pe_op op_sub (pv 1) pe_int) pa_nil)) pa_nil))))) (blkOk_by (own := [("row", 9)]) (N := ["store", "many_here", "lot", "gang", "who", "bad", "told", "door", "odd", "row", "far"]) (sc := defScope sRight) (by decide +kernel)) (fun _ _ _ _ _ => pg_name (i := 9) scRight.nd rfl (Or.inl rfl)) (fun _ _ _ _ _ => pts_nil) (fun _ _ _ _ _ => (pe_callG GRai (hr.mono (by decide)) noG rfl gRai FRai.kp bRai .nil pass0 (pa_cons pe_int (pa_cons (pv 1) (pa_cons (pv 9) pa_nil)))))) (pe_op op_rep (pe_lst (pa_cons pe_str pa_nil)) pe_int) (nomark _)) (pss_one (ps_ret pe_bl)) pss_nil)
      (pss_cons (ps_if (pt_cmpR (op_neD hr.units) (pe_lc (own := [("row", 9)]) (g := gName 9) (tt := tYes) rfl scRight.nd (pi_tup (pe_tup (pa_cons (pe_lst pa_nil) (pa_cons (pe_lst (pa_cons pe_int pa_nil)) (pa_cons (pe_lst (pa_cons (pe_op op_sub (pv 1) pe_int) pa_nil)) (pa_cons (pv 3) (pa_cons (pe_listRg rfl (by rfl) T.list (prg_1 (by rfl) T.range (pv 1))) pa_nil))))))) (blkOk_by (own := [("row", 9)]) (N := ["store", "many_here", "lot", "gang", "who", "bad", "told", "door", "odd", "row", "far"]) (sc := defScope sRight) (by decide +kernel)) (fun _ _ _ _ _ => pg_name (i := 9) scRight.nd rfl (Or.inl rfl)) (fun _ _ _ _ _ => pts_nil) (fun _ _ _ _ _ => (pe_callG GRai (hr.mono (by decide)) noG rfl gRai FRai.kp bRai .nil pass0 (pa_cons pe_int (pa_cons (pv 2) (pa_cons (pv 9) pa_nil)))))) (pe_op op_rep (pe_lst (pa_cons pe_str pa_nil)) pe_int) (nomark _)) (pss_one (ps_ret pe_bl)) pss_nil)
      (pss_cons (ps_if (pt_cmpR (op_neD hr.units) (pe_lc (own := [("bad", 5)]) (g := gName 5) (tt := tYes) rfl scRight.nd (pi_tup (pe_tup (pa_cons (pe_un un_neg pe_int) (pa_cons (pe_op op_add (pv 1) pe_int) (pa_cons (pe_op op_powW pe_int pe_int) (pa_cons (pe_op op_sub pe_int (pe_op op_powW pe_int pe_int)) pa_nil)))))) (blkOk_by (own := [("bad", 5)]) (N := ["store", "many_here", "lot", "gang", "who", "bad", "told", "door", "odd", "row", "far"]) (sc := defScope sRight) (by decide +kernel)) (fun _ _ _ _ _ => pg_name (i := 5) scRight.nd rfl (Or.inl rfl)) (fun _ _ _ _ _ => pts_nil) (fun _ _ _ _ _ => (pe_callG GRai (hr.mono (by decide)) noG rfl gRai FRai.kp bRai .nil pass0 (pa_cons pe_int (pa_cons (pv 1) (pa_cons (pv 5) pa_nil)))))) (pe_op op_rep (pe_lst (pa_cons pe_str pa_nil)) pe_int) (nomark _)) (pss_one (ps_ret pe_bl)) pss_nil)
      (pss_cons (ps_set (i := 6) scRight.nd rfl (.inl rfl) (pe_op op_cat (pe_lc (own := [("far", 10)]) (g := gName 10) (tt := tYes) rfl scRight.nd (pi_tup (pe_tup (pa_cons pe_int (pa_cons (pv 1) (pa_cons (pe_callB call_len_seq (by rfl) T.len (by decide +kernel) (pa_cons (pv 3) pa_nil)) pa_nil))))) (blkOk_by (own := [("far", 10)]) (N := ["store", "many_here", "lot", "gang", "who", "bad", "told", "door", "odd", "row", "far"]) (sc := defScope sRight) (by decide +kernel)) (fun _ _ _ _ _ => pg_name (i := 10) scRight.nd rfl (Or.inl rfl)) (fun _ _ _ _ _ => pts_nil) (fun _ _ _ _ _ => (pe_callG GRai (hr.mono (by decide)) noG rfl gRai FRai.kp bRai .nil pass0 (pa_cons pe_int (pa_cons (pv 1) (pa_cons (pv 10) pa_nil)))))) (pe_lst (pa_cons (pe_callG GRai (hr.mono (by decide)) noG rfl gRai FRai.kp bRai .nil pass0 (pa_cons pe_int (pa_cons (pv 2) (pa_cons pe_non pa_nil)))) pa_nil))))
      (pss_cons (ps_set (i := 6) scRight.nd rfl (.inl rfl) (pe_op op_cat (pv 6) (pe_lst (pa_cons (pe_callG GRai (hr.mono (by decide)) noG rfl gRai FRai.kp bRai .nil pass0 (pa_cons pe_int (pa_cons (pv 1) (pa_cons pe_non pa_nil)))) (pa_cons (pe_callG GRai (hr.mono (by decide)) noG rfl gRai FRai.kp bRai .nil pass0 (pa_cons pe_int (pa_cons (pv 1) (pa_cons pe_non pa_nil)))) (pa_cons (pe_callG GRai (hr.mono (by decide)) noG rfl gRai FRai.kp bRai .nil pass0 (pa_cons pe_int (pa_cons (pv 1) (pa_cons (pv 2) pa_nil)))) pa_nil))))))
      (pss_cons (ps_expr (pe_bm PySem.F.plainAttrs_list PySem.F.slot_list_append PySem.F.type_list_append mt_append (pv 6) (pa_cons (pe_callG GRai (hr.mono (by decide)) noG rfl gRai FRai.kp bRai .nil pass0 (pa_cons pe_int (pa_cons (pv 1) (pa_cons (pe_listRg rfl (by rfl) T.list (prg_1 (by rfl) T.range (pv 1))) pa_nil)))) pa_nil)))
      (pss_one (ps_ret (pe_cmpR (op_eqD hr.units) (pv 6) (pe_op op_cat (pe_op op_rep (pe_lst (pa_cons pe_str pa_nil)) pe_int) (pe_lst (pa_cons (pe_ix (r := rIxL K) ix_list (pe_lst (pa_cons pe_str (pa_cons pe_str pa_nil))) (pe_callTy call_int1 (by rfl) T.int (by decide +kernel) (pa_cons (pe_cmpR op_lt (pv 1) pe_int (nomark _)) pa_nil)) (fun _ _ => rfl)) pa_nil))) (nomark _))))))))))))))))), ?_⟩
    refine ⟨_, rfl, _, rfl, p, (nn : Int), m, rfl, hP, Int.lt_of_lt_of_le mb (by decide), n1, n2, fun l0 xs H1 lx bx hP1 g1 nl el => ⟨l0, xs, rfl, SqL.of el, bx, by omega, fun a cs H2 g2 na ea each ecs => ?_⟩⟩
    dsimp only
    refine nm_i ?_
    show tSeq _ _ _ [some (.ref p), some (.int (nn : Int)), some (.ref a), none, none, none, none, none, none, none, none] H2
    have ap : a ≠ p := pch_ne hP1 na
    have cp : ∀ b ∈ cs, b.1 ≠ p := fun b hb => pch_ne hP1 (each b hb).2
    have hP2 := hP1.same g2
    refine ⟨_, rfl, (nn : Int), rfl, by omega, by omega, fun D3 hD3 => ?_⟩
    have nDp : D3 ≠ p := pch_ne hP2 hD3
    refine lc_range (lo := 0) (n := (nn : Int).toNat) (fun i G => ∃ gs : List Int, Pch G p (m + 100 + i) ∧ Gr p H2 G ∧ G D3 = some (.lst (gs.map L2.V.int)) ∧ gs.length ≤ i ∧ gs.Pairwise (· < ·) ∧ ∀ x ∈ gs, 0 ≤ x ∧ x < (i : Int))
      ⟨[], (hP2.same (Grows.new hD3)).le (by omega), Gr.new hD3, upd_same, Nat.le_refl _, List.Pairwise.nil, fun _ h => nomatch h⟩ (fun i G hi ⟨gs, hPi, gr, eD, ln, up, rg⟩ => ?_) fun G ⟨gs, hPi, gr, eD, ln, up, rg⟩ => ?_
    · refine ⟨rfl, _, rfl, p, 2, _, rfl, hPi, Int.lt_of_lt_of_le (show m + 100 + (i : Int) < 2 ^ 50 by omega) (by decide), by decide, by decide, fun v G2 v0 v1 hP3 but => ⟨rfl, _, rfl, iteN _ (fun _ => ?_) fun _ => ?_⟩⟩
      · have eD2 := but_at but eD nDp
        refine ⟨_, rfl, _, eD2, ?_, gs ++ [0 + (i : Int)], ?_, ?_, by rw [upd_same, List.map_append]; rfl, by rw [List.length_append]; exact Nat.succ_le_succ ln, ?_, fun x hx => ?_⟩
        · rw [List.length_map]
          exact Nat.lt_of_le_of_lt (show gs.length ≤ 100 by omega) (by decide)
        · obtain ⟨d, b, nn, e, r⟩ := hP3.le (show m + 100 + (i : Int) + 1 ≤ m + 100 + ((i + 1 : Nat) : Int) by omega)
          exact ⟨d, b, nn, by rw [upd_ne nDp.symm]; exact e, r⟩
        · exact fun b o nb e => by
            rw [upd_ne (ne_of_none e hD3)]
            exact but_gr but b o nb (gr b o nb e)
        · refine List.pairwise_append.mpr ⟨up, List.pairwise_singleton _ _, fun x hx y hy => ?_⟩
          rw [List.mem_singleton.mp hy]
          have := rg x hx
          omega
        · rcases List.mem_append.mp hx with z | z
          · have := rg x z
            omega
          · rw [List.mem_singleton.mp z]
            omega
      · exact ⟨gs, hP3.le (by omega), gr.trans (but_gr but), but_at but eD nDp, by omega, up, fun x hx => by have := rg x hx; omega⟩
    dsimp only
    refine nm_i ?_
    show tSeq _ _ _ [some (.ref p), some (.int (nn : Int)), some (.ref a), some (.ref D3), none, none, none, none, none, none, none] G
    have fam := famB_ok bx xs.length (Nat.le_refl _)
    have fl := famB_len xs xs.length
    have csl : cs.length = xs.length := by
      have q := congrArg List.length ecs
      rw [List.length_map] at q
      rw [q]
      exact (List.mergeSort_perm _ _).length_eq.trans fl
    have smF := sm_fam fam (by rw [fl]; omega)
    have lot : Lot K G a cs (nn : Int) := ⟨gr _ _ ap ea, fun b hb => gr _ _ (cp b hb) (each b hb).1, by rw [ecs]; exact isP_fam fam (by rw [fl]; omega), by rw [ecs]; exact hv_fam fam (famB_bin bx _ (Nat.le_refl _)), fun r hr => smF r (by rw [ecs] at hr; exact (List.mergeSort_perm _ _).mem_iff.mp hr), by rw [csl]; omega⟩
    have smG : Sm gs := ⟨by omega, fun x hx => by have := rg x hx; omega⟩
    have rgn : ∀ x ∈ gs, 0 ≤ x ∧ x < (nn : Int) := fun x hx => by have := rg x hx; omega
    have fin : ∀ H', Grows G H' → Q (.bl true) H' := fun H' g => k H' ((hPi.same g).le (by omega)) (g1.trans ((g2.gr (p := p)).trans (gr.trans g.gr)))
    clear hPi gr each ecs nl na hP1 hP2 hD3
    refine seq_forT (m := 5) badn_last (mt_cons badn_last (bn_c (by decide) (by decide)) (mt_cons badn_last (bn_neg (by decide) (by decide)) (mt_cons badn_last (bn_c (by decide) (by decide)) (mt_cons badn_last bn_pow (mt_cons badn_last bn_sub mt_nil))))) (by decide) .refl (fun σ => ∃ o5 o6, σ = [some (.ref p), some (.int (nn : Int)), some (.ref a), some (.ref D3), none, o5, o6, none, none, none, none]) ⟨none, none, rfl⟩ (fun v σ H' D' ⟨o5, o6, e⟩ g pv nx => ?_) fun σ H' ⟨o5, o6, e⟩ gA => ?_
    · subst e
      obtain ⟨b, rfl, bad, sb⟩ := pv
      refine nm_b ?_
      dsimp only [List.set_cons_succ, List.set_cons_zero]
      refine seq_set (H0 := H') (ss := ["many", "many", "many", "many", "many"]) (lv_cat (ss := List.replicate 4 "many") (ts := ["many"]) (lv_range (m := 4) rfl (fun _ => rfl) (by decide) fun kd hk => sv_call (K := K) (c := c) (Px := fun _ v => v = .int b) (Py := fun _ v => v = .non) (door := 0 + (kd : Int)) (r := some 0) is_last (mt_is rfl) (mt_is rfl) mt_non fun H x y g ex ey => ?_)
        (lv_lst (sv_cons (sv_call (K := K) (c := c) (Px := fun _ v => v = .int b) (Py := fun _ v => v = .int (-1)) (door := 4) (r := some 0) is_last mt_int (mt_is rfl) (fun H Q _ k => ⟨_, rfl, k _ H .refl rfl⟩) fun H x y g ex ey => ?_) sv_nil) (by decide)) (by decide)) .refl fun q6 H6 g6 e6 => ?_
      · subst ex
        subst ey
        exact gd_many (by omega) bad sb
      · subst ex
        subst ey
        exact gd_many4 bad sb
      · dsimp only [List.set_cons_succ, List.set_cons_zero]
        exact if_ne (H0 := H6) (ss := ["many", "many", "many", "many", "many"]) (lv_var rfl e6) (lv_rep (m := 5) (s := "many") (lv_lst (sv_cons sv_c sv_nil) (by decide)) (by decide)) (by decide +kernel) .refl fun H7 g7 => nx _ _ ⟨_, _, rfl⟩ (g6.trans g7)
    · subst e
      refine seq_forL (Pr := BadP K) badp_last (fun Q2 kq => ?_) (fun σ => ∃ o5 o6, σ = [some (.ref p), some (.int (nn : Int)), some (.ref a), some (.ref D3), none, o5, o6, none, none, none, none]) ⟨_, _, rfl⟩ (fun v σ H5 D' ⟨o5, o6, e⟩ g5 pv nx => ?_) fun σ H5 ⟨o5, o6, e⟩ g5 => ?_
      · have lotB := lot.grow gA
        refine ⟨_, rfl, a, cs, rfl, lotB.top, fun b hb => SqL.of (lotB.each b hb), lotB.isp, lotB.sm, fun pb ws H4 g4 e4 l4 n4 => ⟨pb, rfl, ⟨_, SqL.of e4⟩, fun D hD => ?_⟩⟩
        refine lc_list (K := K) (a := pb) (xs := ws) (fun i G' => Grows H4 G' ∧ ∃ us, G' D = some (.lst us) ∧ us.length ≤ i ∧ ∀ v ∈ us, BadP K H4 v) ⟨Grows.new hD, [], upd_same, Nat.le_refl _, fun _ h => nomatch h⟩ (fun i G' _ ⟨gg, _⟩ => gg.seq (SqL.of e4)) (fun i x G' hx ⟨gg, us, eD, lu, pu⟩ => ?_) fun G' ⟨gg, us, eD, lu, pu⟩ => kq D us G' (g4.trans gg) eD fun v hv => badp_last _ _ _ (pu v hv) gg
        refine ⟨rfl, _, rfl, (by show 0 ≤ sizeLine; decide), fun q hq => ?_⟩
        have gq := gg.trans (Grows.new (o := .lst []) hq)
        have il : i < 27 := by
          have := (List.getElem?_eq_some_iff.mp hx).1
          omega
        have eD2 := Grows.new (o := .lst []) hq _ _ eD
        have keep : BadP K H4 x → ∃ acc, (upd G' q (.lst [])) D = some (.lst acc) ∧ acc.length < sizeLine ∧ Grows H4 (upd (upd G' q (.lst [])) D (.lst (acc ++ [x]))) ∧ ∃ us, (upd (upd G' q (.lst [])) D (.lst (acc ++ [x]))) D = some (.lst us) ∧ us.length ≤ i + 1 ∧ ∀ v ∈ us, BadP K H4 v := fun bx => by
          refine ⟨us, eD2, Nat.lt_of_le_of_lt (show us.length ≤ 100 by omega) (by decide), fun b o e => ?_, us ++ [x], upd_same, by rw [List.length_append]; exact Nat.succ_le_succ lu, fun v hv => ?_⟩
          · rw [upd_ne (ne_of_none e hD)]
            exact gq _ _ e
          · rcases List.mem_append.mp hv with z | z
            · exact pu v z
            · rw [List.mem_singleton.mp z]
              exact bx
        have drop : Grows H4 (upd G' q (.lst [])) ∧ ∃ us, (upd G' q (.lst [])) D = some (.lst us) ∧ us.length ≤ i + 1 ∧ ∀ v ∈ us, BadP K H4 v := ⟨gq, us, eD2, Nat.le_succ_of_le lu, pu⟩
        obtain ⟨d, th, tx, ly, ok⟩ := n4 x (List.mem_of_getElem? hx)
        have th2 := th.grow gq
        have full : d ≠ .list [] → BadP K H4 x := fun ne => by
          rcases ok with e | ⟨o1, o2⟩
          · exact absurd e ne
          · exact ⟨d, th, tx, o1, o2⟩
        rcases th2 with (hd | ⟨a1, rfl, ea1, rfl⟩) | ⟨a1, s1, x1, e1, rfl, ea1, _, rfl⟩
        · have sh : SeqAt.shaped d = true := by
            unfold SeqAt.shaped
            rw [decide_eq_true (show d.depth ≤ 64 by have := tx.dp; omega), Bool.and_true]
            cases d <;> first | exact ly | cases hd
          refine .inl ⟨d, .list [], hd, .lst (SqL.of upd_same) .nil, sh, by decide +kernel, _, rfl, iteN _ (fun h => ?_) fun _ => drop⟩
          refine ⟨_, rfl, keep (full fun e => ?_)⟩
          rw [e] at h
          exact absurd h (by decide +kernel)
        · exact .inr ⟨a1, q, _, [], rfl, rfl, ea1, SqL.of upd_same, _, rfl, iteT ⟨_, rfl, keep (full fun z => nomatch z)⟩⟩
        · exact .inr ⟨a1, q, _, [], rfl, rfl, ea1, SqL.of upd_same, _, rfl, iteT ⟨_, rfl, keep (full fun z => nomatch z)⟩⟩
      · subst e
        refine nm_c ?_
        dsimp only [List.set_cons_succ, List.set_cons_zero]
        exact if_ne (H0 := H5) (ss := ["lot", "lot"]) (lv_lst (sv_cons (sv_call (K := K) (c := c) (Px := BadP K) (Py := fun _ v => v = .non) (door := 5) (r := some 5) badp_last mt_int (mt_var badp_last rfl pv) mt_non fun H x y g px ey => by subst ey; exact gd_lot px (.inl rfl)) (sv_cons (sv_call (K := K) (c := c) (Px := BadP K) (Py := fun _ v => v = .non) (door := 6) (r := some 5) badp_last mt_int (mt_var badp_last rfl pv) mt_non fun H x y g px ey => by subst ey; exact gd_lot px (.inr rfl)) sv_nil)) (by decide))
          (lv_lst (sv_cons sv_c (sv_cons sv_c sv_nil)) (by decide)) (by decide +kernel) .refl fun H7 g7 => nx _ _ ⟨_, _, rfl⟩ g7
      · subst e
        have gB := gA.trans g5
        have eg := gB _ _ eD
        refine seq_lstT (Pr := OD K (nn : Int)) (H0 := H5) (n := 16) od_last ((mt_cons od_last (od_n md_non (by decide +kernel) rfl) (mt_cons od_last (od_n md_int (by decide +kernel) rfl) (mt_cons od_last (od_n md_bl (by decide +kernel) rfl) (mt_cons od_last (od_n md_str (by decide +kernel) rfl) (mt_cons od_last (od_n md_str (by decide +kernel) rfl) (mt_cons od_last (od_n (md_tup md_nil (Nat.le_of_ble_eq_true rfl)) (by decide +kernel) rfl) (mt_cons od_last od_dict (mt_cons od_last (od_fb (md_lst (md_cons md_neg md_nil) (Nat.le_of_ble_eq_true rfl)) (by decide +kernel) (pl_el List.mem_cons_self (pers_lt (by decide))) rfl) (mt_cons od_last (od_ints (is := [(nn : Int)]) (md_lst (md_cons (md_var rfl (.int _)) md_nil) (Nat.le_of_ble_eq_true rfl)) ((tx_list (n := 0) (w := 110) (m := 1) (fun d hd => by rw [List.mem_singleton.mp hd]; exact tx_int (by omega)) (Nat.le_refl _)).le (by decide) (by decide)) (pl_el List.mem_cons_self (pers_ge (Int.le_refl _))) (fun z => nomatch z) (Nat.le_of_ble_eq_true rfl)) (mt_cons od_last (od_fb (md_lst (md_cons md_int (md_cons md_int md_nil)) (Nat.le_of_ble_eq_true rfl)) (by decide +kernel) (pl_as rfl) rfl) (mt_cons od_last (od_fb (md_lst (md_cons md_int (md_cons md_int md_nil)) (Nat.le_of_ble_eq_true rfl)) (by decide +kernel) (pl_as rfl) rfl) (mt_cons od_last (od_fb (md_lst (md_cons md_bl md_nil) (Nat.le_of_ble_eq_true rfl)) (by decide +kernel) (pl_el List.mem_cons_self rfl) rfl) (mt_cons od_last (od_fb (md_lst (md_cons md_int (md_cons md_bl md_nil)) (Nat.le_of_ble_eq_true rfl)) (by decide +kernel) (pl_el (List.mem_cons_of_mem _ List.mem_cons_self) rfl) rfl) (mt_cons od_last (od_fb (md_lst (md_cons md_str md_nil) (Nat.le_of_ble_eq_true rfl)) (by decide +kernel) (pl_el List.mem_cons_self rfl) rfl) (mt_cons od_last (od_fb (md_lst (md_cons md_non md_nil) (Nat.le_of_ble_eq_true rfl)) (by decide +kernel) (pl_el List.mem_cons_self rfl) rfl) (mt_cons od_last od_rows mt_nil))))))))))))))))) (by decide) .refl fun vs1 q1 H6 g6 e6 l6 o6' => ?_
        dsimp only [List.set_cons_succ, List.set_cons_zero]
        refine seq_catT (Pr := OD K (nn : Int)) (H0 := H5) (n := 6) od_last ((mt_cons od_last (od_n (md_tup (md_cons md_int md_nil) (Nat.le_of_ble_eq_true rfl)) (by decide +kernel) rfl) (mt_cons od_last (od_tup rfl eg smG) (mt_cons od_last (od_ext rfl eg smG (md_var rfl (.int _)) (tx_int (by omega)) (pers_ge (Int.le_refl _)) rfl) (mt_cons od_last (od_ext rfl eg smG md_non (tx_of (by decide +kernel)) rfl rfl) (mt_cons od_last (od_fb (md_lst (md_cons md_int (md_cons (md_pow ⟨by decide, by decide⟩) md_nil)) (Nat.le_of_ble_eq_true rfl)) (by decide +kernel) (pl_el (List.mem_cons_of_mem _ List.mem_cons_self) (pers_ge (Int.le_trans (show (nn : Int) ≤ 20 from n2) (by decide)))) rfl) (mt_cons od_last od_one mt_nil))))))) rfl e6 o6' (by rw [l6]; decide) g6 fun vs2 q2 H7 g7 e7 l7 o7 => ?_
        dsimp only [List.set_cons_succ, List.set_cons_zero]
        have gC := (gB.trans g6).trans g7
        have lotC := lot.grow gC
        refine seq_forL (Pr := OD K (nn : Int)) od_last (fun Q2 kq => ⟨_, rfl, kq q2 _ H7 .refl e7 o7⟩) (fun σ => ∃ o5 o6 o8, σ = [some (.ref p), some (.int (nn : Int)), some (.ref a), some (.ref D3), none, o5, o6, none, o8, none, none]) ⟨_, _, _, rfl⟩ (fun v σ H8 D' ⟨o5, o6, o8, e⟩ g8 pv nx => ?_) fun σ H8 ⟨o5, o6, o8, e⟩ g8 => ?_
        · subst e
          have lotD := lotC.grow g8
          refine nm_b ?_
          dsimp only [List.set_cons_succ, List.set_cons_zero]
          refine seq_or (H0 := H8) (sv_call (K := K) (c := c) (Px := fun _ v => v = .ref a) (Py := OD K (nn : Int)) (door := 6) (r := some 3) is_last mt_int (mt_is rfl) (mt_var od_last rfl pv) fun H x y g ex py => by subst ex; exact gd_knot6 (lotD.grow g) py)
            (sv_call (K := K) (c := c) (Px := fun _ v => v = .int (nn : Int)) (Py := OD K (nn : Int)) (door := 3) (r := some 3) is_last mt_int (mt_is rfl) (mt_var od_last rfl pv) fun H x y g ex py => by subst ex; obtain ⟨d, th, tx, lb, e, _⟩ := py; exact gd_knot3 n1 n2 th tx lb (grp_pl e)) .refl fun H9 g9 => ?_
          refine or_ne (H0 := H9) (sv_call (K := K) (c := c) (Px := fun _ v => v = .int (nn : Int)) (Py := OD K (nn : Int)) (door := 0) (r := none) is_last mt_int (mt_is rfl) (mt_var od_last rfl (od_last _ _ _ pv g9)) fun H x y g ex py => ?_)
            (sv_call (K := K) (c := c) (Px := fun _ v => v = .int (nn : Int)) (Py := OneOf (OD K (nn : Int))) (door := 0) (r := none) is_last mt_int (mt_is rfl) (mt_one1 od_last (mt_var od_last rfl (od_last _ _ _ pv g9))) fun H x y g ex py => ?_) .refl fun H10 g10 => nx _ _ ⟨_, _, _, rfl⟩ (g9.trans g10)
          · subst ex
            obtain ⟨d, th, tx, lb, e, f⟩ := py
            exact gd_fam n1 n2 th.dq (tx.le (by decide) (by decide)) fun H' g' => thg_nofam (th.grow g') f
          · subst ex
            obtain ⟨q, u, rfl, eq, d, th, tx, lb, e, f⟩ := py
            exact gd_fam n1 n2 (.lst (SqL.of eq) (.cons th.dq .nil)) ((tx_list (m := 1) (fun z hz => by rw [List.mem_singleton.mp hz]; exact tx) (Nat.le_refl _)).le (by decide) (by decide)) fun H' g' => one_nofam (th.grow g') (SqL.of (g' _ _ eq)) lb (grp_pl e)
        · subst e
          have gD := gC.trans g8
          have lotD := lot.grow gD
          have sub1 : (nn : Int) - 1 = ((nn - 1 : Nat) : Int) := by omega
          have smI : ∀ {i : Int}, 0 ≤ i → i ≤ 1000 → Sm [i] := fun h0 h1 => ⟨Nat.le_of_ble_eq_true rfl, fun x hx => by rw [List.mem_singleton.mp hx]; exact ⟨h0, h1⟩⟩
          have one0 : ∀ {G0 : Hp} {σ : L2.St}, MD G0 K σ (tLst (tCons (tC (.int 0)) tNil)) (rowD [0]) := md_lst (md_cons md_int md_nil) (Nat.le_of_ble_eq_true rfl)
          have oneL : ∀ {G0 : Hp} {σ : L2.St}, σ[1]? = some (some (.int (nn : Int))) → MD G0 K σ (tLst (tCons (tOp (rI0 fun i j => .int (i - j)) (tVar 1) (tC (.int 1))) tNil)) (rowD [(nn : Int) - 1]) := fun h => md_lst (md_cons (md_sub h) md_nil) (Nat.le_of_ble_eq_true rfl)
          have none0 : ∀ {G0 : Hp} {σ : L2.St}, MD G0 K σ (tLst tNil) (rowD []) := md_lst md_nil (Nat.le_of_ble_eq_true rfl)
          have smN : Sm [] := ⟨by decide, fun _ h => nomatch h⟩
          -- too few for a group
          refine seq_ne (H0 := H8) (ss := ["knot", "knot", "knot"]) (lv_tup (m := 3) (s := "knot") (Pr := FG K (nn : Int)) rfl (fun _ => rfl) (by decide) fg_last (mt_cons fg_last (fg_md none0 smN (by decide)) (mt_cons fg_last (fg_md one0 (smI (by decide) (by decide)) (by decide)) (mt_cons fg_last (fg_md (oneL rfl) (smI (by omega) (by omega)) (Nat.le_of_ble_eq_true rfl)) mt_nil)))
              fun H1 v g pv => sv_call (K := K) (c := c) (Px := fun _ v => v = .int (nn : Int)) (Py := FG K (nn : Int)) (door := 3) (r := some 3) is_last mt_int (mt_is rfl) (mt_var fg_last rfl pv) fun H x y g ex py => by subst ex; obtain ⟨d, th, tx, lb, e⟩ := py; exact gd_knot3 n1 n2 th tx lb e)
            (lv_rep (m := 3) (s := "knot") (lv_lst (sv_cons sv_c sv_nil) (by decide)) (by decide)) (by decide +kernel) .refl fun H9 g9 => ?_
          have gE := gD.trans g9
          have plS : ∀ {i : Int}, 0 ≤ i → i < (nn : Int) → plistD (nn : Int) (rowD [i]) = true := fun h0 h1 => pl_of (List.pairwise_singleton _ _) fun x hx => by rw [List.mem_singleton.mp hx]; exact ⟨h0, h1⟩
          have plG : PL K (nn : Int) H9 (.ref D3) := ⟨gs, .lst (SqL.of (gE _ _ eD)) (rows_dp gs), smG, pl_of up rgn⟩
          have smR : Sm (upto nn) := sm_upto (by omega)
          refine seq_ne (H0 := H9) (ss := ["fine", "fine", "fine", "fine", "fine"]) (lv_tup (m := 5) (s := "fine") (Pr := PL K (nn : Int)) rfl (fun _ => rfl) (by decide) pl_last (mt_cons pl_last (pl_md none0 smN (pl_of List.Pairwise.nil fun _ h => nomatch h)) (mt_cons pl_last (pl_md one0 (smI (by decide) (by decide)) (plS (by decide) (by omega))) (mt_cons pl_last (pl_md (oneL rfl) (smI (by omega) (by omega)) (plS (by omega) (by omega)))
              (mt_cons pl_last (mt_var pl_last rfl plG) (mt_cons pl_last (pl_md (md_rng (m := nn) rfl (by omega)) smR (pl_of (up_up nn) (up_in nn))) mt_nil)))))
              fun H1 v g pv => sv_call (K := K) (c := c) (Px := fun _ v => v = .ref a) (Py := PL K (nn : Int)) (door := 6) (r := none) is_last mt_int (mt_is rfl) (mt_var pl_last rfl pv) fun H x y g' ex py => by subst ex; exact gd_fine6 (lot.grow ((gE.trans g).trans g')) py)
            (lv_rep (m := 5) (s := "fine") (lv_lst (sv_cons sv_c sv_nil) (by decide)) (by decide)) (by decide +kernel) .refl fun H10 g10 => ?_
          have gF := gE.trans g10
          have f30 : ¬ (0 ≤ (10 : Int) ^ 30 ∧ (10 : Int) ^ 30 ≤ (nn : Int)) := fun z => absurd (Int.le_trans z.2 n2) (by decide)
          refine seq_ne (H0 := H10) (ss := ["far", "far", "far", "far"]) (lv_tup (m := 4) (s := "far") (Pr := FarN (nn : Int)) rfl (fun _ => rfl) (by decide) farn_last
              (mt_cons farn_last (fun H Q _ k => ⟨_, rfl, k _ H .refl ⟨-1, rfl, fun z => absurd z.1 (by decide), .inl (by decide)⟩⟩) (mt_cons farn_last (fun H Q _ k => ⟨_, rfl, _, _, rfl, rfl, k _ H .refl ⟨(nn : Int) + 1, rfl, by omega, .inl (by omega)⟩⟩)
                (mt_cons farn_last (fun H Q _ k => ⟨_, _, rfl, rfl, ⟨by decide, by decide⟩, k _ H .refl ⟨10 ^ 30, rfl, f30, .inr (.inl rfl)⟩⟩) (mt_cons farn_last (fun H Q _ k => ⟨_, _, rfl, rfl, ⟨by decide, by decide⟩, _, _, rfl, rfl, k _ H .refl ⟨-(10 ^ 30), by decide +kernel, fun z => absurd z.1 (by decide), .inr (.inr rfl)⟩⟩) mt_nil))))
              fun H1 v g pv => sv_call (K := K) (c := c) (Px := fun _ v => v = .int (nn : Int)) (Py := FarN (nn : Int)) (door := 4) (r := some 4) is_last mt_int (mt_is rfl) (mt_var farn_last rfl pv) fun H x y g ex py => by subst ex; obtain ⟨i, rfl, no, s⟩ := py; exact gd_far n1 n2 no s)
            (lv_rep (m := 4) (s := "far") (lv_lst (sv_cons sv_c sv_nil) (by decide)) (by decide)) (by decide +kernel) .refl fun H11 g11 => ?_
          have gG := gF.trans g11
          refine seq_set (H0 := H11) (ss := ["fine", "fine", "fine", "fine"]) (lv_cat (ss := List.replicate 3 "fine") (ts := ["fine"]) (lv_tup (m := 3) (s := "fine") (Pr := NearN (nn : Int)) rfl (fun _ => rfl) (by decide) nearn_last
              (mt_cons nearn_last (fun H Q _ k => k _ H .refl ⟨0, rfl, by decide, by omega⟩) (mt_cons nearn_last (fun H Q _ k => ⟨_, rfl, k _ H .refl ⟨(nn : Int), rfl, by omega, Int.le_refl _⟩⟩) (mt_cons nearn_last (fun H Q b k => ⟨_, rfl, D3, _, rfl, .inl (SqL.of (b _ _ (gG _ _ eD))), k _ H .refl ⟨_, rfl, by omega, by rw [List.length_map]; omega⟩⟩) mt_nil)))
              fun H1 v g pv => sv_call (K := K) (c := c) (Px := fun _ v => v = .int (nn : Int)) (Py := NearN (nn : Int)) (door := 4) (r := none) is_last mt_int (mt_is rfl) (mt_var nearn_last rfl pv) fun H x y g ex py => by subst ex; obtain ⟨i, rfl, m0, m1⟩ := py; exact gd_near n1 n2 m0 m1)
            (lv_lst (sv_cons (sv_call (K := K) (c := c) (Px := fun _ v => v = .ref a) (Py := fun _ v => v = .non) (door := 5) (r := none) is_last mt_int (mt_is rfl) mt_non fun H x y g ex ey => by subst ex; subst ey; exact gd_hist (lot.grow (gG.trans g))) sv_nil) (by decide)) (by decide)) .refl fun q12 H12 g12 e12 => ?_
          dsimp only [List.set_cons_succ, List.set_cons_zero]
          have gH := gG.trans g12
          refine seq_setN (H0 := H12) (ss := ["fine", "fine", "fine", "fine"]) (ts := ["fine", "fine", "fine"]) (lv_var rfl e12) (lv_lst (sv_cons (sv_call (K := K) (c := c) (Px := fun _ v => v = .int (nn : Int)) (Py := fun _ v => v = .non) (door := 1) (r := none) is_last mt_int (mt_is rfl) mt_non fun H x y g ex ey => by subst ex; subst ey; exact gd_one (.inl rfl) n1 n2)
              (sv_cons (sv_call (K := K) (c := c) (Px := fun _ v => v = .int (nn : Int)) (Py := fun _ v => v = .non) (door := 2) (r := none) is_last mt_int (mt_is rfl) mt_non fun H x y g ex ey => by subst ex; subst ey; exact gd_one (.inr rfl) n1 n2)
              (sv_cons (sv_call (K := K) (c := c) (Px := fun _ v => v = .int (nn : Int)) (Py := fun _ v => v = .ref a) (door := 0) (r := none) is_last mt_int (mt_is rfl) (mt_is rfl) fun H x y g ex ey => by subst ex; subst ey; exact gd_famL (lot.grow (gH.trans g)) n1 n2) sv_nil))) (by decide)) (by decide) .refl fun q13 H13 g13 nq e13 => ?_
          dsimp only [List.set_cons_succ, List.set_cons_zero]
          have gI := gH.trans g13
          have nqG : G q13 = none := none_back gH nq
          obtain ⟨ws, ews⟩ : ∃ ws : Str, ws = if (nn : Int) < 2 then "knot" else "fine" := ⟨_, rfl⟩
          have uL : (upto nn).length = nn := by
            unfold upto
            rw [List.length_map, List.length_range]
          have sv : ∀ {σ : L2.St}, σ[1]? = some (some (.int (nn : Int))) → SV H13 σ (tCall (spRai K c) [] E0 (tCons (tC (.int 3)) (tCons (tVar 1) (tCons (tLstRg (tRg1 (tVar 1))) tNil)))) ws := fun {σ} h1 => by
            by_cases lt : (nn : Int) < 2
            · rw [ews, if_pos lt]
              refine sv_call (K := K) (c := c) (Px := fun _ v => v = .int (nn : Int)) (Py := fun H v => L2.Dp K H v (rowD (upto nn))) (door := 3) (r := some 3) is_last mt_int (mt_is h1) (md_rng h1 (by omega)) fun H x y g ex py => ?_
              subst ex
              exact gd_knot3 n1 n2 (.dp py) ((tx_row smR).le (by decide) (by decide)) (lim_row smR) (by rw [grpD_list, decide_eq_false (by rw [List.length_map, uL]; omega), Bool.and_false])
            · rw [ews, if_neg lt]
              refine sv_call (K := K) (c := c) (Px := fun _ v => v = .int (nn : Int)) (Py := fun H v => L2.Dp K H v (rowD (upto nn))) (door := 3) (r := none) is_last mt_int (mt_is h1) (md_rng h1 (by omega)) fun H x y g ex py => ?_
              subst ex
              exact gd_group n1 n2 py smR (by rw [grpD_list, pl_of (up_up nn) (up_in nn), decide_eq_true (by rw [List.length_map, uL]; omega)]; rfl)
          refine ⟨_, rfl, .inl ⟨rfl, _, SqL.of e13⟩, sv rfl H13 _ .refl fun v H14 g14 ev => ⟨q13, _, v, rfl, rfl, g14 _ _ e13, (by decide), ?_⟩⟩
          subst ev
          obtain ⟨H15, eH15⟩ : ∃ H15, H15 = upd H14 q13 (.lst ((((["fine", "fine", "fine", "fine"] : List Str) ++ (["fine", "fine", "fine"] : List Str)).map L2.V.str) ++ [.str ws])) := ⟨_, rfl⟩
          have g15 : Grows G H15 := fun b o e => by
            rw [eH15, upd_ne (ne_of_none e nqG)]
            exact g14 _ _ (gI _ _ e)
          have e15 : H15 q13 = some (.lst ((["fine", "fine", "fine", "fine", "fine", "fine", "fine", ws] : List Str).map L2.V.str)) := by
            rw [eH15, upd_same]
            rfl
          rw [← eH15]
          have wok : Wok ["fine", "fine", "fine", "fine", "fine", "fine", "fine", ws] := by
            rw [ews]
            split <;> decide +kernel
          have ix : ∀ {σ : L2.St}, σ[1]? = some (some (.int (nn : Int))) → SV H15 σ (tOp (rIxL K) (tLst (tCons (tC (.str "fine")) (tCons (tC (.str "knot")) tNil))) (tCB (fun xs H Q => (∃ i, xs = [.int i] ∧ Q (.int i) H) ∨ ∃ k, xs = [.bl k] ∧ Q (.int (if k = true then 1 else 0)) H) (tCons (tOp (rI0 fun i j => .bl (decide (i < j))) (tVar 1) (tC (.int 2))) tNil))) ws := fun {σ} h1 H Q b k => by
            refine ⟨(by show 2 ≤ sizeLine; decide), fun q hq => ⟨_, h1, _, _, rfl, rfl, .inr ⟨_, rfl, ?_⟩⟩⟩
            by_cases lt : (nn : Int) < 2
            · rw [decide_eq_true lt, if_pos rfl]
              exact ⟨q, _, 1, .str "knot", rfl, rfl, SqL.of upd_same, rfl, k _ _ (Grows.new hq) (by rw [ews, if_pos lt])⟩
            · rw [decide_eq_false lt, if_neg Bool.false_ne_true]
              exact ⟨q, _, 0, .str "fine", rfl, rfl, SqL.of upd_same, rfl, k _ _ (Grows.new hq) (by rw [ews, if_neg lt])⟩
          refine ⟨_, rfl, (lv_cat (H0 := H15) (ss := List.replicate 7 "fine") (ts := [ws]) (lv_rep (m := 7) (s := "fine") (lv_lst (sv_cons sv_c sv_nil) (by decide)) (by decide)) (lv_lst (sv_cons (ix rfl) sv_nil) (Nat.le_of_ble_eq_true rfl)) (Nat.le_of_ble_eq_true rfl)) H15 _ .refl fun q16 H16 g16 e16 => ?_⟩
          refine ⟨.list ((["fine", "fine", "fine", "fine", "fine", "fine", "fine", ws] : List Str).map .str), .list ((["fine", "fine", "fine", "fine", "fine", "fine", "fine", ws] : List Str).map .str), .lst (SqL.of (g16 _ _ e15)) (dp_strs _), .lst (SqL.of e16) (dp_strs _), wok, wok, ?_⟩
          rw [eqv_same]
          exact fin H16 (g15.trans g16)
end
end K35

namespace K35
open PySem PySem.Spec PyProof.Rows L2 SortR LcM RepA Held
abbrev sLaw : Stmt := top 67
def spLaw (K : PySem.W.Frag) : Sp := fun vs H Q _ => ∃ (a : Addr) (ns : List Int), vs = [.ref a] ∧ SqL K H a (ns.map L2.V.int) ∧ ns.length ≤ 63 ∧ ∀ H', Q (.bl true) H'
theorem mm (k : Int) : ∃ J : Int, 1 ≤ J ∧ J ≤ 4 ∧ (if (if k < 4 then k else 4) > 1 then (if k < 4 then k else 4) else 1) = J := by
  refine ⟨_, ?_, ?_, rfl⟩
  · split <;> omega
  · split <;> split <;> omega
theorem gr_grows {sd : Addr} {H H0 H1 G : Hp} (g0 : Grows H H0) (n : H sd = none) (g : Gr sd H1 G) (g1 : Grows H0 H1) : Grows H G := fun b o e => g b o (fun z => by rw [z, n] at e; cases e) (g1 _ _ (g0 b o e))
/-- the chain of twenty -/
abbrev chainR : List (List Int) := (List.range 19).map fun k => upto (k + 2)
theorem chain_p : isP chainR = true := by decide +kernel
theorem chain_hv : hvB chainR = true := by decide +kernel
section
variable {P : Program} {w : World} {K : PySem.W.Frag} {mg : Str → Option Value} {base : Heap} {c : List Addr} {pe : Addr}
theorem scLaw : FnScope ["script", "k", "store", "top", "chain", "who", "told"] ["script"] (defScope sLaw) := ⟨rfl, rfl, rfl, by decide +kernel, rfl, by decide +kernel, by decide +kernel⟩
theorem ok_law {f fStore fRight : Addr} {fd dStore dRight : FuncData} (F : Fun K "law" "law" sLaw f fd) (T : TxtP mg) (T0 : Txt0 mg) (L : LwF P w base K mg c)
    (GStore : FnOk P w K mg base CX0 1 fStore dStore ["script", "k"] (spStore K)) (FStore : Fun K "_law_store" "_law_store" sStore fStore dStore) (gStore : mg "_law_store" = some (.ref fStore)) (bStore : Binds K dStore ["script", "k"] [])
    (FRight : Fun K "_law_right" "_law_right" sRight fRight dRight) (gRight : mg "_law_right" = some (.ref fRight)) (bRight : Binds K dRight ["store", "many_here"] []) : FnG P w K mg base CX0 11 f fd ["script"] (spLaw K) := by
  have GRight : FnG P w K mg base CX0 10 fRight dRight ["store", "many_here"] spRight := ok_right FRight T L
  obtain ⟨fPick, fCome, fGroups, fBad, fRai, dPick, dCome, dGroups, dBad, dRai, FPick, FCome, FGroups, FBad, FRai, gPick, gCome, gGroups, gBad, gRai, bPick, bCome, bGroups, bBad, bRai, GPick, GCome, GGroups, GBad, GRai⟩ := L
  refine okG F scLaw (fun vs H Q E h => ?_) (fun cdv A outer s H vs Q E hr noG h => ?_)
  · obtain ⟨a, ns, rfl, _⟩ := h
    rfl
  · obtain ⟨a, ns, rfl, hS, hl, kq⟩ := h
    refine ⟨_, (pss_cons (ps_for PassesOwn.never rfl (pi_range1 (by rfl) T.range (pa_cons (pe_callB (call_max2 rfl) (by rfl) T0.max (by decide +kernel) (pa_cons pe_int (pa_cons (pe_callB (call_min2 rfl) (by rfl) T0.min (by decide +kernel) (pa_cons pe_int (pa_cons (pe_callB call_len_seq (by rfl) T.len (by decide +kernel) (pa_cons (pv 0) pa_nil)) pa_nil))) pa_nil))) pa_nil)) (pg_name (i := 1) scLaw.nd rfl (.inl rfl))
      (pss_cons (ps_set (i := 2) scLaw.nd rfl (.inl rfl) (pe_call GStore (hr.mono (by decide)) rfl gStore FStore.kp bStore .nil pass0 (pa_cons (pv 0) (pa_cons (pv 1) pa_nil))))
      (pss_one (ps_for PassesOwn.never rfl (pi_tup (pe_tup (pa_cons pe_int (pa_cons pe_int pa_nil)))) (pg_name (i := 3) scLaw.nd rfl (.inl rfl))
      (pss_one (ps_if (pt_not (pt_val (pe_callG GRight (hr.mono (by decide)) noG rfl gRight FRight.kp bRight .nil pass0 (pa_cons (pv 2) (pa_cons (pe_op op_sub (pv 3) (pe_call GPick (hr.mono (by decide)) rfl gPick FPick.kp bPick .nil pass0 (pa_cons (pv 2) (pa_cons (pv 3) pa_nil)))) pa_nil))))) (pss_one (ps_ret pe_bl)) pss_nil))))))
      (pss_cons (ps_setLc (i := 4) (own := [("who", 5)]) (g := gName 5) (tt := tYes) rfl scLaw.nd rfl rfl (sw_true rfl rfl rfl (by decide +kernel)) (pi_range1 (by rfl) T.range (pa_cons pe_int pa_nil)) (blkOk_by (own := [("who", 5)]) (N := ["script", "k", "store", "top", "chain", "who", "told"]) (sc := defScope sLaw) (by decide +kernel)) (fun _ _ _ _ _ => pg_name (i := 5) scLaw.nd rfl (Or.inl rfl)) (fun _ _ _ _ _ => pts_nil) (fun _ _ _ _ _ => (pe_listRg rfl (by rfl) T.list (prg_1 (by rfl) T.range (pe_op op_add (pv 5) pe_int)))))
      (pss_cons (ps_set (i := 6) scLaw.nd rfl (.inl rfl) (pe_lst (pa_cons (pe_callG GRai (hr.mono (by decide)) noG rfl gRai FRai.kp bRai .nil pass0 (pa_cons pe_int (pa_cons (pv 4) (pa_cons pe_non pa_nil)))) (pa_cons (pe_callG GRai (hr.mono (by decide)) noG rfl gRai FRai.kp bRai .nil pass0 (pa_cons pe_int (pa_cons (pv 4) (pa_cons (pe_lst (pa_cons pe_int pa_nil)) pa_nil)))) (pa_cons (pe_callG GRai (hr.mono (by decide)) noG rfl gRai FRai.kp bRai .nil pass0 (pa_cons pe_int (pa_cons (pe_lst pa_nil) (pa_cons (pe_lst (pa_cons pe_int pa_nil)) pa_nil)))) (pa_cons (pe_callG GRai (hr.mono (by decide)) noG rfl gRai FRai.kp bRai .nil pass0 (pa_cons pe_int (pa_cons (pe_lst pa_nil) (pa_cons (pe_lst pa_nil) pa_nil)))) pa_nil))))))
      (pss_one (ps_ret (pe_cmpR (op_eqD hr.units) (pe_op op_cat (pv 6) (pe_lst (pa_cons (pe_callG GRai (hr.mono (by decide)) noG rfl gRai FRai.kp bRai .nil pass0 (pa_cons pe_int (pa_cons pe_int (pa_cons pe_int pa_nil)))) (pa_cons (pe_callG GRai (hr.mono (by decide)) noG rfl gRai FRai.kp bRai .nil pass0 (pa_cons pe_int (pa_cons pe_int (pa_cons (pv 4) pa_nil)))) pa_nil)))) (pe_op op_rep (pe_lst (pa_cons pe_str pa_nil)) pe_int) (nomark _))))))), ?_⟩
    obtain ⟨J, J1, J4, eJ⟩ := mm ((ns.map L2.V.int).length : Nat)
    refine ⟨_, rfl, a, _, rfl, .inl hS, 4, _, rfl, 1, _, rfl, J, congrArg (fun z => [L2.V.int z]) eJ, by omega, by omega, for_range (fun i σ H' => ∃ o1 o2 o3, σ = [some (.ref a), o1, o2, o3, none, none, none] ∧ Grows H H') ⟨none, none, none, rfl, .refl⟩ (fun i σ H1 hi ⟨o1, o2, o3, e, g1⟩ => ?_) fun σ H1 ⟨o1, o2, o3, e, g1⟩ => ?_⟩
    · subst e
      refine ⟨_, rfl, _, rfl, a, _, ns, rfl, g1.seq hS, by omega, by omega, fun p H2 np g2 hP2 => ?_⟩
      have Hp0 : H p = none := none_back g1 np
      have g2' := g1.trans g2
      refine ⟨(by show 2 ≤ sizeLine; decide), fun t ht => ⟨t, rfl, ⟨_, SqT.of upd_same⟩, ?_⟩⟩
      have tp : t ≠ p := fun z => by
        obtain ⟨_, _, _, eo, _⟩ := hP2
        rw [z, eo] at ht
        cases ht
      have gt := Grows.new (o := .tup [L2.V.int 20, L2.V.int 4]) ht
      have hPt := hP2.same gt
      have et : (upd H2 t (.tup [L2.V.int 20, L2.V.int 4])) t = some (.tup [L2.V.int 20, L2.V.int 4]) := upd_same
      generalize upd H2 t (.tup [L2.V.int 20, L2.V.int 4]) = H5 at gt hPt et
      have g25 := g2'.trans gt
      refine for_tup (K := K) (xs := [L2.V.int 20, L2.V.int 4]) (fun j σ G => ∃ o, σ = [some (.ref a), some (.int (0 + (i : Nat))), some (.ref p), o, none, none, none] ∧ Gr p H5 G ∧ Pch G p (2 + 3000 * j)) ⟨_, rfl, .refl, hPt.le (by omega)⟩ (fun j σ G _ ⟨_, _, g, _⟩ => SqT.of (g _ _ tp et)) (fun j x σ G hx ⟨o, e, g, hp⟩ => ?_) fun σ G ⟨o, e, g, hp⟩ => ?_
      · subst e
        have hj : j < 2 := (List.getElem?_eq_some_iff.mp hx).1
        obtain ⟨n, rfl, n2, n20⟩ : ∃ n, x = L2.V.int n ∧ 1 ≤ n ∧ n ≤ 20 := by
          have hm := List.mem_of_getElem? hx
          simp only [List.mem_cons, List.not_mem_nil, or_false] at hm
          rcases hm with rfl | rfl <;> exact ⟨_, rfl, by omega, by omega⟩
        refine ⟨_, rfl, _, rfl, _, rfl, _, rfl, p, n, _, rfl, hp, Int.lt_of_le_of_lt (show (2 + 3000 * (j : Int)) ≤ 100000 by omega) (by decide), by omega, Nat.lt_of_le_of_lt (show n.natAbs ≤ 20 by omega) (by decide), fun v G2 v0 v1 hp2 but => ⟨_, _, rfl, rfl, p, n - v, _, rfl, hp2, Int.lt_of_le_of_lt (show (2 + 3000 * (j : Int) + 1) ≤ 100000 by omega) (by decide), by omega, by omega, fun G3 hp3 g3 => ⟨_, rfl, ?_⟩⟩⟩
        exact iteF ⟨_, rfl, g.trans ((but_gr but).trans g3), hp3.le (by omega)⟩
      · exact ⟨_, _, _, e, gr_grows g25 Hp0 g .refl⟩
    · subst e
      dsimp only
      refine ⟨19, rfl, by decide, by decide, fun D hD => lc_upto (n := 19) hD (by decide) (fun i G2 Ry hi kR => ?_) fun G2 cs g2 ec top each => ?_⟩
      · refine ⟨rfl, _, rfl, _, _, rfl, rfl, _, rfl, .of_le (by decide) (by omega) (by decide) (by omega), fun q hq => ?_⟩
        rw [show (0 + (i : Int) + 2) = ((i + 2 : Nat) : Int) by omega, rg_upto]
        exact kR q hq
      · dsimp only
        refine nm_i ?_
        show tSeq _ _ _ [some (.ref a), o1, o2, o3, some (.ref D), none, none] G2
        have lc : cs.length = 19 := by
          have q := congrArg List.length ec
          rw [List.length_map] at q
          exact q
        have lot : Lot K G2 D cs 20 := ⟨top, each, by rw [ec]; exact chain_p, by rw [ec]; exact chain_hv, fun r hr => by
          rw [ec] at hr
          obtain ⟨k, hk, rfl⟩ := List.mem_map.mp hr
          have := List.mem_range.mp hk
          exact sm_upto (by omega), by rw [lc]; rfl⟩
        have lot0 : ∀ {H : Hp} {q : Addr}, H q = some (.lst []) → Lot K H q [] 1 := fun e => ⟨e, (fun _ h => nomatch h), by decide +kernel, by decide +kernel, (fun _ h => nomatch h), rfl⟩
        have el : ∀ {H0 : Hp} {σ : L2.St}, MT H0 σ (tLst tNil) fun H v => ∃ q, v = .ref q ∧ H q = some (.lst []) := fun H Q b k => ⟨(by show 0 ≤ sizeLine; decide), fun q hq => k _ _ (Grows.new hq) ⟨q, rfl, upd_same⟩⟩
        have el_last : Last fun (H : Hp) v => ∃ q, v = L2.V.ref q ∧ H q = some (.lst []) := fun H H' v ⟨q, e, h⟩ g => ⟨q, e, g _ _ h⟩
        have smI : ∀ {i : Int}, 0 ≤ i → i ≤ 1000 → Sm [i] := fun h0 h1 => ⟨Nat.le_of_ble_eq_true rfl, fun x hx => by rw [List.mem_singleton.mp hx]; exact ⟨h0, h1⟩⟩
        have plS : ∀ {n i : Int}, 0 ≤ i → i < n → plistD n (rowD [i]) = true := fun h0 h1 => pl_of (List.pairwise_singleton _ _) fun x hx => by rw [List.mem_singleton.mp hx]; exact ⟨h0, h1⟩
        refine seq_set (H0 := G2) (ss := ["fine", "fine", "fine", "fine"]) (lv_lst (sv_cons (sv_call (K := K) (c := c) (Px := fun _ v => v = .ref D) (Py := fun _ v => v = .non) (door := 5) (r := none) is_last mt_int (mt_is rfl) mt_non fun H x y g ex ey => by subst ex; subst ey; exact gd_hist (lot.grow g))
          (sv_cons (sv_call (K := K) (c := c) (Px := fun _ v => v = .ref D) (Py := PL K 20) (door := 6) (r := none) is_last mt_int (mt_is rfl) (pl_md (r := [19]) (md_lst (md_cons md_int md_nil) (Nat.le_of_ble_eq_true rfl)) (smI (by decide) (by decide)) (plS (by decide) (by decide))) fun H x y g ex py => by subst ex; exact gd_fine6 (lot.grow g) py)
          (sv_cons (sv_call (K := K) (c := c) (Px := fun H v => ∃ q, v = .ref q ∧ H q = some (.lst [])) (Py := PL K 1) (door := 6) (r := none) el_last mt_int el (pl_md (r := [0]) (md_lst (md_cons md_int md_nil) (Nat.le_of_ble_eq_true rfl)) (smI (by decide) (by decide)) (plS (by decide) (by decide))) fun H x y g ex py => by obtain ⟨q, rfl, e⟩ := ex; exact gd_fine6 (lot0 e) py)
          (sv_cons (sv_call (K := K) (c := c) (Px := fun H v => ∃ q, v = .ref q ∧ H q = some (.lst [])) (Py := PL K 1) (door := 6) (r := none) el_last mt_int el (pl_md (r := []) (md_lst md_nil (Nat.le_of_ble_eq_true rfl)) ⟨by decide, fun _ h => nomatch h⟩ (pl_of List.Pairwise.nil fun _ h => nomatch h)) fun H x y g ex py => by obtain ⟨q, rfl, e⟩ := ex; exact gd_fine6 (lot0 e) py) sv_nil)))) (by decide)) .refl fun q6 H6 g6 e6 => ?_
        dsimp only [List.set_cons_succ, List.set_cons_zero]
        refine (lv_cat (H0 := H6) (ss := ["fine", "fine", "fine", "fine"]) (ts := ["fine", "fine"]) (lv_var rfl e6) (lv_lst (sv_cons (sv_call (K := K) (c := c) (Px := fun _ v => v = .int 1) (Py := fun _ v => v = .int 1) (door := 4) (r := none) is_last mt_int mt_int mt_int fun H x y g ex ey => by subst ex; subst ey; exact gd_near (by decide) (by decide) (by decide) (by decide))
          (sv_cons (sv_call (K := K) (c := c) (Px := fun _ v => v = .int 20) (Py := fun _ v => v = .ref D) (door := 0) (r := none) is_last mt_int mt_int (mt_is rfl) fun H x y g ex ey => by subst ex; subst ey; exact gd_famL (lot.grow (g6.trans g)) (by decide) (by decide)) sv_nil)) (by decide)) (by decide)) H6 _ .refl fun q7 H7 g7 e7 => ?_
        refine (lv_rep (H0 := H7) (m := 6) (s := "fine") (lv_lst (sv_cons sv_c sv_nil) (by decide)) (by decide)) H7 _ .refl fun q8 H8 g8 e8 => ?_
        refine ⟨.list ((["fine", "fine", "fine", "fine", "fine", "fine"] : List Str).map .str), .list ((["fine", "fine", "fine", "fine", "fine", "fine"] : List Str).map .str), .lst (SqL.of (g8 _ _ e7)) (dp_strs _), .lst (SqL.of e8) (dp_strs _), by decide +kernel, by decide +kernel, ?_⟩
        rw [eqv_same]
        exact kq H8
end
end K35

namespace K35
open PySem PySem.Spec PyProof.Rows L2 SortR LcM RepA Held
def exB (K : PySem.W.Frag) (D : Addr) : Bool :=
  decide (PySem.W.findIn K (.ref D) "__getattribute__" = some (some (.builtin "BaseException.__getattribute__"))) && (decide (PySem.W.findIn K (.ref D) "__getattr__" = some none) && (decide (PySem.W.subIn K (.ref D) (.type "BaseException") = some true) &&
  (PySem.W.hasDictIn K D && (decide (PySem.W.findIn K (.ref D) "__class__" = some (some (.builtin "object.__class__"))) && (decide (PySem.W.specialIn K (.builtin "object.__class__") "__get__" = some (some (.builtin "getset_descriptor.__get__"))) &&
  (decide (PySem.W.takesIn K (.builtin "object.__class__") = some true) && decide (PySem.W.mroIn K D (.type "object") = some true)))))))
theorem exB_ok {K : PySem.W.Frag} {D : Addr} (h : exB K D = true) : ExcC K D := by
  unfold exB at h
  simp only [Bool.and_eq_true, decide_eq_true_eq] at h
  obtain ⟨h1, h2, h3, h4, h5, h6, h7, h8⟩ := h
  exact ⟨h1, h2, h3, h4, h5, h6, h7, h8⟩
/-- the errors: seventeen classes, of which the first seven are raised -/
def excB (K : PySem.W.Frag) (c : List Addr) (pe : Addr) : Bool :=
  (List.range 7).all fun i => exB K (ca c i) && (((List.range 17).all fun j => decide (PySem.W.kitOne K (.ref (ca c i)) (.ref (ca c j)) = some (decide (i = j)))) && (decide (PySem.W.kitOne K (.ref (ca c i)) (.ref pe) = some true) && (decide (PySem.W.kitOne K (.ref (ca c i)) (.type "ValueError") = some true) &&
  (PySem.W.excIn K (ca c i) PySem.HandSPX.veTail "ValueError.__new__" && (PySem.W.keepIn K (.ref (ca c i)) && (decide (PySem.W.typeIn K (.ref (ca c i)) = some (.type "type")) && decide (PySem.W.exmOne K (.ref (ca c i)) (.ref pe) = some true)))))))
theorem all_mk {l : PySem.W.OpenLaw} {w : World} {K : PySem.W.Frag} {h : Heap} {mg : Str → Option Value} {fa pe c0 c1 c2 c3 c4 c5 c6 c7 c8 c9 c10 c11 c12 c13 c14 c15 c16 fNum fPer fAsc fPL fGr fMask fCross fAny fIs fPs fNPs fFC fHof fAHi fWays fApart fWwc fNN fCC fHist fFrac fHM fHS fAre fFam fBoth fPbS fChg fStore fPick fCome fGroups fWord fCalled fRai fBad fRight fL : Addr} (X : K.In h) (G : h.Ns mainGlobals mg) (hfa : mg "law" = some (.ref fa))
    {odNum anNum odPer anPer odAsc anAsc odPL anPL odGr anGr odMask anMask odCross anCross odAny anAny odIs anIs odPs anPs odNPs anNPs odFC anFC odHof anHof odAHi anAHi odWays anWays odApart anApart odWwc anWwc odNN anNN odCC anCC odHist anHist odFrac anFrac odHM anHM odHS anHS odAre anAre odFam anFam odBoth anBoth odPbS anPbS odChg anChg odStore anStore odPick anPick odCome anCome odGroups anGroups odWord anWord odCalled anCalled odRai anRai odBad anBad odRight anRight odL anL : Option Addr} {slNum slPer slAsc slPL slGr slMask slCross slAny slIs slPs slNPs slFC slHof slAHi slWays slApart slWwc slNN slCC slHist slFrac slHM slHS slAre slFam slBoth slPbS slChg slStore slPick slCome slGroups slWord slCalled slRai slBad slRight slL : Array (Option Value)} {ocNum kVNum dcNum pmNum cvNum ctNum ocPer kVPer dcPer pmPer cvPer ctPer ocAsc kVAsc dcAsc pmAsc cvAsc ctAsc ocPL kVPL dcPL pmPL cvPL ctPL ocGr kVGr dcGr pmGr cvGr ctGr ocMask kVMask dcMask pmMask cvMask ctMask ocCross kVCross dcCross pmCross cvCross ctCross ocAny kVAny dcAny pmAny cvAny ctAny ocIs kVIs dcIs pmIs cvIs ctIs ocPs kVPs dcPs pmPs cvPs ctPs ocNPs kVNPs dcNPs pmNPs cvNPs ctNPs ocFC kVFC dcFC pmFC cvFC ctFC ocHof kVHof dcHof pmHof cvHof ctHof ocAHi kVAHi dcAHi pmAHi cvAHi ctAHi ocWays kVWays dcWays pmWays cvWays ctWays ocApart kVApart dcApart pmApart cvApart ctApart ocWwc kVWwc dcWwc pmWwc cvWwc ctWwc ocNN kVNN dcNN pmNN cvNN ctNN ocCC kVCC dcCC pmCC cvCC ctCC ocHist kVHist dcHist pmHist cvHist ctHist ocFrac kVFrac dcFrac pmFrac cvFrac ctFrac ocHM kVHM dcHM pmHM cvHM ctHM ocHS kVHS dcHS pmHS cvHS ctHS ocAre kVAre dcAre pmAre cvAre ctAre ocFam kVFam dcFam pmFam cvFam ctFam ocBoth kVBoth dcBoth pmBoth cvBoth ctBoth ocPbS kVPbS dcPbS pmPbS cvPbS ctPbS ocChg kVChg dcChg pmChg cvChg ctChg ocStore kVStore dcStore pmStore cvStore ctStore ocPick kVPick dcPick pmPick cvPick ctPick ocCome kVCome dcCome pmCome cvCome ctCome ocGroups kVGroups dcGroups pmGroups cvGroups ctGroups ocWord kVWord dcWord pmWord cvWord ctWord ocCalled kVCalled dcCalled pmCalled cvCalled ctCalled ocRai kVRai dcRai pmRai cvRai ctRai ocBad kVBad dcBad pmBad cvBad ctBad ocRight kVRight dcRight pmRight cvRight ctRight ocL kVL dcL pmL cvL ctL : Value} {mtok ktok utok : Tok}
    (aNum : PySem.W.nsIn K mainGlobals "is_number" = some (some (.ref fNum))) (lNum : K.lookup fNum = some ⟨ocNum, odNum, .func (PySem.W.fnOf "is_number" "is_number" (defArgs sNumber) (defBody sNumber) (defScope sNumber) .none kVNum dcNum pmNum anNum cvNum ctNum), slNum⟩) (xNum : PySem.W.codeIn K cvNum "is_number" = true) (kNum : PySem.W.keepIn K (.ref fNum) = true)
    (aPer : PySem.W.nsIn K mainGlobals "is_person" = some (some (.ref fPer))) (lPer : K.lookup fPer = some ⟨ocPer, odPer, .func (PySem.W.fnOf "is_person" "is_person" (defArgs sPerson) (defBody sPerson) (defScope sPerson) .none kVPer dcPer pmPer anPer cvPer ctPer), slPer⟩) (xPer : PySem.W.codeIn K cvPer "is_person" = true) (kPer : PySem.W.keepIn K (.ref fPer) = true)
    (aAsc : PySem.W.nsIn K mainGlobals "is_ascending" = some (some (.ref fAsc))) (lAsc : K.lookup fAsc = some ⟨ocAsc, odAsc, .func (PySem.W.fnOf "is_ascending" "is_ascending" (defArgs sAsc) (defBody sAsc) (defScope sAsc) .none kVAsc dcAsc pmAsc anAsc cvAsc ctAsc), slAsc⟩) (xAsc : PySem.W.codeIn K cvAsc "is_ascending" = true) (kAsc : PySem.W.keepIn K (.ref fAsc) = true)
    (aPL : PySem.W.nsIn K mainGlobals "is_person_list" = some (some (.ref fPL))) (lPL : K.lookup fPL = some ⟨ocPL, odPL, .func (PySem.W.fnOf "is_person_list" "is_person_list" (defArgs sPList) (defBody sPList) (defScope sPList) .none kVPL dcPL pmPL anPL cvPL ctPL), slPL⟩) (xPL : PySem.W.codeIn K cvPL "is_person_list" = true) (kPL : PySem.W.keepIn K (.ref fPL) = true)
    (aGr : PySem.W.nsIn K mainGlobals "is_group" = some (some (.ref fGr))) (lGr : K.lookup fGr = some ⟨ocGr, odGr, .func (PySem.W.fnOf "is_group" "is_group" (defArgs sGroup) (defBody sGroup) (defScope sGroup) .none kVGr dcGr pmGr anGr cvGr ctGr), slGr⟩) (xGr : PySem.W.codeIn K cvGr "is_group" = true) (kGr : PySem.W.keepIn K (.ref fGr) = true)
    (aMask : PySem.W.nsIn K mainGlobals "mask_of" = some (some (.ref fMask))) (lMask : K.lookup fMask = some ⟨ocMask, odMask, .func (PySem.W.fnOf "mask_of" "mask_of" (defArgs sMask) (defBody sMask) (defScope sMask) .none kVMask dcMask pmMask anMask cvMask ctMask), slMask⟩) (xMask : PySem.W.codeIn K cvMask "mask_of" = true) (kMask : PySem.W.keepIn K (.ref fMask) = true)
    (aCross : PySem.W.nsIn K mainGlobals "masks_cross" = some (some (.ref fCross))) (lCross : K.lookup fCross = some ⟨ocCross, odCross, .func (PySem.W.fnOf "masks_cross" "masks_cross" (defArgs sCross) (defBody sCross) (defScope sCross) .none kVCross dcCross pmCross anCross cvCross ctCross), slCross⟩) (xCross : PySem.W.codeIn K cvCross "masks_cross" = true) (kCross : PySem.W.keepIn K (.ref fCross) = true)
    (aAny : PySem.W.nsIn K mainGlobals "any_cross" = some (some (.ref fAny))) (lAny : K.lookup fAny = some ⟨ocAny, odAny, .func (PySem.W.fnOf "any_cross" "any_cross" (defArgs sAny) (defBody sAny) (defScope sAny) .none kVAny dcAny pmAny anAny cvAny ctAny), slAny⟩) (xAny : PySem.W.codeIn K cvAny "any_cross" = true) (kAny : PySem.W.keepIn K (.ref fAny) = true)
    (aIs : PySem.W.nsIn K mainGlobals "is_parting" = some (some (.ref fIs))) (lIs : K.lookup fIs = some ⟨ocIs, odIs, .func (PySem.W.fnOf "is_parting" "is_parting" (defArgs sParting) (defBody sParting) (defScope sParting) .none kVIs dcIs pmIs anIs cvIs ctIs), slIs⟩) (xIs : PySem.W.codeIn K cvIs "is_parting" = true) (kIs : PySem.W.keepIn K (.ref fIs) = true)
    (aPs : PySem.W.nsIn K mainGlobals "persons_of" = some (some (.ref fPs))) (lPs : K.lookup fPs = some ⟨ocPs, odPs, .func (PySem.W.fnOf "persons_of" "persons_of" (defArgs sPersons) (defBody sPersons) (defScope sPersons) .none kVPs dcPs pmPs anPs cvPs ctPs), slPs⟩) (xPs : PySem.W.codeIn K cvPs "persons_of" = true) (kPs : PySem.W.keepIn K (.ref fPs) = true)
    (aNPs : PySem.W.nsIn K mainGlobals "need_persons" = some (some (.ref fNPs))) (lNPs : K.lookup fNPs = some ⟨ocNPs, odNPs, .func (PySem.W.fnOf "need_persons" "need_persons" (defArgs sNeedPs) (defBody sNeedPs) (defScope sNeedPs) .none kVNPs dcNPs pmNPs anNPs cvNPs ctNPs), slNPs⟩) (xNPs : PySem.W.codeIn K cvNPs "need_persons" = true) (kNPs : PySem.W.keepIn K (.ref fNPs) = true)
    (aFC : PySem.W.nsIn K mainGlobals "family_counts" = some (some (.ref fFC))) (lFC : K.lookup fFC = some ⟨ocFC, odFC, .func (PySem.W.fnOf "family_counts" "family_counts" (defArgs sFC) (defBody sFC) (defScope sFC) .none kVFC dcFC pmFC anFC cvFC ctFC), slFC⟩) (xFC : PySem.W.codeIn K cvFC "family_counts" = true) (kFC : PySem.W.keepIn K (.ref fFC) = true)
    (aHof : PySem.W.nsIn K mainGlobals "histories_of" = some (some (.ref fHof))) (lHof : K.lookup fHof = some ⟨ocHof, odHof, .func (PySem.W.fnOf "histories_of" "histories_of" (defArgs sHof) (defBody sHof) (defScope sHof) .none kVHof dcHof pmHof anHof cvHof ctHof), slHof⟩) (xHof : PySem.W.codeIn K cvHof "histories_of" = true) (kHof : PySem.W.keepIn K (.ref fHof) = true)
    (aAHi : PySem.W.nsIn K mainGlobals "all_histories" = some (some (.ref fAHi))) (lAHi : K.lookup fAHi = some ⟨ocAHi, odAHi, .func (PySem.W.fnOf "all_histories" "all_histories" (defArgs sAHi) (defBody sAHi) (defScope sAHi) .none kVAHi dcAHi pmAHi anAHi cvAHi ctAHi), slAHi⟩) (xAHi : PySem.W.codeIn K cvAHi "all_histories" = true) (kAHi : PySem.W.keepIn K (.ref fAHi) = true)
    (aWays : PySem.W.nsIn K mainGlobals "ways_of" = some (some (.ref fWays))) (lWays : K.lookup fWays = some ⟨ocWays, odWays, .func (PySem.W.fnOf "ways_of" "ways_of" (defArgs sWays) (defBody sWays) (defScope sWays) .none kVWays dcWays pmWays anWays cvWays ctWays), slWays⟩) (xWays : PySem.W.codeIn K cvWays "ways_of" = true) (kWays : PySem.W.keepIn K (.ref fWays) = true)
    (aApart : PySem.W.nsIn K mainGlobals "ways_apart" = some (some (.ref fApart))) (lApart : K.lookup fApart = some ⟨ocApart, odApart, .func (PySem.W.fnOf "ways_apart" "ways_apart" (defArgs sApart) (defBody sApart) (defScope sApart) .none kVApart dcApart pmApart anApart cvApart ctApart), slApart⟩) (xApart : PySem.W.codeIn K cvApart "ways_apart" = true) (kApart : PySem.W.keepIn K (.ref fApart) = true)
    (aWwc : PySem.W.nsIn K mainGlobals "ways_with_changes" = some (some (.ref fWwc))) (lWwc : K.lookup fWwc = some ⟨ocWwc, odWwc, .func (PySem.W.fnOf "ways_with_changes" "ways_with_changes" (defArgs sWwc) (defBody sWwc) (defScope sWwc) .none kVWwc dcWwc pmWwc anWwc cvWwc ctWwc), slWwc⟩) (xWwc : PySem.W.codeIn K cvWwc "ways_with_changes" = true) (kWwc : PySem.W.keepIn K (.ref fWwc) = true)
    (aNN : PySem.W.nsIn K mainGlobals "need_number" = some (some (.ref fNN))) (lNN : K.lookup fNN = some ⟨ocNN, odNN, .func (PySem.W.fnOf "need_number" "need_number" (defArgs sNeedN) (defBody sNeedN) (defScope sNeedN) .none kVNN dcNN pmNN anNN cvNN ctNN), slNN⟩) (xNN : PySem.W.codeIn K cvNN "need_number" = true) (kNN : PySem.W.keepIn K (.ref fNN) = true)
    (aCC : PySem.W.nsIn K mainGlobals "change_counts" = some (some (.ref fCC))) (lCC : K.lookup fCC = some ⟨ocCC, odCC, .func (PySem.W.fnOf "change_counts" "change_counts" (defArgs sCC) (defBody sCC) (defScope sCC) .none kVCC dcCC pmCC anCC cvCC ctCC), slCC⟩) (xCC : PySem.W.codeIn K cvCC "change_counts" = true) (kCC : PySem.W.keepIn K (.ref fCC) = true)
    (aHist : PySem.W.nsIn K mainGlobals "histories" = some (some (.ref fHist))) (lHist : K.lookup fHist = some ⟨ocHist, odHist, .func (PySem.W.fnOf "histories" "histories" (defArgs sHist) (defBody sHist) (defScope sHist) .none kVHist dcHist pmHist anHist cvHist ctHist), slHist⟩) (xHist : PySem.W.codeIn K cvHist "histories" = true) (kHist : PySem.W.keepIn K (.ref fHist) = true)
    (aFrac : PySem.W.nsIn K mainGlobals "fraction" = some (some (.ref fFrac))) (lFrac : K.lookup fFrac = some ⟨ocFrac, odFrac, .func (PySem.W.fnOf "fraction" "fraction" (defArgs sFrac) (defBody sFrac) (defScope sFrac) .none kVFrac dcFrac pmFrac anFrac cvFrac ctFrac), slFrac⟩) (xFrac : PySem.W.codeIn K cvFrac "fraction" = true) (kFrac : PySem.W.keepIn K (.ref fFrac) = true)
    (aHM : PySem.W.nsIn K mainGlobals "histories_making" = some (some (.ref fHM))) (lHM : K.lookup fHM = some ⟨ocHM, odHM, .func (PySem.W.fnOf "histories_making" "histories_making" (defArgs sHM) (defBody sHM) (defScope sHM) .none kVHM dcHM pmHM anHM cvHM ctHM), slHM⟩) (xHM : PySem.W.codeIn K cvHM "histories_making" = true) (kHM : PySem.W.keepIn K (.ref fHM) = true)
    (aHS : PySem.W.nsIn K mainGlobals "history_share" = some (some (.ref fHS))) (lHS : K.lookup fHS = some ⟨ocHS, odHS, .func (PySem.W.fnOf "history_share" "history_share" (defArgs sHS) (defBody sHS) (defScope sHS) .none kVHS dcHS pmHS anHS cvHS ctHS), slHS⟩) (xHS : PySem.W.codeIn K cvHS "history_share" = true) (kHS : PySem.W.keepIn K (.ref fHS) = true)
    (aAre : PySem.W.nsIn K mainGlobals "are_groups" = some (some (.ref fAre))) (lAre : K.lookup fAre = some ⟨ocAre, odAre, .func (PySem.W.fnOf "are_groups" "are_groups" (defArgs sAre) (defBody sAre) (defScope sAre) .none kVAre dcAre pmAre anAre cvAre ctAre), slAre⟩) (xAre : PySem.W.codeIn K cvAre "are_groups" = true) (kAre : PySem.W.keepIn K (.ref fAre) = true)
    (aFam : PySem.W.nsIn K mainGlobals "is_family" = some (some (.ref fFam))) (lFam : K.lookup fFam = some ⟨ocFam, odFam, .func (PySem.W.fnOf "is_family" "is_family" (defArgs sFam) (defBody sFam) (defScope sFam) .none kVFam dcFam pmFam anFam cvFam ctFam), slFam⟩) (xFam : PySem.W.codeIn K cvFam "is_family" = true) (kFam : PySem.W.keepIn K (.ref fFam) = true)
    (aBoth : PySem.W.nsIn K mainGlobals "both_parts" = some (some (.ref fBoth))) (lBoth : K.lookup fBoth = some ⟨ocBoth, odBoth, .func (PySem.W.fnOf "both_parts" "both_parts" (defArgs sBoth) (defBody sBoth) (defScope sBoth) .none kVBoth dcBoth pmBoth anBoth cvBoth ctBoth), slBoth⟩) (xBoth : PySem.W.codeIn K cvBoth "both_parts" = true) (kBoth : PySem.W.keepIn K (.ref fBoth) = true)
    (aPbS : PySem.W.nsIn K mainGlobals "parts_by_size" = some (some (.ref fPbS))) (lPbS : K.lookup fPbS = some ⟨ocPbS, odPbS, .func (PySem.W.fnOf "parts_by_size" "parts_by_size" (defArgs sPbS) (defBody sPbS) (defScope sPbS) .none kVPbS dcPbS pmPbS anPbS cvPbS ctPbS), slPbS⟩) (xPbS : PySem.W.codeIn K cvPbS "parts_by_size" = true) (kPbS : PySem.W.keepIn K (.ref fPbS) = true)
    (aChg : PySem.W.nsIn K mainGlobals "changes_of" = some (some (.ref fChg))) (lChg : K.lookup fChg = some ⟨ocChg, odChg, .func (PySem.W.fnOf "changes_of" "changes_of" (defArgs sChg) (defBody sChg) (defScope sChg) .none kVChg dcChg pmChg anChg cvChg ctChg), slChg⟩) (xChg : PySem.W.codeIn K cvChg "changes_of" = true) (kChg : PySem.W.keepIn K (.ref fChg) = true)
    (aStore : PySem.W.nsIn K mainGlobals "_law_store" = some (some (.ref fStore))) (lStore : K.lookup fStore = some ⟨ocStore, odStore, .func (PySem.W.fnOf "_law_store" "_law_store" (defArgs sStore) (defBody sStore) (defScope sStore) .none kVStore dcStore pmStore anStore cvStore ctStore), slStore⟩) (xStore : PySem.W.codeIn K cvStore "_law_store" = true) (kStore : PySem.W.keepIn K (.ref fStore) = true)
    (aPick : PySem.W.nsIn K mainGlobals "_law_pick" = some (some (.ref fPick))) (lPick : K.lookup fPick = some ⟨ocPick, odPick, .func (PySem.W.fnOf "_law_pick" "_law_pick" (defArgs sPick) (defBody sPick) (defScope sPick) .none kVPick dcPick pmPick anPick cvPick ctPick), slPick⟩) (xPick : PySem.W.codeIn K cvPick "_law_pick" = true) (kPick : PySem.W.keepIn K (.ref fPick) = true)
    (aCome : PySem.W.nsIn K mainGlobals "_law_come" = some (some (.ref fCome))) (lCome : K.lookup fCome = some ⟨ocCome, odCome, .func (PySem.W.fnOf "_law_come" "_law_come" (defArgs sCome) (defBody sCome) (defScope sCome) .none kVCome dcCome pmCome anCome cvCome ctCome), slCome⟩) (xCome : PySem.W.codeIn K cvCome "_law_come" = true) (kCome : PySem.W.keepIn K (.ref fCome) = true)
    (aGroups : PySem.W.nsIn K mainGlobals "_law_groups" = some (some (.ref fGroups))) (lGroups : K.lookup fGroups = some ⟨ocGroups, odGroups, .func (PySem.W.fnOf "_law_groups" "_law_groups" (defArgs sGroups) (defBody sGroups) (defScope sGroups) .none kVGroups dcGroups pmGroups anGroups cvGroups ctGroups), slGroups⟩) (xGroups : PySem.W.codeIn K cvGroups "_law_groups" = true) (kGroups : PySem.W.keepIn K (.ref fGroups) = true)
    (aWord : PySem.W.nsIn K mainGlobals "_law_word_of" = some (some (.ref fWord))) (lWord : K.lookup fWord = some ⟨ocWord, odWord, .func (PySem.W.fnOf "_law_word_of" "_law_word_of" (defArgs sWord) (defBody sWord) (defScope sWord) .none kVWord dcWord pmWord anWord cvWord ctWord), slWord⟩) (xWord : PySem.W.codeIn K cvWord "_law_word_of" = true) (kWord : PySem.W.keepIn K (.ref fWord) = true)
    (aCalled : PySem.W.nsIn K mainGlobals "_law_called" = some (some (.ref fCalled))) (lCalled : K.lookup fCalled = some ⟨ocCalled, odCalled, .func (PySem.W.fnOf "_law_called" "_law_called" (defArgs sCalled) (defBody sCalled) (defScope sCalled) .none kVCalled dcCalled pmCalled anCalled cvCalled ctCalled), slCalled⟩) (xCalled : PySem.W.codeIn K cvCalled "_law_called" = true) (kCalled : PySem.W.keepIn K (.ref fCalled) = true)
    (aRai : PySem.W.nsIn K mainGlobals "_law_raised" = some (some (.ref fRai))) (lRai : K.lookup fRai = some ⟨ocRai, odRai, .func (PySem.W.fnOf "_law_raised" "_law_raised" (defArgs sRai) (defBody sRai) (defScope sRai) .none kVRai dcRai pmRai anRai cvRai ctRai), slRai⟩) (xRai : PySem.W.codeIn K cvRai "_law_raised" = true) (kRai : PySem.W.keepIn K (.ref fRai) = true)
    (aBad : PySem.W.nsIn K mainGlobals "_law_bad_lots" = some (some (.ref fBad))) (lBad : K.lookup fBad = some ⟨ocBad, odBad, .func (PySem.W.fnOf "_law_bad_lots" "_law_bad_lots" (defArgs sBad) (defBody sBad) (defScope sBad) .none kVBad dcBad pmBad anBad cvBad ctBad), slBad⟩) (xBad : PySem.W.codeIn K cvBad "_law_bad_lots" = true) (kBad : PySem.W.keepIn K (.ref fBad) = true)
    (aRight : PySem.W.nsIn K mainGlobals "_law_right" = some (some (.ref fRight))) (lRight : K.lookup fRight = some ⟨ocRight, odRight, .func (PySem.W.fnOf "_law_right" "_law_right" (defArgs sRight) (defBody sRight) (defScope sRight) .none kVRight dcRight pmRight anRight cvRight ctRight), slRight⟩) (xRight : PySem.W.codeIn K cvRight "_law_right" = true) (kRight : PySem.W.keepIn K (.ref fRight) = true)
    (aL : PySem.W.nsIn K mainGlobals "law" = some (some (.ref fL))) (lL : K.lookup fL = some ⟨ocL, odL, .func (PySem.W.fnOf "law" "law" (defArgs sLaw) (defBody sLaw) (defScope sLaw) .none kVL dcL pmL anL cvL ctL), slL⟩) (xL : PySem.W.codeIn K cvL "law" = true) (kL : PySem.W.keepIn K (.ref fL) = true)
    (y_isinstance : PySem.W.nsIn K mainGlobals "isinstance" = some none)
    (y_int : PySem.W.nsIn K mainGlobals "int" = some none)
    (y_bool : PySem.W.nsIn K mainGlobals "bool" = some none)
    (y_list : PySem.W.nsIn K mainGlobals "list" = some none)
    (y_len : PySem.W.nsIn K mainGlobals "len" = some none)
    (y_all : PySem.W.nsIn K mainGlobals "all" = some none)
    (y_any : PySem.W.nsIn K mainGlobals "any" = some none)
    (y_sum : PySem.W.nsIn K mainGlobals "sum" = some none)
    (y_zip : PySem.W.nsIn K mainGlobals "zip" = some none)
    (y_sorted : PySem.W.nsIn K mainGlobals "sorted" = some none)
    (y_tuple : PySem.W.nsIn K mainGlobals "tuple" = some none)
    (y_range : PySem.W.nsIn K mainGlobals "range" = some none)
    (y_enumerate : PySem.W.nsIn K mainGlobals "enumerate" = some none)
    (y_abs : PySem.W.nsIn K mainGlobals "abs" = some none)
    (y_max : PySem.W.nsIn K mainGlobals "max" = some none)
    (y_min : PySem.W.nsIn K mainGlobals "min" = some none)
    (y_repr : PySem.W.nsIn K mainGlobals "repr" = some none)
    (y_ValueError : PySem.W.nsIn K mainGlobals "ValueError" = some none)
    (e0 : PySem.W.nsIn K mainGlobals "InvalidPersons" = some (some (.ref c0)))
    (e1 : PySem.W.nsIn K mainGlobals "InvalidPerson" = some (some (.ref c1)))
    (e2 : PySem.W.nsIn K mainGlobals "InvalidGroups" = some (some (.ref c2)))
    (e3 : PySem.W.nsIn K mainGlobals "InvalidGroup" = some (some (.ref c3)))
    (e4 : PySem.W.nsIn K mainGlobals "InvalidNumber" = some (some (.ref c4)))
    (e5 : PySem.W.nsIn K mainGlobals "InvalidParting" = some (some (.ref c5)))
    (e6 : PySem.W.nsIn K mainGlobals "InvalidPartings" = some (some (.ref c6)))
    (e7 : PySem.W.nsIn K mainGlobals "Crossing" = some (some (.ref c7)))
    (e8 : PySem.W.nsIn K mainGlobals "InvalidComing" = some (some (.ref c8)))
    (e9 : PySem.W.nsIn K mainGlobals "InvalidIndex" = some (some (.ref c9)))
    (e10 : PySem.W.nsIn K mainGlobals "InvalidNode" = some (some (.ref c10)))
    (e11 : PySem.W.nsIn K mainGlobals "InvalidPairs" = some (some (.ref c11)))
    (e12 : PySem.W.nsIn K mainGlobals "InvalidText" = some (some (.ref c12)))
    (e13 : PySem.W.nsIn K mainGlobals "Lacking" = some (some (.ref c13)))
    (e14 : PySem.W.nsIn K mainGlobals "NoPerson" = some (some (.ref c14)))
    (e15 : PySem.W.nsIn K mainGlobals "NothingToUndo" = some (some (.ref c15)))
    (e16 : PySem.W.nsIn K mainGlobals "Refused" = some (some (.ref c16)))
    (zp : PySem.W.nsIn K mainGlobals "PartError" = some (some (.ref pe)))
    (zComb : PySem.W.nsIn K mainGlobals "combinations" = some (some (.type "itertools.combinations"))) (zMost : PySem.W.nsIn K mainGlobals "MOST_PERSONS" = some (some (.int 20 mtok))) (zMark : PySem.W.nsIn K mainGlobals "MARKED" = some (some (.int 2 ktok))) (zUnm : PySem.W.nsIn K mainGlobals "UNMARKED" = some (some (.int 1 utok)))
    (zGcd : PySem.W.nsIn K mainGlobals "gcd" = some (some (.builtin "math.gcd"))) (zCmb : PySem.W.nsIn K mainGlobals "comb" = some (some (.builtin "math.comb"))) (zFact : PySem.W.nsIn K mainGlobals "factorial" = some (some (.builtin "math.factorial")))
    (hex : excB K [c0, c1, c2, c3, c4, c5, c6, c7, c8, c9, c10, c11, c12, c13, c14, c15, c16] pe = true) :
    ∃ fd : FuncData, (∀ (s : Shared) (v : Value), BindsTo s fd ⟨[v], []⟩ [("script", v)]) ∧ ∀ base : Heap, K.In base → base.Ns mainGlobals mg → FnG l.prog w K mg base CX0 11 fa fd ["script"] (spLaw K) := by
  have e := hfa.symm.trans (PySem.W.mg_of X G aL)
  cases e
  have FNum := fun_mk (st := sNumber) lNum xNum kNum
  have bNum := FNum.binds (ps := ["thing"]) fun _ _ _ _ _ _ us hl => match us, hl with | [_], _ => rfl
  have FPer := fun_mk (st := sPerson) lPer xPer kPer
  have bPer := FPer.binds (ps := ["thing", "persons"]) fun _ _ _ _ _ _ us hl => match us, hl with | [_, _], _ => rfl
  have FAsc := fun_mk (st := sAsc) lAsc xAsc kAsc
  have bAsc := FAsc.binds (ps := ["items"]) fun _ _ _ _ _ _ us hl => match us, hl with | [_], _ => rfl
  have FPL := fun_mk (st := sPList) lPL xPL kPL
  have bPL := FPL.binds (ps := ["thing", "persons"]) fun _ _ _ _ _ _ us hl => match us, hl with | [_, _], _ => rfl
  have FGr := fun_mk (st := sGroup) lGr xGr kGr
  have bGr := FGr.binds (ps := ["thing", "persons"]) fun _ _ _ _ _ _ us hl => match us, hl with | [_, _], _ => rfl
  have FMask := fun_mk (st := sMask) lMask xMask kMask
  have bMask := FMask.binds (ps := ["group"]) fun _ _ _ _ _ _ us hl => match us, hl with | [_], _ => rfl
  have FCross := fun_mk (st := sCross) lCross xCross kCross
  have bCross := FCross.binds (ps := ["one", "other"]) fun _ _ _ _ _ _ us hl => match us, hl with | [_, _], _ => rfl
  have FAny := fun_mk (st := sAny) lAny xAny kAny
  have bAny := FAny.binds (ps := ["groups"]) fun _ _ _ _ _ _ us hl => match us, hl with | [_], _ => rfl
  have FIs := fun_mk (st := sParting) lIs xIs kIs
  have bIs := FIs.binds (ps := ["thing"]) fun _ _ _ _ _ _ us hl => match us, hl with | [_], _ => rfl
  have FPs := fun_mk (st := sPersons) lPs xPs kPs
  have bPs := FPs.binds (ps := ["parting"]) fun _ _ _ _ _ _ us hl => match us, hl with | [_], _ => rfl
  have FNPs := fun_mk (st := sNeedPs) lNPs xNPs kNPs
  have bNPs := FNPs.binds (ps := ["persons"]) fun _ _ _ _ _ _ us hl => match us, hl with | [_], _ => rfl
  have FFC := fun_mk (st := sFC) lFC xFC kFC
  have bFC := FFC.binds (ps := ["persons"]) fun _ _ _ _ _ _ us hl => match us, hl with | [_], _ => rfl
  have FHof := fun_mk (st := sHof) lHof xHof kHof
  have bHof := FHof.binds (ps := ["parts"]) fun _ _ _ _ _ _ us hl => match us, hl with | [_], _ => rfl
  have FAHi := fun_mk (st := sAHi) lAHi xAHi kAHi
  have bAHi := FAHi.binds (ps := ["persons"]) fun _ _ _ _ _ _ us hl => match us, hl with | [_], _ => rfl
  have FWays := fun_mk (st := sWays) lWays xWays kWays
  have bWays := FWays.binds (ps := ["many"]) fun _ _ _ _ _ _ us hl => match us, hl with | [_], _ => rfl
  have FApart := fun_mk (st := sApart) lApart xApart kApart
  have bApart := FApart.binds (ps := ["persons", "many"]) fun _ _ _ _ _ _ us hl => match us, hl with | [_, _], _ => rfl
  have FWwc := fun_mk (st := sWwc) lWwc xWwc kWwc
  have bWwc := FWwc.binds (ps := ["marked", "others", "changes"]) fun _ _ _ _ _ _ us hl => match us, hl with | [_, _, _], _ => rfl
  have FNN := fun_mk (st := sNeedN) lNN xNN kNN
  have bNN := FNN.binds (ps := ["number", "least", "most"]) fun _ _ _ _ _ _ us hl => match us, hl with | [_, _, _], _ => rfl
  have FCC := fun_mk (st := sCC) lCC xCC kCC
  have bCC := FCC.binds (ps := ["persons", "number"]) fun _ _ _ _ _ _ us hl => match us, hl with | [_, _], _ => rfl
  have FHist := fun_mk (st := sHist) lHist xHist kHist
  have bHist := FHist.binds (ps := ["parting"]) fun _ _ _ _ _ _ us hl => match us, hl with | [_], _ => rfl
  have FFrac := fun_mk (st := sFrac) lFrac xFrac kFrac
  have bFrac := FFrac.binds (ps := ["top", "bottom"]) fun _ _ _ _ _ _ us hl => match us, hl with | [_, _], _ => rfl
  have FHM := fun_mk (st := sHM) lHM xHM kHM
  have bHM := FHM.binds (ps := ["size", "others"]) fun _ _ _ _ _ _ us hl => match us, hl with | [_, _], _ => rfl
  have FHS := fun_mk (st := sHS) lHS xHS kHS
  have bHS := FHS.binds (ps := ["persons", "group"]) fun _ _ _ _ _ _ us hl => match us, hl with | [_, _], _ => rfl
  have FAre := fun_mk (st := sAre) lAre xAre kAre
  have bAre := FAre.binds (ps := ["thing", "persons"]) fun _ _ _ _ _ _ us hl => match us, hl with | [_, _], _ => rfl
  have FFam := fun_mk (st := sFam) lFam xFam kFam
  have bFam := FFam.binds (ps := ["persons", "thing"]) fun _ _ _ _ _ _ us hl => match us, hl with | [_, _], _ => rfl
  have FBoth := fun_mk (st := sBoth) lBoth xBoth kBoth
  have bBoth := FBoth.binds (ps := ["parting", "group"]) fun _ _ _ _ _ _ us hl => match us, hl with | [_, _], _ => rfl
  have FPbS := fun_mk (st := sPbS) lPbS xPbS kPbS
  have bPbS := FPbS.binds (ps := ["parting"]) fun _ _ _ _ _ _ us hl => match us, hl with | [_], _ => rfl
  have FChg := fun_mk (st := sChg) lChg xChg kChg
  have bChg := FChg.binds (ps := ["parting", "some"]) fun _ _ _ _ _ _ us hl => match us, hl with | [_, _], _ => rfl
  have FStore := fun_mk (st := sStore) lStore xStore kStore
  have bStore := FStore.binds (ps := ["script", "k"]) fun _ _ _ _ _ _ us hl => match us, hl with | [_, _], _ => rfl
  have FPick := fun_mk (st := sPick) lPick xPick kPick
  have bPick := FPick.binds (ps := ["store", "bound"]) fun _ _ _ _ _ _ us hl => match us, hl with | [_, _], _ => rfl
  have FCome := fun_mk (st := sCome) lCome xCome kCome
  have bCome := FCome.binds (ps := ["store", "many_here"]) fun _ _ _ _ _ _ us hl => match us, hl with | [_, _], _ => rfl
  have FGroups := fun_mk (st := sGroups) lGroups xGroups kGroups
  have bGroups := FGroups.binds (ps := ["items"]) fun _ _ _ _ _ _ us hl => match us, hl with | [_], _ => rfl
  have FWord := fun_mk (st := sWord) lWord xWord kWord
  have bWord := FWord.binds (ps := ["e"]) fun _ _ _ _ _ _ us hl => match us, hl with | [_], _ => rfl
  have FCalled := fun_mk (st := sCalled) lCalled xCalled kCalled
  have bCalled := FCalled.binds (ps := ["door", "first", "last"]) fun _ _ _ _ _ _ us hl => match us, hl with | [_, _, _], _ => rfl
  have FRai := fun_mk (st := sRai) lRai xRai kRai
  have bRai := FRai.binds (ps := ["door", "first", "last"]) fun _ _ _ _ _ _ us hl => match us, hl with | [_, _, _], _ => rfl
  have FBad := fun_mk (st := sBad) lBad xBad kBad
  have bBad := FBad.binds (ps := ["lot"]) fun _ _ _ _ _ _ us hl => match us, hl with | [_], _ => rfl
  have FRight := fun_mk (st := sRight) lRight xRight kRight
  have bRight := FRight.binds (ps := ["store", "many_here"]) fun _ _ _ _ _ _ us hl => match us, hl with | [_, _], _ => rfl
  have FL := fun_mk (st := sLaw) lL xL kL
  have bL := FL.binds (ps := ["script"]) fun _ _ _ _ _ _ us hl => match us, hl with | [_], _ => rfl
  have T : TxtP mg := ⟨PySem.W.mg_none_of X G y_isinstance, PySem.W.mg_none_of X G y_int, PySem.W.mg_none_of X G y_bool, PySem.W.mg_none_of X G y_list, PySem.W.mg_none_of X G y_len, PySem.W.mg_none_of X G y_all, PySem.W.mg_none_of X G y_any, PySem.W.mg_none_of X G y_sum, PySem.W.mg_none_of X G y_zip, PySem.W.mg_none_of X G y_sorted, PySem.W.mg_none_of X G y_tuple, PySem.W.mg_none_of X G y_range, PySem.W.mg_none_of X G y_enumerate⟩
  have T0 : Txt0 mg := ⟨PySem.W.mg_none_of X G y_int, PySem.W.mg_none_of X G y_range, PySem.W.mg_none_of X G y_len, PySem.W.mg_none_of X G y_abs, PySem.W.mg_none_of X G y_max, PySem.W.mg_none_of X G y_min⟩
  have T1 : TxtP1 mg fPick := ⟨T0, PySem.W.mg_of X G aPick⟩
  have Z : ProgF K mg := { fNum := fNum, dNum := _, FNum := FNum, gNum := PySem.W.mg_of X G aNum, bNum := bNum, fPer := fPer, dPer := _, FPer := FPer, gPer := PySem.W.mg_of X G aPer, bPer := bPer, fAsc := fAsc, dAsc := _, FAsc := FAsc, gAsc := PySem.W.mg_of X G aAsc, bAsc := bAsc, fPL := fPL, dPL := _, FPL := FPL, gPL := PySem.W.mg_of X G aPL, bPL := bPL, fGr := fGr, dGr := _, FGr := FGr, gGr := PySem.W.mg_of X G aGr, bGr := bGr, fMask := fMask, dMask := _, FMask := FMask, gMask := PySem.W.mg_of X G aMask, bMask := bMask, fCross := fCross, dCross := _, FCross := FCross, gCross := PySem.W.mg_of X G aCross, bCross := bCross, fAny := fAny, dAny := _, FAny := FAny, gAny := PySem.W.mg_of X G aAny, bAny := bAny, fIs := fIs, dIs := _, FIs := FIs, gIs := PySem.W.mg_of X G aIs, bIs := bIs, fPs := fPs, dPs := _, FPs := FPs, gPs := PySem.W.mg_of X G aPs, bPs := bPs, gComb := PySem.W.mg_of X G zComb, mostT := _, gMost := PySem.W.mg_of X G zMost }
  have U : ChgF K mg := { fNPs := fNPs, dNPs := _, FNPs := FNPs, gNPs := PySem.W.mg_of X G aNPs, bNPs := bNPs, fFC := fFC, dFC := _, FFC := FFC, gFC := PySem.W.mg_of X G aFC, bFC := bFC, fHof := fHof, dHof := _, FHof := FHof, gHof := PySem.W.mg_of X G aHof, bHof := bHof, fAHi := fAHi, dAHi := _, FAHi := FAHi, gAHi := PySem.W.mg_of X G aAHi, bAHi := bAHi, fWays := fWays, dWays := _, FWays := FWays, gWays := PySem.W.mg_of X G aWays, bWays := bWays, fApart := fApart, dApart := _, FApart := FApart, gApart := PySem.W.mg_of X G aApart, bApart := bApart, fWwc := fWwc, dWwc := _, FWwc := FWwc, gWwc := PySem.W.mg_of X G aWwc, bWwc := bWwc, fNN := fNN, dNN := _, FNN := FNN, gNN := PySem.W.mg_of X G aNN, bNN := bNN, fCC := fCC, dCC := _, FCC := FCC, gCC := PySem.W.mg_of X G aCC, bCC := bCC, fHist := fHist, dHist := _, FHist := FHist, gHist := PySem.W.mg_of X G aHist, bHist := bHist, fFrac := fFrac, dFrac := _, FFrac := FFrac, gFrac := PySem.W.mg_of X G aFrac, bFrac := bFrac, fHM := fHM, dHM := _, FHM := FHM, gHM := PySem.W.mg_of X G aHM, bHM := bHM, fHS := fHS, dHS := _, FHS := FHS, gHS := PySem.W.mg_of X G aHS, bHS := bHS, fAre := fAre, dAre := _, FAre := FAre, gAre := PySem.W.mg_of X G aAre, bAre := bAre, fFam := fFam, dFam := _, FFam := FFam, gFam := PySem.W.mg_of X G aFam, bFam := bFam, fBoth := fBoth, dBoth := _, FBoth := FBoth, gBoth := PySem.W.mg_of X G aBoth, bBoth := bBoth, fPbS := fPbS, dPbS := _, FPbS := FPbS, gPbS := PySem.W.mg_of X G aPbS, bPbS := bPbS, fChg := fChg, dChg := _, FChg := FChg, gChg := PySem.W.mg_of X G aChg, bChg := bChg, gComb2 := PySem.W.mg_of X G zCmb, gFact := PySem.W.mg_of X G zFact, gGcd := PySem.W.mg_of X G zGcd, markT := _, unmT := _, gMarked := PySem.W.mg_of X G zMark, gUnmarked := PySem.W.mg_of X G zUnm }
  have all7 : ∀ i, i < 7 → (exB K (ca [c0, c1, c2, c3, c4, c5, c6, c7, c8, c9, c10, c11, c12, c13, c14, c15, c16] i) = true ∧ (∀ j, j < 17 → PySem.W.kitOne K (.ref (ca [c0, c1, c2, c3, c4, c5, c6, c7, c8, c9, c10, c11, c12, c13, c14, c15, c16] i)) (.ref (ca [c0, c1, c2, c3, c4, c5, c6, c7, c8, c9, c10, c11, c12, c13, c14, c15, c16] j)) = some (decide (i = j))) ∧ PySem.W.kitOne K (.ref (ca [c0, c1, c2, c3, c4, c5, c6, c7, c8, c9, c10, c11, c12, c13, c14, c15, c16] i)) (.ref pe) = some true ∧ PySem.W.kitOne K (.ref (ca [c0, c1, c2, c3, c4, c5, c6, c7, c8, c9, c10, c11, c12, c13, c14, c15, c16] i)) (.type "ValueError") = some true ∧ PySem.W.excIn K (ca [c0, c1, c2, c3, c4, c5, c6, c7, c8, c9, c10, c11, c12, c13, c14, c15, c16] i) PySem.HandSPX.veTail "ValueError.__new__" = true ∧ PySem.W.keepIn K (.ref (ca [c0, c1, c2, c3, c4, c5, c6, c7, c8, c9, c10, c11, c12, c13, c14, c15, c16] i)) = true ∧
      PySem.W.typeIn K (.ref (ca [c0, c1, c2, c3, c4, c5, c6, c7, c8, c9, c10, c11, c12, c13, c14, c15, c16] i)) = some (.type "type") ∧ PySem.W.exmOne K (.ref (ca [c0, c1, c2, c3, c4, c5, c6, c7, c8, c9, c10, c11, c12, c13, c14, c15, c16] i)) (.ref pe) = some true) := fun i hi => by
    have z := List.all_eq_true.mp hex i (List.mem_range.mpr hi)
    simp only [Bool.and_eq_true, decide_eq_true_eq] at z
    obtain ⟨z1, z2, z3, z4, z5, z6, z7, z8⟩ := z
    exact ⟨z1, fun j hj => of_decide_eq_true (List.all_eq_true.mp z2 j (List.mem_range.mpr hj)), z3, z4, z5, z6, z7, z8⟩
  have V : TxtE K mg [c0, c1, c2, c3, c4, c5, c6, c7, c8, c9, c10, c11, c12, c13, c14, c15, c16] pe :=
    { g := fun i hi => by
        match i, hi with
        | 0, _ => exact PySem.W.mg_of X G e0
        | 1, _ => exact PySem.W.mg_of X G e1
        | 2, _ => exact PySem.W.mg_of X G e2
        | 3, _ => exact PySem.W.mg_of X G e3
        | 4, _ => exact PySem.W.mg_of X G e4
        | 5, _ => exact PySem.W.mg_of X G e5
        | 6, _ => exact PySem.W.mg_of X G e6
        | 7, _ => exact PySem.W.mg_of X G e7
        | 8, _ => exact PySem.W.mg_of X G e8
        | 9, _ => exact PySem.W.mg_of X G e9
        | 10, _ => exact PySem.W.mg_of X G e10
        | 11, _ => exact PySem.W.mg_of X G e11
        | 12, _ => exact PySem.W.mg_of X G e12
        | 13, _ => exact PySem.W.mg_of X G e13
        | 14, _ => exact PySem.W.mg_of X G e14
        | 15, _ => exact PySem.W.mg_of X G e15
        | 16, _ => exact PySem.W.mg_of X G e16
        | n + 17, hh => exact absurd hh (by omega)
      gp := PySem.W.mg_of X G zp, ve := PySem.W.mg_none_of X G y_ValueError, ex := fun i hi => exB_ok (all7 i hi).1, kd := fun i hi => (all7 i hi).2.1, kp := fun i hi => (all7 i hi).2.2.1, kv := fun i hi => (all7 i hi).2.2.2.1, exc := fun i hi => (all7 i hi).2.2.2.2.1, kc := fun i hi => (all7 i hi).2.2.2.2.2.1, ty := fun i hi => (all7 i hi).2.2.2.2.2.2.1, te := fun i hi => (all7 i hi).2.2.2.2.2.2.2 }
  refine ⟨PySem.W.fnOf "law" "law" (defArgs sLaw) (defBody sLaw) (defScope sLaw) .none kVL dcL pmL anL cvL ctL, fun s v => .of_eq rfl, fun base _ _ => ?_⟩
  have GCalled := ok_called (P := l.prog) (w := w) (base := base) FCalled Z T T0 U V
  have GRai := ok_rai FRai T (PySem.W.mg_none_of X G y_repr) V GCalled FCalled (PySem.W.mg_of X G aCalled) bCalled FWord (PySem.W.mg_of X G aWord) bWord
  have L : LwF l.prog w base K mg [c0, c1, c2, c3, c4, c5, c6, c7, c8, c9, c10, c11, c12, c13, c14, c15, c16] := { fPick := fPick, dPick := _, FPick := FPick, gPick := PySem.W.mg_of X G aPick, bPick := bPick, fCome := fCome, dCome := _, FCome := FCome, gCome := PySem.W.mg_of X G aCome, bCome := bCome, fGroups := fGroups, dGroups := _, FGroups := FGroups, gGroups := PySem.W.mg_of X G aGroups, bGroups := bGroups, fRai := fRai, dRai := _, FRai := FRai, gRai := PySem.W.mg_of X G aRai, bRai := bRai, fBad := fBad, dBad := _, FBad := FBad, gBad := PySem.W.mg_of X G aBad, bBad := bBad, GPick := ok_pick FPick T0, GCome := ok_come FCome T1 FPick bPick, GGroups := ok_groups FGroups T, GBad := ok_bad FBad T, GRai := GRai }
  exact ok_law FL T T0 L (ok_store FStore T0) FStore (PySem.W.mg_of X G aStore) bStore FRight (PySem.W.mg_of X G aRight) bRight
theorem walk {l : PySem.W.OpenLaw} {q : Program} {loose : List Str} {XP : (Str → Option Value) → Heap → Prop} {YP : World → Heap → Prop} {d : DefRec} {K : Params → PySem.W.Frag} (hn : l.most = some 63) (hdf : d.params.defaults = [])
    (hY : ∀ (w : World) (h : Heap), YP w h → (K w.params).In h)
    (F : ∀ (w : World) (mg : Str → Option Value) (fa : Addr) (h : Heap), (K w.params).In h → h.Ns mainGlobals mg → mg d.name = some (.ref fa) →
      ∃ fd : FuncData, (∀ (s : Shared) (u : Value), BindsTo s fd ⟨[u], []⟩ [("script", u)]) ∧ ∀ base : Heap, (K w.params).In base → base.Ns mainGlobals mg → FnG l.prog w (K w.params) mg base CX0 11 fa fd ["script"] (spLaw (K w.params))) :
    PySem.W.WalkO q loose XP YP l.row.toRowW d [] (fun f vs => PySem.call f vs) :=
  walk_ofG (n := 63) (lv := 11) (x := "script") (cx := fun _ => CX0) (prom := fun w => spLaw (K w.params)) hn (by decide) hdf ⟨rfl, by decide, by decide⟩ hY F (fun _ _ a ns hl _ _ hS => ⟨a, ns, rfl, hS, hl, fun _ => rfl⟩) fun _ _ _ _ _ z => z
end K35


open PySem PySem.W PyProof.Rows in
set_option maxRecDepth 100000 in
set_option maxHeartbeats 0 in
theorem PySem.Challenge.cw_twopartings_k35_errors_of_families_and_m_holds : PySem.Challenge.rw_twopartings_k35_errors_of_families_and_m.Holds := by
  w_on; o_law; k_head; (case hw => w_witness2)
  k_fill
  refine K35.walk (l := PySem.Challenge.rw_twopartings_k35_errors_of_families_and_m) rfl rfl (fun w h Y => PySem.W.kIn_of Y) ?F
  case F =>
    intro w mg fa h KX G hmg
    refine' K35.all_mk KX G hmg ?aNum ?lNum ?xNum ?kNum ?aPer ?lPer ?xPer ?kPer ?aAsc ?lAsc ?xAsc ?kAsc ?aPL ?lPL ?xPL ?kPL ?aGr ?lGr ?xGr ?kGr ?aMask ?lMask ?xMask ?kMask ?aCross ?lCross ?xCross ?kCross ?aAny ?lAny ?xAny ?kAny ?aIs ?lIs ?xIs ?kIs ?aPs ?lPs ?xPs ?kPs ?aNPs ?lNPs ?xNPs ?kNPs ?aFC ?lFC ?xFC ?kFC ?aHof ?lHof ?xHof ?kHof ?aAHi ?lAHi ?xAHi ?kAHi ?aWays ?lWays ?xWays ?kWays ?aApart ?lApart ?xApart ?kApart ?aWwc ?lWwc ?xWwc ?kWwc ?aNN ?lNN ?xNN ?kNN ?aCC ?lCC ?xCC ?kCC ?aHist ?lHist ?xHist ?kHist ?aFrac ?lFrac ?xFrac ?kFrac ?aHM ?lHM ?xHM ?kHM ?aHS ?lHS ?xHS ?kHS ?aAre ?lAre ?xAre ?kAre ?aFam ?lFam ?xFam ?kFam ?aBoth ?lBoth ?xBoth ?kBoth ?aPbS ?lPbS ?xPbS ?kPbS ?aChg ?lChg ?xChg ?kChg ?aStore ?lStore ?xStore ?kStore ?aPick ?lPick ?xPick ?kPick ?aCome ?lCome ?xCome ?kCome ?aGroups ?lGroups ?xGroups ?kGroups ?aWord ?lWord ?xWord ?kWord ?aCalled ?lCalled ?xCalled ?kCalled ?aRai ?lRai ?xRai ?kRai ?aBad ?lBad ?xBad ?kBad ?aRight ?lRight ?xRight ?kRight ?aL ?lL ?xL ?kL ?y_isinstance ?y_int ?y_bool ?y_list ?y_len ?y_all ?y_any ?y_sum ?y_zip ?y_sorted ?y_tuple ?y_range ?y_enumerate ?y_abs ?y_max ?y_min ?y_repr ?y_ValueError ?e0 ?e1 ?e2 ?e3 ?e4 ?e5 ?e6 ?e7 ?e8 ?e9 ?e10 ?e11 ?e12 ?e13 ?e14 ?e15 ?e16 ?zp ?zComb ?zMost ?zMark ?zUnm ?zGcd ?zCmb ?zFact ?hex
    (case aNum => k_is)
    (case lNum => k_is)
    (case xNum => k_is)
    (case kNum => k_is)
    (case aPer => k_is)
    (case lPer => k_is)
    (case xPer => k_is)
    (case kPer => k_is)
    (case aAsc => k_is)
    (case lAsc => k_is)
    (case xAsc => k_is)
    (case kAsc => k_is)
    (case aPL => k_is)
    (case lPL => k_is)
    (case xPL => k_is)
    (case kPL => k_is)
    (case aGr => k_is)
    (case lGr => k_is)
    (case xGr => k_is)
    (case kGr => k_is)
    (case aMask => k_is)
    (case lMask => k_is)
    (case xMask => k_is)
    (case kMask => k_is)
    (case aCross => k_is)
    (case lCross => k_is)
    (case xCross => k_is)
    (case kCross => k_is)
    (case aAny => k_is)
    (case lAny => k_is)
    (case xAny => k_is)
    (case kAny => k_is)
    (case aIs => k_is)
    (case lIs => k_is)
    (case xIs => k_is)
    (case kIs => k_is)
    (case aPs => k_is)
    (case lPs => k_is)
    (case xPs => k_is)
    (case kPs => k_is)
    (case aNPs => k_is)
    (case lNPs => k_is)
    (case xNPs => k_is)
    (case kNPs => k_is)
    (case aFC => k_is)
    (case lFC => k_is)
    (case xFC => k_is)
    (case kFC => k_is)
    (case aHof => k_is)
    (case lHof => k_is)
    (case xHof => k_is)
    (case kHof => k_is)
    (case aAHi => k_is)
    (case lAHi => k_is)
    (case xAHi => k_is)
    (case kAHi => k_is)
    (case aWays => k_is)
    (case lWays => k_is)
    (case xWays => k_is)
    (case kWays => k_is)
    (case aApart => k_is)
    (case lApart => k_is)
    (case xApart => k_is)
    (case kApart => k_is)
    (case aWwc => k_is)
    (case lWwc => k_is)
    (case xWwc => k_is)
    (case kWwc => k_is)
    (case aNN => k_is)
    (case lNN => k_is)
    (case xNN => k_is)
    (case kNN => k_is)
    (case aCC => k_is)
    (case lCC => k_is)
    (case xCC => k_is)
    (case kCC => k_is)
    (case aHist => k_is)
    (case lHist => k_is)
    (case xHist => k_is)
    (case kHist => k_is)
    (case aFrac => k_is)
    (case lFrac => k_is)
    (case xFrac => k_is)
    (case kFrac => k_is)
    (case aHM => k_is)
    (case lHM => k_is)
    (case xHM => k_is)
    (case kHM => k_is)
    (case aHS => k_is)
    (case lHS => k_is)
    (case xHS => k_is)
    (case kHS => k_is)
    (case aAre => k_is)
    (case lAre => k_is)
    (case xAre => k_is)
    (case kAre => k_is)
    (case aFam => k_is)
    (case lFam => k_is)
    (case xFam => k_is)
    (case kFam => k_is)
    (case aBoth => k_is)
    (case lBoth => k_is)
    (case xBoth => k_is)
    (case kBoth => k_is)
    (case aPbS => k_is)
    (case lPbS => k_is)
    (case xPbS => k_is)
    (case kPbS => k_is)
    (case aChg => k_is)
    (case lChg => k_is)
    (case xChg => k_is)
    (case kChg => k_is)
    (case aStore => k_is)
    (case lStore => k_is)
    (case xStore => k_is)
    (case kStore => k_is)
    (case aPick => k_is)
    (case lPick => k_is)
    (case xPick => k_is)
    (case kPick => k_is)
    (case aCome => k_is)
    (case lCome => k_is)
    (case xCome => k_is)
    (case kCome => k_is)
    (case aGroups => k_is)
    (case lGroups => k_is)
    (case xGroups => k_is)
    (case kGroups => k_is)
    (case aWord => k_is)
    (case lWord => k_is)
    (case xWord => k_is)
    (case kWord => k_is)
    (case aCalled => k_is)
    (case lCalled => k_is)
    (case xCalled => k_is)
    (case kCalled => k_is)
    (case aRai => k_is)
    (case lRai => k_is)
    (case xRai => k_is)
    (case kRai => k_is)
    (case aBad => k_is)
    (case lBad => k_is)
    (case xBad => k_is)
    (case kBad => k_is)
    (case aRight => k_is)
    (case lRight => k_is)
    (case xRight => k_is)
    (case kRight => k_is)
    (case aL => k_is)
    (case lL => k_is)
    (case xL => k_is)
    (case kL => k_is)
    (case y_isinstance => k_is)
    (case y_int => k_is)
    (case y_bool => k_is)
    (case y_list => k_is)
    (case y_len => k_is)
    (case y_all => k_is)
    (case y_any => k_is)
    (case y_sum => k_is)
    (case y_zip => k_is)
    (case y_sorted => k_is)
    (case y_tuple => k_is)
    (case y_range => k_is)
    (case y_enumerate => k_is)
    (case y_abs => k_is)
    (case y_max => k_is)
    (case y_min => k_is)
    (case y_repr => k_is)
    (case y_ValueError => k_is)
    (case e0 => k_is)
    (case e1 => k_is)
    (case e2 => k_is)
    (case e3 => k_is)
    (case e4 => k_is)
    (case e5 => k_is)
    (case e6 => k_is)
    (case e7 => k_is)
    (case e8 => k_is)
    (case e9 => k_is)
    (case e10 => k_is)
    (case e11 => k_is)
    (case e12 => k_is)
    (case e13 => k_is)
    (case e14 => k_is)
    (case e15 => k_is)
    (case e16 => k_is)
    (case zp => k_is)
    (case zComb => k_is)
    (case zMost => k_is)
    (case zMark => k_is)
    (case zUnm => k_is)
    (case zGcd => k_is)
    (case zCmb => k_is)
    (case zFact => k_is)
    (case hex => first | kernel_rfl | rfl)
