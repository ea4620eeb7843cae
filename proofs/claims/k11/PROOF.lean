import PyProof.Rows.All
import Wide.All
import OpenK.AllK
import Wide.FinOn
import PySem.Challenge.RW_twopartings_k11_crossing_groups
import HandS.ForMost
import HandS.Wide
import HandS.WideBits
import PyProof.ReprRoads
import HandS.EndBits
import PyProof.ZipIter
import PyProof.CallType
import PyProof.Walk
import PyProof.WalkLemmas
import PyProof.RangeIter
import PyProof.RulesTry
import PyProof.TupleOfSeq
import KE.SortData
import KE.DataCmp
import HandS.DictComp
import HandS.Conv
import PyProof.Rows.BitMore
import PyProof.ReprLen
import HandS.SetBool
import HandS.TupSets
import KE.KExcSuper
import KE.KExcIs
import KE.KFromBytes
import HandS.ForExc
import HandS.ExcInit
import HandS.ExcSuper
import HandS.ExcValue
import HandS.ExcIs
import HandS.FStr
import HandS.Nested
import HandS.IsInst
import HandS.Gcd
import HandS.Deep
import HandS.ExcField
import HandS.ExcOwn
import HandS.WordsExc
import PyProof.FitsInt
import HandS.More
set_option Elab.async false
set_option linter.all false
set_option maxRecDepth 100000
set_option maxHeartbeats 4000000
namespace RepA
open PySem PySem.Spec PyProof.Rows L2

/-! ### data without a dict -/
mutual
theorem dp_nodict {K : PySem.W.Frag} {H : Hp} : ∀ (d : PyData) (v : V), Dp K H v d → d.hasDict = false
  | .none, _, _ => by simp only [PyData.hasDict]
  | .bool _, _, _ => by simp only [PyData.hasDict]
  | .int _, _, _ => by simp only [PyData.hasDict]
  | .str _, _, _ => by simp only [PyData.hasDict]
  | .list ds, _, h => by
    cases h with
    | lst hs ha =>
      simp only [PyData.hasDict]
      exact dpAll_nodict ds _ ha
  | .tuple ds, _, h => by
    cases h with
    | tup hs ha =>
      simp only [PyData.hasDict]
      exact dpAll_nodict ds _ ha
  | .dict _, _, h => by cases h
theorem dpAll_nodict {K : PySem.W.Frag} {H : Hp} : ∀ (ds : List PyData) (vs : List V), DpAll K H vs ds → PyData.hasDictAll ds = false
  | [], _, _ => by simp only [PyData.hasDictAll]
  | d :: ds, _, h => by
    cases h with
    | cons h1 h2 => simp only [PyData.hasDictAll, dp_nodict d _ h1, dpAll_nodict ds _ h2, Bool.or_self]
end

/-! ### an item: data, or an empty dict -/
def Dd (K : PySem.W.Frag) (H : Hp) (v : V) (d : PyData) : Prop := Dp K H v d ∨ ∃ a, v = .ref a ∧ H a = some (.dK []) ∧ d = .dict []
inductive DdAll (K : PySem.W.Frag) (H : Hp) : List V → List PyData → Prop
  | nil : DdAll K H [] []
  | cons {v : V} {vs : List V} {d : PyData} {ds : List PyData} : Dd K H v d → DdAll K H vs ds → DdAll K H (v :: vs) (d :: ds)
theorem DdAll.of_dp {K : PySem.W.Frag} {H : Hp} : ∀ {vs : List V} {ds : List PyData}, DpAll K H vs ds → DdAll K H vs ds
  | _, _, .nil => .nil
  | _, _, .cons h r => .cons (.inl h) (.of_dp r)

section
variable {X : Cx} {pins : List (Addr × Obj)} {σ : L2.St} {H : Hp} {s : Shared}
theorem dd_reads (I : Inv X pins σ H s) {v : V} {u : Value} {d : PyData} (h : Dd X.K H v d) (r : RelV v u) : ∃ as, Reads s.heap u d as ∧ (d.hasDict = true → sysModules ∉ as) := by
  rcases h with h | ⟨a, rfl, ha, rfl⟩
  · obtain ⟨as, q⟩ := Dp.reads I d v u h r
    exact ⟨as, q, fun e => by rw [dp_nodict d v h] at e; cases e⟩
  · obtain rfl : u = Value.ref a := r
    obtain ⟨_, hn, vs, rel, dd⟩ := dk_of I.hok ha
    obtain ⟨o, es, ep, e1, e2, e3, e4⟩ := dd
    cases rel
    have hes : es.toList = [] := by
      have q := e4.2.1
      generalize es.toList = l at q
      cases q
      rfl
    refine ⟨[a], ?_, fun _ hm => ?_⟩
    · refine Reads.dict (as := []) (bs := []) e1 e2.1 e3 ?_ ?_
      · rw [hes]
        exact ReadsAll.nil
      · rw [hes]
        exact ReadsAll.nil
    · rcases List.mem_cons.mp hm with q | q
      · rw [q] at hn
        rw [beq_self_eq_true] at hn
        cases hn
      · cases q

/-- all items, each by itself -/
theorem dd_all (I : Inv X pins σ H s) : ∀ {vs : List V} {ds : List PyData} {us : List Value}, DdAll X.K H vs ds → Vals vs us → PyData.showableAll ds = true → (∀ t ∈ PyData.shownAll ds, t.length ≤ sizeLine) →
    (∃ as, ReadsAll s.heap us ds as) ∧ ∃ bs, ReadAtMost s.heap (PyData.depthAll ds) bs ∧ ReprAllK X.prog X.w bs s.heap (PyData.depthAll ds) us (PyData.shownAll ds)
  | _, _, _, .nil, .nil, _, _ => ⟨⟨_, .nil⟩, [], (fun _ h => nomatch h), by simp only [PyData.shownAll]; exact .nil⟩
  | _, _, _, .cons (d := d) (ds := ds) h hr, .cons r rr, hs, hz => by
    obtain ⟨s1, s2⟩ : d.showable = true ∧ PyData.showableAll ds = true := by simpa [PyData.showableAll] using hs
    obtain ⟨a1, q1, n1⟩ := dd_reads I h r
    obtain ⟨b1, m1, k1⟩ := ReprK.of_reads (prog := X.prog) (w := X.w) q1 s1 n1 (hz _ (by simp only [PyData.shownAll]; exact List.mem_cons_self ..))
    obtain ⟨⟨a2, q2⟩, b2, m2, k2⟩ := dd_all I hr rr s2 fun t ht => hz t (by simp only [PyData.shownAll]; exact List.mem_cons_of_mem _ ht)
    have l1 : d.depth ≤ PyData.depthAll (d :: ds) := by simp only [PyData.depthAll]; omega
    have l2 : PyData.depthAll ds ≤ PyData.depthAll (d :: ds) := by simp only [PyData.depthAll]; omega
    refine ⟨⟨_, .cons q1 q2⟩, b1 ++ b2, fun b hb => ?_, ?_⟩
    · rcases List.mem_append.mp hb with hb | hb
      · obtain ⟨d', as', r', z⟩ := m1 b hb
        exact ⟨d', as', r', Nat.le_trans z l1⟩
      · obtain ⟨d', as', r', z⟩ := m2 b hb
        exact ⟨d', as', r', Nat.le_trans z l2⟩
    · simp only [PyData.shownAll]
      exact .cons ((k1.more fun b hb => List.mem_append.mpr (.inl hb)).level_le l1) (k2.more_le (fun b hb => List.mem_append.mpr (.inr hb)) l2)

/-- repr of a list of data and empty dicts, where no guard stands -/
theorem call_reprL (hg : X.A.guards = some []) (hu : X.A.units + 64 < cLine) : CallR X (.builtin "repr") (fun xs H Q => ∃ a ys ds, xs = [V.ref a] ∧ SqL X.K H a ys ∧ DdAll X.K H ys ds ∧ PyData.showableAll ds = true ∧ PyData.depthAll ds ≤ 40 ∧
    (listText (PyData.shownAll ds)).length ≤ sizeLine ∧ Q (.str (PyData.list ds).shown) H) := by
  intro pins s σ H xs us Q I r h
  obtain ⟨a, ys, ds, rfl, hs, hd, hw, hdp, hz, q⟩ := h
  obtain ⟨u, rfl, ru⟩ := vals1 r
  obtain rfl : u = Value.ref a := ru
  obtain ⟨its, rv, ⟨o, n, ho, hc, hne, hda⟩, hsz⟩ := I.list hs
  obtain ⟨⟨as, hR⟩, bs, hb, hk⟩ := dd_all I hd rv hw fun t ht => Nat.le_trans (listText_mem_le ht) hz
  have rd : Reads s.heap (.ref a) (.list ds) (a :: as) := .list ho hc hda hR
  have hna : a ∉ bs := not_mem_of_deeper rd (by simp only [PyData.depth]; omega) hb
  have fin : ∀ (t tk : Nat) (h' : Heap), (∀ b o, s.heap.get? b = some o → h'.get? b = some o) → EP X pins σ Q (.str (listText (PyData.shownAll ds)) t) { s with heap := h', toks := tk } := fun t tk h' k =>
    ⟨.str _, H, I.kept k, ⟨t, rfl⟩, by simpa only [PyData.shown] using q⟩
  refine call_repr_slot (by omega) ⟨o, ho, hc⟩ F.slot_list_repr.toG ?_
  obtain ⟨l⟩ : ∃ l, l = its := ⟨_, rfl⟩
  cases its with
  | nil =>
    cases hR
    exact call_list_repr_empty ⟨o, ho, hc⟩ ho hda ⟨_, _, rfl, by simpa only [PyData.shownAll, listText_nil] using fin s.toks (s.toks + 1) s.heap fun _ _ e => e⟩
  | cons x l =>
    refine call_list_reprK (h₀ := s.heap) ho hc hda hna (by simpa using hk.length_eq) (fun i y e => hk.item i y (by simpa using e)) hg (fun b _ => Clear.nil b) (by show X.A.units + 1 + (PyData.depthAll ds + 1) < cLine; omega) (fun _ _ e => e) (fun h' t tk k => ⟨_, _, rfl, fin t tk h' k⟩) hz
end
end RepA

namespace RepA
open PySem PySem.Spec PyProof.Rows L2

/-! ### the promise of a def that is called where no guard stands -/
structure FnG (Pg : Program) (wd : World) (Kf : PySem.W.Frag) (gl : Str → Option Value) (bs : Heap) (cx : CXT) (lv : Nat) (fa : Addr) (dat : FuncData) (names : List Str) (prom : Sp) : Prop where
  cnt : ∀ xs G Qv Ex, prom xs G Qv Ex → xs.length = names.length
  go : ∀ (Ar : Around) (fr : List Env) (sh : Shared) (G : Hp) (ar : Args) (us : List Value) (xs : List V) (Qv : VK) (Ex : XK), Room lv Ar → Ar.guards = some [] →
    Env0 Pg wd Kf gl bs Ar fr sh G → BindsTo sh dat ar (names.zip us) → Vals xs us → prom xs G Qv Ex →
    codeAny (model Pg wd) Ar (.call (.ref fa) ar) (CR cx fr Pg wd G sh Qv Ex) sh

theorem FnG.of {Pg : Program} {wd : World} {Kf : PySem.W.Frag} {gl : Str → Option Value} {bs : Heap} {cx : CXT} {lv : Nat} {fa : Addr} {dat : FuncData} {names : List Str} {prom : Sp}
    (f : FnOk Pg wd Kf gl bs cx lv fa dat names prom) : FnG Pg wd Kf gl bs cx lv fa dat names prom :=
  ⟨f.len, fun Ar fr sh G ar us xs Qv Ex r _ e b v p => f.run Ar fr sh G ar us xs Qv Ex r e b v p⟩

/-- a def of the text by its body, where no guard stands -/
theorem okG {Pg : Program} {wd : World} {Kf : PySem.W.Frag} {gl : Str → Option Value} {bs : Heap} {nm qn : Str} {st : Stmt} {fa : Addr} {dat : FuncData} {slots names : List Str} {lv : Nat} {prom : Sp}
    (F : Fun Kf nm qn st fa dat) (S : FnScope slots names (defScope st)) (cnt : ∀ xs G Qv Ex, prom xs G Qv Ex → xs.length = names.length)
    (body : ∀ (cd : Value) (Ar : Around) (fr : List Env) (sh : Shared) (G : Hp) (xs : List V) (Qv : VK) (Ex : XK), Room lv (Ar.deeper (envOfC qn (defScope st) sh.heap.objs.size fa cd)) → Ar.guards = some [] → prom xs G Qv Ex →
      ∃ t, PSs (cxOf CX0 Pg wd Kf gl bs slots qn (defScope st) fa cd Ar fr sh G Ex).nox (defBody st) t ∧ t { nx := fun _ G' => Qv .non G', rt := Qv } (start slots xs) G) :
    FnG Pg wd Kf gl bs CX0 (lv + 1) fa dat names prom := by
  obtain ⟨oc, od, kV, doc, pm, an, cd, ct, osl, rfl, look, code⟩ := F.ex
  refine ⟨cnt, fun Ar fr sh G ar us xs Qv Ex room noG env bind vals hp => ?_⟩
  have sz := cnt _ _ _ _ hp
  have inK : Kf.In sh.heap := env.mod.kin.keeps fun b o q => (env.bs b o q).1
  have noL : sh.heap.NoLimit := env.mod.nolimit.keeps fun b o q => (env.bs b o q).1
  have kinds : ∀ y ∈ names.zip us, (defScope st).names.lookup y.1 = some .local ∨ ((defScope st).names.lookup y.1 = some .cell ∧ ((cellsFrom (sh.heap.objs.size + 1) (defScope st).names []).lookup y.1).isSome = true) := by
    rintro ⟨n, v⟩ hy
    rcases S.par n (List.of_mem_zip hy).1 with z | z
    · exact .inl z
    · exact .inr ⟨z, PySem.W.cellsFrom_some _ _ _ (.inl z)⟩
  refine codeAny_call_function room.depth (inK _ _ look) rfl S.co S.gen rfl (PySem.W.codeRec_of inK code) (bind _ _ _ _ ?_)
  refine wpAny_newFunctionEnv_cells S.kind kinds fun en hen sh1 inC => ?_
  subst hen
  refine ⟨noL.keeps inC.toInCall.keep, codeAny_func ?_⟩
  obtain ⟨t, walk, read⟩ := body cd Ar fr sh G xs Qv Ex (room.deeper _) noG hp
  have I0 := inv_start (CX := CX0) (P := Pg) (w := wd) (K := Kf) (mg := gl) (base := bs) (E := Ex) S room.hd env sz vals inC
  refine wpAny_mono (walk.nox.run [] sh1 _ G _ I0 read) (fun fl sh2 out => ?_) fun _ _ x => x
  cases fl with
  | ret u =>
    obtain ⟨v, σ2, G2, J, rel, q⟩ := out
    exact ⟨v, G2, J.os, J.bare, J.base, J.hok, rel, q⟩
  | next =>
    obtain ⟨σ2, G2, J, q⟩ := out
    exact ⟨V.non, G2, J.os, J.bare, J.base, J.hok, (rfl : RelV V.non Value.none), q⟩
  | brk => exact out.elim fun _ z => z.elim fun _ z => z.2.elim
  | cont => exact out.elim fun _ z => z.elim fun _ z => z.2.elim

section
variable {X : Cx} {x : Str} {p pos : Pos} {e : Expr} {es : List Expr} {t : TA} {CX : CXT} {k : Nat} {f : Addr} {fd : FuncData} {ps : List Str} {sp : Sp} {ds : List Value} {dvs : List V} {E : XK}
/-- f(e, ..), f such a def -/
theorem pe_callG (F : FnG X.prog X.w X.K X.mg X.base CX k f fd ps sp) (room : Room k X.A) (noG : X.A.guards = some []) (hg : Gl X x) (hm : X.mg x = some (.ref f)) (kp : PySem.W.keepIn X.K (.ref f) = true) (bd : Binds X.K fd ps ds) (dv : Vals dvs ds) (ps' : Passes CX X E)
    (args : PA X (e :: es) t) (hdb : (x == ("__debug__" : Str)) = false := by decide) (h1 : starEach (e :: es) X.env = (false, eval e X.env) :: starEach es X.env := by rfl) (h2 : (backTo pos (starEach es X.env)).any (·.1) = false := by rfl) :
    PE X (.Call (.Name x p) (e :: es) [] pos) (tCall sp dvs E t) := by
  refine ⟨fun pins s σ H Q I rd => ?_⟩
  refine wpAny_Call_Name_kw (ld_glob I hg hm ?_ hdb)
  refine PySem.W.callWith_K (h₀ := X.base) I.ok.mod.kin kp (thn (args.run pos pins s σ H _ I rd) fun us s1 ⟨vs, H1, I1, rv, q⟩ => ⟨I1.kIn, ?_⟩) h1 h2
  have rv2 : Vals (vs ++ dvs) (us ++ ds) := rv.append dv
  have sz : (us ++ ds).length = ps.length := rv2.length.symm.trans (F.cnt _ _ _ _ q)
  refine wpAny_call (codeAny_mono (F.go X.A X.stack s1 H1 ⟨us, []⟩ _ _ Q E room noG I1.env0 (bd s1 us I1.kIn sz) rv2 q) fun r s2 out => ?_)
  match r, out with
  | .error er, out => exact ps' pins σ H1 s1 er s2 I1 out
  | .ok (.ret u), out => exact I1.after out
  | .ok .next, out => exact out.elim
  | .ok .brk, out => exact out.elim
  | .ok .cont, out => exact out.elim
end
end RepA

namespace RepA
open PySem PySem.Spec PyProof.Rows L2

/-- the law's call from the caller, over an abstract heap that holds at most the script -/
theorem from_caller {Pg : Program} {wd : World} {Kf : PySem.W.Frag} {gl mb : Str → Option Value} {cx : CXT} {lv : Nat} {fa a : Addr} {dat : FuncData} {x : Str} {prom : Sp} {sh : Shared} {ob : Obj} {n0 : Nat} {vals : Array Value}
    (inK : Kf.In sh.heap) (nG : sh.heap.Ns mainGlobals gl) (nB : sh.heap.Ns builtinsNs mb) (isB : ∀ y : Str, y ≠ "__name__" → mb y = bootBuiltins y) (noL : sh.heap.NoLimit) (noGen : sh.gens = #[]) (at_a : sh.heap.get? a = some ob) (list_a : ob.data = .seq vals n0)
    (room : Room lv callerA) (F : ∀ bs : Heap, Kf.In bs → bs.Ns mainGlobals gl → FnG Pg wd Kf gl bs cx lv fa dat [x] prom) (bd : ∀ (s : Shared) (u : Value), BindsTo s dat ⟨[u], []⟩ [(x, u)])
    (noX : ∀ G e s', cx [] G sh (fun _ _ _ => False) e s' → False) (G : Hp) (only : Only G) (keeps : HOk Pg wd G sh.heap) (justA : ∀ b, G b ≠ none → b = a) (notK : G a ≠ none → Kf.lookup a = none)
    (hp : prom [.ref a] G (fun v _ => v = .bl true) fun _ _ _ => False) :
    codeAny (model Pg wd) callerA (.call (.ref fa) ⟨[.ref a], []⟩) (fun r s' => r = .ok (.ret (.bool true)) ∧ OldK sh.heap s'.heap ∧ s'.os = sh.os ∧ AllBare s'.gens) sh := by
  have free : ∀ {b : Addr}, b ≠ a → G b = none := fun {b} ne => Classical.byContradiction fun z => ne (justA b z)
  have hides : ∀ {b : Addr} {o : Obj}, sh.heap.get? b = some o → G b = none → (hidT sh.heap G).get? b = some o := fun q z => hidT_get q z
  have ns : ∀ {b : Addr} {m : Str → Option Value}, sh.heap.Ns b m → (hidT sh.heap G).Ns b m := fun {b m} h => by
    obtain ⟨o, es, ep, q, dd, rest⟩ := h
    refine ⟨o, es, ep, hides q (free fun z => ?_), dd, rest⟩
    rw [z, at_a] at q
    cases q
    rw [list_a] at dd
    cases dd
  have inK' : Kf.In (hidT sh.heap G) := fun b o q => hides (inK b o q) (by
    rcases Option.eq_none_or_eq_some (G b) with z | ⟨u, z⟩
    · exact z
    · have ne : G b ≠ none := by rw [z]; exact fun c => nomatch c
      have ba := justA b ne
      rw [ba] at q ne
      rw [notK ne] at q
      cases q)
  have md : Mod Kf gl (hidT sh.heap G) := ⟨inK', ns nG, ⟨mb, ns nB, isB⟩, let ⟨mc, z1, z2⟩ := noL; ⟨mc, ns z1, z2⟩⟩
  have env : Env0 Pg wd Kf gl (hidT sh.heap G) callerA [] sh G := ⟨rfl, md, fun _ _ q => of_hidT q, Nat.le_of_eq (hidT_size _ _), trivial, (fun b hb => nomatch hb), keeps, .of_eq noGen⟩
  refine codeAny_mono ((F _ inK' (ns nG)).go callerA [] sh G ⟨[.ref a], []⟩ [.ref a] [.ref a] _ _ room rfl env (bd sh (.ref a)) (.cons rfl .nil) hp) fun r s' out => ?_
  match r, out with
  | .error er, out => exact (noX G er s' out).elim
  | .ok .next, out => exact out.elim
  | .ok .brk, out => exact out.elim
  | .ok .cont, out => exact out.elim
  | .ok (.ret u), out =>
    obtain ⟨v, G', hos, hbare, un, keeps', rel, ev⟩ := out
    have ev' : v = .bl true := ev
    subst ev'
    obtain rfl : u = Value.bool true := rel
    refine ⟨rfl, OldK.of_keep fun b o q => ?_, hos, hbare⟩
    rcases only b with z | ⟨o2, ys, z⟩
    · exact un.keep b o q z (fun c => nomatch c) (fun c => nomatch c)
    · obtain ⟨w1, _⟩ := keeps b _ z
      obtain ⟨w2, _⟩ := keeps' b _ (un.frzs b o2 _ z)
      rw [q] at w1
      cases w1
      exact w2

theorem law_callG {Pg : Program} {wd : World} {Kf : PySem.W.Frag} {gl mb : Str → Option Value} {cx : CXT} {lv : Nat} {fa a : Addr} {dat : FuncData} {x : Str} {prom : Sp} {sh : Shared} {vals : List Value} {ns : List Int}
    (inK : Kf.In sh.heap) (nG : sh.heap.Ns mainGlobals gl) (nB : sh.heap.Ns builtinsNs mb) (isB : ∀ y : Str, y ≠ "__name__" → mb y = bootBuiltins y) (noL : sh.heap.NoLimit) (noGen : sh.gens = #[])
    (at_a : sh.heap.get? a = some { cls := .type "list", data := .seq vals.toArray }) (inz : IntsAre vals ns) (short : ns.length ≤ sizeLine) (room : Room lv callerA)
    (F : ∀ bs : Heap, Kf.In bs → bs.Ns mainGlobals gl → FnG Pg wd Kf gl bs cx lv fa dat [x] prom) (bd : ∀ (s : Shared) (u : Value), BindsTo s dat ⟨[u], []⟩ [(x, u)])
    (hp : ∀ G : Hp, Only G → SqL Kf G a (ns.map V.int) → prom [.ref a] G (fun v _ => v = .bl true) fun _ _ _ => False) (noX : ∀ G e s', cx [] G sh (fun _ _ _ => False) e s' → False) :
    codeAny (model Pg wd) callerA (.call (.ref fa) ⟨[.ref a], []⟩) (fun r s' => r = .ok (.ret (.bool true)) ∧ OldK sh.heap s'.heap ∧ s'.os = sh.os ∧ AllBare s'.gens) sh := by
  have rv := vals_ints inz
  rcases Option.eq_none_or_eq_some (Kf.lookup a) with nk | ⟨o, isK⟩
  · let G : Hp := fun b => if b = a then some (.frz { cls := .type "list", data := .seq vals.toArray } (.lst (ns.map V.int))) else none
    have ga : G a = some (.frz { cls := .type "list", data := .seq vals.toArray } (.lst (ns.map V.int))) := if_pos rfl
    have gb : ∀ {b : Addr}, b ≠ a → G b = none := fun ne => if_neg ne
    have justA : ∀ b, G b ≠ none → b = a := fun b z => Classical.byContradiction fun ne => z (gb ne)
    have only : Only G := fun b => by
      by_cases ne : b = a
      · subst ne
        exact .inr ⟨_, _, ga⟩
      · exact .inl (gb ne)
    refine from_caller inK nG nB isB noL noGen at_a rfl room F bd noX G only (fun b u z => ?_) justA (fun _ => nk) (hp G only (.inl (.inr ⟨_, ga⟩)))
    have ba := justA b (by rw [z]; exact fun c => nomatch c)
    subst ba
    rw [ga] at z
    cases z
    exact ⟨at_a, by rw [List.length_map]; exact short, vals, _, rv, at_a⟩
  · have e := inK a o isK
    rw [at_a] at e
    cases e
    exact from_caller inK nG nB isB noL noGen at_a rfl room F bd noX (fun _ => none) (fun _ => .inl rfl) (fun b u z => nomatch z) (fun b z => absurd rfl z) (fun z => absurd rfl z)
      (hp _ (fun _ => .inl rfl) (.inr ⟨_, vals.toArray, _, isK, rfl, rfl, rfl, by rw [List.size_toArray, inz.length]; exact short, by simpa using rv⟩))

/-- the end of a law row, for a law that asks where no guard stands; the script's bits told -/
theorem walk_ofG {l : PySem.W.OpenLaw} {n lv : Nat} {q : Program} {loose : List Str} {XP : (Str → Option Value) → Heap → Prop} {YP : World → Heap → Prop} {d : DefRec} {K : Params → PySem.W.Frag} {cx : World → CXT} {prom : World → Sp} {x : Str}
    (most : l.most = some n) (short : n ≤ sizeLine) (noD : d.params.defaults = []) (room : Room lv callerA) (hY : ∀ (w : World) (h : Heap), YP w h → (K w.params).In h)
    (F : ∀ (w : World) (gl : Str → Option Value) (fa : Addr) (h : Heap), (K w.params).In h → h.Ns mainGlobals gl → gl d.name = some (.ref fa) →
      ∃ dat : FuncData, (∀ (s : Shared) (u : Value), BindsTo s dat ⟨[u], []⟩ [(x, u)]) ∧ ∀ bs : Heap, (K w.params).In bs → bs.Ns mainGlobals gl → FnG l.prog w (K w.params) gl bs (cx w) lv fa dat [x] (prom w))
    (hp : ∀ (w : World) (G : Hp) (a : Addr) (ns : List Int), ns.length ≤ n → (∀ z ∈ ns, Builtin.Int.intBits z ≤ 1048576) → Only G → SqL (K w.params) G a (ns.map V.int) → prom w [.ref a] G (fun v _ => v = .bl true) fun _ _ _ => False)
    (noX : ∀ (w : World) (G : Hp) (s : Shared) (e : Value) (s' : Shared), cx w [] G s (fun _ _ _ => False) e s' → False) :
    PySem.W.WalkO q loose XP YP l.row.toRowW d [] (fun f vs => PySem.call f vs) := by
  refine Att.attach_callB most noD fun w _ sh gl mb fa _ _ _ _ a vals ns gr y _ _ _ named at_a inz few bits noGen => ?_
  obtain ⟨dat, bd, FG⟩ := F w gl fa _ (hY w _ y) gr.T.g named
  exact law_callG (hY w _ y) gr.T.g gr.T.b gr.T.builtins gr.T.nolimit noGen at_a inz (Nat.le_trans few short) room FG bd (fun G o s => hp w G a ns few bits o s) fun G e s' => noX w G sh e s'
end RepA

/-! itertools.combinations(list, 2), made and drawn. -/
namespace Comb
open PySem PySem.Spec
open Sem (wp)
abbrev cName : String := "itertools.combinations"
theorem cMro : mroOf (.type "itertools.combinations") = pure [.type "itertools.combinations", .type "object"] := by rw [mroOf_type]; kernel_rfl
theorem cNew : typeLookup (.type "itertools.combinations") "__new__" = pure (some (.builtin "itertools.combinations.__new__")) := by rw [typeLookup_type, builtinLookup_eq_fast]; kernel_rfl
theorem cInit : Slot "itertools.combinations" "__init__" "object.__init__" :=
  .of (owner := "object") (n := "__init__") (by rw [typeLookup_type, builtinLookup_eq_fast]; kernel_rfl) (by decide +kernel) (by decide +kernel) (by decide +kernel) (by first | exact .inl (by decide +kernel) | exact .inr (by decide +kernel)) (by rw [isSubtype_type]; kernel_rfl)
theorem cSub : isSubtype (.type "itertools.combinations") (.type "itertools.combinations") = pure true := by rw [isSubtype_type]; kernel_rfl
theorem cCalled : TypeCalled "itertools.combinations" "itertools.combinations.__new__" "object.__init__" :=
  ⟨by decide +kernel, by decide +kernel, ⟨_, _, cMro⟩, madeBy_type cMro cNew (by decide +kernel), by decide +kernel, cSub, cInit⟩
theorem cType2 (a b : Value) : checkTypeCall "itertools.combinations" ⟨[a, b], []⟩ = pure () := by kernel_rfl
theorem cNew2 (a b : Value) : checkBuiltinCall "itertools.combinations.__new__" ⟨[.type "itertools.combinations", a, b], []⟩ = pure () := by kernel_rfl
theorem cEntryNew : entryFor table "itertools.combinations.__new__" = some Builtin.«itertools.combinations.__new__» := entryFor_of_tree (by kernel_rfl)
theorem cEntryNext : entryFor table "itertools.combinations.__next__" = some Builtin.«itertools.combinations.__next__» := entryFor_of_tree (by kernel_rfl)
theorem cEntryIter : entryFor table "itertools.combinations.__iter__" = some Builtin.«dict_keyiterator.__iter__» :=
  entryFor_alias (id' := "dict_keyiterator.__iter__") (by kernel_rfl) (by first | rfl | decide +kernel | (unfold String.splitOn; simp +decide [String.splitOnAux])) (by decide +kernel) (by kernel_rfl)
theorem cIter : Slot "itertools.combinations" "__iter__" "itertools.combinations.__iter__" :=
  .of (owner := "itertools.combinations") (n := "__iter__") (by rw [typeLookup_type, builtinLookup_eq_fast]; kernel_rfl) (by decide +kernel) (by decide +kernel) (by decide +kernel) (by first | exact .inl (by decide +kernel) | exact .inr (by decide +kernel)) cSub
theorem cNext : Slot "itertools.combinations" "__next__" "itertools.combinations.__next__" :=
  .of (owner := "itertools.combinations") (n := "__next__") (by rw [typeLookup_type, builtinLookup_eq_fast]; kernel_rfl) (by decide +kernel) (by decide +kernel) (by decide +kernel) (by first | exact .inl (by decide +kernel) | exact .inr (by decide +kernel)) cSub
theorem cOwner : Manifest.owners.lookup (String.ofList "snoitanibmoc.slootreti".toList.reverse) = some Manifest.sig_itertools_combinations := by kernel_rfl
theorem cArgsIter (a : Value) : argsOk "itertools.combinations.__iter__" ⟨[a], []⟩ := by
  unfold argsOk
  rw [signature?_of (id := "itertools.combinations.__iter__") (n := ['_', '_', 'r', 'e', 't', 'i', '_', '_']) (o := "snoitanibmoc.slootreti".toList) (by kernel_rfl) cOwner]
  kernel_rfl
theorem cArgsNext (a : Value) : argsOk "itertools.combinations.__next__" ⟨[a], []⟩ := by
  unfold argsOk
  rw [signature?_of (id := "itertools.combinations.__next__") (n := ['_', '_', 't', 'x', 'e', 'n', '_', '_']) (o := "snoitanibmoc.slootreti".toList) (by kernel_rfl) cOwner]
  kernel_rfl
theorem cNoDict : typeHasDict (.type "itertools.combinations") = false := by decide +kernel

/-- such an object: its pool, its state, what it handed out last, its places -/
def recC (pool : Addr) (st : Int) (last : Value) (i j : Int) : Obj := { cls := .type "itertools.combinations", dict := none, data := .fields #[.ref pool, rawInt st, last, rawInt i, rawInt j], slots := #[] }
abbrev IsC (h : Heap) (it pool : Addr) (st : Int) (last : Value) (i j : Int) : Prop := h.get? it = some (recC pool st last i j)
def tupO (xs : Array Value) : Obj := { cls := .type "tuple", data := .seq xs }

end Comb

namespace Comb
open PySem PySem.Spec
open Sem (wp)
theorem joinName : "itertools." ++ "combinations" = "itertools.combinations" := by decide
theorem new_meets (l : Addr) (o : Obj) (items : Array Value) (n : Nat) (t : Tok) (hc : o.cls = .type "list") (hd : o.data = .seq items n) (hsz : items.size ≤ sizeLine) :
    Meets (Builtin.«itertools.combinations.__new__» ⟨[.type "itertools.combinations", .ref l, .int 2 t], []⟩)
      (fun _ R s => s.heap.get? l = some o ∧ ∀ h' : Heap, (∀ b u, s.heap.get? b = some u → h'.get? b = some u) → R (.ok (.ret (.ref (h'.objs.size + 1)))) { s with heap := (h'.push (tupO items)).push (recC h'.objs.size (if 2 > items.size then 2 else 0) .none 0 1) }) :=
  .of_wp fun prog w A R s h => by
    obtain ⟨hp, g, dd, tk, os⟩ := s
    obtain ⟨at_l, h⟩ := h
    have hsub := cSub
    have hdic := cNoDict
    have hT : Shared.TypeIs ⟨hp, g, dd, tk, os⟩ (.ref l) "list" := ⟨o, at_l, hc⟩
    unfold Builtin.«itertools.combinations.__new__»
    repeat (first
      | (with_reducible refine wpAny_collect_seq (hsz := hsz) l (.inl rfl) at_l hc hd fun h' keep => ?_)
      | wp_step
      | (rw [joinName]))
    refine ⟨_, rfl, ?_⟩
    have e1 : items.toList.toArray = items := by simp
    have e2 : (h'.push (tupO items)).objs.size = h'.objs.size + 1 := Heap.size_push ..
    have e3 : items.toList.length = items.size := by simp
    rw [e1, e3]
    have q := h h' keep
    rw [← e2] at q
    exact q

end Comb

namespace Comb
open PySem PySem.Spec
open Sem (wp)
section
variable {prog : Program} {w : World} {A : Around} {E : Value → Shared → Prop} {s : Shared}
/-- combinations(l, 2): the heap grows by what is kept, then by the pool and the record -/
theorem call_comb {l : Addr} {o : Obj} {items : Array Value} {n : Nat} {t : Tok} {Q : Value → Shared → Prop} (at_l : s.heap.get? l = some o) (hc : o.cls = .type "list") (hd : o.data = .seq items n) (hsz : items.size ≤ sizeLine)
    (h : ∀ h1 : Heap, (∀ b u, s.heap.get? b = some u → h1.get? b = some u) → Q (.ref (h1.objs.size + 1)) { s with heap := (h1.push (tupO items)).push (recC h1.objs.size (if 2 > items.size then 2 else 0) .none 0 1) }) :
    wpAny (model prog w) A (call (.type "itertools.combinations") [.ref l, .int 2 t]) Q E s := by
  refine callType_new cCalled (by decide +kernel) (cType2 _ _) (cNew2 _ _) (fun obj => F.args_object_init_3 obj _ _) cEntryNew (new_meets l o items n t hc hd hsz) ?_
  refine ⟨at_l, fun h1 keep => ⟨⟨recC h1.objs.size (if 2 > items.size then 2 else 0) .none 0 1, ?_, rfl⟩, h h1 keep⟩⟩
  have sz : (h1.push (tupO items)).objs.size = h1.objs.size + 1 := Heap.size_push ..
  show Heap.get? _ (h1.objs.size + 1) = some (recC h1.objs.size (if 2 > items.size then 2 else 0) .none 0 1)
  rw [← sz]
  exact Heap.get?_push_size _ rfl
theorem iter_comb {it pool : Addr} {st i j : Int} {last : Value} {Q : Value → Shared → Prop} (hit : IsC s.heap it pool st last i j) (h : Q (.ref it) s) : wpAny (model prog w) A (pyIter (.ref it)) Q E s := by
  have hT : s.TypeIs (.ref it) "itertools.combinations" := ⟨_, hit, rfl⟩
  refine wpAny_pyIter_slot hT cIter (wpAny_call_entry cIter hT cEntryIter ?_ (cArgsIter _))
  show wpAny _ _ (ret (.ref it)) _ _ s
  exact wpAny_pure ⟨_, rfl, "itertools.combinations", _, hT, cNext.lookup, h⟩

theorem apart {h : Heap} {it pool : Addr} {st i j : Int} {last : Value} {items : Array Value} (hit : IsC h it pool st last i j) (hp : h.get? pool = some (tupO items)) : it ≠ pool := fun e => by
  rw [e] at hit
  have z : Value.type "tuple" = Value.type "itertools.combinations" := congrArg Obj.cls (Option.some.inj (hp.symm.trans hit))
  exact absurd (Value.type.inj z) (by decide)
/-- what is handed out is laid, then held by the record -/
theorem handed {h U : Heap} {it pool : Addr} {last : Value} {i j : Int} {xs : Array Value} (hU : IsC U it pool 1 last i j) (keep : ∀ b, b ≠ it → U.get? b = h.get? b) (sz : U.objs.size = h.objs.size) :
    (∀ b, b ≠ it → ∀ u, h.get? b = some u → ((U.push (tupO xs)).update it (Obj.mapFields fun x => x.setIfInBounds 2 (.ref U.objs.size))).get? b = some u) ∧
    ((U.push (tupO xs)).update it (Obj.mapFields fun x => x.setIfInBounds 2 (.ref U.objs.size))).get? h.objs.size = some (tupO xs) ∧
    IsC ((U.push (tupO xs)).update it (Obj.mapFields fun x => x.setIfInBounds 2 (.ref U.objs.size))) it pool 1 (.ref h.objs.size) i j := by
  have lt : it < U.objs.size := Heap.lt_size hU
  refine ⟨fun b ne u q => ?_, ?_, ?_⟩
  · exact (Heap.get?_update_other _ _ ne.symm).trans (Heap.get?_push_of_some _ ((keep b ne).trans q))
  · rw [← sz]
    exact (Heap.get?_update_other _ _ (Nat.ne_of_lt lt)).trans (Heap.get?_push_size _ rfl)
  · rw [← sz]
    exact Heap.get?_update_self _ (Heap.get?_push_of_some _ hU) rfl
theorem next_first {it pool : Addr} {last : Value} {items : Array Value} {n : Nat} {Q : Option Value → Shared → Prop} (hit : IsC s.heap it pool 0 last 0 1) (hp : s.heap.get? pool = some (tupO items)) (h2 : 2 ≤ items.size)
    (hQ : ∀ h', (∀ b, b ≠ it → ∀ u, s.heap.get? b = some u → h'.get? b = some u) → h'.get? s.heap.objs.size = some (tupO #[items.getD 0 .none, items.getD 1 .none]) → IsC h' it pool 1 (.ref s.heap.objs.size) 0 1 → Q (some (.ref s.heap.objs.size)) { s with heap := h' }) :
    wpAny (model prog w) A (pyNext (.ref it)) Q E s := by
  have hT : s.TypeIs (.ref it) "itertools.combinations" := ⟨_, hit, rfl⟩
  unfold pyNext
  refine wpAny_bind (wpAny_attempt (wpAny_callSpecial?_slot (name := Str.ofString "__next__") hT cNext (wpAny_call_entry cNext hT cEntryNext ?_ (cArgsNext _))))
  unfold Builtin.«itertools.combinations.__next__»
  have nip := apart hit hp
  have hp1 : (s.heap.update it (Obj.mapFields fun x => x.setIfInBounds 1 (rawInt 1))).get? pool = some (tupO items) := (Heap.get?_update_other _ _ nip).trans hp
  have hit1 : IsC (s.heap.update it (Obj.mapFields fun x => x.setIfInBounds 1 (rawInt 1))) it pool 1 last 0 1 := Heap.get?_update_self _ hit rfl
  repeat wp_step
  obtain ⟨q1, q2, q3⟩ := handed (xs := #[items.getD 0 .none, items.getD 1 .none]) hit1 (h := s.heap) (fun b ne => Heap.get?_update_other _ _ ne.symm) (Heap.size_update ..)
  refine ⟨_, rfl, wpAny_pure ?_⟩
  have z := hQ _ q1 q2 q3
  rw [show (s.heap.update it (Obj.mapFields fun x => x.setIfInBounds 1 (rawInt 1))).objs.size = s.heap.objs.size from Heap.size_update ..] at z ⊢
  exact z
end
end Comb

namespace Comb
open PySem PySem.Spec
open Sem (wp)
section
variable {prog : Program} {w : World} {A : Around} {E : Value → Shared → Prop} {s : Shared}
theorem next_more {it pool : Addr} {last : Value} {items : Array Value} {i j i' j' : Nat} {Q : Option Value → Shared → Prop} (hit : IsC s.heap it pool 1 last i j) (hp : s.heap.get? pool = some (tupO items))
    (hn : (match (List.range 2).reverse.find? fun k => [i, j].getD k 0 != k + items.size - 2 with | none => none | some k => some ([i, j].take k ++ (List.range (2 - k)).map ([i, j].getD k 0 + 1 + ·))) = some [i', j'])
    (hQ : ∀ h', (∀ b, b ≠ it → ∀ u, s.heap.get? b = some u → h'.get? b = some u) → h'.get? s.heap.objs.size = some (tupO #[items.getD i' .none, items.getD j' .none]) → IsC h' it pool 1 (.ref s.heap.objs.size) i' j' → Q (some (.ref s.heap.objs.size)) { s with heap := h' }) :
    wpAny (model prog w) A (pyNext (.ref it)) Q E s := by
  have hT : s.TypeIs (.ref it) "itertools.combinations" := ⟨_, hit, rfl⟩
  unfold pyNext
  refine wpAny_bind (wpAny_attempt (wpAny_callSpecial?_slot (name := Str.ofString "__next__") hT cNext (wpAny_call_entry cNext hT cEntryNext ?_ (cArgsNext _))))
  unfold Builtin.«itertools.combinations.__next__»
  repeat wp_step
  split
  · rename_i next hnx
    obtain rfl : next = [i', j'] := Option.some.inj (hnx.symm.trans hn)
    have nip := apart hit hp
    have hp1 : (s.heap.update it (Obj.mapFields fun x => x.extract 0 3 ++ (List.map (fun (n : Nat) => rawInt n) [i', j']).toArray)).get? pool = some (tupO items) := (Heap.get?_update_other _ _ nip).trans hp
    have hit1 : IsC (s.heap.update it (Obj.mapFields fun x => x.extract 0 3 ++ (List.map (fun (n : Nat) => rawInt n) [i', j']).toArray)) it pool 1 last i' j' := Heap.get?_update_self _ hit rfl
    repeat wp_step
    obtain ⟨q1, q2, q3⟩ := handed (xs := #[items.getD i' .none, items.getD j' .none]) hit1 (h := s.heap) (fun b ne => Heap.get?_update_other _ _ ne.symm) (Heap.size_update ..)
    refine ⟨_, rfl, wpAny_pure ?_⟩
    have z := hQ _ q1 q2 q3
    rw [show (s.heap.update it (Obj.mapFields fun x => x.extract 0 3 ++ (List.map (fun (n : Nat) => rawInt n) [i', j']).toArray)).objs.size = s.heap.objs.size from Heap.size_update ..] at z ⊢
    exact z
  · rename_i hnx
    cases hnx.symm.trans hn
theorem next_end {it pool : Addr} {last : Value} {items : Array Value} {i j : Nat} {Q : Option Value → Shared → Prop} (hh : A.handled = none) (hit : IsC s.heap it pool 1 last i j) (hp : s.heap.get? pool = some (tupO items))
    (hn : (match (List.range 2).reverse.find? fun k => [i, j].getD k 0 != k + items.size - 2 with | none => none | some k => some ([i, j].take k ++ (List.range (2 - k)).map ([i, j].getD k 0 + 1 + ·))) = none)
    (hQ : ∀ h', Heap.ExtBut it s.heap h' → Q none { s with heap := h' }) : wpAny (model prog w) A (pyNext (.ref it)) Q E s := by
  have hT : s.TypeIs (.ref it) "itertools.combinations" := ⟨_, hit, rfl⟩
  unfold pyNext
  refine wpAny_bind (wpAny_attempt (wpAny_callSpecial?_slot (name := Str.ofString "__next__") hT cNext (wpAny_call_entry cNext hT cEntryNext ?_ (cArgsNext _))))
  unfold Builtin.«itertools.combinations.__next__»
  repeat wp_step
  split
  · rename_i next hnx
    cases hn.symm.trans hnx
  · repeat wp_step
    simp only [raiseNew]; refine wpAny_bind (wpAny_handled ?_); rw [show A.in1.handled = none from hh]
    refine wpAny_bind (wpAny_pure (wpAny_throw ?_)); refine wpAny_bind (wpAny_isInstance (T := "StopIteration") (b := true) ⟨_, Heap.get?_push_size _ rfl, rfl⟩ isSubtype_stop ?_)
    exact wpAny_pure (hQ _ (fun b u ne q => Heap.get?_push_of_some _ (Heap.get?_push_of_some _ ((Heap.get?_update_other _ _ (Ne.symm ne)).trans q))))
theorem next_none {it pool : Addr} {last : Value} {items : Array Value} {i j : Nat} {Q : Option Value → Shared → Prop} (hh : A.handled = none) (hit : IsC s.heap it pool 2 last i j) (hp : s.heap.get? pool = some (tupO items))
    (hQ : ∀ h', Heap.ExtBut it s.heap h' → Q none { s with heap := h' }) : wpAny (model prog w) A (pyNext (.ref it)) Q E s := by
  have hT : s.TypeIs (.ref it) "itertools.combinations" := ⟨_, hit, rfl⟩
  unfold pyNext
  refine wpAny_bind (wpAny_attempt (wpAny_callSpecial?_slot (name := Str.ofString "__next__") hT cNext (wpAny_call_entry cNext hT cEntryNext ?_ (cArgsNext _))))
  unfold Builtin.«itertools.combinations.__next__»
  repeat wp_step
  simp only [raiseNew]; refine wpAny_bind (wpAny_handled ?_); rw [show A.in1.handled = none from hh]
  refine wpAny_bind (wpAny_pure (wpAny_throw ?_)); refine wpAny_bind (wpAny_isInstance (T := "StopIteration") (b := true) ⟨_, Heap.get?_push_size _ rfl, rfl⟩ isSubtype_stop ?_)
  exact wpAny_pure (hQ _ (((Heap.ExtBut.refl it s.heap).push _).push _))
end
end Comb

namespace Comb
open PySem PySem.Spec PyProof.Rows L2
/-! ### the pairs of places, in their sequence -/
def rows : Nat → Nat → List (Nat × Nat)
  | 0, _ => []
  | k + 1, i => (List.range (k + 1)).map (fun d => (i, i + 1 + d)) ++ rows k (i + 1)
def prs (n : Nat) : List (Nat × Nat) := rows (n - 1) 0
def nx (n i j : Nat) : Option (Nat × Nat) := if j + 1 < n then some (i, j + 1) else if i + 2 < n then some (i + 1, i + 2) else none
theorem rows_zero (k i : Nat) : (rows (k + 1) i)[0]? = some (i, i + 1) := by
  unfold rows
  rw [List.getElem?_append_left (by rw [List.length_map, List.length_range]; omega), List.getElem?_map, List.getElem?_range (Nat.succ_pos k)]
  rfl
theorem rows_step : ∀ (k i t a b : Nat), (rows k i)[t]? = some (a, b) → a < b ∧ b < i + 1 + k ∧ (rows k i)[t + 1]? = nx (i + 1 + k) a b
  | 0, _, _, _, _, h => by
    unfold rows at h
    rw [List.getElem?_nil] at h
    cases h
  | k + 1, i, t, a, b, h => by
    unfold rows at h ⊢
    have len : ((List.range (k + 1)).map (fun d => (i, i + 1 + d))).length = k + 1 := by rw [List.length_map, List.length_range]
    rcases Nat.lt_or_ge t (k + 1) with lt | ge
    · rw [List.getElem?_append_left (by omega), List.getElem?_map, List.getElem?_range lt] at h
      have h' : (i, i + 1 + t) = (a, b) := Option.some.inj h
      obtain ⟨rfl, rfl⟩ := Prod.mk.inj h'
      refine ⟨by omega, by omega, ?_⟩
      rcases Nat.lt_or_ge (t + 1) (k + 1) with l2 | g2
      · rw [List.getElem?_append_left (by omega), List.getElem?_map, List.getElem?_range l2]
        unfold nx
        rw [if_pos (by omega)]
        rfl
      · have et : t = k := by omega
        subst et
        rw [List.getElem?_append_right (by omega), len, Nat.sub_self]
        unfold nx
        rw [if_neg (by omega)]
        cases t with
        | zero =>
          rw [if_neg (by omega)]
          rfl
        | succ m =>
          rw [if_pos (by omega)]
          exact rows_zero m (i + 1)
    · rw [List.getElem?_append_right (by omega), len] at h
      obtain ⟨h1, h2, h3⟩ := rows_step k (i + 1) (t - (k + 1)) a b h
      refine ⟨h1, by omega, ?_⟩
      rw [List.getElem?_append_right (by omega), len, show t + 1 - (k + 1) = t - (k + 1) + 1 by omega, h3]
      congr 1
      omega
theorem prs_step {n t a b : Nat} (h : (prs n)[t]? = some (a, b)) : a < b ∧ b < n ∧ (prs n)[t + 1]? = nx n a b := by
  obtain ⟨h1, h2, h3⟩ := rows_step (n - 1) 0 t a b h
  have hn : 0 + 1 + (n - 1) = n := by omega
  rw [hn] at h2 h3
  exact ⟨h1, h2, h3⟩
theorem rows_mem : ∀ (k i a b : Nat), (a, b) ∈ rows k i ↔ i ≤ a ∧ a < b ∧ b < i + 1 + k
  | 0, i, a, b => by
    unfold rows
    constructor
    · intro h
      cases h
    · rintro ⟨h1, h2, h3⟩
      omega
  | k + 1, i, a, b => by
    unfold rows
    rw [List.mem_append, rows_mem k (i + 1) a b, List.mem_map]
    constructor
    · rintro (⟨d, hd, e⟩ | h)
      · have := List.mem_range.mp hd
        obtain ⟨rfl, rfl⟩ := Prod.mk.inj e
        omega
      · omega
    · rintro ⟨h1, h2, h3⟩
      rcases Nat.eq_or_lt_of_le h1 with e | l
      · exact .inl ⟨b - (i + 1), List.mem_range.mpr (by omega), by rw [← e]; congr 1; omega⟩
      · exact .inr ⟨l, h2, by omega⟩
theorem prs_mem {n a b : Nat} : (a, b) ∈ prs n ↔ a < b ∧ b < n := by
  unfold prs
  rw [rows_mem]
  omega
theorem rows_len : ∀ k i, (rows k i).length ≤ k * k
  | 0, i => Nat.zero_le _
  | k + 1, i => by
    unfold rows
    rw [List.length_append, List.length_map, List.length_range]
    have := rows_len k (i + 1)
    have e : (k + 1) * (k + 1) = k * k + k + (k + 1) := by rw [Nat.succ_mul, Nat.mul_succ]
    omega
theorem prs_none {n : Nat} (h : n < 2) : prs n = [] := by
  unfold prs
  rw [show n - 1 = 0 by omega]
  rfl
theorem prs_zero {n : Nat} (h : 2 ≤ n) : (prs n)[0]? = some (0, 1) := by
  unfold prs
  obtain ⟨m, rfl⟩ : ∃ m, n = m + 2 := ⟨n - 2, by omega⟩
  exact rows_zero m 0
/-- the model's own step is this one -/
theorem nx_some {n i j a b : Nat} (hi : i < j) (hj : j < n) (h : nx n i j = some (a, b)) :
    (match (List.range 2).reverse.find? fun k => [i, j].getD k 0 != k + n - 2 with | none => none | some k => some ([i, j].take k ++ (List.range (2 - k)).map ([i, j].getD k 0 + 1 + ·))) = some [a, b] := by
  have e : (List.range 2).reverse = [1, 0] := rfl
  rw [e]
  unfold nx at h
  by_cases h1 : j + 1 < n
  · rw [if_pos h1] at h
    cases h
    have z : ([i, j].getD 1 0 != 1 + n - 2) = true := by
      show (j != 1 + n - 2) = true
      rw [bne_iff_ne]
      omega
    rw [List.find?_cons_of_pos (p := fun k => [i, j].getD k 0 != k + n - 2) (a := 1) z]
    rfl
  · rw [if_neg h1] at h
    have z : ¬ ([i, j].getD 1 0 != 1 + n - 2) = true := by
      show ¬ (j != 1 + n - 2) = true
      rw [bne_iff_ne]
      omega
    by_cases h2 : i + 2 < n
    · rw [if_pos h2] at h
      cases h
      have z2 : ([i, j].getD 0 0 != 0 + n - 2) = true := by
        show (i != 0 + n - 2) = true
        rw [bne_iff_ne]
        omega
      rw [List.find?_cons_of_neg (p := fun k => [i, j].getD k 0 != k + n - 2) (a := 1) z, List.find?_cons_of_pos (p := fun k => [i, j].getD k 0 != k + n - 2) (a := 0) z2]
      rfl
    · rw [if_neg h2] at h
      cases h
theorem nx_none {n i j : Nat} (hi : i < j) (hj : j < n) (h : nx n i j = none) :
    (match (List.range 2).reverse.find? fun k => [i, j].getD k 0 != k + n - 2 with | none => none | some k => some ([i, j].take k ++ (List.range (2 - k)).map ([i, j].getD k 0 + 1 + ·))) = none := by
  have e : (List.range 2).reverse = [1, 0] := rfl
  rw [e]
  unfold nx at h
  by_cases h1 : j + 1 < n
  · rw [if_pos h1] at h
    cases h
  · rw [if_neg h1] at h
    by_cases h2 : i + 2 < n
    · rw [if_pos h2] at h
      cases h
    · have z : ¬ ([i, j].getD 1 0 != 1 + n - 2) = true := by
        show ¬ (j != 1 + n - 2) = true
        rw [bne_iff_ne]
        omega
      have z2 : ¬ ([i, j].getD 0 0 != 0 + n - 2) = true := by
        show ¬ (i != 0 + n - 2) = true
        rw [bne_iff_ne]
        omega
      rw [List.find?_cons_of_neg (p := fun k => [i, j].getD k 0 != k + n - 2) (a := 1) z, List.find?_cons_of_neg (p := fun k => [i, j].getD k 0 != k + n - 2) (a := 0) z2]
      rfl
end Comb

namespace Comb
open PySem PySem.Spec PyProof.Rows L2
/-- the pairs of these values, as new tuples -/
def Itcb (xs : List V) : It :=
  ⟨fun t _ => t < (prs xs.length).length,
    fun t H v H' => ∃ T i j x y, v = .ref T ∧ H T = none ∧ H' = upd H T (.tup [x, y]) ∧ (prs xs.length)[t]? = some (i, j) ∧ xs[i]? = some x ∧ xs[j]? = some y,
    fun t _ => (prs xs.length).length ≤ t⟩
def Stt (it pool : Addr) (items : Array Value) (t : Nat) (h : Heap) : Prop :=
  h.get? pool = some (tupO items) ∧ ((t = 0 ∧ IsC h it pool (if 2 > items.size then 2 else 0) .none 0 1) ∨ ∃ (u i j : Nat) (last : Value), t = u + 1 ∧ (prs items.size)[u]? = some (i, j) ∧ IsC h it pool 1 last i j)
theorem turn_comb {P : Program} {w : World} {K : PySem.W.Frag} {tg : Expr} {xs : List V} {its : List Value} (rv : Vals xs its) (it pool : Addr) (lt : pool < it) : Turn P w K tg (Itcb xs) [it, pool] it (Stt it pool its.toArray) where
  mem := by simp
  obj := fun t h st b hb => by
    obtain ⟨hp, st⟩ := st
    have e : b = it ∨ b = pool := by simpa using hb
    rcases e with e | e
    · rw [e]
      rcases st with ⟨_, c⟩ | ⟨_, _, _, _, _, _, c⟩ <;> exact ⟨_, c, fun v q => nomatch q⟩
    · rw [e]
      exact ⟨_, hp, fun v q => nomatch q⟩
  keep := fun t h h' st k => by
    obtain ⟨hp, st⟩ := st
    refine ⟨k pool (by simp) _ hp, ?_⟩
    rcases st with ⟨e, c⟩ | ⟨u, i, j, last, e, hu, c⟩
    · exact .inl ⟨e, k it (by simp) _ c⟩
    · exact .inr ⟨u, i, j, last, e, hu, k it (by simp) _ c⟩
  item := by
    intro X hP hw hK hc t pins s σ H E I hf st hg
    subst hP hw hK
    obtain ⟨hp, st⟩ := st
    have len := rv.length
    have sz : its.toArray.size = xs.length := by rw [List.size_toArray, len]
    -- what comes of the pair (i, j)
    have out : ∀ (i j : Nat) (h' : Heap), (prs xs.length)[t]? = some (i, j) → (∀ b, b ≠ it → ∀ u, s.heap.get? b = some u → h'.get? b = some u) → h'.get? s.heap.objs.size = some (tupO #[its.toArray.getD i .none, its.toArray.getD j .none]) →
        IsC h' it pool 1 (.ref s.heap.objs.size) i j → ∃ u, some (Value.ref s.heap.objs.size) = some u ∧
        wpAny (model X.prog X.w) X.A (letOwnedTupleGo tg (.ref it) u) (fun _ s2 => ∃ x H', Inv X pins σ H' s2 ∧ RelV x u ∧ (Itcb xs).yld t H x H' ∧ Stt it pool its.toArray (t + 1) s2.heap ∧ ∀ b ∈ [it, pool], H' b = none) E { s with heap := h' } := by
      intro i j h' ht keep new rec
      obtain ⟨l1, l2, _⟩ := prs_step ht
      have hx : xs[i]? = some xs[i] := List.getElem?_eq_getElem (by omega)
      have hy : xs[j]? = some xs[j] := List.getElem?_eq_getElem (by omega)
      obtain ⟨u1, hu1, r1⟩ := rv.get hx
      obtain ⟨u2, hu2, r2⟩ := rv.get hy
      have g1 : its.toArray.getD i .none = u1 := by
        rw [Array.getD_eq_getD_getElem?, List.getElem?_toArray, hu1]
        rfl
      have g2 : its.toArray.getD j .none = u2 := by
        rw [Array.getD_eq_getD_getElem?, List.getElem?_toArray, hu2]
        rfl
      rw [g1, g2] at new
      have obj : ObjOk X.prog X.w (upd H s.heap.objs.size (.tup [xs[i], xs[j]])) h' s.heap.objs.size (.tup [xs[i], xs[j]]) :=
        ⟨by show 2 ≤ sizeLine; decide, [u1, u2], .cons r1 (.cons r2 .nil), ⟨_, new, rfl, _, rfl⟩⟩
      have I1 : Inv X pins σ (upd H s.heap.objs.size (.tup [xs[i], xs[j]])) { s with heap := h' } :=
        I.turnedNew (t' := s.toks) (ch := [it, pool]) (fun c o hb q => keep c (fun z => hb (by simp [z])) o q) hf (Nat.le_refl _) obj
      refine ⟨_, rfl, go_of (s := { s with heap := h' }) rec rfl rfl (by decide) ⟨.ref s.heap.objs.size, _, I1, rfl, ⟨_, i, j, _, _, rfl, I.hok.fresh (Nat.le_refl _), rfl, ht, hx, hy⟩, ⟨keep pool (Nat.ne_of_lt lt) _ hp, .inr ⟨t, i, j, _, rfl, by rw [sz]; exact ht, rec⟩⟩, fun c hcm => ?_⟩⟩
      have small : c < s.heap.objs.size := by
        have e : c = it ∨ c = pool := by simpa using hcm
        have hit : it < s.heap.objs.size := by
          rcases st with ⟨_, c⟩ | ⟨_, _, _, _, _, _, c⟩ <;> exact Heap.lt_size c
        rcases e with e | e
        · rw [e]; exact hit
        · rw [e]; exact Nat.lt_trans lt hit
      rw [upd_ne (Nat.ne_of_lt small)]
      exact (hf c hcm).1
    have hg' : t < (prs xs.length).length := hg
    obtain ⟨⟨i, j⟩, hij⟩ : ∃ q, (prs xs.length)[t]? = some q := ⟨_, List.getElem?_eq_getElem hg'⟩
    rcases st with ⟨e, c⟩ | ⟨u, i0, j0, last, e, hu, c⟩
    · subst e
      have h2 : 2 ≤ xs.length := by
        rcases Nat.lt_or_ge xs.length 2 with z | z
        · rw [prs_none z] at hg'
          cases hg'
        · exact z
      rw [prs_zero h2] at hij
      cases hij
      rw [sz, if_neg (by omega)] at c
      exact next_first (n := 0) c hp (by rw [sz]; exact h2) fun h' k new rec => out 0 1 h' (prs_zero h2) k new rec
    · subst e
      rw [sz] at hu
      obtain ⟨l1, l2, l3⟩ := prs_step hu
      refine next_more c hp (nx_some l1 (by rw [sz]; exact l2) (by rw [sz, ← l3]; exact hij)) fun h' k new rec => out i j h' hij k new rec
  done := by
    intro X hP hw hK hc t pins s σ H E I hf st hg
    subst hP hw hK
    obtain ⟨hp, st⟩ := st
    have len := rv.length
    have sz : its.toArray.size = xs.length := by rw [List.size_toArray, len]
    have hg' : (prs xs.length).length ≤ t := hg
    obtain ⟨f0, f1, f2, f3, f4, f5⟩ := hf it (by simp)
    have fin : ∀ h', Heap.ExtBut it s.heap h' → (none : Option Value) = none ∧ Inv X pins σ H { s with heap := h' } := fun h' eb => ⟨rfl, I.turned (t' := s.toks) (fun b o hb e => eb b o hb e) f0 f1 f3 f4 f5⟩
    rcases st with ⟨e, c⟩ | ⟨u, i0, j0, last, e, hu, c⟩
    · subst e
      have h2 : xs.length < 2 := by
        rcases Nat.lt_or_ge xs.length 2 with z | z
        · exact z
        · have := prs_zero z
          rw [List.getElem?_eq_none hg'] at this
          cases this
      rw [sz, if_pos (by omega)] at c
      exact next_none (i := 0) (j := 1) (I.ok.hd hc) c hp fin
    · subst e
      rw [sz] at hu
      obtain ⟨l1, l2, l3⟩ := prs_step hu
      rw [List.getElem?_eq_none hg'] at l3
      exact next_end (I.ok.hd hc) c hp (nx_none l1 (by rw [sz]; exact l2) (by rw [sz]; exact l3.symm)) fin
  self := fun A t s Q E st h => by
    obtain ⟨hp, st⟩ := st
    rcases st with ⟨_, c⟩ | ⟨_, _, _, _, _, _, c⟩ <;> exact iter_comb c h

section
variable {X : Cx} {tg : Expr}
def iComb (K : PySem.W.Frag) (ta : TA) : TI := fun σ H R => ta σ H fun vs H1 => ∃ a xs, vs = [.ref a, .int 2] ∧ SqL K H1 a xs ∧ R (Itcb xs) H1
theorem pi_comb {x : Str} {e e2 : Expr} {ta : TA} {p pos : Pos} (hg : Gl X x) (hm : X.mg x = some (.type "itertools.combinations")) (ha : PA X [e, e2] ta) (hdb : (x == ("__debug__" : Str)) = false := by decide)
    (hs : starEach [e, e2] X.env = (false, eval e X.env) :: starEach [e2] X.env := by rfl) (hpl : (backTo pos (starEach [e2] X.env)).any (·.1) = false := by rfl) :
    PI X tg (.Call (.Name x p) [e, e2] [] pos) (iComb X.K ta) := by
  refine ⟨fun pins s σ H R I h => ?_⟩
  refine wpAny_Call_Name_kw (ld_glob I hg hm ?_ hdb)
  refine PyProof.Rows.callWith_type1 (thn (ha.run pos pins s σ H _ I h) fun us s1 ⟨vs, H1, I1, r1, q1⟩ => ?_) hs hpl
  obtain ⟨a, xs, rfl, hq, q⟩ := q1
  obtain ⟨u1, u2, rfl, e1, ⟨t, rfl⟩⟩ := vals2 r1
  obtain rfl : u1 = Value.ref a := e1
  obtain ⟨its, rv, ⟨o, n, ho, hcl, hne, hda⟩, hz⟩ := I1.list hq
  have len := rv.length
  refine call_comb ho hcl hda (by rw [List.size_toArray, ← len]; exact hz) fun h1 keep => ?_
  have J0 : Inv X pins σ H1 { s1 with heap := h1 } := I1.kept (t' := s1.toks) keep
  have sz1 : (h1.push (tupO its.toArray)).objs.size = h1.objs.size + 1 := Heap.size_push ..
  have g1 : ((h1.push (tupO its.toArray)).push (recC h1.objs.size (if 2 > its.toArray.size then 2 else 0) .none 0 1)).get? h1.objs.size = some (tupO its.toArray) := Heap.get?_push_of_some _ (Heap.get?_push_size _ rfl)
  have g2 : ((h1.push (tupO its.toArray)).push (recC h1.objs.size (if 2 > its.toArray.size then 2 else 0) .none 0 1)).get? (h1.objs.size + 1) = some (recC h1.objs.size (if 2 > its.toArray.size then 2 else 0) .none 0 1) := by
    rw [← sz1]
    exact Heap.get?_push_size _ rfl
  refine iter_comb (s := { s1 with heap := _ }) g2 ?_
  have J1 : Inv X pins σ H1 { s1 with heap := (h1.push (tupO its.toArray)).push (recC h1.objs.size (if 2 > its.toArray.size then 2 else 0) .none 0 1) } :=
    I1.kept (t' := s1.toks) fun b o z => Heap.get?_push_of_some _ (Heap.get?_push_of_some _ (keep b o z))
  refine ⟨h1.objs.size + 1, [h1.objs.size + 1, h1.objs.size], _, _, H1, rfl, J1, turn_comb rv (h1.objs.size + 1) h1.objs.size (Nat.lt_succ_self _), ⟨g1, .inl ⟨rfl, g2⟩⟩, fun b hb => ?_, q⟩
  have low : h1.objs.size ≤ b := by
    have e : b = h1.objs.size + 1 ∨ b = h1.objs.size := by simpa using hb
    rcases e with e | e
    · rw [e]; exact Nat.le_succ _
    · rw [e]; exact Nat.le_refl _
  exact J0.fpOk low (J0.hok.fresh low)

/-- a comprehension over the pairs -/
theorem lc_comb {xs : List V} {g : TG} {tt : TT} {te : TE} {vs : List Nat} {σ : L2.St} {H1 : Hp} {D : Addr} {Qd : Hp → Prop} (Pv : Nat → Hp → Prop) (h0 : Pv 0 (upd H1 D (.lst [])))
    (hs : ∀ (t i j : Nat) (x y : V) (T : Addr) (H : Hp), (prs xs.length)[t]? = some (i, j) → xs[i]? = some x → xs[j]? = some y → Pv t H → H T = none → g (.ref T) (wipe σ vs) (upd H T (.tup [x, y])) fun σ2 H2 => wipe σ2 vs = wipe σ vs ∧ tt σ2 H2 fun b H3 =>
      if b = true then te σ2 H3 fun y H4 => ∃ acc, H4 D = some (.lst acc) ∧ acc.length < sizeLine ∧ Pv (t + 1) (upd H4 D (.lst (acc ++ [y]))) else Pv (t + 1) H3) (hd : ∀ H, Pv (prs xs.length).length H → Qd H) :
    ∃ W : Nat → Nat → Hp → Prop, (∃ m, W 0 m (upd H1 D (.lst []))) ∧ ∀ t m H, W t m H →
      ((Itcb xs).stop t H ∧ Qd H) ∨ ((Itcb xs).go t H ∧ ∃ Nx : Hp → Prop, (∀ H', Nx H' → ∃ m', m' < m ∧ W (t + 1) m' H') ∧ ∀ x H', (Itcb xs).yld t H x H' → g x (wipe σ vs) H' fun σ2 H2 => wipe σ2 vs = wipe σ vs ∧ tt σ2 H2 fun b H3 =>
        if b = true then te σ2 H3 fun y H4 => ∃ acc, H4 D = some (.lst acc) ∧ acc.length < sizeLine ∧ Nx (upd H4 D (.lst (acc ++ [y]))) else Nx H3) := by
  refine ⟨fun t m H => m = (prs xs.length).length - t ∧ t ≤ (prs xs.length).length ∧ Pv t H, ⟨_, rfl, Nat.zero_le _, h0⟩, ?_⟩
  rintro t m H ⟨rfl, ht, pv⟩
  rcases Nat.lt_or_ge t (prs xs.length).length with lt | ge
  · refine .inr ⟨lt, Pv (t + 1), fun H' p' => ⟨(prs xs.length).length - (t + 1), by omega, rfl, lt, p'⟩, fun v H' y => ?_⟩
    obtain ⟨T, i, j, a, b, rfl, hT, rfl, h1, h2, h3⟩ := y
    exact hs t i j a b T H h1 h2 h3 pv hT
  · have e : t = (prs xs.length).length := by omega
    subst e
    exact .inl ⟨Nat.le_refl _, hd H pv⟩
end
end Comb

namespace SortR
open PySem PySem.Spec PyProof.Rows L2 PySem.W
/-- lists of ints by their sequence -/
def rowLe (p q : Addr × List Int) : Bool := decide (p.2 ≤ q.2)
theorem enc_alike (p q : Addr × List Int) : alike (PyData.list (p.2.map .int)) (PyData.list (q.2.map .int)) = true := by
  simp only [alike]
  exact alike_ints p.2 q.2
theorem rows_dp {K : PySem.W.Frag} {H : Hp} : ∀ ns : List Int, DpAll K H (ns.map V.int) (ns.map PyData.int)
  | [] => .nil
  | n :: ns => .cons (.int n) (rows_dp ns)
theorem vals_each {h : Heap} {K : PySem.W.Frag} {H : Hp} {P : Addr × List Int → Prop} : ∀ {bs : List (Addr × List Int)} {us : List Value}, Vals (bs.map fun b => V.ref b.1) us → (∀ b ∈ bs, P b) → EachIs (fun v b => v = Value.ref b.1 ∧ P b) us bs
  | [], us, r, _ => by
    cases r
    exact .nil
  | b :: bs, us, r, hp => by
    cases r with
    | cons r1 r2 =>
      have e : _ = Value.ref b.1 := r1
      exact .cons ⟨e, hp b List.mem_cons_self⟩ (vals_each (h := h) (K := K) (H := H) r2 fun c hc => hp c (List.mem_cons_of_mem _ hc))
theorem each_back {P : Addr × List Int → Prop} : ∀ {us : List Value} {bs : List (Addr × List Int)}, EachIs (fun v b => v = Value.ref b.1 ∧ P b) us bs → Vals (bs.map fun b => V.ref b.1) us
  | _, _, .nil => .nil
  | _, _, .cons h t => .cons h.1 (each_back t)
theorem each_mono {α β : Type} {R S : α → β → Prop} : ∀ {as : List α} {bs : List β}, EachIs R as bs → (∀ a b, R a b → S a b) → EachIs S as bs
  | _, _, .nil, _ => .nil
  | _, _, .cons h t, f => .cons (f _ _ h) (each_mono t f)
section
variable {X : Cx}
/-- sorted(xs), xs a list of lists of ints, of any length -/
theorem call_sortedR (hu : X.A.units + 64 < cLine) : CallR X (.builtin "sorted") (fun xs H Q => ∃ (a : Addr) (bs : List (Addr × List Int)), xs = [V.ref a] ∧ SqL X.K H a (bs.map fun b => V.ref b.1) ∧ (∀ b ∈ bs, SqL X.K H b.1 (b.2.map V.int)) ∧
    ∀ p, H p = none → Q (.ref p) (upd H p (.lst ((bs.mergeSort rowLe).map fun b => V.ref b.1)))) := by
  intro pins s σ H xs us Q I r h
  obtain ⟨a, bs, rfl, hs, hb, q⟩ := h
  obtain ⟨u, rfl, ru⟩ := vals1 r
  obtain rfl : u = Value.ref a := ru
  obtain ⟨its, rv, hl, hz⟩ := I.list hs
  have each : EachIs (fun v b => v = Value.ref b.1 ∧ SqL X.K H b.1 (b.2.map V.int)) its bs := vals_each (h := s.heap) (K := X.K) (H := H) rv hb
  have len : its.length = bs.length := by rw [← rv.length, List.length_map]
  have each2 : EachIs (fun v (b : Addr × List Int) => ∃ as, Reads s.heap v (PyData.list (b.2.map .int)) as) its bs := each_mono each fun v b ⟨e, hq⟩ => by
    rw [e]
    exact Dp.reads I (PyData.list (b.2.map .int)) (.ref b.1) (.ref b.1) (.lst hq (rows_dp b.2)) rfl
  have le : dataLe false (fun b : Addr × List Int => PyData.list (b.2.map .int)) = rowLe := dataLe_rows (fun b : Addr × List Int => b.2)
  refine sorted_data (enc := fun b : Addr × List Int => PyData.list (b.2.map .int)) hl.isList each each2 (AllAlike.of enc_alike) (Sortable.others fun b => ⟨(fun z => nomatch z), fun xs z => nomatch z⟩) (by rw [← len]; rw [List.length_map] at hz; rw [len]; exact hz) (fun b _ => by
    have d : (PyData.list (b.2.map .int)).depth = 1 := by
      simp only [PyData.depth, depth_ints]
    rw [d]
    omega) fun out ho each3 => ?_
  rw [le] at each3
  have back := each_back each3
  obtain ⟨n, hn⟩ := sortedAll_at s.heap its out.toArray
  refine ⟨.ref (s.heap.objs.size + 1), upd H (s.heap.objs.size + 1) (.lst ((bs.mergeSort rowLe).map fun b => V.ref b.1)), I.laid (t' := s.toks) (fun b o e => sortedAll_old e) (Nat.le_succ _) ⟨?_, out, n, back, hn⟩, rfl, q _ (I.hok.fresh (Nat.le_succ _))⟩
  rw [List.length_map, List.length_mergeSort]
  rw [List.length_map] at hz
  exact hz
end
end SortR

namespace SortR
open PySem PySem.Spec PyProof.Rows L2 PySem.W
section
variable {X : Cx}
def rLtR (K : PySem.W.Frag) : R2 := fun x y H Q => ∃ (a b : Addr) (ns ms : List Int), x = .ref a ∧ y = .ref b ∧ SqL K H a (ns.map V.int) ∧ SqL K H b (ms.map V.int) ∧ Q (.bl (decide (ns < ms))) H
/-- xs < ys, two lists of ints -/
theorem op_ltR (hu : X.A.units + 64 < cLine) : OpR X (compareOp .Lt) (rLtR X.K) := by
  intro pins s σ H x y v u Q I rx ry h
  obtain ⟨a, b, ns, ms, rfl, rfl, hs, hm, q⟩ := h
  obtain ⟨as, r1⟩ := Dp.reads I (PyData.list (ns.map .int)) (.ref a) v (.lst hs (rows_dp ns)) rx
  obtain ⟨bs, r2⟩ := Dp.reads I (PyData.list (ms.map .int)) (.ref b) u (.lst hm (rows_dp ms)) ry
  have dep : (PyData.list (ns.map .int)).depth = 1 := by simp only [PyData.depth, depth_ints]
  have lt := rcLt_alike (PyData.list (ns.map .int)) (PyData.list (ms.map .int)) X.A s v u as bs r1 r2 (enc_alike (a, ns) (b, ms)) (fun z => nomatch z) (by rw [dep]; omega)
  have e : dataLt (PyData.list (ns.map .int)) (PyData.list (ms.map .int)) = decide (ns < ms) := by
    rw [dataLt_list]
    exact dataLt_ints ns ms
  rw [e] at lt
  exact lt _ _ _ _ ⟨.bl _, H, I, rfl, q⟩
/-- a comprehension over zip of two lists that stand still -/
theorem lc_zipL {K : PySem.W.Frag} {a b : Addr} {xs ys : List V} {g : TG} {tt : TT} {te : TE} {vs : List Nat} {σ : L2.St} {H1 : Hp} {D : Addr} {Qd : Hp → Prop} (Pv : Nat → Hp → Prop) (h0 : Pv 0 (upd H1 D (.lst []))) (hl : ∀ i H, Pv i H → SqL K H a xs ∧ SqL K H b ys)
    (hs : ∀ (i : Nat) (x y : V) (T : Addr) (H : Hp), xs[i]? = some x → ys[i]? = some y → Pv i H → H T = none → g (.ref T) (wipe σ vs) (upd H T (.tup [x, y])) fun σ2 H2 => wipe σ2 vs = wipe σ vs ∧ tt σ2 H2 fun b H3 =>
      if b = true then te σ2 H3 fun y H4 => ∃ acc, H4 D = some (.lst acc) ∧ acc.length < sizeLine ∧ Pv (i + 1) (upd H4 D (.lst (acc ++ [y]))) else Pv (i + 1) H3) (hd : ∀ H, Pv (min xs.length ys.length) H → Qd H) :
    ∃ W : Nat → Nat → Hp → Prop, (∃ m, W 0 m (upd H1 D (.lst []))) ∧ ∀ i m H, W i m H →
      ((Itz K a b).stop i H ∧ Qd H) ∨ ((Itz K a b).go i H ∧ ∃ Nx : Hp → Prop, (∀ H', Nx H' → ∃ m', m' < m ∧ W (i + 1) m' H') ∧ ∀ x H', (Itz K a b).yld i H x H' → g x (wipe σ vs) H' fun σ2 H2 => wipe σ2 vs = wipe σ vs ∧ tt σ2 H2 fun b H3 =>
        if b = true then te σ2 H3 fun y H4 => ∃ acc, H4 D = some (.lst acc) ∧ acc.length < sizeLine ∧ Nx (upd H4 D (.lst (acc ++ [y]))) else Nx H3) := by
  refine ⟨fun i m H => m = min xs.length ys.length - i ∧ i ≤ min xs.length ys.length ∧ Pv i H, ⟨_, rfl, Nat.zero_le _, h0⟩, ?_⟩
  rintro i m H ⟨rfl, hi, pv⟩
  obtain ⟨qx, qy⟩ := hl i H pv
  rcases Nat.lt_or_ge i (min xs.length ys.length) with lt | ge
  · have ex : xs[i]? = some xs[i] := List.getElem?_eq_getElem (by omega)
    have ey : ys[i]? = some ys[i] := List.getElem?_eq_getElem (by omega)
    refine .inr ⟨⟨xs, ys, _, _, qx, qy, ex, ey⟩, Pv (i + 1), fun H' p' => ⟨min xs.length ys.length - (i + 1), by omega, rfl, lt, p'⟩, fun v H' y => ?_⟩
    obtain ⟨T, x', y', rfl, hT, rfl, f1, f2⟩ := y
    exact hs i x' y' T H (f1 xs qx) (f2 ys qy) pv hT
  · have e : i = min xs.length ys.length := by omega
    subst e
    exact .inl ⟨⟨xs, ys, qx, qy, by omega⟩, hd H pv⟩
/-- a comprehension over enumerate of a list that stands still -/
theorem lc_enumL {K : PySem.W.Frag} {a : Addr} {xs : List V} {g : TG} {tt : TT} {te : TE} {vs : List Nat} {σ : L2.St} {H1 : Hp} {D : Addr} {Qd : Hp → Prop} (Pv : Nat → Hp → Prop) (h0 : Pv 0 (upd H1 D (.lst []))) (hl : ∀ i H, Pv i H → SqL K H a xs)
    (hs : ∀ (i : Nat) (x : V) (T : Addr) (H : Hp), xs[i]? = some x → Pv i H → H T = none → g (.ref T) (wipe σ vs) (upd H T (.tup [.int (i : Nat), x])) fun σ2 H2 => wipe σ2 vs = wipe σ vs ∧ tt σ2 H2 fun b H3 =>
      if b = true then te σ2 H3 fun y H4 => ∃ acc, H4 D = some (.lst acc) ∧ acc.length < sizeLine ∧ Pv (i + 1) (upd H4 D (.lst (acc ++ [y]))) else Pv (i + 1) H3) (hd : ∀ H, Pv xs.length H → Qd H) :
    ∃ W : Nat → Nat → Hp → Prop, (∃ m, W 0 m (upd H1 D (.lst []))) ∧ ∀ i m H, W i m H →
      ((Ite K a).stop i H ∧ Qd H) ∨ ((Ite K a).go i H ∧ ∃ Nx : Hp → Prop, (∀ H', Nx H' → ∃ m', m' < m ∧ W (i + 1) m' H') ∧ ∀ x H', (Ite K a).yld i H x H' → g x (wipe σ vs) H' fun σ2 H2 => wipe σ2 vs = wipe σ vs ∧ tt σ2 H2 fun b H3 =>
        if b = true then te σ2 H3 fun y H4 => ∃ acc, H4 D = some (.lst acc) ∧ acc.length < sizeLine ∧ Nx (upd H4 D (.lst (acc ++ [y]))) else Nx H3) := by
  refine ⟨fun i m H => m = xs.length - i ∧ i ≤ xs.length ∧ Pv i H, ⟨_, rfl, Nat.zero_le _, h0⟩, ?_⟩
  rintro i m H ⟨rfl, hi, pv⟩
  have qx := hl i H pv
  rcases Nat.lt_or_ge i xs.length with lt | ge
  · have ex : xs[i]? = some xs[i] := List.getElem?_eq_getElem lt
    refine .inr ⟨⟨xs, _, qx, ex⟩, Pv (i + 1), fun H' p' => ⟨xs.length - (i + 1), by omega, rfl, lt, p'⟩, fun v H' y => ?_⟩
    obtain ⟨T, x', rfl, hT, rfl, f1⟩ := y
    exact hs i x' T H (f1 xs qx) pv hT
  · have e : i = xs.length := by omega
    subst e
    exact .inl ⟨⟨xs, qx, Nat.le_refl _⟩, hd H pv⟩
end
end SortR

/-! Comprehensions without a test, by the value of each turn: what stood stands. -/
namespace LcM
open PySem PySem.Spec PyProof.Rows L2
/-- all that stood stands -/
def Grows (H H' : Hp) : Prop := ∀ b o, H b = some o → H' b = some o
theorem Grows.refl {H : Hp} : Grows H H := fun _ _ e => e
theorem Grows.trans {H H1 H2 : Hp} (x : Grows H H1) (y : Grows H1 H2) : Grows H H2 := fun b o e => y b o (x b o e)
theorem Grows.new {a : Addr} {H : Hp} {o : HO} (h : H a = none) : Grows H (upd H a o) := fun b u e => by
  rw [upd_ne (ne_of_none e h)]
  exact e
theorem Grows.seq {K : PySem.W.Frag} {H H' : Hp} {a : Addr} {xs : List V} (s : Grows H H') (h : SqL K H a xs) : SqL K H' a xs := by
  rcases h with (h | ⟨o, h⟩) | h
  · exact .inl (.inl (s _ _ h))
  · exact .inl (.inr ⟨o, s _ _ h⟩)
  · exact .inr h
theorem Grows.tup {K : PySem.W.Frag} {H H' : Hp} {a : Addr} {xs : List V} (s : Grows H H') (h : SqT K H a xs) : SqT K H' a xs := by
  rcases h with (h | ⟨o, h⟩) | h
  · exact .inl (.inl (s _ _ h))
  · exact .inl (.inr ⟨o, s _ _ h⟩)
  · exact .inr h
/-- the list that is made -/
def Ma (H0 : Hp) (D : Addr) (F : Nat → V) (i : Nat) (H : Hp) : Prop := Grows H0 H ∧ H D = some (.lst ((List.range i).map F))
theorem Ma.start {H0 : Hp} {D : Addr} {F : Nat → V} (hD : H0 D = none) : Ma H0 D F 0 (upd H0 D (.lst [])) := ⟨Grows.new hD, upd_same⟩
theorem yes_eq {te : TE} {A : L2.St → Prop} {R : V → Hp → Prop} {Y : Hp → Prop} :
    (fun (σ2 : L2.St) (H2 : Hp) => A σ2 ∧ tYes σ2 H2 fun b H3 => if b = true then te σ2 H3 R else Y H3) = fun σ2 H2 => A σ2 ∧ te σ2 H2 R := by
  funext σ2 H2
  unfold tYes
  dsimp only
  rw [if_pos rfl]
/-- one more -/
theorem Ma.more {H0 H H4 : Hp} {D : Addr} {F : Nat → V} {i : Nat} (hD : H0 D = none) (m : Ma H0 D F i H) (s : Grows H H4) (small : i < 1000000) :
    ∃ acc, H4 D = some (.lst acc) ∧ acc.length < sizeLine ∧ Ma H0 D F (i + 1) (upd H4 D (.lst (acc ++ [F i]))) := by
  refine ⟨_, s _ _ m.2, ?_, fun b o e => ?_, ?_⟩
  · rw [List.length_map, List.length_range]
    exact Nat.lt_trans small (by decide)
  · rw [upd_ne (ne_of_none e hD)]
    exact s _ _ (m.1 _ _ e)
  · rw [upd_same, List.range_succ, List.map_append]
    rfl
section
variable {K : PySem.W.Frag} {a b : Addr} {xs ys : List V} {g : TG} {te : TE} {vs : List Nat} {σ : L2.St} {H0 : Hp} {D : Addr} {Qd : Hp → Prop}
theorem lc_listM (F : Nat → V) (hD : H0 D = none) (hx : SqL K H0 a xs) (small : xs.length ≤ 1000000)
    (turn : ∀ (i : Nat) (x : V) (H : Hp) (R : V → Hp → Prop), xs[i]? = some x → Grows H0 H → (∀ H4, Grows H H4 → R (F i) H4) → g x (wipe σ vs) H fun σ2 H2 => wipe σ2 vs = wipe σ vs ∧ te σ2 H2 R)
    (done : ∀ H, Grows H0 H → H D = some (.lst ((List.range xs.length).map F)) → Qd H) :
    ∃ W : Nat → Nat → Hp → Prop, (∃ m, W 0 m (upd H0 D (.lst []))) ∧ ∀ i m H, W i m H →
      ((Itl K a).stop i H ∧ Qd H) ∨ ((Itl K a).go i H ∧ ∃ Nx : Hp → Prop, (∀ H', Nx H' → ∃ m', m' < m ∧ W (i + 1) m' H') ∧ ∀ x H', (Itl K a).yld i H x H' → g x (wipe σ vs) H' fun σ2 H2 => wipe σ2 vs = wipe σ vs ∧ tYes σ2 H2 fun b H3 =>
        if b = true then te σ2 H3 fun y H4 => ∃ acc, H4 D = some (.lst acc) ∧ acc.length < sizeLine ∧ Nx (upd H4 D (.lst (acc ++ [y]))) else Nx H3) := by
  refine lc_list (Ma H0 D F) (Ma.start hD) (fun i H _ m => m.1.seq hx) (fun i x H ex m => ?_) fun H m => done H m.1 m.2
  rw [yes_eq (A := fun σ2 => wipe σ2 vs = wipe σ vs)]
  exact turn i x H _ ex m.1 fun H4 s => m.more hD s (Nat.lt_of_lt_of_le (List.getElem?_eq_some_iff.mp ex).1 small)
theorem lc_zipM (F : Nat → V) (hD : H0 D = none) (hx : SqL K H0 a xs) (hy : SqL K H0 b ys) (small : xs.length ≤ 1000000)
    (turn : ∀ (i : Nat) (x y : V) (T : Addr) (H : Hp) (R : V → Hp → Prop), xs[i]? = some x → ys[i]? = some y → Grows H0 H → H T = none → (∀ H4, Grows (upd H T (.tup [x, y])) H4 → R (F i) H4) → g (.ref T) (wipe σ vs) (upd H T (.tup [x, y])) fun σ2 H2 => wipe σ2 vs = wipe σ vs ∧ te σ2 H2 R)
    (done : ∀ H, Grows H0 H → H D = some (.lst ((List.range (min xs.length ys.length)).map F)) → Qd H) :
    ∃ W : Nat → Nat → Hp → Prop, (∃ m, W 0 m (upd H0 D (.lst []))) ∧ ∀ i m H, W i m H →
      ((Itz K a b).stop i H ∧ Qd H) ∨ ((Itz K a b).go i H ∧ ∃ Nx : Hp → Prop, (∀ H', Nx H' → ∃ m', m' < m ∧ W (i + 1) m' H') ∧ ∀ x H', (Itz K a b).yld i H x H' → g x (wipe σ vs) H' fun σ2 H2 => wipe σ2 vs = wipe σ vs ∧ tYes σ2 H2 fun b H3 =>
        if b = true then te σ2 H3 fun y H4 => ∃ acc, H4 D = some (.lst acc) ∧ acc.length < sizeLine ∧ Nx (upd H4 D (.lst (acc ++ [y]))) else Nx H3) := by
  refine SortR.lc_zipL (Ma H0 D F) (Ma.start hD) (fun i H m => ⟨m.1.seq hx, m.1.seq hy⟩) (fun i x y T H ex ey m hT => ?_) fun H m => done H m.1 m.2
  rw [yes_eq (A := fun σ2 => wipe σ2 vs = wipe σ vs)]
  exact turn i x y T H _ ex ey m.1 hT fun H4 s => m.more hD ((Grows.new hT).trans s) (Nat.lt_of_lt_of_le (List.getElem?_eq_some_iff.mp ex).1 small)
theorem lc_enumM (F : Nat → V) (hD : H0 D = none) (hx : SqL K H0 a xs) (small : xs.length ≤ 1000000)
    (turn : ∀ (i : Nat) (x : V) (T : Addr) (H : Hp) (R : V → Hp → Prop), xs[i]? = some x → Grows H0 H → H T = none → (∀ H4, Grows (upd H T (.tup [.int (i : Nat), x])) H4 → R (F i) H4) → g (.ref T) (wipe σ vs) (upd H T (.tup [.int (i : Nat), x])) fun σ2 H2 => wipe σ2 vs = wipe σ vs ∧ te σ2 H2 R)
    (done : ∀ H, Grows H0 H → H D = some (.lst ((List.range xs.length).map F)) → Qd H) :
    ∃ W : Nat → Nat → Hp → Prop, (∃ m, W 0 m (upd H0 D (.lst []))) ∧ ∀ i m H, W i m H →
      ((Ite K a).stop i H ∧ Qd H) ∨ ((Ite K a).go i H ∧ ∃ Nx : Hp → Prop, (∀ H', Nx H' → ∃ m', m' < m ∧ W (i + 1) m' H') ∧ ∀ x H', (Ite K a).yld i H x H' → g x (wipe σ vs) H' fun σ2 H2 => wipe σ2 vs = wipe σ vs ∧ tYes σ2 H2 fun b H3 =>
        if b = true then te σ2 H3 fun y H4 => ∃ acc, H4 D = some (.lst acc) ∧ acc.length < sizeLine ∧ Nx (upd H4 D (.lst (acc ++ [y]))) else Nx H3) := by
  refine SortR.lc_enumL (Ma H0 D F) (Ma.start hD) (fun i H m => m.1.seq hx) (fun i x T H ex m hT => ?_) fun H m => done H m.1 m.2
  rw [yes_eq (A := fun σ2 => wipe σ2 vs = wipe σ vs)]
  exact turn i x T H _ ex m.1 hT fun H4 s => m.more hD ((Grows.new hT).trans s) (Nat.lt_of_lt_of_le (List.getElem?_eq_some_iff.mp ex).1 small)
theorem lc_combM (F : Nat → V) (hD : H0 D = none) (small : xs.length ≤ 1000)
    (turn : ∀ (t i j : Nat) (x y : V) (T : Addr) (H : Hp) (R : V → Hp → Prop), (Comb.prs xs.length)[t]? = some (i, j) → xs[i]? = some x → xs[j]? = some y → Grows H0 H → H T = none → (∀ H4, Grows (upd H T (.tup [x, y])) H4 → R (F t) H4) → g (.ref T) (wipe σ vs) (upd H T (.tup [x, y])) fun σ2 H2 => wipe σ2 vs = wipe σ vs ∧ te σ2 H2 R)
    (done : ∀ H, Grows H0 H → H D = some (.lst ((List.range (Comb.prs xs.length).length).map F)) → Qd H) :
    ∃ W : Nat → Nat → Hp → Prop, (∃ m, W 0 m (upd H0 D (.lst []))) ∧ ∀ t m H, W t m H →
      ((Comb.Itcb xs).stop t H ∧ Qd H) ∨ ((Comb.Itcb xs).go t H ∧ ∃ Nx : Hp → Prop, (∀ H', Nx H' → ∃ m', m' < m ∧ W (t + 1) m' H') ∧ ∀ x H', (Comb.Itcb xs).yld t H x H' → g x (wipe σ vs) H' fun σ2 H2 => wipe σ2 vs = wipe σ vs ∧ tYes σ2 H2 fun b H3 =>
        if b = true then te σ2 H3 fun y H4 => ∃ acc, H4 D = some (.lst acc) ∧ acc.length < sizeLine ∧ Nx (upd H4 D (.lst (acc ++ [y]))) else Nx H3) := by
  refine Comb.lc_comb (Ma H0 D F) (Ma.start hD) (fun t i j x y T H et ex ey m hT => ?_) fun H m => done H m.1 m.2
  rw [yes_eq (A := fun σ2 => wipe σ2 vs = wipe σ vs)]
  refine turn t i j x y T H _ et ex ey m.1 hT fun H4 s => m.more hD ((Grows.new hT).trans s) ?_
  have l1 := (List.getElem?_eq_some_iff.mp et).1
  have l2 := Comb.rows_len (xs.length - 1) 0
  have l3 : (xs.length - 1) * (xs.length - 1) ≤ 999 * 999 := Nat.mul_le_mul (by omega) (by omega)
  unfold Comb.prs at l1
  omega
end
/-- xs[1:] -/
theorem cut_tail (xs : List V) : cutV xs (some 1) none = xs.tail := by
  unfold cutV
  rw [HT.sIx_none, show (some (1 : Int)) = some ((1 : Nat) : Int) from rfl, HT.sIx_nat]
  cases xs with
  | nil => rfl
  | cons x l =>
    have e : min 1 (x :: l).length = 1 := by rw [List.length_cons]; omega
    rw [e, List.drop_one, List.tail_cons, List.length_cons, Nat.add_sub_cancel, List.take_length]
end LcM

/-! {key: value for target in iterable if test}, the keys tuples. -/
namespace DcT
open PySem PySem.Spec PyProof.Rows L2
section
variable {X : Cx} {pins : List (Addr × Obj)} {σ : L2.St} {H : Hp} {s : Shared}
/-- one entry is laid by the comprehension -/
theorem set_tup {Er : Value → Shared → Prop} {d b : Addr} {kvs : List (List L2.Key × V)} {k : List L2.Key} {v : V} {u r : Value} {Qu : Unit → Shared → Prop} (room : X.A.units + 1 < cLine) (I : Inv X pins σ H s) (at_d : H d = some (.dT kvs)) (few : kvs.length < sizeLine)
    (at_b : H b = some (.tup (k.map kV))) (ru : RelV (.ref b) u) (rr : RelV v r) (go : ∀ s', Inv X pins σ (upd H d (.dT (putK kvs k v))) s' → Qu () s') : wpAny (model X.prog X.w) X.A (dictSet d u r) Qu Er s := by
  obtain rfl : u = Value.ref b := ru
  obtain ⟨fits, notSys, xs, rel, raw⟩ := dt_of I.hok at_d
  have n1 : xs.length ≤ sizeLine := Paired.length rel ▸ fits
  have n2 : (putK kvs k v).length ≤ sizeLine := Nat.le_trans (length_putK kvs k v) few
  refine wpAny_dictSet_heap (hsz := n1) (show X.A.units < cLine from Nat.lt_of_succ_lt room) (key_of I.hok at_b) raw fun hp raw' same => go _ ?_
  obtain ⟨o, es, ep, g1, g2, g3, g4, _, g5⟩ := raw'
  refine d_write I (by rw [at_d]; exact True.intro) same ⟨o, g1⟩ ⟨n2, notSys, _, (rel.put k at_b rr).keeps fun c ys ec => ?_, o, es, ep, g1, g2, g3, g4, g5⟩
  rw [upd_ne (ne_of ec at_d fun z => nomatch z)]
  exact ec
end
section
variable {X : Cx}
def tDcT (wi : TI) (g : TG) (tt : TT) (tk tv : TE) (vs : List Nat) : TE := fun σ H Q => wi σ H fun J H1 => ∀ D, H1 D = none → ∃ W : Nat → Nat → Hp → Prop, (∃ m, W 0 m (upd H1 D (.dT []))) ∧ ∀ i m H, W i m H →
  (J.stop i H ∧ Q (.ref D) H) ∨ (J.go i H ∧ ∃ Nx : Hp → Prop, (∀ H', Nx H' → ∃ m', m' < m ∧ W (i + 1) m' H') ∧ ∀ x H', J.yld i H x H' → g x (wipe σ vs) H' fun σ2 H2 => wipe σ2 vs = wipe σ vs ∧ tt σ2 H2 fun t H3 =>
    if t = true then tk σ2 H3 fun y H4 => tv σ2 H4 fun z H5 => ∃ b kvs k, y = .ref b ∧ H5 b = some (.tup (k.map kV)) ∧ H5 D = some (.dT kvs) ∧ kvs.length < sizeLine ∧ Nx (upd H5 D (.dT (putK kvs k z))) else Nx H3)
theorem dcT_core {pins : List (Addr × Obj)} {s0 : Shared} {σ : L2.St} {H0 : Hp} {Q : VK} {kx vx tg iter : Expr} {ifs : List Expr} {scope : Scope} {own : List (Str × Nat)} {pos pos' : Pos} {wi : TI} {g : TG} {tt : TT} {tk tv : TE} {use : Option (Value → Sem Unit)} {Qf : Value → Shared → Prop}
    (room : X.A.units + 64 < cLine) (calm : X.calm = true) (nd : X.N.Nodup) (I0 : Inv X pins σ H0 s0) (pi : PI X tg iter wi) (ok : BlkOk X.N X.env.scope scope own)
    (pgs : ∀ (s : Shared) (H : Hp) (C : Addr) (cl : List (Str × Addr)) (fp : List Addr), PG (X.blk s H scope (compEnvC scope cl C X.env) fp) tg g) (pts : ∀ (s : Shared) (H : Hp) (C : Addr) (cl : List (Str × Addr)) (fp : List Addr), PTs (X.blk s H scope (compEnvC scope cl C X.env) fp) ifs tt)
    (pks : ∀ (s : Shared) (H : Hp) (C : Addr) (cl : List (Str × Addr)) (fp : List Addr), PE (X.blk s H scope (compEnvC scope cl C X.env) fp) kx tk) (pvs : ∀ (s : Shared) (H : Hp) (C : Addr) (cl : List (Str × Addr)) (fp : List Addr), PE (X.blk s H scope (compEnvC scope cl C X.env) fp) vx tv)
    (fold : ∀ x, foldedSetIterable iter X.env x = pure x) (rd : tDcT wi g tt tk tv (own.map (·.2)) σ H0 Q)
    (post : ∀ D C t ns G, Inv X pins σ G t → Q (.ref D) G → t.heap.Ns C ns → FpOk X pins G C → compPost (model X.prog X.w) X.A X.xe use Qf (.ref D) C (.ok .next) t) :
    wpAny (model X.prog X.w) X.A (comprehension (.DictComp kx vx [⟨tg, iter, ifs, 0⟩] scope pos) scope X.env pos' newDict false (eval iter X.env) use) Qf X.xe s0 := by
  have isFree : ∀ y ∈ scope.names, y.2 = .free → ∃ c, X.env.cells.lookup y.1 = some c := fun y hy ey => (ok.free y hy ey).elim (fun z => I0.ok.has _ (.inl z)) fun z => I0.ok.has _ (.inr z)
  refine wpAny_comprehension_free (use := use) rfl fold (closure_ok isFree) ok.kind (fun y hy ey => (ok.uniq y hy).trans (congrArg some ey)) (thn (pi.run pins s0 σ H0 _ I0 rd) fun _ sa ha => thn ha fun _ sb hb => ?_)
  obtain ⟨it, fp, tn, J, Hb, rfl, Ib, Tn, tn0, fb, q⟩ := hb
  refine wpAny_newObj_type (newEnv_comp ?_)
  have free0 : Hb sb.heap.objs.size = none := Ib.hok.fresh (Nat.le_refl _)
  obtain ⟨W, ⟨m0, w0⟩, turn⟩ := q _ free0
  -- with the dict, empty
  obtain ⟨sc, esc⟩ : ∃ z : Shared, z = { sb with heap := sb.heap.push { cls := .type "dict", data := .dict #[] } } := ⟨_, rfl⟩
  obtain ⟨Hc, eHc⟩ : ∃ z : Hp, z = upd Hb sb.heap.objs.size (.dT []) := ⟨_, rfl⟩
  have Ic : Inv X pins σ Hc sc := by
    rw [esc, eHc]
    exact Ib.laid (t' := sb.toks) (fun b o z => Heap.get?_push_of_some _ z) (Nat.le_refl _) (dt_empty sb.heap Ib.big)
  have up : ∀ b o, sb.heap.get? b = some o → sc.heap.get? b = some o := fun b o z => by
    rw [esc]
    exact Heap.get?_push_of_some _ z
  have below : ∀ b ∈ fp, b < sb.heap.objs.size := fun b hb => let ⟨_, z, _⟩ := Tn.obj _ _ tn0 b hb; Heap.lt_size z
  have fc : ∀ b ∈ fp, FpOk X pins Hc b ∧ b < sc.heap.objs.size := fun b hb => by
    obtain ⟨o, z, _⟩ := Tn.obj _ _ tn0 b hb
    refine ⟨⟨?_, (fb b hb).2⟩, Heap.lt_size (up b o z)⟩
    rw [eHc, upd_ne (Nat.ne_of_lt (below b hb))]
    exact (fb b hb).1
  have tnc : tn 0 sc.heap := Tn.keep _ _ _ tn0 fun b _ o z => up b o z
  have Ie := block_start Ic ok nd fc
  obtain ⟨cells, ecl⟩ : ∃ z, z = cellsFrom (sc.heap.objs.size + 1) scope.names (cloFrom X.env.cells scope.names []) := ⟨_, rfl⟩
  have pg := pgs sc Hc sc.heap.objs.size cells fp
  have pt := pts sc Hc sc.heap.objs.size cells fp
  have pk := pks sc Hc sc.heap.objs.size cells fp
  have pv := pvs sc Hc sc.heap.objs.size cells fp
  rw [← ecl] at Ie
  rw [← esc]
  show codeAny _ _ (.compStart _ 0 (.ref it) (.ref sb.heap.objs.size) (compEnvC scope (cellsFrom (sc.heap.objs.size + 1) scope.names (cloFrom X.env.cells scope.names [])) sc.heap.objs.size X.env)) (compPost _ _ X.xe use Qf (.ref sb.heap.objs.size) sc.heap.objs.size) _
  rw [← ecl]
  have loc : (compEnvC scope cells sc.heap.objs.size X.env).locals = sc.heap.objs.size := rfl
  rw [← eHc] at w0
  have empty : ∀ b ∈ fp, Hc b = none := fun b hb => (fc b hb).1.1
  obtain ⟨sd, esd⟩ : ∃ z : Shared, z = { sc with heap := pushCells (sc.heap.push { cls := .type "dict", data := .dict #[] }) scope.names } := ⟨_, rfl⟩
  have tnd : tn 0 sd.heap := Tn.keep _ _ _ tnc fun b _ o z => by
    rw [esd]
    exact pushCells_keeps _ _ _ _ (Heap.get?_push_of_some _ z)
  rw [← esd] at Ie ⊢
  generalize compEnvC scope cells sc.heap.objs.size X.env = ce at Ie pg pt pk pv loc ⊢
  -- the iterator's own objects in the block
  have own_ok : ∀ {ρ : L2.St} {G : Hp} {t : Shared}, Inv (X.blk sc Hc scope ce fp) [] ρ G t → (∀ b ∈ fp, G b = none) → ∀ b ∈ fp, FpOk (X.blk sc Hc scope ce fp) [] G b := fun {ρ G t} J hn b hb =>
    ⟨hn b hb, (J.ok.exf b hb).1, J.ok.exfs b hb, .inl hb, fun y c z => (J.ok.exf b hb).2 y c z, fun p hp => (nomatch hp)⟩
  have run : codeAny (model X.prog X.w) X.A (.compLoop (.DictComp kx vx [⟨tg, iter, ifs, 0⟩] scope pos) 0 (.ref it) (.ref sb.heap.objs.size) ce) (compPost (model X.prog X.w) X.A X.xe use Qf (.ref sb.heap.objs.size) sc.heap.objs.size) sd := by
    refine compLoop_anyD (fun m t => ∃ i G, Inv (X.blk sc Hc scope ce fp) [] (wipe σ (own.map (·.2))) G t ∧ tn i t.heap ∧ (∀ b ∈ fp, G b = none) ∧ W i m G) ?_ m0 ⟨0, Hc, Ie, tnd, empty, w0⟩
    rintro m t ⟨i, G, J, tni, none_, wi_⟩
    rcases turn i m G wi_ with ⟨stop, fin⟩ | ⟨go, Nx, less, step⟩
    · refine thnF (Tn.done (X.blk sc Hc scope ce fp) rfl rfl rfl calm i [] t _ G (fun _ _ => False) J (own_ok J none_) tni stop) fun r t2 ⟨er, J2⟩ => ?_
      subst er
      have back : Inv X pins σ G t2 := Ic.call' (ch := fp) J2.os J2.base J2.hok J2.bare fun b hb => ⟨(fc b hb).1.2.2.2.1, (fc b hb).1.2.1, (fc b hb).1.2.2.2.2.1, (fc b hb).1.2.2.2.2.2⟩
      have noC : G sc.heap.objs.size = none := by
        have z : G ce.locals = none := J2.free
        rwa [loc] at z
      obtain ⟨ns, isNs, _⟩ := J2.loc
      have isNs' : t2.heap.Ns ce.locals ns := isNs
      rw [loc] at isNs'
      exact post _ _ t2 ns G back fin isNs' (Ic.fpOk (Nat.le_refl _) noC)
    · refine thnF (Tn.item (X.blk sc Hc scope ce fp) rfl rfl rfl calm i [] t _ G (fun _ _ => False) J (own_ok J none_) tni go) fun r t2 ⟨u, er, h2⟩ => ?_
      subst er
      refine thnF h2 fun _ t3 ⟨x, G3, J3, r3, y3, tn3, none3⟩ => ?_
      have K3 := J3.pinned (own_ok J3 none3) (Tn.obj _ _ tn3)
      refine thnF (pg.run _ t3 _ G3 x u _ K3 r3 (step x G3 y3)) fun _ t4 ⟨ρ4, G4, J4, same4, q4⟩ => ?_
      refine thnF (pt.run _ t4 ρ4 G4 _ J4 q4) fun yes t5 ⟨G5, J5, q5⟩ => ?_
      have next : ∀ {t' : Shared} {G' : Hp}, Inv (X.blk sc Hc scope ce fp) ([] ++ pinsAt fp t3.heap) ρ4 G' t' → Nx G' → ∃ m', m' < m ∧ ∃ i G, Inv (X.blk sc Hc scope ce fp) [] (wipe σ (own.map (·.2))) G t' ∧ tn i t'.heap ∧ (∀ b ∈ fp, G b = none) ∧ W i m' G := fun {t' G'} J' nx => by
        obtain ⟨m', lt, w'⟩ := less G' nx
        have held : ∀ b ∈ fp, ∀ o, t3.heap.get? b = some o → t'.heap.get? b = some o ∧ G' b = none := fun b hb o z =>
          have p := J'.pin (b, o) (List.mem_append_right _ (List.mem_append_right _ (mem_pinsAt hb z)))
          ⟨p.1, p.2.1⟩
        have len : (wipe σ (own.map (·.2))).length = ρ4.length := by rw [← same4, wipe_length]
        refine ⟨m', lt, i + 1, G', (J'.unpinned (pins := [])).weak len (fun j v z => ?_), Tn.keep _ _ _ tn3 fun b hb o z => (held b hb o z).1, fun b hb => ?_, w'⟩
        · rw [← same4] at z
          exact (wipe_some z).1
        · obtain ⟨o, z, _⟩ := Tn.obj _ _ tn3 b hb
          exact (held b hb o z).2
      cases yes with
      | false =>
        simp only [Bool.false_eq_true, if_false] at q5 ⊢
        exact next J5 q5
      | true =>
        simp only [if_true] at q5 ⊢
        refine thnF (pk.run _ t5 ρ4 G5 _ J5 q5) fun ku t6 ⟨yk, G6, J6, r6, q6⟩ => thnF (pv.run _ t6 ρ4 G6 _ J6 q6) fun vu t7 ⟨yv, G7, J7, r7, b, kvs, k, ek, at_b, at_d, few, nx⟩ => ?_
        subst ek
        exact set_tup (X := X.blk sc Hc scope ce fp) (show X.A.units + 1 < cLine by omega) J7 at_d few at_b r6 r7 fun t8 J8 => next J8 nx
  exact codeAny_compStart_dict run (Tn.self X.A 0 _ _ _ tnd run)
/-- as a value -/
theorem pe_dcT {kx vx tg iter : Expr} {ifs : List Expr} {scope : Scope} {own : List (Str × Nat)} {pos : Pos} {wi : TI} {g : TG} {tt : TT} {tk tv : TE} (room : X.A.units + 64 < cLine) (calm : X.calm = true) (nd : X.N.Nodup) (pi : PI X tg iter wi) (ok : BlkOk X.N X.env.scope scope own)
    (pgs : ∀ (s : Shared) (H : Hp) (C : Addr) (cl : List (Str × Addr)) (fp : List Addr), PG (X.blk s H scope (compEnvC scope cl C X.env) fp) tg g) (pts : ∀ (s : Shared) (H : Hp) (C : Addr) (cl : List (Str × Addr)) (fp : List Addr), PTs (X.blk s H scope (compEnvC scope cl C X.env) fp) ifs tt)
    (pks : ∀ (s : Shared) (H : Hp) (C : Addr) (cl : List (Str × Addr)) (fp : List Addr), PE (X.blk s H scope (compEnvC scope cl C X.env) fp) kx tk) (pvs : ∀ (s : Shared) (H : Hp) (C : Addr) (cl : List (Str × Addr)) (fp : List Addr), PE (X.blk s H scope (compEnvC scope cl C X.env) fp) vx tv)
    (fold : ∀ x, foldedSetIterable iter X.env x = pure x := by intro _; rfl) : PE X (.DictComp kx vx [⟨tg, iter, ifs, 0⟩] scope pos) (tDcT wi g tt tk tv (own.map (·.2))) := by
  refine ⟨fun pins s0 σ H0 Q I0 rd => ?_⟩
  rw [arm_eval_DictComp]
  refine dcT_core room calm nd I0 pi ok pgs pts pks pvs fold rd fun D C t ns G J fin isNs ⟨f0, f1, f2, f3, f4, f5⟩ => ⟨ns, isNs, fun h2 sb2 => ⟨.ref D, G, J.turned (t' := t.toks) (fun b o ne z => (sb2.2 b ne).trans z) f0 f1 f3 f4 f5, rfl, fin⟩⟩
/-- name = {..} on one line, the name a local -/
theorem ps_setDcT {i : Nat} {y : Str} {py : Pos} {kx vx tg iter : Expr} {ifs : List Expr} {scope : Scope} {own : List (Str × Nat)} {pos spos : Pos} {wi : TI} {g : TG} {tt : TT} {tk tv : TE} (room : X.A.units + 64 < cLine) (calm : X.calm = true) (nd : X.N.Nodup) (at_y : X.N[i]? = some y) (loc : X.env.scope.names.lookup y = some .local)
    (sw : swapsWith (.DictComp kx vx [⟨tg, iter, ifs, 0⟩] scope pos) (some (.Name y py)) spos.line X.env = pure true) (pi : PI X tg iter wi) (ok : BlkOk X.N X.env.scope scope own)
    (pgs : ∀ (s : Shared) (H : Hp) (C : Addr) (cl : List (Str × Addr)) (fp : List Addr), PG (X.blk s H scope (compEnvC scope cl C X.env) fp) tg g) (pts : ∀ (s : Shared) (H : Hp) (C : Addr) (cl : List (Str × Addr)) (fp : List Addr), PTs (X.blk s H scope (compEnvC scope cl C X.env) fp) ifs tt)
    (pks : ∀ (s : Shared) (H : Hp) (C : Addr) (cl : List (Str × Addr)) (fp : List Addr), PE (X.blk s H scope (compEnvC scope cl C X.env) fp) kx tk) (pvs : ∀ (s : Shared) (H : Hp) (C : Addr) (cl : List (Str × Addr)) (fp : List Addr), PE (X.blk s H scope (compEnvC scope cl C X.env) fp) vx tv)
    (fold : ∀ x, foldedSetIterable iter X.env x = pure x := by intro _; rfl) : PS X (.Assign [.Name y py] (.DictComp kx vx [⟨tg, iter, ifs, 0⟩] scope pos) spos) (tAsg (tDcT wi g tt tk tv (own.map (·.2))) (gName i)) := by
  refine ⟨fun pins s0 σ H0 D I0 rd => ?_⟩
  rw [exec_Assign_Name_used _ _ _ _ sw]
  refine wpAny_bind (wpAny_standAt (wpAny_bind ?_))
  show wpAny _ X.A (do let _ ← comprehension (.DictComp kx vx [⟨tg, iter, ifs, 0⟩] scope pos) scope X.env (firstIterPos [⟨tg, iter, ifs, 0⟩] pos) newDict false (eval iter X.env) (some (assign (.Name y py) X.env))) _ _ s0
  have rd' : tDcT wi g tt tk tv (own.map (·.2)) σ H0 (fun x G => gName i x σ G D.nx) := rd
  refine wpAny_bind (thn (dcT_core (Qf := fun _ t => SP X pins D .next t) room calm nd I0 pi ok pgs pts pks pvs fold rd' fun L C t ns G J fin isNs fo => ?_) fun _ _ z => wpAny_pure (wpAny_pure z))
  obtain ⟨f0, f1, f2, f3, f4, f5⟩ := fo
  show wpAny _ _ (assign (.Name y py) X.env (.ref L)) _ _ _
  refine wpAny_assign_Name (store_ok2 (v := V.ref L) J nd at_y (.inl loc) rfl (fun t2 J2 ⟨c, sb, hc⟩ => ?_) (.inr loc))
  have ne : C ≠ c := hc.elim (fun z => z ▸ f1) fun z e => f4 y c z e.symm
  exact ⟨ns, isNs.sameBut sb ne, fun h3 sb3 => ⟨_, G, J2.turned (t' := t2.toks) (fun b o hb e => (sb3.2 b hb).trans e) f0 f1 f3 f4 f5, fin⟩⟩
theorem sw_dict {kx vx : Expr} {gs : List Comprehension} {scope : Scope} {pos py : Pos} {y : Str} {l : Nat} {env : Env} (fn : env.scope.kind = .function) (loc : env.scope.names.lookup y = some .local) (row : (py.line == pos.line) = true)
    (other : (scope.names.any fun (n, k) => n == y && (k == .local || k == .cell)) = false) : swapsWith (.DictComp kx vx gs scope pos) (some (.Name y py)) l env = pure true := by
  have k1 : env.kindOf y = some .local := loc
  have k2 : env.blockKind = .function := by
    unfold Env.blockKind
    rw [fn]
    rfl
  unfold swapsWith
  simp only [k1, k2, other, Expr.pos, row]
  rfl
end
end DcT

/-! sorted(d), the keys of d tuples of ints, of any number. -/
namespace SortR
open PySem PySem.Spec PyProof.Rows L2 PySem.W
theorem enc_alikeT (p q : Addr × List Int) : alike (PyData.tuple (p.2.map .int)) (PyData.tuple (q.2.map .int)) = true := by
  simp only [alike]
  exact alike_ints p.2 q.2
theorem le_tuples : dataLe false (fun b : Addr × List Int => PyData.tuple (b.2.map .int)) = rowLe := by
  have e : dataLe false (fun b : Addr × List Int => PyData.tuple (b.2.map .int)) = dataLe false (fun b : Addr × List Int => PyData.list (b.2.map .int)) := by
    funext p q
    simp only [dataLe_eq, dataLt_tuple, dataLt_list]
  rw [e]
  exact dataLe_rows (fun b : Addr × List Int => b.2)
/-- the keys' tuples, in the dict's sequence -/
theorem key_rows {H : Hp} : ∀ {kvs : List (List L2.Key × V)} {ks : List (List L2.Key × Addr × Value)} {bs : List (List Int)},
    Paired (fun (p : List L2.Key × V) (q : List L2.Key × Addr × Value) => p.1 = q.1 ∧ H q.2.1 = some (.tup (p.1.map kV)) ∧ RelV p.2 q.2.2) kvs ks → kvs.map (·.1) = bs.map (fun ns => ns.map Sum.inl) →
    ∃ as : List (Addr × List Int), as.map (·.1) = ks.map (·.2.1) ∧ as.map (·.2) = bs ∧ ∀ b ∈ as, H b.1 = some (.tup (b.2.map V.int))
  | _, _, [], .nil, _ => ⟨[], rfl, rfl, fun _ m => nomatch m⟩
  | _, _, n :: bs, .cons (a := p) (b := q) h t, e => by
    rw [List.map_cons, List.map_cons] at e
    obtain ⟨e1, e2⟩ := List.cons.inj e
    obtain ⟨as, f1, f2, f3⟩ := key_rows t e2
    refine ⟨(q.2.1, n) :: as, by rw [List.map_cons, List.map_cons, f1], by rw [List.map_cons, f2], fun b m => ?_⟩
    rcases List.mem_cons.mp m with z | z
    · rw [z]
      have g := h.2.1
      rw [e1, List.map_map] at g
      exact g
    · exact f3 b z
  | _, _, [], .cons _ _, e => by cases e
  | _, _, _ :: _, .nil, e => by cases e
section
variable {X : Cx}
theorem call_sortedDT (hu : X.A.units + 64 < cLine) (calm : X.calm = true) : CallR X (.builtin "sorted") (fun xs H Q => ∃ (d : Addr) (kvs : List (List L2.Key × V)) (bs : List (List Int)), xs = [V.ref d] ∧ H d = some (.dT kvs) ∧ kvs.map (·.1) = bs.map (fun ns => ns.map Sum.inl) ∧ (∀ k ∈ bs, k ≠ []) ∧
    ∀ as : List (Addr × List Int), as.map (·.2) = bs → (∀ b ∈ as, H b.1 = some (.tup (b.2.map V.int))) → ∀ p, H p = none → Q (.ref p) (upd H p (.lst ((as.mergeSort rowLe).map fun b => V.ref b.1)))) := by
  intro pins s σ H xs us Q I r h
  obtain ⟨d, kvs, bs, rfl, hd, hk, hne, q⟩ := h
  obtain ⟨u, rfl, ru⟩ := vals1 r
  obtain rfl : u = Value.ref d := ru
  obtain ⟨z, hs, ks, pr, o, es, ep, ho, hx, hdt, he, hn⟩ := (show ObjOk X.prog X.w H s.heap d (.dT kvs) from I.hok d _ hd)
  obtain ⟨as, a1, a2, a3⟩ := key_rows pr hk
  have l0 : es.size = ks.length := size_of_entries he
  have l1 : kvs.length = ks.length := Paired.length pr
  have l2 : as.length = ks.length := by rw [← List.length_map (f := (·.1)), a1, List.length_map]
  have fits : ks.length ≤ sizeLine := l1 ▸ z
  refine Calls.call_function_entry PyProof.Rows.kind_sorted PyProof.Rows.plain_sorted PyProof.Rows.entry_sorted (PyProof.Rows.args_sorted1 _) ?_
  unfold Builtin.«sorted»
  refine wpAny_bind (m := checkCount "sorted" 1 1 _) (wpAny_pure (wpAny_bind (kdu_collect (A := X.A.in1) (kdl_raw hs hx hdt) (I.ok.hd calm) ho (l0 ▸ fits) fun h1 tk acc keep it => ?_)))
  have ea : acc.toList = as.map fun b => Value.ref b.1 := by
    have e1 : acc.toList = ks.map fun x => Value.ref x.2.1 := by
      have len : acc.toList.length = ks.length := by rw [Array.length_toList, it.1, l0]
      refine List.ext_getElem (by rw [List.length_map, len]) fun j j1 j2 => ?_
      obtain ⟨en, hen, hv⟩ := it.2 j acc.toList[j] (by rw [← Array.getElem?_toList, List.getElem?_eq_getElem j1])
      have at_j := entry_at he j
      rw [hen, List.getElem?_eq_getElem (len ▸ j1)] at at_j
      have e2 : en = entryOfKey (tupleKind (mixKind X.prog X.w)) (ks[j]'(len ▸ j1)) := Option.some.inj at_j
      rw [hv, e2, List.getElem_map]
      rfl
    rw [e1]
    have e3 := congrArg (List.map Value.ref) a1
    rw [List.map_map, List.map_map] at e3
    exact e3.symm
  have len : acc.toList.length = as.length := by rw [ea, List.length_map]
  have I1 : Inv X pins σ H { s with heap := h1, toks := tk } := I.kept keep
  refine wpAny_bind (wpAny_newList ?_ (by rw [len, l2]; exact fits))
  have at_p : (h1.push (seqObj "list" acc.toList.toArray 0)).get? h1.objs.size = some (seqObj "list" acc.toList.toArray 0) := Heap.get?_push_size _ rfl
  have old : ∀ b u, h1.get? b = some u → b ≠ h1.objs.size ∧ (h1.push (seqObj "list" acc.toList.toArray 0)).get? b = some u := fun b u e => ⟨Nat.ne_of_lt (Heap.lt_size e), Heap.get?_push_of_some _ e⟩
  have each : EachIs (fun v (b : Addr × List Int) => v = Value.ref b.1 ∧ True) acc.toList as := by
    have vr : Vals (as.map fun b => V.ref b.1) acc.toList := by
      rw [ea]
      clear ea a1 a2 a3 l2 len q it
      induction as with
      | nil => exact .nil
      | cons b as ih => exact .cons rfl ih
    exact vals_each (h := s.heap) (K := X.K) (H := H) (P := fun _ => True) vr fun _ _ => trivial
  obtain ⟨hS, ehS⟩ : ∃ z, z = sortingHeap (h1.push (seqObj "list" acc.toList.toArray 0)) h1.objs.size acc.toList := ⟨_, rfl⟩
  have reads : EachIs (fun v (b : Addr × List Int) => ∃ rs, Reads hS v (PyData.tuple (b.2.map .int)) rs) acc.toList as := by
    have each2 : EachIs (fun v (b : Addr × List Int) => v = Value.ref b.1 ∧ H b.1 = some (.tup (b.2.map V.int))) acc.toList as := by
      have vr : Vals (as.map fun b => V.ref b.1) acc.toList := each_back each
      exact vals_each (h := s.heap) (K := X.K) (H := H) vr a3
    refine each_mono each2 fun v b ⟨ev, hb⟩ => ?_
    rw [ev]
    obtain ⟨rs, rr⟩ := Dp.reads I1 (PyData.tuple (b.2.map .int)) (.ref b.1) (.ref b.1) (.tup (SqT.of hb) (rows_dp b.2)) rfl
    refine ⟨rs, PyProof.Rows.Reads.keeps (fun c u e => ?_) rr⟩
    rw [ehS]
    obtain ⟨n1, n2⟩ := old c u e
    exact sortingHeap_old n1 n2
  have alikeAll_ : AllAlike (as.map fun b => PyData.tuple (b.2.map .int)) := AllAlike.of enc_alikeT
  have sortable : Sortable (as.map fun b => PyData.tuple (b.2.map .int)) := .inl fun dd hm => by
    obtain ⟨b, hb, rfl⟩ := List.mem_map.mp hm
    have mem : b.2 ∈ bs := a2 ▸ List.mem_map.mpr ⟨b, hb, rfl⟩
    cases e : b.2 with
    | nil => exact absurd e (hne _ mem)
    | cons x l => exact ⟨_, _, rfl⟩
  have shallow : ∀ dd ∈ as.map (fun b => PyData.tuple (b.2.map .int)), dd.depth = 1 := fun dd hm => by
    obtain ⟨b, _, rfl⟩ := List.mem_map.mp hm
    simp only [PyData.depth, depth_ints]
  show wpAny _ _ _ _ _ { s with heap := h1.push (seqObj "list" acc.toList.toArray 0), toks := tk }
  have sorts : ∀ Ar : Around, Ar.units ≤ X.A.units + 8 → SortsAt X.prog X.w Ar { s with heap := hS, toks := tk } (dataKind hS (as.map fun b => PyData.tuple (b.2.map .int))) acc.toList := fun Ar hA =>
    SortsAt.data (s := { s with heap := hS, toks := tk }) (each_map (R := fun v dd => ∃ rs, Reads hS v dd rs) (fun b : Addr × List Int => PyData.tuple (b.2.map .int)) reads) alikeAll_ sortable fun dd hm => by rw [shallow dd hm]; omega
  rw [ehS] at sorts reads
  have each3 := sortVals_data (R := fun v (b : Addr × List Int) => v = Value.ref b.1 ∧ True) (enc := fun b : Addr × List Int => PyData.tuple (b.2.map .int)) false each reads alikeAll_
  rw [le_tuples] at each3
  have back := each_back each3
  have short : ((as.mergeSort rowLe).map fun b => V.ref b.1).length ≤ sizeLine := by
    rw [List.length_map, List.length_mergeSort, l2]
    exact fits
  refine wpAny_bind (wpAny_holding (wpAny_call_entry PyProof.Rows.slot_list_sort ⟨_, at_p, rfl⟩ PyProof.Rows.entry_list_sort
    (list_sort_vals (s := { s with heap := h1.push (seqObj "list" acc.toList.toArray 0), toks := tk }) at_p (sorts _ (by show X.A.units + 1 + 1 ≤ X.A.units + 8; omega)) (by rw [len, l2]; exact fits) ⟨_, rfl, ?_⟩) (PyProof.Rows.args_list_sort _)))
  obtain ⟨n2, at2⟩ := PyProof.Rows.sortedHeap_at (vs := acc.toList) (out := (sortVals (dataKind (sortingHeap (h1.push (seqObj "list" acc.toList.toArray 0)) h1.objs.size acc.toList) (as.map fun b => PyData.tuple (b.2.map .int))) false acc.toList acc.toList).toArray) at_p
  refine wpAny_pure ⟨_, rfl, .ref h1.objs.size, upd H h1.objs.size (.lst ((as.mergeSort rowLe).map fun b => V.ref b.1)), I1.laid (t' := tk) (fun b u e => ?_) (Nat.le_refl _) ⟨short, _, n2, back, at2⟩, rfl, q as a2 a3 _ (I1.hok.fresh (Nat.le_refl _))⟩
  obtain ⟨n1, g⟩ := old b u e
  rw [PyProof.Rows.sortedHeap_old n1 (Heap.lt_size g)]
  exact g
end
end SortR

/-! Comprehensions with a test, and dict comprehensions, by the value of each turn. -/
namespace LcM
open PySem PySem.Spec PyProof.Rows L2
/-- what is kept -/
def kept (p : Nat → Bool) (F : Nat → V) (n : Nat) : List V := ((List.range n).filter p).map F
theorem kept_yes {p : Nat → Bool} {F : Nat → V} {n : Nat} (h : p n = true) : kept p F (n + 1) = kept p F n ++ [F n] := by
  unfold kept
  rw [List.range_succ, List.filter_append, List.map_append, List.filter_cons_of_pos h]
  rfl
theorem kept_no {p : Nat → Bool} {F : Nat → V} {n : Nat} (h : p n = false) : kept p F (n + 1) = kept p F n := by
  unfold kept
  rw [List.range_succ, List.filter_append, List.map_append, List.filter_cons_of_neg (by rw [h]; exact Bool.false_ne_true)]
  exact List.append_nil _
theorem kept_le (p : Nat → Bool) (F : Nat → V) (n : Nat) : (kept p F n).length ≤ n := by
  unfold kept
  rw [List.length_map]
  exact Nat.le_trans (List.length_filter_le _ _) (Nat.le_of_eq List.length_range)
section
variable {K : PySem.W.Frag} {a : Addr} {xs : List V} {g : TG} {tt : TT} {te tk tv : TE} {vs : List Nat} {σ : L2.St} {H0 : Hp} {D : Addr} {Qd : Hp → Prop}
theorem lc_listT (p : Nat → Bool) (F : Nat → V) (hD : H0 D = none) (hx : SqL K H0 a xs) (small : xs.length ≤ 1000000)
    (turn : ∀ (i : Nat) (x : V) (H : Hp) (Ry : V → Hp → Prop) (Rn : Hp → Prop), xs[i]? = some x → Grows H0 H → (p i = true → ∀ H4, Grows H H4 → Ry (F i) H4) → (p i = false → ∀ H4, Grows H H4 → Rn H4) →
      g x (wipe σ vs) H fun σ2 H2 => wipe σ2 vs = wipe σ vs ∧ tt σ2 H2 fun t H3 => if t = true then te σ2 H3 Ry else Rn H3)
    (done : ∀ H, Grows H0 H → H D = some (.lst (kept p F xs.length)) → Qd H) :
    ∃ W : Nat → Nat → Hp → Prop, (∃ m, W 0 m (upd H0 D (.lst []))) ∧ ∀ i m H, W i m H →
      ((Itl K a).stop i H ∧ Qd H) ∨ ((Itl K a).go i H ∧ ∃ Nx : Hp → Prop, (∀ H', Nx H' → ∃ m', m' < m ∧ W (i + 1) m' H') ∧ ∀ x H', (Itl K a).yld i H x H' → g x (wipe σ vs) H' fun σ2 H2 => wipe σ2 vs = wipe σ vs ∧ tt σ2 H2 fun b H3 =>
        if b = true then te σ2 H3 fun y H4 => ∃ acc, H4 D = some (.lst acc) ∧ acc.length < sizeLine ∧ Nx (upd H4 D (.lst (acc ++ [y]))) else Nx H3) := by
  refine lc_list (fun i H => Grows H0 H ∧ H D = some (.lst (kept p F i))) ⟨Grows.new hD, upd_same⟩ (fun i H _ m => m.1.seq hx) (fun i x H ex m => ?_) fun H m => done H m.1 m.2
  have il := Nat.lt_of_lt_of_le (List.getElem?_eq_some_iff.mp ex).1 small
  refine turn i x H _ _ ex m.1 (fun hp H4 s => ⟨_, s _ _ m.2, ?_, fun b o e => ?_, ?_⟩) fun hp H4 s => ⟨m.1.trans s, ?_⟩
  · exact Nat.lt_of_le_of_lt (kept_le p F i) (Nat.lt_trans il (by decide))
  · rw [upd_ne (ne_of_none e hD)]
    exact s _ _ (m.1 _ _ e)
  · rw [upd_same, kept_yes hp]
  · rw [kept_no hp]
    exact s _ _ m.2
/-- a dict's entries, laid one after another -/
def laid {κ : Type} [DecidableEq κ] (p : Nat → Bool) (G : Nat → κ) (F : Nat → V) : Nat → List (κ × V)
  | 0 => []
  | n + 1 => if p n = true then putK (laid p G F n) (G n) (F n) else laid p G F n
theorem laid_le {κ : Type} [DecidableEq κ] (p : Nat → Bool) (G : Nat → κ) (F : Nat → V) : ∀ n, (laid p G F n).length ≤ n
  | 0 => Nat.le_refl _
  | n + 1 => by
    have ih := laid_le p G F n
    unfold laid
    by_cases h : p n = true
    · rw [if_pos h]
      exact Nat.le_trans (length_putK _ _ _) (Nat.succ_le_succ ih)
    · rw [if_neg h]
      exact Nat.le_succ_of_le ih
/-- over enumerate, keys ints or texts, no test -/
theorem dc_enumM (G : Nat → L2.Key) (F : Nat → V) (hD : H0 D = none) (hx : SqL K H0 a xs) (small : xs.length ≤ 1000000)
    (turn : ∀ (i : Nat) (x : V) (T : Addr) (H : Hp) (R : V → Hp → V → Hp → Prop), xs[i]? = some x → Grows H0 H → H T = none → (∀ H4 H5, Grows (upd H T (.tup [.int (i : Nat), x])) H4 → Grows H4 H5 → R (kV (G i)) H4 (F i) H5) →
      g (.ref T) (wipe σ vs) (upd H T (.tup [.int (i : Nat), x])) fun σ2 H2 => wipe σ2 vs = wipe σ vs ∧ tk σ2 H2 fun y H4 => tv σ2 H4 fun z H5 => R y H4 z H5)
    (done : ∀ H, Grows H0 H → H D = some (.dK (laid (fun _ => true) G F xs.length)) → Qd H) :
    ∃ W : Nat → Nat → Hp → Prop, (∃ m, W 0 m (upd H0 D (.dK []))) ∧ ∀ i m H, W i m H →
      ((Ite K a).stop i H ∧ Qd H) ∨ ((Ite K a).go i H ∧ ∃ Nx : Hp → Prop, (∀ H', Nx H' → ∃ m', m' < m ∧ W (i + 1) m' H') ∧ ∀ x H', (Ite K a).yld i H x H' → g x (wipe σ vs) H' fun σ2 H2 => wipe σ2 vs = wipe σ vs ∧ tYes σ2 H2 fun b H3 =>
        if b = true then tk σ2 H3 fun y H4 => tv σ2 H4 fun z H5 => ∃ kvs k, y = kV k ∧ H5 D = some (.dK kvs) ∧ kvs.length < sizeLine ∧ Nx (upd H5 D (.dK (putK kvs k z))) else Nx H3) := by
  let inv : Nat → Hp → Prop := fun i H => Grows H0 H ∧ H D = some (.dK (laid (fun _ => true) G F i))
  refine ⟨fun i m H => m = xs.length - i ∧ i ≤ xs.length ∧ inv i H, ⟨_, rfl, Nat.zero_le _, Grows.new hD, upd_same⟩, ?_⟩
  rintro i m H ⟨rfl, hi, pv⟩
  rcases Nat.lt_or_ge i xs.length with lt | ge
  · have ex : xs[i]? = some xs[i] := List.getElem?_eq_getElem lt
    refine .inr ⟨⟨xs, _, pv.1.seq hx, ex⟩, inv (i + 1), fun H' p' => ⟨xs.length - (i + 1), by omega, rfl, lt, p'⟩, fun v H' y => ?_⟩
    obtain ⟨T, x, rfl, hT, rfl, f1⟩ := y
    have e0 : (fun (σ2 : L2.St) (H2 : Hp) => wipe σ2 vs = wipe σ vs ∧ tYes σ2 H2 fun b H3 => if b = true then tk σ2 H3 fun y H4 => tv σ2 H4 fun z H5 => ∃ kvs k, y = kV k ∧ H5 D = some (.dK kvs) ∧ kvs.length < sizeLine ∧ inv (i + 1) (upd H5 D (.dK (putK kvs k z))) else inv (i + 1) H3) =
        fun σ2 H2 => wipe σ2 vs = wipe σ vs ∧ tk σ2 H2 fun y H4 => tv σ2 H4 fun z H5 => ∃ kvs k, y = kV k ∧ H5 D = some (.dK kvs) ∧ kvs.length < sizeLine ∧ inv (i + 1) (upd H5 D (.dK (putK kvs k z))) := by
      funext σ2 H2
      unfold tYes
      dsimp only
      rw [if_pos rfl]
    rw [e0]
    refine turn i x T H (fun y _ z H5 => ∃ kvs k, y = kV k ∧ H5 D = some (.dK kvs) ∧ kvs.length < sizeLine ∧ inv (i + 1) (upd H5 D (.dK (putK kvs k z)))) (f1 xs (pv.1.seq hx)) pv.1 hT fun H4 H5 s4 s5 => ⟨_, G i, rfl, s5 _ _ (s4 _ _ (Grows.new hT _ _ pv.2)), ?_, fun b o e => ?_, ?_⟩
    · exact Nat.lt_of_le_of_lt (laid_le _ G F i) (Nat.lt_of_lt_of_le lt (Nat.le_trans small (by decide)))
    · rw [upd_ne (ne_of_none e hD)]
      exact s5 _ _ (s4 _ _ (Grows.new hT _ _ (pv.1 _ _ e)))
    · rw [upd_same]
      rfl
  · have e : i = xs.length := by omega
    subst e
    exact .inl ⟨⟨xs, pv.1.seq hx, Nat.le_refl _⟩, done H pv.1 pv.2⟩
/-- over a list, the keys tuples, with a test -/
theorem dc_listTT (p : Nat → Bool) (G : Nat → List L2.Key) (F : Nat → V) (hD : H0 D = none) (hx : SqL K H0 a xs) (small : xs.length ≤ 1000000)
    (turn : ∀ (i : Nat) (x : V) (H : Hp) (R : V → V → Hp → Prop) (Rn : Hp → Prop), xs[i]? = some x → Grows H0 H → (p i = true → ∀ b H5, Grows H H5 → H5 b = some (.tup ((G i).map kV)) → R (.ref b) (F i) H5) → (p i = false → ∀ H4, Grows H H4 → Rn H4) →
      g x (wipe σ vs) H fun σ2 H2 => wipe σ2 vs = wipe σ vs ∧ tt σ2 H2 fun t H3 => if t = true then tk σ2 H3 fun y H4 => tv σ2 H4 fun z H5 => R y z H5 else Rn H3)
    (done : ∀ H, Grows H0 H → H D = some (.dT (laid p G F xs.length)) → Qd H) :
    ∃ W : Nat → Nat → Hp → Prop, (∃ m, W 0 m (upd H0 D (.dT []))) ∧ ∀ i m H, W i m H →
      ((Itl K a).stop i H ∧ Qd H) ∨ ((Itl K a).go i H ∧ ∃ Nx : Hp → Prop, (∀ H', Nx H' → ∃ m', m' < m ∧ W (i + 1) m' H') ∧ ∀ x H', (Itl K a).yld i H x H' → g x (wipe σ vs) H' fun σ2 H2 => wipe σ2 vs = wipe σ vs ∧ tt σ2 H2 fun t H3 =>
        if t = true then tk σ2 H3 fun y H4 => tv σ2 H4 fun z H5 => ∃ b kvs k, y = .ref b ∧ H5 b = some (.tup (k.map kV)) ∧ H5 D = some (.dT kvs) ∧ kvs.length < sizeLine ∧ Nx (upd H5 D (.dT (putK kvs k z))) else Nx H3) := by
  let inv : Nat → Hp → Prop := fun i H => Grows H0 H ∧ H D = some (.dT (laid p G F i))
  refine ⟨fun i m H => m = xs.length - i ∧ i ≤ xs.length ∧ inv i H, ⟨_, rfl, Nat.zero_le _, Grows.new hD, upd_same⟩, ?_⟩
  rintro i m H ⟨rfl, hi, pv⟩
  rcases Nat.lt_or_ge i xs.length with lt | ge
  · have ex : xs[i]? = some xs[i] := List.getElem?_eq_getElem lt
    refine .inr ⟨⟨xs, _, pv.1.seq hx, ex⟩, inv (i + 1), fun H' p' => ⟨xs.length - (i + 1), by omega, rfl, lt, p'⟩, fun v H' y => ?_⟩
    obtain ⟨rfl, y⟩ := y
    refine turn i v _ (fun y z H5 => ∃ b kvs k, y = .ref b ∧ H5 b = some (.tup (k.map kV)) ∧ H5 D = some (.dT kvs) ∧ kvs.length < sizeLine ∧ inv (i + 1) (upd H5 D (.dT (putK kvs k z)))) (inv (i + 1)) (y xs (pv.1.seq hx)) pv.1 (fun hp b H5 s5 hb => ⟨b, _, G i, rfl, hb, s5 _ _ pv.2, ?_, fun c o e => ?_, ?_⟩) fun hp H4 s4 => ⟨pv.1.trans s4, ?_⟩
    · exact Nat.lt_of_le_of_lt (laid_le _ G F i) (Nat.lt_of_lt_of_le lt (Nat.le_trans small (by decide)))
    · rw [upd_ne (ne_of_none e hD)]
      exact s5 _ _ (pv.1 _ _ e)
    · rw [upd_same]
      show _ = some (HO.dT (if p i = true then _ else _))
      rw [if_pos hp]
    · rw [s4 _ _ pv.2]
      show _ = some (HO.dT (if p i = true then _ else _))
      rw [if_neg (by rw [hp]; exact Bool.false_ne_true)]
  · have e : i = xs.length := by omega
    subst e
    exact .inl ⟨⟨xs, pv.1.seq hx, Nat.le_refl _⟩, done H pv.1 pv.2⟩
end
end LcM

/-! A comprehension that makes new lists of ints. -/
namespace LcM
open PySem PySem.Spec PyProof.Rows L2
/-- new lists of ints -/
structure Nw (H0 H : Hp) (cs : List (Addr × List Int)) : Prop where
  lists : ∀ c ∈ cs, H c.1 = some (.lst (c.2.map V.int))
  new : ∀ c ∈ cs, H0 c.1 = none
  nodup : (cs.map (·.1)).Nodup
theorem Nw.keep {H0 H H' : Hp} {cs : List (Addr × List Int)} (n : Nw H0 H cs) (s : Grows H H') : Nw H0 H' cs := ⟨fun c m => s _ _ (n.lists c m), n.new, n.nodup⟩
section
variable {K : PySem.W.Frag} {a : Addr} {xs : List V} {g : TG} {te : TE} {vs : List Nat} {σ : L2.St} {H0 : Hp} {D : Addr} {Qd : Hp → Prop}
theorem lc_listR (R : Nat → List Int) (hD : H0 D = none) (hx : SqL K H0 a xs) (small : xs.length ≤ 1000000)
    (turn : ∀ (i : Nat) (x : V) (H : Hp) (Rk : V → Hp → Prop), xs[i]? = some x → Grows H0 H → (∀ q H4, Grows H H4 → H q = none → H4 q = some (.lst ((R i).map V.int)) → Rk (.ref q) H4) → g x (wipe σ vs) H fun σ2 H2 => wipe σ2 vs = wipe σ vs ∧ te σ2 H2 Rk)
    (done : ∀ H cs, Grows H0 H → cs.map (·.2) = (List.range xs.length).map R → Nw H0 H cs → (∀ c ∈ cs, c.1 ≠ D) → H D = some (.lst (cs.map fun c => V.ref c.1)) → Qd H) :
    ∃ W : Nat → Nat → Hp → Prop, (∃ m, W 0 m (upd H0 D (.lst []))) ∧ ∀ i m H, W i m H →
      ((Itl K a).stop i H ∧ Qd H) ∨ ((Itl K a).go i H ∧ ∃ Nx : Hp → Prop, (∀ H', Nx H' → ∃ m', m' < m ∧ W (i + 1) m' H') ∧ ∀ x H', (Itl K a).yld i H x H' → g x (wipe σ vs) H' fun σ2 H2 => wipe σ2 vs = wipe σ vs ∧ tYes σ2 H2 fun b H3 =>
        if b = true then te σ2 H3 fun y H4 => ∃ acc, H4 D = some (.lst acc) ∧ acc.length < sizeLine ∧ Nx (upd H4 D (.lst (acc ++ [y]))) else Nx H3) := by
  refine lc_list (fun i H => ∃ cs : List (Addr × List Int), Grows H0 H ∧ cs.map (·.2) = (List.range i).map R ∧ Nw H0 H cs ∧ (∀ c ∈ cs, c.1 ≠ D) ∧ H D = some (.lst (cs.map fun c => V.ref c.1)))
    ⟨[], Grows.new hD, rfl, ⟨(fun _ m => nomatch m), (fun _ m => nomatch m), List.Pairwise.nil⟩, (fun _ m => nomatch m), upd_same⟩ (fun i H _ ⟨_, s, _⟩ => s.seq hx) (fun i x H ex ⟨cs, s, e, n, apart, top⟩ => ?_) fun H ⟨cs, s, e, n, apart, top⟩ => done H cs s e n apart top
  rw [yes_eq (A := fun σ2 => wipe σ2 vs = wipe σ vs)]
  refine turn i x H _ ex s fun q H4 s4 hq at_q => ?_
  have il := Nat.lt_of_lt_of_le (List.getElem?_eq_some_iff.mp ex).1 small
  have len : cs.length = i := by
    have := congrArg List.length e
    rw [List.length_map, List.length_map, List.length_range] at this
    exact this
  have qD : q ≠ D := fun z => by
    rw [z, top] at hq
    cases hq
  have all : Grows H0 (upd H4 D (.lst (cs.map (fun c => V.ref c.1) ++ [.ref q]))) := fun b o eb => by
    rw [upd_ne (ne_of_none eb hD)]
    exact s4 _ _ (s _ _ eb)
  have q0 : H0 q = none := by
    rcases Option.eq_none_or_eq_some (H0 q) with z | ⟨o, z⟩
    · exact z
    · have := s _ _ z
      rw [hq] at this
      cases this
  refine ⟨_, s4 _ _ top, ?_, cs ++ [(q, R i)], all, ?_, ⟨?_, ?_, ?_⟩, ?_, ?_⟩
  · rw [List.length_map, len]
    exact Nat.lt_trans il (by decide)
  · rw [List.map_append, e, List.range_succ, List.map_append]
    rfl
  · intro c m
    rcases List.mem_append.mp m with m | m
    · rw [upd_ne (apart c m)]
      exact s4 _ _ (n.lists c m)
    · rw [List.mem_singleton.mp m, upd_ne qD]
      exact at_q
  · intro c m
    rcases List.mem_append.mp m with m | m
    · exact n.new c m
    · rw [List.mem_singleton.mp m]
      exact q0
  · rw [List.map_append, List.nodup_append]
    refine ⟨n.nodup, List.nodup_cons.mpr ⟨(fun z => nomatch z), List.Pairwise.nil⟩, fun b mb d md => ?_⟩
    obtain ⟨c, mc, rfl⟩ := List.mem_map.mp mb
    have ed : d = q := by simpa using md
    rw [ed]
    intro z
    have := n.lists c mc
    rw [z, hq] at this
    cases this
  · intro c m
    rcases List.mem_append.mp m with m | m
    · exact apart c m
    · rw [List.mem_singleton.mp m]
      exact qD
  · rw [upd_same, List.map_append]
    rfl
end
end LcM

/-! Rules with their readings named by K, for use within comprehensions. -/
namespace LcM
open PySem PySem.Spec PyProof.Rows L2
def rLenS (K : PySem.W.Frag) : List V → Hp → VK → Prop := fun xs H Q => ∃ p ys, xs = [.ref p] ∧ (SqL K H p ys ∨ SqT K H p ys) ∧ Q (.int ys.length) H
def rLst (K : PySem.W.Frag) : List V → Hp → VK → Prop := fun xs H Q => ∃ p ys, xs = [.ref p] ∧ (SqL K H p ys ∨ SqT K H p ys) ∧ ∀ l, H l = none → Q (.ref l) (upd H l (.lst ys))
def rTup (K : PySem.W.Frag) : List V → Hp → VK → Prop := fun xs H Q => ∃ p ys, xs = [.ref p] ∧ SqL K H p ys ∧ ∀ t, H t = none → Q (.ref t) (upd H t (.tup ys))
section
variable {X : Cx}
theorem call_lenK : CallR X (.builtin "len") (rLenS X.K) := fun pins s σ H xs us Q I r ⟨p, ys, e, h, q⟩ => call_len_seq pins s σ H xs us Q I r ⟨p, ys, e, h, q⟩
theorem call_lstK : CallR X (.type "list") (rLst X.K) := fun pins s σ H xs us Q I r ⟨p, ys, e, h, q⟩ => call_list_of pins s σ H xs us Q I r ⟨p, ys, e, h, q⟩
theorem call_tupK : CallR X (.type "tuple") (rTup X.K) := fun pins s σ H xs us Q I r ⟨p, ys, e, h, q⟩ => call_tuple_of pins s σ H xs us Q I r ⟨p, ys, e, .inl ⟨h, q⟩⟩
end
end LcM

/-! What cut gives, on lists of lists of ints. -/
namespace LcM
open PySem PySem.Spec PyProof.Rows L2 SortR
/-- the last place of x among the first n -/
def plcN (ns : List Int) (x : Int) : Nat → Option Nat
  | 0 => none
  | n + 1 => if ns.getD n 0 = x then some n else plcN ns x n
def plc (ns : List Int) (x : Int) : Option Nat := plcN ns x ns.length
theorem valV_laid (ns : List Int) (x : Int) : ∀ n, valV (laid (fun _ => true) (fun i => (Sum.inl (ns.getD i 0) : L2.Key)) (fun i => V.int (i : Nat)) n) (Sum.inl x) = (plcN ns x n).map fun j => V.int (j : Nat)
  | 0 => rfl
  | n + 1 => by
    have ih := valV_laid ns x n
    unfold laid plcN
    rw [if_pos rfl, valV_put]
    by_cases e : ns.getD n 0 = x
    · rw [if_pos e, if_pos (by rw [e])]
      rfl
    · rw [if_neg e, if_neg (fun z => e (Sum.inl.inj z).symm)]
      exact ih
/-- a group's persons who stay, by their places -/
def meet (ns r : List Int) : List Int := ((List.range r.length).filter fun i => (plc ns (r.getD i 0)).isSome).map fun i => (((plc ns (r.getD i 0)).getD 0 : Nat) : Int)
def two (m : List Int) : Bool := decide (2 ≤ (m.length : Int))
/-- unlike rows, in the sequence in which they come first -/
def firsts (p : Nat → Bool) (M : Nat → List Int) : Nat → List (List Int)
  | 0 => []
  | n + 1 => if p n = true then (if M n ∈ firsts p M n then firsts p M n else firsts p M n ++ [M n]) else firsts p M n
theorem put_keys {κ : Type} [DecidableEq κ] (kvs : List (κ × V)) (k : κ) (v : V) : (putK kvs k v).map (·.1) = if k ∈ kvs.map (·.1) then kvs.map (·.1) else kvs.map (·.1) ++ [k] := by
  unfold putK
  by_cases h : (kvs.any fun kv => decide (kv.1 = k)) = true
  · rw [if_pos h]
    obtain ⟨kv, hm, e⟩ := List.any_eq_true.mp h
    rw [if_pos (List.mem_map.mpr ⟨kv, hm, of_decide_eq_true e⟩), List.map_map]
    refine List.map_congr_left fun q _ => ?_
    show (if q.1 = k then (q.1, v) else q).1 = q.1
    split <;> rfl
  · rw [if_neg h, if_neg fun z => ?_, List.map_append]
    · rfl
    · obtain ⟨kv, hm, e⟩ := List.mem_map.mp z
      exact h (List.any_eq_true.mpr ⟨kv, hm, decide_eq_true e⟩)
theorem inl_inj {m n : List Int} (h : (m.map Sum.inl : List L2.Key) = n.map Sum.inl) : m = n := by
  induction m generalizing n with
  | nil =>
    cases n with
    | nil => rfl
    | cons _ _ => cases h
  | cons x m ih =>
    cases n with
    | nil => cases h
    | cons y n =>
      rw [List.map_cons, List.map_cons] at h
      obtain ⟨h1, h2⟩ := List.cons.inj h
      rw [Sum.inl.inj h1, ih h2]
theorem keys_laid (p : Nat → Bool) (M : Nat → List Int) (F : Nat → V) : ∀ n, (laid p (fun i => ((M i).map Sum.inl : List L2.Key)) F n).map (·.1) = (firsts p M n).map fun m => m.map Sum.inl
  | 0 => rfl
  | n + 1 => by
    have ih := keys_laid p M F n
    unfold laid firsts
    by_cases h : p n = true
    · rw [if_pos h, if_pos h, put_keys, ih]
      by_cases m : M n ∈ firsts p M n
      · rw [if_pos m, if_pos (List.mem_map.mpr ⟨_, m, rfl⟩)]
      · rw [if_neg m, if_neg fun z => ?_, List.map_append]
        · rfl
        · obtain ⟨r, hr, e⟩ := List.mem_map.mp z
          rw [inl_inj e] at hr
          exact m hr
    · rw [if_neg h, if_neg h]
      exact ih
theorem firsts_of (p : Nat → Bool) (M : Nat → List Int) : ∀ n, ∀ r ∈ firsts p M n, ∃ i, i < n ∧ p i = true ∧ r = M i
  | 0, _, h => nomatch h
  | n + 1, r, h => by
    have ih := firsts_of p M n r
    unfold firsts at h
    have old : r ∈ firsts p M n → ∃ i, i < n + 1 ∧ p i = true ∧ r = M i := fun z => let ⟨i, a, b, c⟩ := ih z; ⟨i, Nat.lt_succ_of_lt a, b, c⟩
    by_cases hp : p n = true
    · rw [if_pos hp] at h
      split at h
      · exact old h
      · rcases List.mem_append.mp h with z | z
        · exact old z
        · exact ⟨n, Nat.lt_succ_self n, hp, List.mem_singleton.mp z⟩
    · rw [if_neg hp] at h
      exact old h
theorem firsts_le (p : Nat → Bool) (M : Nat → List Int) : ∀ n, (firsts p M n).length ≤ n
  | 0 => Nat.le_refl _
  | n + 1 => by
    have ih := firsts_le p M n
    unfold firsts
    split
    · split
      · omega
      · rw [List.length_append, List.length_singleton]
        omega
    · omega
def cutR (rs : List (List Int)) (ns : List Int) : List (List Int) := (firsts (fun i => two (meet ns (rs.getD i []))) (fun i => meet ns (rs.getD i [])) rs.length).mergeSort fun p q => decide (p ≤ q)
theorem sort_rows (as : List (Addr × List Int)) : (as.mergeSort rowLe).map (·.2) = (as.map (·.2)).mergeSort fun p q => decide (p ≤ q) := List.map_mergeSort fun _ _ _ _ => rfl
end LcM

/-! Lists of ints and lists of such, as data. -/
namespace LcM
open PySem PySem.Spec PyProof.Rows L2 SortR
theorem eqvAll_ints : ∀ ns ms : List Int, PyData.eqvAll (ns.map .int) (ms.map .int) = decide (ns = ms)
  | [], [] => by
    simp only [List.map_nil, PyData.eqvAll]
    exact (decide_eq_true (rfl : ([] : List Int) = [])).symm
  | x :: ns, y :: ms => by
    rw [List.map_cons, List.map_cons, PyData.eqvAll, eqvAll_ints ns ms, PyData.eqv]
    by_cases e : x = y
    · rw [e, beq_self_eq_true, Bool.true_and]
      by_cases e2 : ns = ms
      · rw [decide_eq_true e2, decide_eq_true (by rw [e2])]
      · rw [decide_eq_false e2, decide_eq_false fun z => e2 (List.cons.inj z).2]
    · rw [beq_eq_false_iff_ne.mpr e, Bool.false_and, decide_eq_false fun z => e (List.cons.inj z).1]
  | [], _ :: _ => by
    rw [List.map_nil, List.map_cons, PyData.eqvAll]
    exact (decide_eq_false fun z => nomatch z).symm
  | _ :: _, [] => by
    rw [List.map_nil, List.map_cons, PyData.eqvAll]
    exact (decide_eq_false fun z => nomatch z).symm
theorem eqv_ints (ns ms : List Int) : PyData.eqv (PyData.list (ns.map .int)) (PyData.list (ms.map .int)) = decide (ns = ms) := by
  rw [PyData.eqv]
  exact eqvAll_ints ns ms
theorem eqvAll_rows : ∀ rs qs : List (List Int), PyData.eqvAll (rs.map fun r => .list (r.map .int)) (qs.map fun r => .list (r.map .int)) = decide (rs = qs)
  | [], [] => by
    simp only [List.map_nil, PyData.eqvAll]
    exact (decide_eq_true (rfl : ([] : List (List Int)) = [])).symm
  | x :: ns, y :: ms => by
    rw [List.map_cons, List.map_cons, PyData.eqvAll, eqvAll_rows ns ms, eqv_ints]
    by_cases e : x = y
    · rw [decide_eq_true e, Bool.true_and]
      by_cases e2 : ns = ms
      · rw [decide_eq_true e2, decide_eq_true (by rw [e, e2])]
      · rw [decide_eq_false e2, decide_eq_false fun z => e2 (List.cons.inj z).2]
    · rw [decide_eq_false e, Bool.false_and, decide_eq_false fun z => e (List.cons.inj z).1]
  | [], _ :: _ => by
    rw [List.map_nil, List.map_cons, PyData.eqvAll]
    exact (decide_eq_false fun z => nomatch z).symm
  | _ :: _, [] => by
    rw [List.map_nil, List.map_cons, PyData.eqvAll]
    exact (decide_eq_false fun z => nomatch z).symm
theorem eqv_rows (rs qs : List (List Int)) : PyData.eqv (PyData.list (rs.map fun r => .list (r.map .int))) (PyData.list (qs.map fun r => .list (r.map .int))) = decide (rs = qs) := by
  rw [PyData.eqv]
  exact eqvAll_rows rs qs
theorem lay_ints : ∀ ns : List Int, PyData.canLayAll0 (ns.map .int) = true
  | [] => by simp only [List.map_nil, PyData.canLayAll0]
  | n :: ns => by simp only [List.map_cons, PyData.canLayAll0, PyData.canLay0, lay_ints ns, Bool.and_self]
theorem lay_rows : ∀ rs : List (List Int), PyData.canLayAll0 (rs.map fun r => .list (r.map .int)) = true
  | [] => by simp only [List.map_nil, PyData.canLayAll0]
  | r :: rs => by simp only [List.map_cons, PyData.canLayAll0, PyData.canLay0, lay_ints r, lay_rows rs, Bool.and_self]
theorem depth_rows : ∀ rs : List (List Int), PyData.depthAll (rs.map fun r => .list (r.map .int)) ≤ 1
  | [] => by simp only [List.map_nil, PyData.depthAll]; omega
  | r :: rs => by
    have := depth_rows rs
    simp only [List.map_cons, PyData.depthAll, PyData.depth, PySem.W.depth_ints]
    omega
theorem shaped_ints (ns : List Int) : SeqAt.shaped (PyData.list (ns.map .int)) = true := by
  unfold SeqAt.shaped
  simp only [PyData.canLay0, lay_ints, PyData.depth, PySem.W.depth_ints]
  decide
theorem shaped_rows (rs : List (List Int)) : SeqAt.shaped (PyData.list (rs.map fun r => .list (r.map .int))) = true := by
  have d := depth_rows rs
  have e : (PyData.list (rs.map fun r => .list (r.map .int))).depth ≤ 64 := by
    simp only [PyData.depth]
    omega
  unfold SeqAt.shaped
  rw [decide_eq_true e, Bool.and_true]
  simp only [PyData.canLay0, lay_rows]
/-- lists of lists as data -/
theorem rows_data {K : PySem.W.Frag} {H : Hp} : ∀ {bs : List (Addr × List Int)}, (∀ b ∈ bs, SqL K H b.1 (b.2.map V.int)) → DpAll K H (bs.map fun b => V.ref b.1) ((bs.map (·.2)).map fun r => .list (r.map .int))
  | [], _ => .nil
  | b :: bs, h => .cons (.lst (h b List.mem_cons_self) (rows_dp b.2)) (rows_data fun c m => h c (List.mem_cons_of_mem _ m))
end LcM

/-! sorted(xs), xs ints, THE sorted list. -/
namespace SortR
open PySem PySem.Spec PyProof.Rows L2 PySem.W
def intLe (p q : Int) : Bool := decide (p ≤ q)
theorem ints_each {h : Heap} : ∀ {ns : List Int} {us : List Value}, Vals (ns.map V.int) us → EachIs (fun v (n : Int) => ∃ t, v = Value.int n t) us ns
  | [], _, .nil => .nil
  | _ :: _, _, .cons h1 h2 => .cons h1 (ints_each (h := h) h2)
theorem each_ints : ∀ {us : List Value} {ns : List Int}, EachIs (fun v (n : Int) => ∃ t, v = Value.int n t) us ns → Vals (ns.map V.int) us
  | _, _, .nil => .nil
  | _, _, .cons h t => .cons h (each_ints t)
section
variable {X : Cx}
theorem call_sortedInts (hu : X.A.units + 64 < cLine) : CallR X (.builtin "sorted") (fun xs H Q => ∃ (a : Addr) (ns : List Int), xs = [V.ref a] ∧ SqL X.K H a (ns.map V.int) ∧ ∀ p, H p = none → Q (.ref p) (upd H p (.lst ((ns.mergeSort intLe).map V.int)))) := by
  intro pins s σ H xs us Q I r h
  obtain ⟨a, ns, rfl, hs, q⟩ := h
  obtain ⟨u, rfl, ru⟩ := vals1 r
  obtain rfl : u = Value.ref a := ru
  obtain ⟨its, rv, hl, hz⟩ := I.list hs
  have each := ints_each (h := s.heap) rv
  have len : its.length = ns.length := by rw [← rv.length, List.length_map]
  have reads : EachIs (fun v (n : Int) => ∃ as, Reads s.heap v (PyData.int n) as) its ns := each_mono each fun v n ⟨t, e⟩ => by
    rw [e]
    exact ⟨_, Reads.int n t⟩
  have le : dataLe false (fun n : Int => PyData.int n) = intLe := dataLe_int fun n : Int => n
  refine sorted_data (enc := fun n : Int => PyData.int n) hl.isList each reads (AllAlike.of fun p q => by simp only [alike]) (Sortable.others fun b => ⟨(fun z => nomatch z), fun xs z => nomatch z⟩) (by rw [List.length_map] at hz; exact hz) (fun b _ => by
    have d : (PyData.int b).depth = 0 := by simp only [PyData.depth]
    rw [d]
    omega) fun out ho each3 => ?_
  rw [le] at each3
  have back := each_ints each3
  obtain ⟨n, hn⟩ := sortedAll_at s.heap its out.toArray
  refine ⟨.ref (s.heap.objs.size + 1), upd H (s.heap.objs.size + 1) (.lst ((ns.mergeSort intLe).map V.int)), I.laid (t' := s.toks) (fun b o e => sortedAll_old e) (Nat.le_succ _) ⟨?_, out, n, back, hn⟩, rfl, q _ (I.hok.fresh (Nat.le_succ _))⟩
  rw [List.length_map, List.length_mergeSort]
  rw [List.length_map] at hz
  exact hz
end
end SortR

/-! Comprehensions over a tuple or a list, each turn's value by a relation that lasts. -/
namespace LcM
open PySem PySem.Spec PyProof.Rows L2
/-- so far -/
structure Mx (H0 : Hp) (D : Addr) (Rel : Nat → V → Hp → Prop) (i : Nat) (H : Hp) (ys : List V) : Prop where
  grow : Grows H0 H
  top : H D = some (.lst ys)
  len : ys.length = i
  rel : ∀ j y, ys[j]? = some y → Rel j y H
theorem Mx.more {H0 H H4 : Hp} {D : Addr} {Rel : Nat → V → Hp → Prop} {i : Nat} {ys : List V} {y : V} (last : ∀ j y H H', Grows H H' → Rel j y H → Rel j y H') (free : ∀ j y H zs, Rel j y H → H D = some (.lst zs) → ∀ u, Rel j y (upd H D u)) (hD : H0 D = none) (m : Mx H0 D Rel i H ys) (s : Grows H H4) (r : Rel i y H4) (small : i < 1000000) :
    ∃ acc, H4 D = some (.lst acc) ∧ acc.length < sizeLine ∧ ∃ ys', Mx H0 D Rel (i + 1) (upd H4 D (.lst (acc ++ [y]))) ys' := by
  have at_D := s _ _ m.top
  refine ⟨ys, at_D, ?_, ys ++ [y], fun b o e => ?_, upd_same, ?_, fun j z e => ?_⟩
  · rw [m.len]
    exact Nat.lt_trans small (by decide)
  · rw [upd_ne (ne_of_none e hD)]
    exact s _ _ (m.grow _ _ e)
  · rw [List.length_append, m.len]
    rfl
  · rcases Nat.lt_or_ge j ys.length with l | g
    · rw [List.getElem?_append_left l] at e
      exact free j z H4 _ (last j z H H4 s (m.rel j z e)) at_D _
    · rw [List.getElem?_append_right g] at e
      have zero : j - ys.length = 0 := by
        rcases Nat.eq_zero_or_pos (j - ys.length) with q | q
        · exact q
        · rw [List.getElem?_eq_none (by show 1 ≤ j - ys.length; omega)] at e
          cases e
      rw [zero] at e
      obtain rfl : y = z := Option.some.inj e
      obtain rfl : j = i := by rw [← m.len]; omega
      exact free j y H4 _ r at_D _
section
variable {K : PySem.W.Frag} {a : Addr} {xs : List V} {g : TG} {te : TE} {vs : List Nat} {σ : L2.St} {H0 : Hp} {D : Addr} {Qd : Hp → Prop}
theorem lc_tupX (Rel : Nat → V → Hp → Prop) (last : ∀ j y H H', Grows H H' → Rel j y H → Rel j y H') (free : ∀ j y H zs, Rel j y H → H D = some (.lst zs) → ∀ u, Rel j y (upd H D u)) (hD : H0 D = none) (hx : SqT K H0 a xs) (small : xs.length ≤ 1000000)
    (turn : ∀ (i : Nat) (x : V) (H : Hp) (Rk : V → Hp → Prop), xs[i]? = some x → Grows H0 H → H D ≠ none → (∀ y H4, Grows H H4 → Rel i y H4 → Rk y H4) → g x (wipe σ vs) H fun σ2 H2 => wipe σ2 vs = wipe σ vs ∧ te σ2 H2 Rk)
    (done : ∀ H ys, Mx H0 D Rel xs.length H ys → Qd H) :
    ∃ W : Nat → Nat → Hp → Prop, (∃ m, W 0 m (upd H0 D (.lst []))) ∧ ∀ i m H, W i m H →
      ((Itt K a).stop i H ∧ Qd H) ∨ ((Itt K a).go i H ∧ ∃ Nx : Hp → Prop, (∀ H', Nx H' → ∃ m', m' < m ∧ W (i + 1) m' H') ∧ ∀ x H', (Itt K a).yld i H x H' → g x (wipe σ vs) H' fun σ2 H2 => wipe σ2 vs = wipe σ vs ∧ tYes σ2 H2 fun b H3 =>
        if b = true then te σ2 H3 fun y H4 => ∃ acc, H4 D = some (.lst acc) ∧ acc.length < sizeLine ∧ Nx (upd H4 D (.lst (acc ++ [y]))) else Nx H3) := by
  refine lc_tup (fun i H => ∃ ys, Mx H0 D Rel i H ys) ⟨[], Grows.new hD, upd_same, rfl, fun j y e => by rw [List.getElem?_nil] at e; cases e⟩ (fun i H _ ⟨_, m⟩ => m.grow.tup hx) (fun i x H ex ⟨ys, m⟩ => ?_) fun H ⟨ys, m⟩ => done H ys m
  rw [yes_eq (A := fun σ2 => wipe σ2 vs = wipe σ vs)]
  exact turn i x H _ ex m.grow (by rw [m.top]; exact fun z => nomatch z) fun y H4 s r => m.more last free hD s r (Nat.lt_of_lt_of_le (List.getElem?_eq_some_iff.mp ex).1 small)
theorem lc_listX (Rel : Nat → V → Hp → Prop) (last : ∀ j y H H', Grows H H' → Rel j y H → Rel j y H') (free : ∀ j y H zs, Rel j y H → H D = some (.lst zs) → ∀ u, Rel j y (upd H D u)) (hD : H0 D = none) (hx : SqL K H0 a xs) (small : xs.length ≤ 1000000)
    (turn : ∀ (i : Nat) (x : V) (H : Hp) (Rk : V → Hp → Prop), xs[i]? = some x → Grows H0 H → H D ≠ none → (∀ y H4, Grows H H4 → Rel i y H4 → Rk y H4) → g x (wipe σ vs) H fun σ2 H2 => wipe σ2 vs = wipe σ vs ∧ te σ2 H2 Rk)
    (done : ∀ H ys, Mx H0 D Rel xs.length H ys → Qd H) :
    ∃ W : Nat → Nat → Hp → Prop, (∃ m, W 0 m (upd H0 D (.lst []))) ∧ ∀ i m H, W i m H →
      ((Itl K a).stop i H ∧ Qd H) ∨ ((Itl K a).go i H ∧ ∃ Nx : Hp → Prop, (∀ H', Nx H' → ∃ m', m' < m ∧ W (i + 1) m' H') ∧ ∀ x H', (Itl K a).yld i H x H' → g x (wipe σ vs) H' fun σ2 H2 => wipe σ2 vs = wipe σ vs ∧ tYes σ2 H2 fun b H3 =>
        if b = true then te σ2 H3 fun y H4 => ∃ acc, H4 D = some (.lst acc) ∧ acc.length < sizeLine ∧ Nx (upd H4 D (.lst (acc ++ [y]))) else Nx H3) := by
  refine lc_list (fun i H => ∃ ys, Mx H0 D Rel i H ys) ⟨[], Grows.new hD, upd_same, rfl, fun j y e => by rw [List.getElem?_nil] at e; cases e⟩ (fun i H _ ⟨_, m⟩ => m.grow.seq hx) (fun i x H ex ⟨ys, m⟩ => ?_) fun H ⟨ys, m⟩ => done H ys m
  rw [yes_eq (A := fun σ2 => wipe σ2 vs = wipe σ vs)]
  exact turn i x H _ ex m.grow (by rw [m.top]; exact fun z => nomatch z) fun y H4 s r => m.more last free hD s r (Nat.lt_of_lt_of_le (List.getElem?_eq_some_iff.mp ex).1 small)
/-- a loop over enumerate of a list that stands still -/
theorem for_enumL {tb : TS} {Dn : Ends} (Pv : Nat → L2.St → Hp → Prop) (h0 : Pv 0 σ H0) (hl : ∀ i σ H, Pv i σ H → SqL K H a xs)
    (hs : ∀ (i : Nat) (x : V) (T : Addr) (σ : L2.St) (H : Hp), xs[i]? = some x → Pv i σ H → H T = none → g (.ref T) σ (upd H T (.tup [.int (i : Nat), x])) fun σ2 H2 => tb { Dn with nx := Pv (i + 1), ct := Pv (i + 1), bk := Dn.nx } σ2 H2) (hd : ∀ σ H, Pv xs.length σ H → Dn.nx σ H) :
    ∃ W : Nat → Nat → L2.St → Hp → Prop, (∃ m, W 0 m σ H0) ∧ ∀ i m σ H, W i m σ H →
      ((Ite K a).stop i H ∧ Dn.nx σ H) ∨ ((Ite K a).go i H ∧ ∃ N : L2.St → Hp → Prop, (∀ σ' H', N σ' H' → ∃ m', m' < m ∧ W (i + 1) m' σ' H') ∧ ∀ v H', (Ite K a).yld i H v H' → g v σ H' fun σ2 H2 => tb { Dn with nx := N, ct := N, bk := Dn.nx } σ2 H2) := by
  refine ⟨fun i m σ H => m = xs.length - i ∧ i ≤ xs.length ∧ Pv i σ H, ⟨_, rfl, Nat.zero_le _, h0⟩, ?_⟩
  rintro i m σ H ⟨rfl, hi, pv⟩
  have qx := hl i σ H pv
  rcases Nat.lt_or_ge i xs.length with lt | ge
  · have ex : xs[i]? = some xs[i] := List.getElem?_eq_getElem lt
    refine .inr ⟨⟨xs, _, qx, ex⟩, Pv (i + 1), fun σ' H' p' => ⟨xs.length - (i + 1), by omega, rfl, lt, p'⟩, fun v H' y => ?_⟩
    obtain ⟨T, x', rfl, hT, rfl, f1⟩ := y
    exact hs i x' T σ H (f1 xs qx) pv hT
  · have e : i = xs.length := by omega
    subst e
    exact .inl ⟨⟨xs, qx, Nat.le_refl _⟩, hd σ H pv⟩
end
end LcM

/-! f(k = v, ..): a def called by keywords alone. -/
namespace LcM
open PySem PySem.Spec PyProof.Rows L2
section
variable {X : Cx} {CX : CXT} {k : Nat} {f : Addr} {fd : FuncData} {ps ks : List Str} {sp : Sp} {E : XK} {x : Str} {p pos : Pos} {kws : List Keyword} {tk : TA} {g : List Value → List Value → List Value} {gV : List V → List V → List V}
theorem pe_callKw (F : FnOk X.prog X.w X.K X.mg X.base CX k f fd ps sp) (room : Room k X.A) (hg : Gl X x) (hm : X.mg x = some (.ref f)) (kp : PySem.W.keepIn X.K (.ref f) = true) (bd : KBinds X.K fd ps ks g gV) (ps' : Passes CX X E) (args : PK X kws tk)
    (all : (backToKw pos (keywordEach kws X.env)).all (·.1.isSome) = true := by rfl) (names : (backToKw pos (keywordEach kws X.env)).filterMap (·.1) = ks := by rfl) (hdb : (x == ("__debug__" : Str)) = false := by decide)
    (plain : ((backTo pos (starEach [] X.env)).any (·.1) || (backToKw pos (keywordEach kws X.env)).any (·.1.isNone)) = false := by rfl) :
    PE X (.Call (.Name x p) [] kws pos) (tCallK sp gV E tNil tk) := by
  refine ⟨fun pins s σ H Q I rd => ?_⟩
  refine wpAny_Call_Name_kw (ld_glob I hg hm ?_ hdb)
  refine PySem.W.callWith_KW0 (h₀ := X.base) I.ok.mod.kin kp all (thn (args.run pos pins s σ H _ I rd) fun ws s2 ⟨zs, H2, I2, rz, q2⟩ => ⟨I2.kIn, ?_⟩) plain
  rw [names]
  exact run_fnk (us := []) (vs := []) F room bd ps' I2 .nil rz q2
end
end LcM

/-! Masks of ascending lists, bit by bit. -/
namespace LcM
open PySem
def mk (ns : List Nat) : Nat := (ns.map (2 ^ ·)).sum
theorem mk_cons (x : Nat) (xs : List Nat) : mk (x :: xs) = 2 ^ x + mk xs := by
  unfold mk
  rw [List.map_cons, List.sum_cons]
theorem mk_dvd (y : Nat) : ∀ xs : List Nat, (∀ z ∈ xs, y ≤ z) → 2 ^ y ∣ mk xs
  | [], _ => ⟨0, rfl⟩
  | x :: xs, h => by
    rw [mk_cons]
    exact Nat.dvd_add (Nat.pow_dvd_pow 2 (h x List.mem_cons_self)) (mk_dvd y xs fun z hz => h z (List.mem_cons_of_mem _ hz))
theorem mk_bit : ∀ (xs : List Nat) (i : Nat), xs.Pairwise (· < ·) → (mk xs).testBit i = decide (i ∈ xs)
  | [], i, _ => by
    show Nat.testBit 0 i = _
    rw [Nat.zero_testBit]
    rfl
  | x :: xs, i, h => by
    obtain ⟨h1, h2⟩ := List.pairwise_cons.mp h
    have ih := mk_bit xs i h2
    obtain ⟨k, hk⟩ := mk_dvd (x + 1) xs fun z hz => h1 z hz
    rw [mk_cons, Nat.add_comm, hk, Nat.testBit_two_pow_mul_add k (Nat.pow_lt_pow_right (by decide) (Nat.lt_succ_self x))]
    rw [hk] at ih
    by_cases l : i < x + 1
    · rw [if_pos l, Nat.testBit_two_pow]
      have no : i ∉ xs := fun z => by
        have := h1 i z
        omega
      by_cases e : x = i
      · rw [decide_eq_true e, e, decide_eq_true List.mem_cons_self]
      · rw [decide_eq_false e, decide_eq_false fun z => (List.mem_cons.mp z).elim (fun q => e q.symm) no]
    · rw [if_neg l]
      have z := Nat.testBit_two_pow_mul_add k (b := 0) (i := x + 1) (Nat.two_pow_pos _) i
      rw [if_neg l, Nat.add_zero] at z
      rw [← z, ih]
      have ne : i ≠ x := by omega
      by_cases m : i ∈ xs
      · rw [decide_eq_true m, decide_eq_true (List.mem_cons_of_mem _ m)]
      · rw [decide_eq_false m, decide_eq_false fun q => (List.mem_cons.mp q).elim ne m]
/-- masks of lists that do not cross -/
theorem mk_and {xs ys : List Nat} (hx : xs.Pairwise (· < ·)) (hy : ys.Pairwise (· < ·)) (h : (∀ z ∈ xs, z ∉ ys) ∨ (∀ z ∈ xs, z ∈ ys) ∨ ∀ z ∈ ys, z ∈ xs) : mk xs &&& mk ys = 0 ∨ mk xs &&& mk ys = mk xs ∨ mk xs &&& mk ys = mk ys := by
  have bit : ∀ i, (mk xs &&& mk ys).testBit i = (decide (i ∈ xs) && decide (i ∈ ys)) := fun i => by rw [Nat.testBit_and, mk_bit xs i hx, mk_bit ys i hy]
  rcases h with h | h | h
  · refine .inl (Nat.eq_of_testBit_eq fun i => ?_)
    rw [bit, Nat.zero_testBit]
    by_cases m : i ∈ xs
    · rw [decide_eq_false (h i m), Bool.and_false]
    · rw [decide_eq_false m, Bool.false_and]
  · refine .inr (.inl (Nat.eq_of_testBit_eq fun i => ?_))
    rw [bit, mk_bit xs i hx]
    by_cases m : i ∈ xs
    · rw [decide_eq_true m, decide_eq_true (h i m)]
      rfl
    · rw [decide_eq_false m, Bool.false_and]
  · refine .inr (.inr (Nat.eq_of_testBit_eq fun i => ?_))
    rw [bit, mk_bit ys i hy]
    by_cases m : i ∈ ys
    · rw [decide_eq_true m, decide_eq_true (h i m)]
      rfl
    · rw [decide_eq_false m, Bool.and_false]
end LcM

/-! Data whose text is short. -/
namespace LcM
open PySem PySem.Spec PyProof.Rows L2
structure Brief (n : Nat) (d : PyData) : Prop where
  sh : d.showable = true
  dp : d.depth ≤ 10
  lv : PyData.leavesShort 13 d = true
  wt : d.weight ≤ n
def Smalls (ns : List Int) : Prop := ∀ x ∈ ns, x.natAbs < 10 ^ 12
theorem small_bits {n : Int} (h : n.natAbs < 10 ^ 12) : n.natAbs.log2 < 40 := by
  by_cases z : n.natAbs = 0
  · rw [z]
    decide
  · exact (Nat.log2_lt z).mpr (Nat.lt_trans h (by decide))
theorem show_ints : ∀ ns : List Int, Smalls ns → PyData.showableAll (ns.map .int) = true
  | [], _ => by simp only [List.map_nil, PyData.showableAll]
  | n :: ns, h => by
    have b := small_bits (h n List.mem_cons_self)
    simp only [List.map_cons, PyData.showableAll, PyData.showable, show_ints ns fun x m => h x (List.mem_cons_of_mem _ m), Bool.and_true]
    exact decide_eq_true (by omega)
theorem weight_ints : ∀ ns : List Int, Smalls ns → PyData.weightAll (ns.map .int) ≤ ns.length * 42
  | [], _ => by simp only [List.map_nil, PyData.weightAll]; exact Nat.zero_le _
  | n :: ns, h => by
    have b := small_bits (h n List.mem_cons_self)
    have ih := weight_ints ns fun x m => h x (List.mem_cons_of_mem _ m)
    simp only [List.map_cons, PyData.weightAll, PyData.weight, List.length_cons]
    split <;> omega
theorem brief_ints {ns : List Int} (h : Smalls ns) : Brief (ns.length * 42) (PyData.list (ns.map .int)) := by
  refine ⟨?_, ?_, ?_, ?_⟩
  · simp only [PyData.showable, show_ints ns h]
  · simp only [PyData.depth, PySem.W.depth_ints]
    decide
  · refine PyData.leavesShort_of_canLay0 13 _ ?_ ?_
    · simp only [PyData.canLay0, lay_ints]
    · simp only [PyData.intsShort]
      exact PyData.intsShortAll_ints ns h
  · simp only [PyData.weight]
    exact weight_ints ns h
def rowD (rs : List (List Int)) : List PyData := rs.map fun r => .list (r.map .int)
theorem show_rows : ∀ rs : List (List Int), (∀ r ∈ rs, Smalls r) → PyData.showableAll (rowD rs) = true
  | [], _ => by simp only [rowD, List.map_nil, PyData.showableAll]
  | r :: rs, h => by
    have ih := show_rows rs fun q m => h q (List.mem_cons_of_mem _ m)
    unfold rowD at ih ⊢
    simp only [List.map_cons, PyData.showableAll, PyData.showable, show_ints r (h r List.mem_cons_self), ih, Bool.and_self]
theorem short_rows : ∀ rs : List (List Int), (∀ r ∈ rs, Smalls r) → PyData.intsShortAll 13 (rowD rs) = true
  | [], _ => by simp only [rowD, List.map_nil, PyData.intsShortAll]
  | r :: rs, h => by
    have ih := short_rows rs fun q m => h q (List.mem_cons_of_mem _ m)
    unfold rowD at ih ⊢
    simp only [List.map_cons, PyData.intsShortAll, PyData.intsShort, ih, PyData.intsShortAll_ints r (h r List.mem_cons_self), Bool.and_self]
theorem weight_rows {m : Nat} : ∀ rs : List (List Int), (∀ r ∈ rs, Smalls r ∧ r.length ≤ m) → PyData.weightAll (rowD rs) ≤ rs.length * (m * 42 + 1)
  | [], _ => by simp only [rowD, List.map_nil, PyData.weightAll]; exact Nat.zero_le _
  | r :: rs, h => by
    have ih := weight_rows rs fun q m => h q (List.mem_cons_of_mem _ m)
    have l := (h r List.mem_cons_self).2
    have w := weight_ints r (h r List.mem_cons_self).1
    unfold rowD at ih ⊢
    simp only [List.map_cons, PyData.weightAll, PyData.weight, List.length_cons]
    rw [Nat.add_mul]
    omega
theorem brief_rows {rs : List (List Int)} {m : Nat} (h : ∀ r ∈ rs, Smalls r ∧ r.length ≤ m) : Brief (rs.length * (m * 42 + 1)) (PyData.list (rowD rs)) := by
  refine ⟨?_, ?_, ?_, ?_⟩
  · simp only [PyData.showable, show_rows rs fun r m => (h r m).1]
  · have := depth_rows rs
    unfold rowD
    simp only [PyData.depth]
    omega
  · refine PyData.leavesShort_of_canLay0 13 _ ?_ ?_
    · have := lay_rows rs
      unfold rowD
      simp only [PyData.canLay0, this]
    · simp only [PyData.intsShort]
      exact short_rows rs fun r m => (h r m).1
  · simp only [PyData.weight]
    exact weight_rows rs h
theorem brief_two {a b : PyData} {m n : Nat} (x : Brief m a) (y : Brief n b) (l : m + n ≤ 100000) :
    PyData.showableAll [a, b] = true ∧ PyData.depthAll [a, b] ≤ 40 ∧ (listText (PyData.shownAll [a, b])).length ≤ sizeLine := by
  refine ⟨?_, ?_, ?_⟩
  · simp only [PyData.showableAll, x.sh, y.sh, Bool.and_self]
  · have := x.dp
    have := y.dp
    simp only [PyData.depthAll]
    omega
  · have e : (PyData.list [a, b]).shown = listText (PyData.shownAll [a, b]) := by simp only [PyData.shown]
    rw [← e]
    refine PyData.shown_fits (B := 13) (by decide) (by decide) ?_ ?_
    · simp only [PyData.leavesShort, PyData.leavesShortAll, x.lv, y.lv, Bool.and_self]
    · have := x.wt
      have := y.wt
      simp only [PyData.weight, PyData.weightAll]
      omega
end LcM

/-! {elt for target in iterable if test}, the elements tuples of ints; len of it. -/
namespace SetT
open PySem PySem.Spec PyProof.Rows L2 LcM
section
variable {X : Cx} {pins : List (Addr × Obj)} {σ : L2.St} {H : Hp} {s : Shared}
/-- one tuple is laid by the comprehension -/
theorem put_tup {Er : Value → Shared → Prop} {D b : Addr} {L : List (Addr × List Int)} {k : List Int} {u : Value} {Qu : Value → Shared → Prop} (room : X.A.units + 64 < cLine) (I : Inv X pins σ H s) (at_D : H D = some (SetTO X.prog X.w D L)) (few : L.length + 1 < 64)
    (at_b : SqT X.K H b (k.map V.int)) (each : ∀ p ∈ L, SqT X.K H p.1 (p.2.map V.int)) (ru : RelV (.ref b) u)
    (go : ∀ s' L', (k ∈ L.map (·.2) → L' = L) → (k ∉ L.map (·.2) → L'.Perm ((b, k) :: L)) → Inv X pins σ (upd H D (SetTO X.prog X.w D L')) s' → Qu .none s') :
    wpAny (model X.prog X.w) X.A (call (.builtin "set.add") [.ref D, u]) Qu Er s := by
  obtain rfl : u = Value.ref b := ru
  have R0 : SetT0 X.prog X.w s.heap D L := (I.hok D _ at_D).1
  obtain ⟨es, ep, t, R⟩ := R0.full fun p hp => I.isT (each p hp)
  have hx := I.isT at_b
  obtain ⟨o, ho, hex, hd⟩ := R.ob
  have hT : s.TypeIs (.ref D) "set" := ⟨o, ho, hex.1⟩
  refine wpAny_call_entry PySem.F.slot_set_add hT PySem.F.entry_set_add ?_ (PySem.F.args_set_add_2 _ _)
  unfold Builtin.«set.add»
  unfold Builtin.Frozenset.oneOther
  simp only [List.isEmpty_nil, bind_assoc]
  unfold Builtin.Frozenset.addrOf
  unfold setAdd
  refine wpAny_bind (wpAny_pure ?_)
  try dsimp only
  refine wpAny_bind (wpAny_pure ?_)
  try dsimp only
  refine wpAny_bind (wpAny_holding (wpAny_bind (wpAny_pyHash_tuple (by first | (show X.A.units + 1 < cLine; omega) | (show X.A.units < cLine; omega)) hx ?_)))
  have R1 : SetTR X.prog X.w ({ s with toks := s.toks + (k.length + 1) } : Shared).heap D L es ep t := R
  refine add_at R1 hx (by first | (show X.A.units + 1 < cLine; omega) | (show X.A.units < cLine; omega)) few fun bb h' L' es' ep' t' sb R2 c1 c2 => ?_
  exact wpAny_pure ⟨_, rfl, go _ L' c1 c2 (I.write (e := D) (t' := s.toks + (k.length + 1)) (by rw [at_D]; trivial) (.inl rfl) (fun b u hb hu => (sb.2 b hb).trans hu) ⟨_, R2.ob.choose_spec.1⟩ (setTO_new R2.t0))⟩
end
section
variable {X : Cx}
def tScT (X : Cx) (wi : TI) (g : TG) (tt : TT) (te : TE) (vs : List Nat) : TE := fun σ H Q => wi σ H fun J H1 => ∀ D, H1 D = none → ∃ W : Nat → Nat → Hp → Prop, (∃ m, W 0 m (upd H1 D (SetTO X.prog X.w D []))) ∧ ∀ i m H, W i m H →
  (J.stop i H ∧ Q (.ref D) H) ∨ (J.go i H ∧ ∃ Nx : Hp → Prop, (∀ H', Nx H' → ∃ m', m' < m ∧ W (i + 1) m' H') ∧ ∀ x H', J.yld i H x H' → g x (wipe σ vs) H' fun σ2 H2 => wipe σ2 vs = wipe σ vs ∧ tt σ2 H2 fun t H3 =>
    if t = true then te σ2 H3 fun y H4 => ∃ (b : Addr) (L : List (Addr × List Int)) (k : List Int), y = .ref b ∧ SqT X.K H4 b (k.map V.int) ∧ H4 D = some (SetTO X.prog X.w D L) ∧ (∀ p ∈ L, SqT X.K H4 p.1 (p.2.map V.int)) ∧ L.length + 1 < 64 ∧
      ∀ L', (k ∈ L.map (·.2) → L' = L) → (k ∉ L.map (·.2) → L'.Perm ((b, k) :: L)) → Nx (upd H4 D (SetTO X.prog X.w D L')) else Nx H3)
theorem scT_core {pins : List (Addr × Obj)} {s0 : Shared} {σ : L2.St} {H0 : Hp} {Q : VK} {ex tg iter : Expr} {ifs : List Expr} {scope : Scope} {own : List (Str × Nat)} {pos pos' : Pos} {wi : TI} {g : TG} {tt : TT} {te : TE} {use : Option (Value → Sem Unit)} {Qf : Value → Shared → Prop}
    (room : X.A.units + 64 < cLine) (calm : X.calm = true) (nd : X.N.Nodup) (I0 : Inv X pins σ H0 s0) (pi : PI X tg iter wi) (ok : BlkOk X.N X.env.scope scope own)
    (pgs : ∀ (s : Shared) (H : Hp) (C : Addr) (cl : List (Str × Addr)) (fp : List Addr), PG (X.blk s H scope (compEnvC scope cl C X.env) fp) tg g) (pts : ∀ (s : Shared) (H : Hp) (C : Addr) (cl : List (Str × Addr)) (fp : List Addr), PTs (X.blk s H scope (compEnvC scope cl C X.env) fp) ifs tt)
    (pes : ∀ (s : Shared) (H : Hp) (C : Addr) (cl : List (Str × Addr)) (fp : List Addr), PE (X.blk s H scope (compEnvC scope cl C X.env) fp) ex te)
    (fold : ∀ x, foldedSetIterable iter X.env x = pure x) (rd : tScT X wi g tt te (own.map (·.2)) σ H0 Q)
    (post : ∀ D C t ns G, Inv X pins σ G t → Q (.ref D) G → t.heap.Ns C ns → FpOk X pins G C → compPost (model X.prog X.w) X.A X.xe use Qf (.ref D) C (.ok .next) t) :
    wpAny (model X.prog X.w) X.A (comprehension (.SetComp ex [⟨tg, iter, ifs, 0⟩] scope pos) scope X.env pos' (newSet (.type "set")) false (eval iter X.env) use) Qf X.xe s0 := by
  have isFree : ∀ y ∈ scope.names, y.2 = .free → ∃ c, X.env.cells.lookup y.1 = some c := fun y hy ey => (ok.free y hy ey).elim (fun z => I0.ok.has _ (.inl z)) fun z => I0.ok.has _ (.inr z)
  refine wpAny_comprehension_free (use := use) rfl fold (closure_ok isFree) ok.kind (fun y hy ey => (ok.uniq y hy).trans (congrArg some ey)) (thn (pi.run pins s0 σ H0 _ I0 rd) fun _ sa ha => thn ha fun _ sb hb => ?_)
  obtain ⟨it, fp, tn, J, Hb, rfl, Ib, Tn, tn0, fb, q⟩ := hb
  refine PpSet.newSet_ok (newEnv_comp ?_)
  have free0 : Hb sb.heap.objs.size = none := Ib.hok.fresh (Nat.le_refl _)
  obtain ⟨W, ⟨m0, w0⟩, turn⟩ := q _ free0
  -- with the dict, empty
  obtain ⟨sc, esc⟩ : ∃ z : Shared, z = { sb with heap := sb.heap.push { cls := .type "set", dict := none, data := .set #[] 0 (.fresh 0 0 (!X.w.params.followText "set-order")) } } := ⟨_, rfl⟩
  obtain ⟨Hc, eHc⟩ : ∃ z : Hp, z = upd Hb sb.heap.objs.size (SetTO X.prog X.w sb.heap.objs.size []) := ⟨_, rfl⟩
  have Ic : Inv X pins σ Hc sc := by
    rw [esc, eHc]
    exact Ib.laid (t' := sb.toks) (fun b o z => Heap.get?_push_of_some _ z) (Nat.le_refl _) (setTO_new (setTR_fresh (Heap.get?_push_size _ rfl)).t0)
  have up : ∀ b o, sb.heap.get? b = some o → sc.heap.get? b = some o := fun b o z => by
    rw [esc]
    exact Heap.get?_push_of_some _ z
  have below : ∀ b ∈ fp, b < sb.heap.objs.size := fun b hb => let ⟨_, z, _⟩ := Tn.obj _ _ tn0 b hb; Heap.lt_size z
  have fc : ∀ b ∈ fp, FpOk X pins Hc b ∧ b < sc.heap.objs.size := fun b hb => by
    obtain ⟨o, z, _⟩ := Tn.obj _ _ tn0 b hb
    refine ⟨⟨?_, (fb b hb).2⟩, Heap.lt_size (up b o z)⟩
    rw [eHc, upd_ne (Nat.ne_of_lt (below b hb))]
    exact (fb b hb).1
  have tnc : tn 0 sc.heap := Tn.keep _ _ _ tn0 fun b _ o z => up b o z
  have Ie := block_start Ic ok nd fc
  obtain ⟨cells, ecl⟩ : ∃ z, z = cellsFrom (sc.heap.objs.size + 1) scope.names (cloFrom X.env.cells scope.names []) := ⟨_, rfl⟩
  have pg := pgs sc Hc sc.heap.objs.size cells fp
  have pt := pts sc Hc sc.heap.objs.size cells fp
  have pe := pes sc Hc sc.heap.objs.size cells fp
  rw [← ecl] at Ie
  rw [← esc]
  show codeAny _ _ (.compStart _ 0 (.ref it) (.ref sb.heap.objs.size) (compEnvC scope (cellsFrom (sc.heap.objs.size + 1) scope.names (cloFrom X.env.cells scope.names [])) sc.heap.objs.size X.env)) (compPost _ _ X.xe use Qf (.ref sb.heap.objs.size) sc.heap.objs.size) _
  rw [← ecl]
  have loc : (compEnvC scope cells sc.heap.objs.size X.env).locals = sc.heap.objs.size := rfl
  rw [← eHc] at w0
  have empty : ∀ b ∈ fp, Hc b = none := fun b hb => (fc b hb).1.1
  obtain ⟨sd, esd⟩ : ∃ z : Shared, z = { sc with heap := pushCells (sc.heap.push { cls := .type "dict", data := .dict #[] }) scope.names } := ⟨_, rfl⟩
  have tnd : tn 0 sd.heap := Tn.keep _ _ _ tnc fun b _ o z => by
    rw [esd]
    exact pushCells_keeps _ _ _ _ (Heap.get?_push_of_some _ z)
  rw [← esd] at Ie ⊢
  generalize compEnvC scope cells sc.heap.objs.size X.env = ce at Ie pg pt pe loc ⊢
  -- the iterator's own objects in the block
  have own_ok : ∀ {ρ : L2.St} {G : Hp} {t : Shared}, Inv (X.blk sc Hc scope ce fp) [] ρ G t → (∀ b ∈ fp, G b = none) → ∀ b ∈ fp, FpOk (X.blk sc Hc scope ce fp) [] G b := fun {ρ G t} J hn b hb =>
    ⟨hn b hb, (J.ok.exf b hb).1, J.ok.exfs b hb, .inl hb, fun y c z => (J.ok.exf b hb).2 y c z, fun p hp => (nomatch hp)⟩
  have run : codeAny (model X.prog X.w) X.A (.compLoop (.SetComp ex [⟨tg, iter, ifs, 0⟩] scope pos) 0 (.ref it) (.ref sb.heap.objs.size) ce) (compPost (model X.prog X.w) X.A X.xe use Qf (.ref sb.heap.objs.size) sc.heap.objs.size) sd := by
    refine PpSet.compLoopS_any (fun m t => ∃ i G, Inv (X.blk sc Hc scope ce fp) [] (wipe σ (own.map (·.2))) G t ∧ tn i t.heap ∧ (∀ b ∈ fp, G b = none) ∧ W i m G) ?_ m0 ⟨0, Hc, Ie, tnd, empty, w0⟩
    rintro m t ⟨i, G, J, tni, none_, wi_⟩
    rcases turn i m G wi_ with ⟨stop, fin⟩ | ⟨go, Nx, less, step⟩
    · refine thnF (Tn.done (X.blk sc Hc scope ce fp) rfl rfl rfl calm i [] t _ G (fun _ _ => False) J (own_ok J none_) tni stop) fun r t2 ⟨er, J2⟩ => ?_
      subst er
      have back : Inv X pins σ G t2 := Ic.call' (ch := fp) J2.os J2.base J2.hok J2.bare fun b hb => ⟨(fc b hb).1.2.2.2.1, (fc b hb).1.2.1, (fc b hb).1.2.2.2.2.1, (fc b hb).1.2.2.2.2.2⟩
      have noC : G sc.heap.objs.size = none := by
        have z : G ce.locals = none := J2.free
        rwa [loc] at z
      obtain ⟨ns, isNs, _⟩ := J2.loc
      have isNs' : t2.heap.Ns ce.locals ns := isNs
      rw [loc] at isNs'
      exact post _ _ t2 ns G back fin isNs' (Ic.fpOk (Nat.le_refl _) noC)
    · refine thnF (Tn.item (X.blk sc Hc scope ce fp) rfl rfl rfl calm i [] t _ G (fun _ _ => False) J (own_ok J none_) tni go) fun r t2 ⟨u, er, h2⟩ => ?_
      subst er
      refine thnF h2 fun _ t3 ⟨x, G3, J3, r3, y3, tn3, none3⟩ => ?_
      have K3 := J3.pinned (own_ok J3 none3) (Tn.obj _ _ tn3)
      refine thnF (pg.run _ t3 _ G3 x u _ K3 r3 (step x G3 y3)) fun _ t4 ⟨ρ4, G4, J4, same4, q4⟩ => ?_
      refine thnF (pt.run _ t4 ρ4 G4 _ J4 q4) fun yes t5 ⟨G5, J5, q5⟩ => ?_
      have next : ∀ {t' : Shared} {G' : Hp}, Inv (X.blk sc Hc scope ce fp) ([] ++ pinsAt fp t3.heap) ρ4 G' t' → Nx G' → ∃ m', m' < m ∧ ∃ i G, Inv (X.blk sc Hc scope ce fp) [] (wipe σ (own.map (·.2))) G t' ∧ tn i t'.heap ∧ (∀ b ∈ fp, G b = none) ∧ W i m' G := fun {t' G'} J' nx => by
        obtain ⟨m', lt, w'⟩ := less G' nx
        have held : ∀ b ∈ fp, ∀ o, t3.heap.get? b = some o → t'.heap.get? b = some o ∧ G' b = none := fun b hb o z =>
          have p := J'.pin (b, o) (List.mem_append_right _ (List.mem_append_right _ (mem_pinsAt hb z)))
          ⟨p.1, p.2.1⟩
        have len : (wipe σ (own.map (·.2))).length = ρ4.length := by rw [← same4, wipe_length]
        refine ⟨m', lt, i + 1, G', (J'.unpinned (pins := [])).weak len (fun j v z => ?_), Tn.keep _ _ _ tn3 fun b hb o z => (held b hb o z).1, fun b hb => ?_, w'⟩
        · rw [← same4] at z
          exact (wipe_some z).1
        · obtain ⟨o, z, _⟩ := Tn.obj _ _ tn3 b hb
          exact (held b hb o z).2
      cases yes with
      | false =>
        simp only [Bool.false_eq_true, if_false] at q5 ⊢
        exact next J5 q5
      | true =>
        simp only [if_true] at q5 ⊢
        refine thnF (pe.run _ t5 ρ4 G5 _ J5 q5) fun ku t6 ⟨yk, G6, J6, r6, b, L, k, ek, at_b, at_D, each, few, nx⟩ => ?_
        subst ek
        exact put_tup (X := X.blk sc Hc scope ce fp) room J6 at_D few at_b each r6 fun t7 L' c1 c2 J7 => next J7 (nx L' c1 c2)
  exact PpSet.codeAny_compStart_set run (Tn.self X.A 0 _ _ _ tnd run)
/-- as a value -/
theorem pe_scT {ex tg iter : Expr} {ifs : List Expr} {scope : Scope} {own : List (Str × Nat)} {pos : Pos} {wi : TI} {g : TG} {tt : TT} {te : TE} (room : X.A.units + 64 < cLine) (calm : X.calm = true) (nd : X.N.Nodup) (pi : PI X tg iter wi) (ok : BlkOk X.N X.env.scope scope own)
    (pgs : ∀ (s : Shared) (H : Hp) (C : Addr) (cl : List (Str × Addr)) (fp : List Addr), PG (X.blk s H scope (compEnvC scope cl C X.env) fp) tg g) (pts : ∀ (s : Shared) (H : Hp) (C : Addr) (cl : List (Str × Addr)) (fp : List Addr), PTs (X.blk s H scope (compEnvC scope cl C X.env) fp) ifs tt)
    (pes : ∀ (s : Shared) (H : Hp) (C : Addr) (cl : List (Str × Addr)) (fp : List Addr), PE (X.blk s H scope (compEnvC scope cl C X.env) fp) ex te)
    (fold : ∀ x, foldedSetIterable iter X.env x = pure x := by intro _; rfl) : PE X (.SetComp ex [⟨tg, iter, ifs, 0⟩] scope pos) (tScT X wi g tt te (own.map (·.2))) := by
  refine ⟨fun pins s0 σ H0 Q I0 rd => ?_⟩
  rw [PpSet.eval_SetComp]
  refine scT_core room calm nd I0 pi ok pgs pts pes fold rd fun D C t ns G J fin isNs ⟨f0, f1, f2, f3, f4, f5⟩ => ⟨ns, isNs, fun h2 sb2 => ⟨.ref D, G, J.turned (t' := t.toks) (fun b o ne z => (sb2.2 b ne).trans z) f0 f1 f3 f4 f5, rfl, fin⟩⟩

/-- len of such a set -/
def rLenT (P : Program) (w : World) : List V → Hp → VK → Prop := fun xs H Q => ∃ (D : Addr) (L : List (Addr × List Int)), xs = [.ref D] ∧ H D = some (SetTO P w D L) ∧ Q (.int L.length) H
theorem call_lenT : CallR X (.builtin "len") (rLenT X.prog X.w) := by
  intro pins s σ H xs us Q I r h
  obtain ⟨D, L, rfl, at_D, q⟩ := h
  rw [Vals.ref1 r]
  have R0 : SetT0 X.prog X.w s.heap D L := (I.hok D _ at_D).1
  obtain ⟨es, ep, t, ⟨o, ho, hex, hd⟩, rows, tab, _, _, _, room, few⟩ := R0.ex
  have hn : es.size = L.length := by
    have z := congrArg List.length rows
    unfold rowsOf at z
    rw [Array.length_toList, List.length_map] at z
    exact z
  have hf : t.fits es.size = true := by
    have z := tab.sz
    rw [List.length_map] at z
    unfold SetTable.fits
    unfold SetTable.fill
    rw [tab.dm, Bool.and_eq_true, beq_iff_eq, decide_eq_true_eq]
    exact ⟨by omega, (by show t.place.size + 0 ≤ t.mask; omega)⟩
  refine call_len_set ho hex hd hf (by rw [hn] <;> omega) ⟨.int L.length, H, I.tok _, ⟨_, by rw [hn]⟩, q⟩
end
section
variable {P : Program} {w : World} {K : PySem.W.Frag} {a : Addr} {xs : List V} {g : TG} {te : TE} {vs : List Nat} {σ : L2.St} {H0 : Hp} {D : Addr} {Qd : Hp → Prop}
theorem set_ne {H : Hp} {b : Addr} {L : List (Addr × List Int)} {ys : List V} (h : H b = some (.tup ys)) (at_D : H D = some (SetTO P w D L)) : b ≠ D := ne_of h at_D fun z => by
  unfold SetTO at z
  cases z
/-- over a list, the elements unlike one another -/
theorem sc_listU (R : Nat → List Int) (un : ∀ i j, i < j → j < xs.length → R i ≠ R j) (few : xs.length < 60) (hD : H0 D = none) (hx : SqL K H0 a xs)
    (turn : ∀ (i : Nat) (x : V) (H : Hp) (Rk : V → Hp → Prop), xs[i]? = some x → Grows H0 H → (∀ b H5, Grows H H5 → H5 b = some (.tup ((R i).map V.int)) → Rk (.ref b) H5) → g x (wipe σ vs) H fun σ2 H2 => wipe σ2 vs = wipe σ vs ∧ te σ2 H2 fun y H4 => Rk y H4)
    (done : ∀ H L, Grows H0 H → H D = some (SetTO P w D L) → L.length = xs.length → Qd H) :
    ∃ W : Nat → Nat → Hp → Prop, (∃ m, W 0 m (upd H0 D (SetTO P w D []))) ∧ ∀ i m H, W i m H →
      ((Itl K a).stop i H ∧ Qd H) ∨ ((Itl K a).go i H ∧ ∃ Nx : Hp → Prop, (∀ H', Nx H' → ∃ m', m' < m ∧ W (i + 1) m' H') ∧ ∀ x H', (Itl K a).yld i H x H' → g x (wipe σ vs) H' fun σ2 H2 => wipe σ2 vs = wipe σ vs ∧ tYes σ2 H2 fun t H3 =>
        if t = true then te σ2 H3 fun y H4 => ∃ (b : Addr) (L : List (Addr × List Int)) (k : List Int), y = .ref b ∧ SqT K H4 b (k.map V.int) ∧ H4 D = some (SetTO P w D L) ∧ (∀ p ∈ L, SqT K H4 p.1 (p.2.map V.int)) ∧ L.length + 1 < 64 ∧
          ∀ L', (k ∈ L.map (·.2) → L' = L) → (k ∉ L.map (·.2) → L'.Perm ((b, k) :: L)) → Nx (upd H4 D (SetTO P w D L')) else Nx H3) := by
  let inv : Nat → Hp → Prop := fun i H => Grows H0 H ∧ ∃ L, H D = some (SetTO P w D L) ∧ L.length = i ∧ (∀ p ∈ L, ∃ j, j < i ∧ p.2 = R j) ∧ ∀ p ∈ L, H p.1 = some (.tup (p.2.map V.int))
  refine ⟨fun i m H => m = xs.length - i ∧ i ≤ xs.length ∧ inv i H, ⟨_, rfl, Nat.zero_le _, Grows.new hD, [], upd_same, rfl, (fun _ z => nomatch z), fun _ z => nomatch z⟩, ?_⟩
  rintro i m H ⟨rfl, hi, gr, L, at_D, len, old, tup⟩
  rcases Nat.lt_or_ge i xs.length with lt | ge
  · have ex : xs[i]? = some xs[i] := List.getElem?_eq_getElem lt
    refine .inr ⟨⟨xs, _, gr.seq hx, ex⟩, inv (i + 1), fun H' p' => ⟨xs.length - (i + 1), by omega, rfl, lt, p'⟩, fun v H' y => ?_⟩
    obtain ⟨rfl, y⟩ := y
    have nw : R i ∉ L.map (·.2) := fun z => by
      obtain ⟨p, hp, e⟩ := List.mem_map.mp z
      obtain ⟨j, hj, ej⟩ := old p hp
      exact un j i hj lt (ej.symm.trans e)
    rw [yes_eq (A := fun σ2 => wipe σ2 vs = wipe σ vs)]
    refine turn i v H' _ (y xs (gr.seq hx)) gr fun b H5 s5 hb => ⟨b, L, R i, rfl, SqT.of hb, s5 _ _ at_D, fun p hp => SqT.of (s5 _ _ (tup p hp)), by omega, fun L' _ c2 => ?_⟩
    have pm := c2 nw
    refine ⟨fun c o e => ?_, L', upd_same, by rw [pm.length_eq, List.length_cons, len], fun p hp => ?_, fun p hp => ?_⟩
    · rw [upd_ne (ne_of_none e hD)]
      exact s5 _ _ (gr _ _ e)
    · rcases List.mem_cons.mp (pm.mem_iff.mp hp) with z | z
      · exact ⟨i, Nat.lt_succ_self i, by rw [z]⟩
      · obtain ⟨j, hj, e⟩ := old p z
        exact ⟨j, Nat.lt_succ_of_lt hj, e⟩
    · have at5 : H5 p.1 = some (.tup (p.2.map V.int)) := by
        rcases List.mem_cons.mp (pm.mem_iff.mp hp) with z | z
        · rw [z]
          exact hb
        · exact s5 _ _ (tup p z)
      rw [upd_ne (set_ne at5 (s5 _ _ at_D))]
      exact at5
  · have e : i = xs.length := by omega
    subst e
    exact .inl ⟨⟨xs, gr.seq hx, Nat.le_refl _⟩, done H L gr at_D len⟩
end
end SetT

/-! {key: value for target in iterable for target in iterable}, the keys ints or texts. -/
namespace Dc2
open PySem PySem.Spec PyProof.Rows L2
abbrev dd (kx vx ta ia tb ib : Expr) (scope : Scope) (pos : Pos) : Expr := .DictComp kx vx [⟨ta, ia, [], 0⟩, ⟨tb, ib, [], 0⟩] scope pos
theorem turn_out (kx vx ta ia tb ib : Expr) (scope : Scope) (pos : Pos) (it acc : Value) (env : Env) : compTurn (dd kx vx ta ia tb ib scope pos) 0 it acc env = (do
      standAt ia.pos
      match ← pyNext it with
      | none => pure (.done .next)
      | some u =>
        letOwnedTupleGo ta it u
        assign ta env u
        let y ← eval ib env
        standAt ib.pos
        let y ← foldedSetIterable ib env y
        let _ ← runOwn (.compStart (dd kx vx ta ia tb ib scope pos) 1 (← holding [y] (pyIter y)) acc env) env
        again (.compLoop (dd kx vx ta ia tb ib scope pos) 0 it acc env)) := by rfl
theorem turn_in (kx vx ta ia tb ib : Expr) (scope : Scope) (pos : Pos) (it : Value) (D : Addr) (env : Env) : compTurn (dd kx vx ta ia tb ib scope pos) 1 it (.ref D) env = (do
      standAt ib.pos
      match ← pyNext it with
      | none => pure (.done .next)
      | some u =>
        letOwnedTupleGo tb it u
        assign tb env u
        (do
          let ku ← eval kx env
          let vu ← holding [ku] (eval vx env)
          standAt { kx.pos with endLine := vx.pos.endLine, endCol := vx.pos.endCol }
          holding [ku, vu] (dictSet D ku vu))
        again (.compLoop (dd kx vx ta ia tb ib scope pos) 1 it (.ref D) env)) := by rfl
section
variable {prog : Program} {w : World} {A : Around} {R : Result → Shared → Prop} {s : Shared} {kx vx ta ia tb ib : Expr} {scope : Scope} {pos : Pos} {it acc : Value} {D : Addr} {env : Env}
/-- what an error does there -/
abbrev Nt (prog : Program) (w : World) (A : Around) (env : Env) (R : Result → Shared → Prop) : Value → Shared → Prop := notedBy (model prog w) A env fun e s' => R (.error e) s'
/-- the inner loop's end -/
abbrev Lop (Z : Shared → Prop) : Result → Shared → Prop := fun r s' => match r with
  | .ok _ => Z s'
  | .error _ => False
/-- the outer loop -/
theorem loop_out (hs : ∀ x, foldedSetIterable ib env x = pure x) (J : Nat → Shared → Prop)
    (turn : ∀ n s, J n s → wpAny (model prog w) A (pyNext it) (fun r s1 => match r with
      | none => R (.ok .next) s1
      | some u => wpAny (model prog w) A (letOwnedTupleGo ta it u) (fun _ s2 => wpAny (model prog w) A (assign ta env u) (fun _ s3 => wpAny (model prog w) A (eval ib env) (fun y s4 => wpAny (model prog w) A (pyIter y) (fun it1 s5 =>
          codeAny (model prog w) A (.compStart (dd kx vx ta ia tb ib scope pos) 1 it1 acc env) (Lop fun s' => ∃ m, m < n ∧ J m s') s5) (Nt prog w A env R) s4) (Nt prog w A env R) s3) (Nt prog w A env R) s2) (Nt prog w A env R) s1) (Nt prog w A env R) s)
    (n : Nat) (h : J n s) : codeAny (model prog w) A (.compLoop (dd kx vx ta ia tb ib scope pos) 0 it acc env) R s := by
  refine codeAny_loop rfl J (fun n s hJ => ?_) n h
  show wpAny _ A ((compTurn (dd kx vx ta ia tb ib scope pos) 0 it acc env).onRaise (fun x => do noteFrame x env; theTreesLotGoes x)) _ _ s
  refine wpAny_noted ?_
  rw [turn_out]
  refine wpAny_bind (wpAny_standAt (wpAny_bind (wpAny_mono (turn n s hJ) (fun r s1 h1 => ?_) fun _ _ z => z)))
  cases r with
  | none => exact wpAny_pure h1
  | some u =>
    refine wpAny_bind (wpAny_mono h1 (fun _ s2 h2 => ?_) fun _ _ z => z)
    refine wpAny_bind (wpAny_mono h2 (fun _ s3 h3 => ?_) fun _ _ z => z)
    refine wpAny_bind (wpAny_mono h3 (fun y s4 h4 => ?_) fun _ _ z => z)
    refine wpAny_bind (wpAny_standAt (wpAny_bind (wpAny_of_eq (hs y) (wpAny_bind (wpAny_holding (wpAny_mono h4 (fun it1 s5 h5 => ?_) fun _ _ z => z))))))
    refine wpAny_bind (wpAny_runOwn ?_)
    rw [Around.mark_none]
    refine codeAny_mono h5 fun r s' hr => ?_
    cases r with
    | ok f => exact wpAny_pure ⟨rfl, hr⟩
    | error e => exact hr.elim
/-- the inner loop -/
theorem loop_in (J : Nat → Shared → Prop)
    (turn : ∀ n s, J n s → wpAny (model prog w) A (pyNext it) (fun r s1 => match r with
      | none => R (.ok .next) s1
      | some u => wpAny (model prog w) A (letOwnedTupleGo tb it u) (fun _ s2 => wpAny (model prog w) A (assign tb env u) (fun _ s3 => wpAny (model prog w) A (eval kx env) (fun ku s4 => wpAny (model prog w) A (eval vx env) (fun vu s5 =>
          wpAny (model prog w) A (dictSet D ku vu) (fun _ s6 => ∃ m, m < n ∧ J m s6) (Nt prog w A env R) s5) (Nt prog w A env R) s4) (Nt prog w A env R) s3) (Nt prog w A env R) s2) (Nt prog w A env R) s1) (Nt prog w A env R) s)
    (n : Nat) (h : J n s) : codeAny (model prog w) A (.compLoop (dd kx vx ta ia tb ib scope pos) 1 it (.ref D) env) R s := by
  refine codeAny_loop rfl J (fun n s hJ => ?_) n h
  show wpAny _ A ((compTurn (dd kx vx ta ia tb ib scope pos) 1 it (.ref D) env).onRaise (fun x => do noteFrame x env; theTreesLotGoes x)) _ _ s
  refine wpAny_noted ?_
  rw [turn_in]
  refine wpAny_bind (wpAny_standAt (wpAny_bind (wpAny_mono (turn n s hJ) (fun r s1 h1 => ?_) fun _ _ z => z)))
  cases r with
  | none => exact wpAny_pure h1
  | some u =>
    refine wpAny_bind (wpAny_mono h1 (fun _ s2 h2 => ?_) fun _ _ z => z)
    refine wpAny_bind (wpAny_mono h2 (fun _ s3 h3 => ?_) fun _ _ z => z)
    exact wpAny_bind (wpAny_bind (wpAny_mono h3 (fun ku s4 h4 => wpAny_bind (wpAny_holding (wpAny_mono h4 (fun vu s5 h5 => wpAny_bind (wpAny_standAt (wpAny_holding (wpAny_mono h5 (fun _ s6 h6 => wpAny_pure ⟨rfl, h6⟩) fun _ _ z => z)))) fun _ _ z => z))) fun _ _ z => z))
theorem start_out (h0 : codeAny (model prog w) A (.compLoop (dd kx vx ta ia tb ib scope pos) 0 it acc env) R s)
    (h : wpAny (model prog w) A (pyIter it) (fun it' s' => codeAny (model prog w) A (.compLoop (dd kx vx ta ia tb ib scope pos) 0 it' acc env) R s') (Nt prog w A env R) s) : codeAny (model prog w) A (.compStart (dd kx vx ta ia tb ib scope pos) 0 it acc env) R s := by
  refine codeAny_of_tree ?_
  show wpAny _ _ ((compStart (dd kx vx ta ia tb ib scope pos) 0 it acc env).onRaise (fun x => do noteFrame x env; standAt theWindowsPlace)) _ _ s
  refine wpAny_notedAt ?_
  unfold compStart
  show wpAny _ _ (ask >>= _) _ _ s
  refine wpAny_bind (wpAny_askSetting (wpAny_ite ?_))
  split
  · first
      | exact wpAny_bind (wpAny_pure (wpAny_pure ⟨rfl, h0⟩))
      | exact wpAny_pure ⟨rfl, h0⟩
  · refine wpAny_bind (wpAny_rule ?_)
    first
      | exact wpAny_bind (wpAny_standAt (wpAny_bind (wpAny_mono h (fun it' s' z => wpAny_pure ⟨rfl, z⟩) fun _ _ z => z)))
      | (show wpAny _ _ (standAt ia.pos >>= _) _ _ s; exact wpAny_bind (wpAny_standAt (wpAny_bind (wpAny_mono h (fun it' s' z => wpAny_pure ⟨rfl, z⟩) fun _ _ z => z))))
theorem start_in (h0 : codeAny (model prog w) A (.compLoop (dd kx vx ta ia tb ib scope pos) 1 it acc env) R s)
    (h : wpAny (model prog w) A (pyIter it) (fun it' s' => codeAny (model prog w) A (.compLoop (dd kx vx ta ia tb ib scope pos) 1 it' acc env) R s') (Nt prog w A env R) s) : codeAny (model prog w) A (.compStart (dd kx vx ta ia tb ib scope pos) 1 it acc env) R s := by
  refine codeAny_of_tree ?_
  show wpAny _ _ ((compStart (dd kx vx ta ia tb ib scope pos) 1 it acc env).onRaise (fun x => do noteFrame x env; standAt theWindowsPlace)) _ _ s
  refine wpAny_notedAt ?_
  unfold compStart
  show wpAny _ _ (ask >>= _) _ _ s
  refine wpAny_bind (wpAny_askSetting (wpAny_ite ?_))
  split
  · first
      | exact wpAny_bind (wpAny_pure (wpAny_pure ⟨rfl, h0⟩))
      | exact wpAny_pure ⟨rfl, h0⟩
  · refine wpAny_bind (wpAny_rule ?_)
    first
      | exact wpAny_bind (wpAny_standAt (wpAny_bind (wpAny_mono h (fun it' s' z => wpAny_pure ⟨rfl, z⟩) fun _ _ z => z)))
      | (show wpAny _ _ (standAt ib.pos >>= _) _ _ s; exact wpAny_bind (wpAny_standAt (wpAny_bind (wpAny_mono h (fun it' s' z => wpAny_pure ⟨rfl, z⟩) fun _ _ z => z))))
end
section
variable {X : Cx}
/-- the reading: behind the first target's store the second source's own loop, from which Nx is reached -/
def tDc2 (wi : TI) (g : TG) (wi1 : TI) (g1 : TG) (tk tv : TE) (vs vs1 : List Nat) : TE := fun σ H Q => wi σ H fun J H1 => ∀ D, H1 D = none → ∃ W : Nat → Nat → Hp → Prop, (∃ m, W 0 m (upd H1 D (.dK []))) ∧ ∀ i m H, W i m H →
  (J.stop i H ∧ Q (.ref D) H) ∨ (J.go i H ∧ ∃ Nx : Hp → Prop, (∀ H', Nx H' → ∃ m', m' < m ∧ W (i + 1) m' H') ∧ ∀ x H', J.yld i H x H' → g x (wipe σ vs) H' fun σ2 H2 => wipe σ2 vs = wipe σ vs ∧ wi1 σ2 H2 fun J1 H4 => ∃ W1 : Nat → Nat → Hp → Prop, (∃ m, W1 0 m H4) ∧ ∀ j k H, W1 j k H →
    (J1.stop j H ∧ Nx H) ∨ (J1.go j H ∧ ∃ Nx1 : Hp → Prop, (∀ H', Nx1 H' → ∃ k', k' < k ∧ W1 (j + 1) k' H') ∧ ∀ x H', J1.yld j H x H' → g1 x (wipe σ2 vs1) H' fun σ3 H5 => wipe σ3 vs1 = wipe σ2 vs1 ∧ tk σ3 H5 fun y H6 => tv σ3 H6 fun z H7 =>
      ∃ kvs k, y = kV k ∧ H7 D = some (.dK kvs) ∧ kvs.length < sizeLine ∧ Nx1 (upd H7 D (.dK (putK kvs k z)))))
theorem dc2_core {pins : List (Addr × Obj)} {s0 : Shared} {σ : L2.St} {H0 : Hp} {Q : VK} {kx vx tg iter ub jter : Expr} {scope : Scope} {own : List (Str × Nat)} {vs1 : List Nat} {pos pos' : Pos} {wi wi1 : TI} {g g1 : TG} {tk tv : TE} {use : Option (Value → Sem Unit)} {Qf : Value → Shared → Prop}
    (calm : X.calm = true) (nd : X.N.Nodup) (I0 : Inv X pins σ H0 s0) (pi : PI X tg iter wi) (ok : BlkOk X.N X.env.scope scope own) (inn : ∀ i ∈ vs1, i ∈ own.map (·.2))
    (pgs : ∀ (s : Shared) (H : Hp) (C : Addr) (cl : List (Str × Addr)) (fp : List Addr), PG (X.blk s H scope (compEnvC scope cl C X.env) fp) tg g)
    (pis : ∀ (s : Shared) (H : Hp) (C : Addr) (cl : List (Str × Addr)) (fp : List Addr), PI (X.blk s H scope (compEnvC scope cl C X.env) fp) ub jter wi1) (pg1s : ∀ (s : Shared) (H : Hp) (C : Addr) (cl : List (Str × Addr)) (fp : List Addr), PG (X.blk s H scope (compEnvC scope cl C X.env) fp) ub g1)
    (pks : ∀ (s : Shared) (H : Hp) (C : Addr) (cl : List (Str × Addr)) (fp : List Addr), PE (X.blk s H scope (compEnvC scope cl C X.env) fp) kx tk) (pvs : ∀ (s : Shared) (H : Hp) (C : Addr) (cl : List (Str × Addr)) (fp : List Addr), PE (X.blk s H scope (compEnvC scope cl C X.env) fp) vx tv)
    (fold : ∀ x, foldedSetIterable iter X.env x = pure x) (fold1 : ∀ e x, foldedSetIterable jter e x = pure x) (rd : tDc2 wi g wi1 g1 tk tv (own.map (·.2)) vs1 σ H0 Q)
    (post : ∀ D C t ns G, Inv X pins σ G t → Q (.ref D) G → t.heap.Ns C ns → FpOk X pins G C → compPost (model X.prog X.w) X.A X.xe use Qf (.ref D) C (.ok .next) t) :
    wpAny (model X.prog X.w) X.A (comprehension (dd kx vx tg iter ub jter scope pos) scope X.env pos' newDict false (eval iter X.env) use) Qf X.xe s0 := by
  have isFree : ∀ y ∈ scope.names, y.2 = .free → ∃ c, X.env.cells.lookup y.1 = some c := fun y hy ey => (ok.free y hy ey).elim (fun z => I0.ok.has _ (.inl z)) fun z => I0.ok.has _ (.inr z)
  refine wpAny_comprehension_free (use := use) rfl fold (closure_ok isFree) ok.kind (fun y hy ey => (ok.uniq y hy).trans (congrArg some ey)) (thn (pi.run pins s0 σ H0 _ I0 rd) fun _ sa ha => thn ha fun _ sb hb => ?_)
  obtain ⟨it, fp, tn, J, Hb, rfl, Ib, Tn, tn0, fb, q⟩ := hb
  refine wpAny_newObj_type (newEnv_comp ?_)
  have free0 : Hb sb.heap.objs.size = none := Ib.hok.fresh (Nat.le_refl _)
  obtain ⟨W, ⟨m0, w0⟩, turn⟩ := q _ free0
  -- with the dict, empty
  obtain ⟨sc, esc⟩ : ∃ z : Shared, z = { sb with heap := sb.heap.push { cls := .type "dict", data := .dict #[] } } := ⟨_, rfl⟩
  obtain ⟨Hc, eHc⟩ : ∃ z : Hp, z = upd Hb sb.heap.objs.size (.dK []) := ⟨_, rfl⟩
  have Ic : Inv X pins σ Hc sc := by
    rw [esc, eHc]
    exact Ib.laid (t' := sb.toks) (fun b o z => Heap.get?_push_of_some _ z) (Nat.le_refl _) (dk_empty sb.heap Ib.big)
  have up : ∀ b o, sb.heap.get? b = some o → sc.heap.get? b = some o := fun b o z => by
    rw [esc]
    exact Heap.get?_push_of_some _ z
  have below : ∀ b ∈ fp, b < sb.heap.objs.size := fun b hb => let ⟨_, z, _⟩ := Tn.obj _ _ tn0 b hb; Heap.lt_size z
  have fc : ∀ b ∈ fp, FpOk X pins Hc b ∧ b < sc.heap.objs.size := fun b hb => by
    obtain ⟨o, z, _⟩ := Tn.obj _ _ tn0 b hb
    refine ⟨⟨?_, (fb b hb).2⟩, Heap.lt_size (up b o z)⟩
    rw [eHc, upd_ne (Nat.ne_of_lt (below b hb))]
    exact (fb b hb).1
  have tnc : tn 0 sc.heap := Tn.keep _ _ _ tn0 fun b _ o z => up b o z
  have Ie := block_start Ic ok nd fc
  obtain ⟨cells, ecl⟩ : ∃ z, z = cellsFrom (sc.heap.objs.size + 1) scope.names (cloFrom X.env.cells scope.names []) := ⟨_, rfl⟩
  have pg := pgs sc Hc sc.heap.objs.size cells fp
  have pi1 := pis sc Hc sc.heap.objs.size cells fp
  have pg1 := pg1s sc Hc sc.heap.objs.size cells fp
  have pk := pks sc Hc sc.heap.objs.size cells fp
  have pv := pvs sc Hc sc.heap.objs.size cells fp
  rw [← ecl] at Ie
  rw [← esc]
  show codeAny _ _ (.compStart _ 0 (.ref it) (.ref sb.heap.objs.size) (compEnvC scope (cellsFrom (sc.heap.objs.size + 1) scope.names (cloFrom X.env.cells scope.names [])) sc.heap.objs.size X.env)) (compPost _ _ X.xe use Qf (.ref sb.heap.objs.size) sc.heap.objs.size) _
  rw [← ecl]
  have loc : (compEnvC scope cells sc.heap.objs.size X.env).locals = sc.heap.objs.size := rfl
  rw [← eHc] at w0
  have empty : ∀ b ∈ fp, Hc b = none := fun b hb => (fc b hb).1.1
  obtain ⟨sd, esd⟩ : ∃ z : Shared, z = { sc with heap := pushCells (sc.heap.push { cls := .type "dict", data := .dict #[] }) scope.names } := ⟨_, rfl⟩
  have tnd : tn 0 sd.heap := Tn.keep _ _ _ tnc fun b _ o z => by
    rw [esd]
    exact pushCells_keeps _ _ _ _ (Heap.get?_push_of_some _ z)
  rw [← esd] at Ie ⊢
  generalize compEnvC scope cells sc.heap.objs.size X.env = ce at Ie pg pi1 pg1 pk pv loc ⊢
  -- the iterator's own objects in the block
  have own_ok : ∀ {ρ : L2.St} {G : Hp} {t : Shared}, Inv (X.blk sc Hc scope ce fp) [] ρ G t → (∀ b ∈ fp, G b = none) → ∀ b ∈ fp, FpOk (X.blk sc Hc scope ce fp) [] G b := fun {ρ G t} J hn b hb =>
    ⟨hn b hb, (J.ok.exf b hb).1, J.ok.exfs b hb, .inl hb, fun y c z => (J.ok.exf b hb).2 y c z, fun p hp => (nomatch hp)⟩
  have run : codeAny (model X.prog X.w) X.A (.compLoop (dd kx vx tg iter ub jter scope pos) 0 (.ref it) (.ref sb.heap.objs.size) ce) (compPost (model X.prog X.w) X.A X.xe use Qf (.ref sb.heap.objs.size) sc.heap.objs.size) sd := by
    refine loop_out (fold1 ce) (fun m t => ∃ i G, Inv (X.blk sc Hc scope ce fp) [] (wipe σ (own.map (·.2))) G t ∧ tn i t.heap ∧ (∀ b ∈ fp, G b = none) ∧ W i m G) ?_ m0 ⟨0, Hc, Ie, tnd, empty, w0⟩
    rintro m t ⟨i, G, J, tni, none_, wi_⟩
    rcases turn i m G wi_ with ⟨stop, fin⟩ | ⟨go, Nx, less, step⟩
    · refine thnF (Tn.done (X.blk sc Hc scope ce fp) rfl rfl rfl calm i [] t _ G (fun _ _ => False) J (own_ok J none_) tni stop) fun r t2 ⟨er, J2⟩ => ?_
      subst er
      have back : Inv X pins σ G t2 := Ic.call' (ch := fp) J2.os J2.base J2.hok J2.bare fun b hb => ⟨(fc b hb).1.2.2.2.1, (fc b hb).1.2.1, (fc b hb).1.2.2.2.2.1, (fc b hb).1.2.2.2.2.2⟩
      have noC : G sc.heap.objs.size = none := by
        have z : G ce.locals = none := J2.free
        rwa [loc] at z
      obtain ⟨ns, isNs, _⟩ := J2.loc
      have isNs' : t2.heap.Ns ce.locals ns := isNs
      rw [loc] at isNs'
      exact post _ _ t2 ns G back fin isNs' (Ic.fpOk (Nat.le_refl _) noC)
    · refine thnF (Tn.item (X.blk sc Hc scope ce fp) rfl rfl rfl calm i [] t _ G (fun _ _ => False) J (own_ok J none_) tni go) fun r t2 ⟨u, er, h2⟩ => ?_
      subst er
      refine thnF h2 fun _ t3 ⟨x, G3, J3, r3, y3, tn3, none3⟩ => ?_
      have K3 := J3.pinned (own_ok J3 none3) (Tn.obj _ _ tn3)
      refine thnF (pg.run _ t3 _ G3 x u _ K3 r3 (step x G3 y3)) fun _ t4 ⟨ρ4, G4, J4, same4, q4⟩ => ?_
      have len4 : (wipe σ (own.map (·.2))).length = ρ4.length := by rw [← same4, wipe_length]
      have next : ∀ {ρ : L2.St} {t' : Shared} {G' : Hp}, Inv (X.blk sc Hc scope ce fp) ([] ++ pinsAt fp t3.heap) ρ G' t' → (wipe σ (own.map (·.2))).length = ρ.length → (∀ (j : Nat) v, (wipe σ (own.map (·.2)))[j]? = some (some v) → ρ[j]? = some (some v)) → Nx G' →
          ∃ m', m' < m ∧ ∃ i G, Inv (X.blk sc Hc scope ce fp) [] (wipe σ (own.map (·.2))) G t' ∧ tn i t'.heap ∧ (∀ b ∈ fp, G b = none) ∧ W i m' G := fun {ρ t' G'} J' ln kn nx => by
        obtain ⟨m', lt, w'⟩ := less G' nx
        have held : ∀ b ∈ fp, ∀ o, t3.heap.get? b = some o → t'.heap.get? b = some o ∧ G' b = none := fun b hb o z =>
          have p := J'.pin (b, o) (List.mem_append_right _ (List.mem_append_right _ (mem_pinsAt hb z)))
          ⟨p.1, p.2.1⟩
        refine ⟨m', lt, i + 1, G', (J'.unpinned (pins := [])).weak ln kn, Tn.keep _ _ _ tn3 fun b hb o z => (held b hb o z).1, fun b hb => ?_, w'⟩
        obtain ⟨o, z, _⟩ := Tn.obj _ _ tn3 b hb
        exact (held b hb o z).2
      have kn4 : ∀ (j : Nat) v, (wipe σ (own.map (·.2)))[j]? = some (some v) → (wipe ρ4 vs1)[j]? = some (some v) := fun j v z => by
        rw [← same4] at z
        obtain ⟨z1, z2⟩ := wipe_some z
        rw [wipe_out fun y => z2 (inn j y)]
        exact z1
      refine thnF (pi1.run _ t4 ρ4 G4 _ J4 q4) fun _ t5 h5 => thnF h5 fun _ t6 h6 => ?_
      obtain ⟨it1, fp1, tn1, J1, G6, rfl, J6, Tn1, tn10, f6, W1, ⟨m1, w1⟩, turn1⟩ := h6
      have own1 : ∀ {G' : Hp}, (∀ b ∈ fp1, G' b = none) → ∀ b ∈ fp1, FpOk (X.blk sc Hc scope ce fp) ([] ++ pinsAt fp t3.heap) G' b := fun hn b hb => ⟨hn b hb, (f6 b hb).2⟩
      have run1 : codeAny (model X.prog X.w) X.A (.compLoop (dd kx vx tg iter ub jter scope pos) 1 (.ref it1) (.ref sb.heap.objs.size) ce) (Lop fun t' => ∃ m', m' < m ∧ ∃ i G, Inv (X.blk sc Hc scope ce fp) [] (wipe σ (own.map (·.2))) G t' ∧ tn i t'.heap ∧ (∀ b ∈ fp, G b = none) ∧ W i m' G) t6 := by
        refine loop_in (fun k t => ∃ j G, Inv (X.blk sc Hc scope ce fp) ([] ++ pinsAt fp t3.heap) (wipe ρ4 vs1) G t ∧ tn1 j t.heap ∧ (∀ b ∈ fp1, G b = none) ∧ W1 j k G) ?_ m1 ⟨0, G6, J6.weak (wipe_length _ _) (fun j v z => (wipe_some z).1), tn10, fun b hb => (f6 b hb).1, w1⟩
        rintro k t7 ⟨j, G7, J7, tn7, none7, w7⟩
        rcases turn1 j k G7 w7 with ⟨stop1, nx1⟩ | ⟨go1, Nx1, less1, step1⟩
        · refine thnF (Tn1.done (X.blk sc Hc scope ce fp) rfl rfl rfl calm j _ t7 (wipe ρ4 vs1) G7 (fun _ _ => False) J7 (own1 none7) tn7 stop1) fun r t8 ⟨er, J8⟩ => ?_
          subst er
          exact next J8 (len4.trans (wipe_length ρ4 vs1).symm) kn4 nx1
        · refine thnF (Tn1.item (X.blk sc Hc scope ce fp) rfl rfl rfl calm j _ t7 (wipe ρ4 vs1) G7 (fun _ _ => False) J7 (own1 none7) tn7 go1) fun r t8 ⟨u1, er, h8⟩ => ?_
          subst er
          refine thnF h8 fun _ t9 ⟨x1, G9, J9, r9, y9, tn9, none9⟩ => ?_
          have K9 := J9.pinned (own1 none9) (Tn1.obj _ _ tn9)
          refine thnF (pg1.run _ t9 (wipe ρ4 vs1) G9 x1 u1 _ K9 r9 (step1 x1 G9 y9)) fun _ t10 ⟨ρ10, G10, J10, same10, q10⟩ => ?_
          refine thnF (pk.run _ t10 ρ10 G10 _ J10 q10) fun ku t11 ⟨yk, G11, J11, r11, q11⟩ => thnF (pv.run _ t11 ρ10 G11 _ J11 q11) fun vu t12 ⟨yv, G12, J12, r12, kvs, k, ek, at_D, few, nx⟩ => ?_
          subst ek
          refine d_dictSet (X := X.blk sc Hc scope ce fp) J12 at_D few r11 r12 fun t13 J13 => ?_
          obtain ⟨m', lt, w'⟩ := less1 _ nx
          have held : ∀ b ∈ fp1, ∀ o, t9.heap.get? b = some o → t13.heap.get? b = some o ∧ (upd G12 sb.heap.objs.size (.dK (putK kvs k yv))) b = none := fun b hb o z =>
            have p := J13.pin (b, o) (List.mem_append_right _ (List.mem_append_right _ (mem_pinsAt hb z)))
            ⟨p.1, p.2.1⟩
          refine ⟨m', lt, j + 1, _, J13.unpinned.weak (by rw [← same10, wipe_length]) (fun i v z => by rw [← same10] at z; exact (wipe_some z).1), Tn1.keep _ _ _ tn9 fun b hb o z => (held b hb o z).1, fun b hb => ?_, w'⟩
          obtain ⟨o, z, _⟩ := Tn1.obj _ _ tn9 b hb
          exact (held b hb o z).2
      exact start_in run1 (Tn1.self X.A 0 _ _ _ tn10 run1)
  exact start_out run (Tn.self X.A 0 _ _ _ tnd run)
/-- as a value -/
theorem pe_dc2 {kx vx tg iter ub jter : Expr} {scope : Scope} {own : List (Str × Nat)} {vs1 : List Nat} {pos : Pos} {wi wi1 : TI} {g g1 : TG} {tk tv : TE} (calm : X.calm = true) (nd : X.N.Nodup) (pi : PI X tg iter wi) (ok : BlkOk X.N X.env.scope scope own) (inn : ∀ i ∈ vs1, i ∈ own.map (·.2))
    (pgs : ∀ (s : Shared) (H : Hp) (C : Addr) (cl : List (Str × Addr)) (fp : List Addr), PG (X.blk s H scope (compEnvC scope cl C X.env) fp) tg g)
    (pis : ∀ (s : Shared) (H : Hp) (C : Addr) (cl : List (Str × Addr)) (fp : List Addr), PI (X.blk s H scope (compEnvC scope cl C X.env) fp) ub jter wi1) (pg1s : ∀ (s : Shared) (H : Hp) (C : Addr) (cl : List (Str × Addr)) (fp : List Addr), PG (X.blk s H scope (compEnvC scope cl C X.env) fp) ub g1)
    (pks : ∀ (s : Shared) (H : Hp) (C : Addr) (cl : List (Str × Addr)) (fp : List Addr), PE (X.blk s H scope (compEnvC scope cl C X.env) fp) kx tk) (pvs : ∀ (s : Shared) (H : Hp) (C : Addr) (cl : List (Str × Addr)) (fp : List Addr), PE (X.blk s H scope (compEnvC scope cl C X.env) fp) vx tv)
    (fold : ∀ x, foldedSetIterable iter X.env x = pure x := by intro _; rfl) (fold1 : ∀ e x, foldedSetIterable jter e x = pure x := by intro _ _; rfl) : PE X (dd kx vx tg iter ub jter scope pos) (tDc2 wi g wi1 g1 tk tv (own.map (·.2)) vs1) := by
  refine ⟨fun pins s0 σ H0 Q I0 rd => ?_⟩
  rw [show eval (dd kx vx tg iter ub jter scope pos) X.env = comprehension (dd kx vx tg iter ub jter scope pos) scope X.env (firstIterPos [⟨tg, iter, [], 0⟩, ⟨ub, jter, [], 0⟩] pos) newDict (firstAsync [⟨tg, iter, [], 0⟩, ⟨ub, jter, [], 0⟩]) (firstIter [⟨tg, iter, [], 0⟩, ⟨ub, jter, [], 0⟩] X.env) from rfl]
  refine dc2_core calm nd I0 pi ok inn pgs pis pg1s pks pvs fold fold1 rd fun D C t ns G J fin isNs ⟨f0, f1, f2, f3, f4, f5⟩ => ⟨ns, isNs, fun h2 sb2 => ⟨.ref D, G, J.turned (t' := t.toks) (fun b o ne z => (sb2.2 b ne).trans z) f0 f1 f3 f4 f5, rfl, fin⟩⟩
end
end Dc2

/-! Own exceptions whose __init__ is a def of the program, made by keywords too. -/
namespace PySem
namespace XV
open PySem.W PySem.Calls PyProof.Rows PySem.HandSPX
section
variable {pr : Program} {wd : World} {Md : Model} {Ar : Around} {Er : Value → Shared → Prop} {Rs : Result → Shared → Prop} {hp : Heap} {gs : Array GenState} {dr : Drawn} {tk : Nat} {os : OsState}
variable {cn cq : Str} {C cN : Addr} {cb cm mro0 : List Value} {cd1 : Bool} {csl : List Str} {csu : List Value} {cab : Bool} {cco : Option Bool} {cdd : Option Addr} {j0 j1 j2 j3 j5 : Option Value} {T nw ini : String}
/-- the class as it lies -/
abbrev lies (hp : Heap) (C : Addr) (cn cq : Str) (cN : Addr) (cb cm : List Value) (cd1 : Bool) (csl : List Str) (csu : List Value) (cab : Bool) (cco : Option Bool) (cdd : Option Addr) (j0 j1 j2 j3 j5 : Option Value) (nw : String) : Prop :=
  hp.get? C = some (excClassObj cn cq C cN cb cm cd1 csl csu cab cco cdd j0 j1 j2 j3 j5 nw)
theorem mro_says (B : ExcBaseFacts T nw ini mro0) (mt : ∀ Y : String, cm.contains (.type Y) = mro0.contains (.type Y)) : (Value.ref C :: cm).contains (.type T) = true ∧ (Value.ref C :: cm).contains (.type "AttributeError") = false ∧ (Value.ref C :: cm).contains (.type "NameError") = false := by
  simp only [List.contains_cons, mt, B.hasB, B.noAttr, B.noName, Bool.or_true, Bool.or_false]
  exact ⟨trivial, rfl, rfl⟩
/-- cls.__new__(cls, .., k = v, ..) is let -/
theorem new_let (B : ExcBaseFacts T nw ini mro0) (mt : ∀ Y : String, cm.contains (.type Y) = mro0.contains (.type Y)) {as : List Value} {kv : List (Str × Value)} {Q : Unit → Shared → Prop}
    (at_ : lies hp C cn cq cN cb cm cd1 csl csu cab cco cdd j0 j1 j2 j3 j5 nw) (q : Q () ⟨hp, gs, dr, tk, os⟩) : wpAny Md Ar (checkBuiltinCall nw ⟨.ref C :: as, kv⟩) Q Er ⟨hp, gs, dr, tk, os⟩ := by
  have in1 := (mro_says (C := C) B mt).1
  have st := B.noStar
  simp only [checkBuiltinCall, B.newKind, B.newSplit, B.newRow]
  repeat (first
    | refine wpAny_staticBase_exc at_ ?_
    | refine wpAny_madeBy_exc at_ ?_
    | refine wpAny_loadPart_at at_ ?_
    | (refine wpAny_isSubtype_exc at_ ?_; rw [in1])
    | simp only [Bool.false_eq_true, bne_self_eq_false, if_false]
    | wp_step)
  exact q
/-- what it lays: the tuple of the values, then the object -/
theorem new_lays (B : ExcBaseFacts T nw ini mro0) (mt : ∀ Y : String, cm.contains (.type Y) = mro0.contains (.type Y)) {as : List Value} {kv : List (Str × Value)}
    (at_ : lies hp C cn cq cN cb cm cd1 csl csu cab cco cdd j0 j1 j2 j3 j5 nw) (sz : as.length ≤ sizeLine) (q : Rs (.ok (.ret (.ref (hp.objs.size + 1)))) ⟨(hp.push (kdv_tup as)).push (excO C hp.objs.size), gs, dr, tk, os⟩) :
    codeAny (model pr wd) Ar (.builtin nw ⟨.ref C :: as, kv⟩) Rs ⟨hp, gs, dr, tk, os⟩ := by
  obtain ⟨in1, in2, in3⟩ := mro_says (C := C) B mt
  have en := B.ends
  refine codeAny_builtinAt B.entry (wpAt_bind (show wpAt _ _ _ (stack >>= _) _ _ _ from wpAt_bind (wpAt_stack fun _ _ => wpAt_of_wpAny ?_)))
  wp_walk
  refine wpAt_of_wpAny ?_
  rw [B.owner]
  repeat (first
    | with_reducible refine wpAny_madeHere_exc B.canon at_ ?_
    | (with_reducible refine wpAny_isSubtype_exc at_ ?_; first | rw [in1] | rw [in2] | rw [in3])
    | with_reducible refine wpAny_loadPart_at at_ ?_
    | wp_step)
  have e : (hp.push (kdv_tup as)).objs.size = hp.objs.size + 1 := Heap.size_push ..
  exact e ▸ q
/-- C(.., k = v, ..): __new__, then the own __init__ with the same values and keywords -/
theorem made_by (B : ExcBaseFacts T nw ini mro0) (mt : ∀ Y : String, cm.contains (.type Y) = mro0.contains (.type Y)) {as : List Value} {kv : List (Str × Value)} {fI : Addr}
    (at_ : lies hp C cn cq cN cb cm cd1 csl csu cab cco cdd j0 j1 j2 j3 j5 nw) (look : Looks (model pr wd) hp (typeLookup (.ref C) "__init__") (some (.ref fI))) (bind : ∀ v, Looks (model pr wd) hp (bindSpecial (.ref fI) v) (.ref fI, [v])) (sz : as.length ≤ sizeLine)
    (go : codeAny (model pr wd) (Ar.under (.builtin "type.__call__" ⟨.ref C :: as, kv⟩)) (.call (.ref fI) ⟨.ref (hp.objs.size + 1) :: as, kv⟩) (InitBack (hp.objs.size + 1) Rs) ⟨(hp.push (kdv_tup as)).push (excO C hp.objs.size), gs, dr, tk, os⟩) :
    codeAny (model pr wd) Ar (.call (.ref C) ⟨as, kv⟩) Rs ⟨hp, gs, dr, tk, os⟩ := by
  have l1 := tc_lookup
  have l2 := tc_bind (.ref C)
  have ty : Shared.TypeIs ⟨hp, gs, dr, tk, os⟩ (.ref C) "type" := ⟨_, at_, rfl⟩
  have up : ∀ b u, hp.get? b = some u → ((hp.push (kdv_tup as)).push (excO C hp.objs.size)).get? b = some u := fun _ _ z => Heap.get?_push_of_some _ (Heap.get?_push_of_some _ z)
  have at2 := up _ _ at_
  have new2 : ((hp.push (kdv_tup as)).push (excO C hp.objs.size)).get? (hp.objs.size + 1) = some (excO C hp.objs.size) := by heap_get
  have self_ : (Value.ref C :: cm).contains (.ref C) = true := by simp
  refine codeAny_of_tree (show wpAny _ _ (callAny (.ref C) _) _ _ _ from ?_)
  repeat (any_goals (first | assumption | (with_reducible refine wpAny_loadPart_at at_ ?_) | wp_step))
  refine ⟨rfl, codeAny_call_builtin_at (Code.quiet_builtin _ (by decide +kernel)) entry_typeCall (wpAny_check_type_call_sub at_ ?_)⟩
  repeat (first | (with_reducible refine wpAny_madeBy_exc at_ ?_) | (with_reducible refine wpAny_loadPart_at at_ ?_) | wp_step)
  refine codeAny_call_builtin_code (Code.quiet_builtin _ B.quiet) (new_let B mt at_ (new_lays B mt at_ sz ?_))
  show wpAny _ _ _ _ _ _
  unfold isInstance
  repeat (first | (with_reducible refine wpAny_loadPart_at new2 ?_) | (with_reducible refine wpAny_isSubtype_exc at2 ?_; rw [self_]) | wp_step)
  refine wpAny_isSubtype_exc at2 ?_
  rw [self_]
  repeat wp_step
  have look2 := look.keeps up
  have bind2 := (bind (.ref (hp.objs.size + 1))).keeps up
  change wpAny _ _ (typeLookup _ _) _ _ _
  refine look2.at ?_
  refine wpAny_holding (wpAny_bind (bind2.at (wpAny_bind (wpAny_call (codeAny_mono go fun rr ss zz => ?_)))))
  cases rr with
  | error er => exact zz
  | ok fl =>
    cases fl with
    | ret vv =>
      obtain ⟨rfl, zz⟩ := zz
      first
        | (exact wpAny_pure (wpAny_pure zz))
        | (wp_walk; exact zz)
    | _ => exact False.elim zz

/-- super().__init__(..) of ValueError's, bound to the object at e: the values are laid anew -/
theorem init_bound {u e t0 : Addr} {as : List Value} {Q : Value → Shared → Prop} (at_ : lies hp C cn cq cN cb cm cd1 csl csu cab cco cdd j0 j1 j2 j3 j5 "ValueError.__new__") (he : hp.get? e = some (excO C t0)) (hu : hp.get? u = some (kxs_mw "ValueError.__init__" e)) (sz : as.length ≤ sizeLine)
    (q : ∀ h2 t1, (∀ b x, b ≠ e → hp.get? b = some x → h2.get? b = some x) → h2.get? e = some (excO C t1) → Q .none ⟨h2, gs, dr, tk, os⟩) : wpAny (model pr wd) Ar (call (.ref u) as) Q Er ⟨hp, gs, dr, tk, os⟩ := by
  refine wpAny_call (codeAny_of_tree (show wpAny _ Ar.in1 (callAny (.ref u) ⟨as, []⟩) _ _ _ from ?_))
  unfold callAny
  refine wpAny_bind (wpAny_load hu ?_)
  refine W.KFB.if_so (by rfl) (wpAny_bind (PySem.ESX.check_bound F.excBase_ValueError at_ he rfl (wpAny_bind (wpAny_pure (wpAny_pure ?_)))))
  refine ⟨Code.quiet_builtin _ (by decide +kernel), codeAny_builtin F.excBase_ValueError.initEntry ?_⟩
  rw [Around.under_plainId F.excBase_ValueError.init.plain _]
  exact exc_init_tree (cls := .ref C) (t0 := t0) (dv := none) (c2 := .none) (c3 := .none) (b4 := .bool false) he sz fun h2 keep e2 _ => q h2 _ keep e2
end
end XV
end PySem

namespace L2
open PySem PySem.Spec PyProof.Rows NdefX
/-- what the written part says of an own exception's __init__ at f that begins by super().__init__(..); cc: the cell of its class -/
structure InitTxt (P : Program) (K : PySem.W.Frag) (mg : Str → Option Value) (C f cc : Addr) (F : NF) (fd : FuncData) : Prop where
  lk : ∃ (oc : Value) (od an : Option Addr) (dV kV doc pm ct : Value) (osl : Array (Option Value)), fd = PySem.W.fnX F.name F.qual F.params F.body F.scope F.cl dV kV doc pm an (.ref F.c) ct ∧ K.lookup f = some ⟨oc, od, .func fd, osl⟩
  cd : PySem.W.codeIn K (.ref F.c) F.qual = true
  cl : F.cl = [(("__class__" : Str), cc)]
  cell : ∃ (c1 : Value) (d1 : Option Addr) (s1 : Array (Option Value)), K.lookup cc = some ⟨c1, d1, .cell (some (.ref C)), s1⟩
  code : ∃ (c1 : Value) (d1 : Option Addr) (s1 : Array (Option Value)) (vs : Array Value) (file : Str) (tf : Tok), K.lookup F.c = some ⟨c1, d1, .fields vs, s1⟩ ∧ vs[2]? = some (.str file tf) ∧ ((P.main.file : Str) == file) = true
  sup : mg "super" = none
  top : (P.main.scope.names.lookup ("super" : Str)).isSome = false
  third : PySem.W.nsIn K cStatics "thirdparty.any" = some none
  along : PySem.W.ks_superIn K C C "__init__" = some (some (.builtin "ValueError.__init__"))
  isVE : PySem.W.subIn K (.ref C) (.type "ValueError") = some true
  isC : PySem.W.mroIn K C (.ref C) = some true
  ox : OexC K C
section
variable {P : Program} {w : World} {K : PySem.W.Frag} {mg : Str → Option Value} {base : Heap} {N ps : List Str} {F : NF} {f C cc : Addr} {fd : FuncData} {k : Nat} {sp : Sp} {p0 p1 p2 p3 p4 : Pos} {e : Expr} {rest : List Stmt}
theorem ok_superInit (T : InitTxt P K mg C f cc F fd) (S : NScope N ps [("__class__" : Str)] F.scope) (hN0 : N[0]? = some ("self" : Str)) (hp : (F.params.posonlyargs ++ F.params.args).head?.map (·.arg) = some ("self" : Str))
    (hks : F.scope.names.lookup ("super" : Str) = some .globalImplicit) (hkc : F.scope.names.lookup ("__class__" : Str) = some .free) (hka : F.scope.names.lookup ("self" : Str) = some .local)
    (hbd : F.body = .Expr (.Call (.Attribute (.Call (.Name "super" p0) [] [] p1) "__init__" p2) [e] [] p3) p4 :: rest)
    {pl : Env → Sem Bool} (he : ∀ env : Env, eval (.Call (.Attribute (.Call (.Name "super" p0) [] [] p1) "__init__" p2) [e] [] p3) env = (do
      let ov ← attributeBase (.Call (.Name "super" p0) [] [] p1) "__init__" env (eval (.Call (.Name "super" p0) [] [] p1) env)
      standAt p2.atName
      let (f, first) ← holding [ov] (getMethod ov "__init__" (pl env))
      callWith p3 f first (backTo p3 (starEach [e] env)) [])) (hse : ∀ env : Env, starEach [e] env = (false, eval e env) :: starEach [] env)
    (len : ∀ vs H Q E, sp vs H Q E → vs.length = ps.length)
    (hbody : ∀ (A : Around) (outer : List Env) (s : Shared) (H : Hp) (vs : List V) (Q : VK) (E : XK), Room k (A.deeper (envF F f s.heap.objs.size)) → sp vs H Q E →
      ∃ (a : Addr) (te : TE) (tr : TS), vs[0]? = some (.ref a) ∧ H a = some (exo a C none) ∧ PE (ncx CX0 P w K mg base N F f A outer s H E) e te ∧ PSs (ncx CX0 P w K mg base N F f A outer s H E) rest tr ∧
        te (startF N vs [some (.ref C)]) H fun _ H1 => H1 a = some (exo a C none) ∧ tr { nx := fun _ H' => Q .non H', rt := Q } (startF N vs [some (.ref C)]) H1) :
    FnOk P w K mg base CX0 (k + 1) f fd ps sp := by
  obtain ⟨oc, od, an, dV, kV, doc, pm, ct, osl, rfl, lk⟩ := T.lk
  refine ⟨len, fun A outer s H args us vs Q E hr e0 hb r hsp => ?_⟩
  have hl := len _ _ _ _ hsp
  have old : ∀ b o, base.get? b = some o → s.heap.get? b = some o := fun b o z => (e0.bs b o z).1
  have KX := e0.mod.kin.keeps old
  have lim := e0.mod.nolimit.keeps old
  obtain ⟨c1, d1, s1c, hcell⟩ := T.cell
  have CC : CellsAt F.cl [("__class__" : Str)] [some (V.ref C)] s.heap H := by
    rw [T.cl]
    have hcc : ∀ y c, ([(("__class__" : Str), cc)] : List (Str × Addr)).lookup y = some c → y = "__class__" ∧ c = cc := fun y c h => by
      by_cases hy : y = "__class__"
      · subst hy
        rw [show ([(("__class__" : Str), cc)] : List (Str × Addr)).lookup ("__class__" : Str) = some cc from by simp [List.lookup]] at h
        exact ⟨rfl, (Option.some.inj h).symm⟩
      · have q : (y == ("__class__" : Str)) = false := by simpa using hy
        simp [List.lookup, q] at h
    have hbase : base.get? cc = some ⟨c1, d1, .cell (some (.ref C)), s1c⟩ := e0.mod.kin _ _ hcell
    refine ⟨rfl, fun y c h => ?_, fun x y c h1 h2 => ?_, fun i y h => ?_⟩
    · obtain ⟨_, rfl⟩ := hcc y c h
      exact ⟨(e0.bs _ _ hbase).2, some (.ref C), _, (e0.bs _ _ hbase).1, rfl⟩
    · rw [(hcc x c h1).1, (hcc y c h2).1]
    · cases i with
      | zero =>
        have e : y = "__class__" := (Option.some.inj h).symm
        subst e
        refine ⟨cc, by simp [List.lookup], fun v hv => ?_⟩
        have e : v = .ref C := by
          have q : some (V.ref C) = some v := Option.some.inj hv
          exact (Option.some.inj q).symm
        subst e
        exact ⟨.ref C, rfl, _, (e0.bs _ _ hbase).1, rfl⟩
      | succ n => simp at h
  refine codeAny_call_function hr.depth (KX _ _ lk) rfl S.co S.gen rfl (PySem.W.codeRec_of KX T.cd) (hb _ _ _ _ ?_)
  refine wpAny_newFunctionEnv S.nocell (fun ⟨n, _⟩ hy => S.par n (List.of_mem_zip hy).1) (fun h₁ hns hsb => ⟨lim.fresh _ hsb, ?_⟩) S.kind
  refine (show codeAny _ _ (.func F.body (envF F f s.heap.objs.size)) _ _ from ks_codeAny_funcAt ?_)
  have kp : ∀ b o, s.heap.get? b = some o → h₁.get? b = some o := fun b o z =>
    hsb.extBut b o (Nat.ne_of_lt (Heap.lt_size z)) (Heap.get?_push_of_some _ z)
  obtain ⟨a, te, tr, hv0, hHa, hpe, hpr, hq⟩ := hbody A outer s H vs Q E (hr.deeper _) hsp
  have I : Inv (ncx CX0 P w K mg base N F f A outer s H E) [] (startF N vs [some (.ref C)]) H { s with heap := h₁, toks := s.toks + (ps.zip us).length } := inv_startN S hr.hd e0 hl r CC hns kp
  have main : _root_.PySem.wpAt (model P w) (A.deeper (envF F f s.heap.objs.size)) (.func F.body (envF F f s.heap.objs.size)) (execs F.body (envF F f s.heap.objs.size))
      (SP (ncx CX0 P w K mg base N F f A outer s H E) [] { nx := fun _ H' => Q .non H', rt := Q }) (ncx CX0 P w K mg base N F f A outer s H E).xe { s with heap := h₁, toks := s.toks + (ps.zip us).length } := by
    obtain ⟨ar, har, har2⟩ := Option.map_eq_some_iff.mp hp
    obtain ⟨q1, q2, q3, vsC, file, tf, hcode, hvs, hfile⟩ := T.code
    obtain ⟨nm, qn, Nn, bs, bm, sn, sub, ab, col, dd, k0, k1, k2, k3, k5, hC, hbm⟩ := T.ox.cls
    have hcl : PySem.W.clsIn K C = some { name := nm, bases := bs, mro := .ref C :: bm, ns := Nn, qualname := qn, hasDict := true, slotNames := sn, subclasses := sub, abstract := ab, collection := col, hasDel := false } := by unfold PySem.W.clsIn; rw [hC] <;> rfl
    obtain ⟨t1, ha⟩ := exo_at I.hok hHa
    have X1 : K.In h₁ := I.kIn
    have hself : ∃ m, h₁.Ns s.heap.objs.size m ∧ m ("self" : Str) = some (.ref a) := by
      obtain ⟨m, hn, hl⟩ := I.loc
      have hst : (startF N vs [some (V.ref C)])[0]? = some (some (.ref a)) := by
        unfold startF
        rw [List.getElem?_append_left (by rw [List.length_map]; exact (List.getElem?_eq_some_iff.mp hv0).1), List.getElem?_map, hv0]
        rfl
      obtain ⟨u, ru, l⟩ := hl 0 "self" (.ref a) hN0 hst (.inl hka)
      obtain rfl : u = Value.ref a := ru
      rcases l with ⟨_, l⟩ | ⟨l, _⟩
      · exact ⟨m, hn, l⟩
      · have l : F.scope.names.lookup ("self" : Str) = some .cell ∨ F.scope.names.lookup ("self" : Str) = some .free := l
        rw [hka] at l
        rcases l with l | l <;> cases l
    obtain ⟨m, hm1, hm2⟩ := hself
    rw [hbd]
    refine ks_wpAt_execs_cons (ks_wpAt_Expr_any (ks_wpAt_MethodCall ?_ (he _)) I.quiet rfl)
    refine ks_wpAt_super_base (env := envF F f s.heap.objs.size) hks hkc (by decide) rfl (X1 _ _ lk) rfl har rfl (X1 _ _ hcode) rfl hvs hfile T.top ?_
    refine PySem.W.ks_loadName_global S.kind hks ?_
    obtain ⟨mb, b1, b2⟩ := I.mod.blt
    refine Calls.loadGlobal_builtin (env := envF F f s.heap.objs.size) (I.mod.glob.keeps I.bk) T.sup (b1.keeps I.bk) ((b2 "super" (by decide +kernel)).trans (show bootBuiltins "super" = some (.type "super") by decide +kernel)) ⟨rfl, ?_⟩
    refine wpAny_loadName_free S.kind hkc (by show F.cl.lookup ("__class__" : Str) = some cc; rw [T.cl]; simp [List.lookup]) ⟨_, X1 _ _ hcell, rfl⟩ ?_
    rw [har2]
    refine wpAny_loadName_local S.kind hka hm1 hm2 ?_
    refine ks_wpAny_isType_cls (X1 _ _ hC) rfl ⟨rfl, ?_⟩
    refine ks_wpAny_call_super (X1 _ _ hC) rfl ha rfl (fun c z => by cases z) (PySem.W.looks_mroIn X1 T.isC) (fun h2 eso kp2 => ?_)
    have I2 : Inv (ncx CX0 P w K mg base N F f A outer s H E) [] (startF N vs [some (.ref C)]) H { s with heap := h2, toks := s.toks + (ps.zip us).length } := I.kept (t' := s.toks + (ps.zip us).length) kp2
    have X2 : K.In h2 := I2.kIn
    have ha2 := kp2 _ _ ha
    have IA : PySem.W.InstAt h2 a { cls := .ref C, dict := none, data := .fields #[.ref t1, .none, .none, .none, .bool false, .none] } C none := ⟨ha2, rfl, rfl, trivial⟩
    refine PySem.W.kxs_getMethod PySem.W.kxs_ValueError eso (PySem.W.looks_opaque X2 T.third) (l₀ := .ref C :: bm) ?_ rfl X2 ?_ (IA.type.andThen (PySem.W.looks_subIn X2 T.isVE)) (PySem.W.ks_ne X2 IA hcl) (by decide) ?_
    · exact fun A Q E s k q => wpAny_bind ((PySem.W.looks_clsIn X2 hcl) A _ E s k (wpAny_pure q))
    · have z := T.along
      unfold PySem.W.ks_superIn at z
      rw [hcl] at z
      exact z
    -- the method-wrapper u, then the argument
    have hsz : h2.objs.size ≤ h2.objs.size := Nat.le_refl _
    have hu : (h2.push (PySem.W.kxs_mw "ValueError.__init__" a)).get? h2.objs.size = some (PySem.W.kxs_mw "ValueError.__init__" a) := Heap.get?_push_at rfl rfl
    have I3 : Inv (ncx CX0 P w K mg base N F f A outer s H E) [] (startF N vs [some (.ref C)]) H { s with heap := h2.push (PySem.W.kxs_mw "ValueError.__init__" a), toks := s.toks + (ps.zip us).length + 1 } :=
      I2.kept (t' := s.toks + (ps.zip us).length + 1) fun b o e => Heap.get?_push_of_some _ e
    have I4 : Inv (ncx CX0 P w K mg base N F f A outer s H E) [(h2.objs.size, PySem.W.kxs_mw "ValueError.__init__" a)] (startF N vs [some (.ref C)]) H { s with heap := h2.push (PySem.W.kxs_mw "ValueError.__init__" a), toks := s.toks + (ps.zip us).length + 1 } :=
      I3.pins_of fun p hp => by
        obtain rfl := List.mem_singleton.mp hp
        exact ⟨hu, I2.hok.fresh hsz, Nat.ne_of_gt I2.lt, I2.nofs hsz, fun v z => by cases z⟩
    dsimp only
    rw [hse]
    refine PySem.W.kxs_callWith (i := "ValueError.__init__") (x := a) (by rfl) ?_
    refine Calls.evalArgs_plain ?_
    refine Calls.spliced_cons (thn (hpe.run _ _ _ _ _ I4 hq) fun y s5 hy => ?_)
    obtain ⟨v5, H5, I5, r5, ha5, q5⟩ := hy
    refine Calls.spliced_nil ?_
    obtain ⟨hu5, _⟩ := I5.pin (h2.objs.size, PySem.W.kxs_mw "ValueError.__init__" a) (List.mem_append_right _ List.mem_cons_self)
    refine ⟨hu5, ?_⟩
    obtain ⟨t5, ha5'⟩ := exo_at I5.hok ha5
    have X5 : K.In s5.heap := I5.kIn
    obtain ⟨hp5, g5, d5, tk5, os5⟩ := s5
    refine PySem.XV.init_bound (X5 _ _ hC) ha5' hu5 (by show 1 ≤ sizeLine; decide) fun h6 t6 k6 hx6 => ?_
    have J := I5.write (t' := tk5) (x := a) (e := a) (o := exo a C none) (by rw [ha5]; exact True.intro) (.inl rfl) k6 ⟨_, hx6⟩ (exo_ok hx6)
    have eu : upd H5 a (exo a C none) = H5 := by
      funext b
      by_cases hb : b = a
      · rw [hb, upd_same, ha5]
      · rw [upd_ne hb]
    rw [eu] at J
    have J0 : Inv (ncx CX0 P w K mg base N F f A outer s H E) [] (startF N vs [some (.ref C)]) H5 ⟨h6, g5, d5, tk5, os5⟩ := J.pins_of fun p hp => absurd hp (by simp)
    exact wpAt_of_wpAny (hpr.run [] _ _ H5 _ J0 q5)
  refine ks_wpAt_mono main (fun fl s' hs => ?_) fun e s' hs => hs
  cases fl with
  | ret u =>
    obtain ⟨v, _, H', J, rv, qv⟩ := hs
    exact ⟨v, H', J.os, J.bare, J.base, J.hok, rv, qv⟩
  | next =>
    obtain ⟨_, H', J, qv⟩ := hs
    exact ⟨V.non, H', J.os, J.bare, J.base, J.hok, rfl, qv⟩
  | brk => exact False.elim hs.choose_spec.choose_spec.2
  | cont => exact False.elim hs.choose_spec.choose_spec.2
end
end L2

namespace K11
open PySem PySem.Spec PyProof.Rows L2 LcM
def top (i : Nat) : Stmt := PySem.Challenge.pw_twopartings_k11_crossing_groups.main.body.getD i (.Pass ⟨0, 0, 0, 0⟩)
abbrev sPouch : Stmt := top 58
abbrev sDip : Stmt := top 59
abbrev sItems : Stmt := top 60

/-! ### power of a great base -/
def CPowW (i j : Int) : Prop := 0 ≤ j ∧ (Builtin.Int.intBits i : Int) * j ≤ 2 ^ 27
section
variable {X : Cx}
theorem op_powW : OpR X (binaryOp .Pow) (rI CPowW fun i j => .int (i ^ j.toNat)) := opI fun _ _ _ _ _ _ _ hc q => pow_int hc.1 hc.2 q
end
theorem bits_of {i : Int} {n : Nat} (h : i.natAbs < 2 ^ n) (h0 : 0 < n) : Builtin.Int.intBits i ≤ n := by
  unfold Builtin.Int.intBits
  split
  · omega
  · have := PySem.Flt.log2_lt_of h0 h
    omega
theorem pow3' {i : Int} {n : Nat} (h : i.natAbs < 2 ^ 64) (hn : n ≤ 1000) : CPowW i n := ⟨by omega, by
  have := bits_of h (by decide)
  have z : (Builtin.Int.intBits i : Int) * (n : Int) ≤ 64 * 1000 := Int.mul_le_mul (by omega) (by omega) (by omega) (by decide)
  omega⟩
theorem pow3 {i : Int} (h : i.natAbs < 2 ^ 300) : CPowW i 3 := ⟨by decide, by have := bits_of h (by decide); omega⟩

/-! ### the heap grows: all of it stays but at one place -/
def Gr (p : Addr) (H H' : Hp) : Prop := ∀ b o, b ≠ p → H b = some o → H' b = some o
theorem Gr.refl {p : Addr} {H : Hp} : Gr p H H := fun _ _ _ e => e
theorem Gr.trans {p : Addr} {H H1 H2 : Hp} (x : Gr p H H1) (y : Gr p H1 H2) : Gr p H H2 := fun b o n e => y b o n (x b o n e)
theorem Gr.new {p a : Addr} {H : Hp} {o : HO} (h : H a = none) : Gr p H (upd H a o) := fun b u n e => by
  rw [upd_ne (ne_of_none e h)]
  exact e
theorem Gr.at {p : Addr} {H : Hp} {o : HO} : Gr p H (upd H p o) := fun b u n e => by
  rw [upd_ne n]
  exact e
theorem _root_.LcM.Grows.gr {p : Addr} {H H' : Hp} (x : Grows H H') : Gr p H H' := fun b o _ e => x b o e
/-! ### the pouch -/
def Pch (H : Hp) (p : Addr) (m : Int) : Prop := ∃ d b n : Int, H p = some (.lst [.int d, .int b, .int n]) ∧ 0 ≤ b ∧ b < 2 ^ 200 ∧ 0 ≤ n ∧ n ≤ m
theorem Pch.le {H : Hp} {p : Addr} {m k : Int} (h : Pch H p m) (l : m ≤ k) : Pch H p k := by
  obtain ⟨d, b, n, e, h1, h2, h3, h4⟩ := h
  exact ⟨d, b, n, e, h1, h2, h3, by omega⟩
theorem Pch.same {H H' : Hp} {p : Addr} {m : Int} (h : Pch H p m) (s : Grows H H') : Pch H' p m := by
  obtain ⟨d, b, n, e, r⟩ := h
  exact ⟨d, b, n, s _ _ e, r⟩
structure Txt0 (mg : Str → Option Value) : Prop where
  int : mg "int" = none
  range : mg "range" = none
  len : mg "len" = none
  abs : mg "abs" = none
  max : mg "max" = none
  min : mg "min" = none
def spPouch (K : PySem.W.Frag) : Sp := fun vs H Q _ => ∃ (a : Addr) (i : Int) (ns : List Int), vs = [.ref a, .int i] ∧ SqL K H a (ns.map V.int) ∧ 0 ≤ i ∧ i < 1000 ∧ ∀ (p : Addr) (H' : Hp), H p = none → Grows H H' → Pch H' p 0 → Q (.ref p) H'
def spDip : Sp := fun vs H Q _ => ∃ (p : Addr) (w m : Int), vs = [.ref p, .int w] ∧ Pch H p m ∧ m < 2 ^ 60 ∧ 0 < w ∧ w.natAbs < 2 ^ 200 ∧ ∀ (v : Int) (H' : Hp), 0 ≤ v → v < w → Pch H' p (m + 1) → (∀ b, b ≠ p → H' b = H b) → Q (.int v) H'

section
variable {P : Program} {w : World} {K : PySem.W.Frag} {mg : Str → Option Value} {base : Heap}
theorem scPouch : FnScope ["script", "at", "cell"] ["script", "at"] (defScope sPouch) := ⟨rfl, rfl, rfl, by decide +kernel, rfl, by decide +kernel, by decide +kernel⟩
theorem ok_pouch {f : Addr} {fd : FuncData} (F : Fun K "_law_pouch" "_law_pouch" sPouch f fd) (T : Txt0 mg) : FnOk P w K mg base CX0 1 f fd ["script", "at"] (spPouch K) := by
  refine F.ok scPouch (fun vs H Q E h => ?_) (fun cdv A outer s H vs Q E hr h => ?_)
  · obtain ⟨a, i, ns, rfl, _⟩ := h
    rfl
  · obtain ⟨a, i, ns, rfl, hS, h0, h1, k⟩ := h
    refine ⟨_, (pss_cons (ps_set (i := 2) scPouch.nd rfl (.inl rfl) (pe_ifExp (pt_cmpR op_lt (pv 1) (pe_callB call_len_seq (by rfl) T.len (by decide +kernel) (pa_cons (pv 0) pa_nil)) (nomark _)) (pe_ix (r := rIxL K) ix_list (pv 0) (pv 1) (fun _ _ => rfl)) pe_int))
      (pss_one (ps_ret (pe_lst (pa_cons (pe_callB (call_max2 rfl) (by rfl) T.max (by decide +kernel) (pa_cons pe_int (pa_cons (pe_op op_sub (pe_callB call_abs (by rfl) T.abs (by decide +kernel) (pa_cons (pv 2) pa_nil)) (pe_op op_powW pe_int pe_int)) pa_nil))) (pa_cons (pe_op op_add (pe_op op_add (pe_op op_mul (pe_op op_mod (pe_callTy call_int1 (by rfl) T.int (by decide +kernel) (pa_cons (pv 2) pa_nil)) (pe_op op_add (pe_op op_powW pe_int pe_int) pe_int)) pe_int) (pe_op op_mul pe_int (pv 1))) pe_int) (pa_cons pe_int pa_nil))))))), ?_⟩
    have hP : CPowW 10 18 := pow3' (by decide) (by decide)
    have hP2 : CPowW 10 38 := pow3' (by decide) (by decide)
    have pos : (0 : Int) < (10 : Int) ^ (38 : Int).toNat + 133 := by decide
    have fin : ∀ c : Int, gName 2 (V.int c) (L2.start ["script", "at", "cell"] [V.ref a, V.int i]) H
        ({ nx := tRet (tLst (tCons (tCB (fun xs H Q => ∃ i j, xs = [V.int i, V.int j] ∧ Q (V.int (if j > i then j else i)) H) (tCons (tC (V.int 0)) (tCons (tOp (rI0 fun i j => V.int (i - j)) (tCB (fun xs H Q => ∃ i, xs = [V.int i] ∧ Q (V.int (if i < 0 then -i else i)) H) (tCons (tVar 2) tNil)) (tOp (rI CPowW fun i j => V.int (i ^ j.toNat)) (tC (V.int 10)) (tC (V.int 18)))) tNil)))
              (tCons (tOp (rI0 fun i j => V.int (i + j)) (tOp (rI0 fun i j => V.int (i + j)) (tOp (rI CMul fun i j => V.int (i * j)) (tOp (rI (fun x j => 0 < j) fun i j => V.int (i % j)) (tCB (fun xs H Q => (∃ i, xs = [V.int i] ∧ Q (V.int i) H) ∨ ∃ k, xs = [V.bl k] ∧ Q (V.int (if k = true then 1 else 0)) H) (tCons (tVar 2) tNil))
                (tOp (rI0 fun i j => V.int (i + j)) (tOp (rI CPowW fun i j => V.int (i ^ j.toNat)) (tC (V.int 10)) (tC (V.int 38))) (tC (V.int 133)))) (tC (V.int 107))) (tOp (rI CMul fun i j => V.int (i * j)) (tC (V.int 71)) (tVar 1))) (tC (V.int 29))) (tCons (tC (V.int 0)) tNil))))
            ({ nx := fun _ H' => Q V.non H', rt := Q } : Ends), rt := Q } : Ends).nx := fun c => by
      refine ⟨_, rfl, _, rfl, _, _, rfl, rfl, hP, _, _, rfl, rfl, _, _, rfl, _, rfl, .inl ⟨_, rfl, _, _, rfl, rfl, hP2, _, _, rfl, rfl, _, _, rfl, rfl, pos, _, _, rfl, rfl, .inr ⟨by decide, by decide⟩, _, rfl, _, _, rfl, rfl, .inl ⟨by decide, by decide⟩, _, _, rfl, rfl, _, _, rfl, rfl, ?_⟩⟩
      have l0 := Int.emod_nonneg c (Int.ne_of_gt pos)
      have l1 := Int.emod_lt_of_pos c pos
      have e0 : (10 : Int) ^ (38 : Int).toNat + 133 = 100000000000000000000000000000000000133 := by decide
      rw [e0] at l0 l1 ⊢
      refine ⟨(by show 3 ≤ sizeLine; decide), fun l hl => k l _ hl (Grows.new hl) ⟨_, _, _, upd_same, ?_, ?_, by decide, by decide⟩⟩
      · omega
      · omega
    refine ⟨_, rfl, _, rfl, a, _, rfl, .inl hS, _, _, rfl, rfl, _, rfl, ?_⟩
    refine ite2 (fun e => ?_) (fun e => ?_)
    · have lt : i.toNat < ns.length := by
        have q := of_decide_eq_true e
        rw [List.length_map] at q
        omega
      have g : (ns.map V.int)[i.toNat]? = some (.int ns[i.toNat]) := by
        rw [List.getElem?_map, List.getElem?_eq_getElem lt]
        rfl
      have g2 : atI (ns.map V.int) i = some (.int ns[i.toNat]) := by
        have q := atI_nat g
        rw [Int.toNat_of_nonneg h0] at q
        exact q
      refine ⟨_, rfl, _, rfl, a, _, _, _, rfl, rfl, hS, g2, ?_⟩
      exact fin _
    · exact fin _
end
end K11

namespace K11
open PySem PySem.Spec PyProof.Rows L2 LcM
section
variable {P : Program} {w : World} {K : PySem.W.Frag} {mg : Str → Option Value} {base : Heap}
theorem scDip : FnScope ["pouch", "wide", "taken", "mixed"] ["pouch", "wide"] (defScope sDip) := ⟨rfl, rfl, rfl, by decide +kernel, rfl, by decide +kernel, by decide +kernel⟩
theorem ok_dip {f : Addr} {fd : FuncData} (F : Fun K "_law_dip" "_law_dip" sDip f fd) (T : Txt0 mg) : FnOk P w K mg base CX0 1 f fd ["pouch", "wide"] spDip := by
  refine F.ok scDip (fun vs H Q E h => ?_) (fun cdv A outer s H vs Q E hr h => ?_)
  · obtain ⟨p, wd, m, rfl, _⟩ := h
    rfl
  · obtain ⟨p, wd, m, rfl, ⟨d, b, n, e, b0, b1, n0, n1⟩, hm, hw, hw2, k⟩ := h
    refine ⟨_, (pss_cons (ps_if (pt_cmpR op_gt (pe_ix (r := rIxL K) ix_list (pv 0) pe_int (fun _ _ => rfl)) pe_int (nomark _)) (pss_cons (ps_set (i := 2) scDip.nd rfl (.inl rfl) (pe_op op_mod (pe_callTy call_int1 (by rfl) T.int (by decide +kernel) (pa_cons (pe_ix (r := rIxL K) ix_list (pv 0) pe_int (fun _ _ => rfl)) pa_nil)) (pv 1)))
      (pss_cons (ps_asg (pe_op op_fdivW (pe_ix (r := rIxL K) ix_list (pv 0) pe_int (fun _ _ => rfl)) (pv 1)) (pg_sub (pv 0) pe_int set_list))
      (pss_one (ps_ret (pv 2))))) pss_nil)
      (pss_cons (ps_asg (pe_op op_add (pe_ix (r := rIxL K) ix_list (pv 0) pe_int (fun _ _ => rfl)) pe_int) (pg_sub (pv 0) pe_int set_list))
      (pss_cons (ps_set (i := 3) scDip.nd rfl (.inl rfl) (pe_op op_mod (pe_op op_powW (pe_callTy call_int1 (by rfl) T.int (by decide +kernel) (pa_cons (pe_op op_add (pe_ix (r := rIxL K) ix_list (pv 0) pe_int (fun _ _ => rfl)) (pe_op op_mul pe_int (pe_ix (r := rIxL K) ix_list (pv 0) pe_int (fun _ _ => rfl)))) pa_nil)) pe_int) (pe_op op_add (pe_op op_powW pe_int pe_int) pe_int)))
      (pss_cons (ps_set (i := 3) scDip.nd rfl (.inl rfl) (pe_op op_mod (pe_op op_powW (pe_callTy call_int1 (by rfl) T.int (by decide +kernel) (pa_cons (pe_op op_add (pv 3) (pe_op op_mul pe_int (pe_ix (r := rIxL K) ix_list (pv 0) pe_int (fun _ _ => rfl)))) pa_nil)) pe_int) (pe_op op_add (pe_op op_powW pe_int pe_int) pe_int)))
      (pss_one (ps_ret (pe_op op_mod (pe_callTy call_int1 (by rfl) T.int (by decide +kernel) (pa_cons (pe_op op_fdivW (pv 3) pe_int) pa_nil)) (pv 1)))))))), ?_⟩
    refine ⟨_, rfl, p, _, _, _, rfl, rfl, SqL.of e, rfl, _, _, rfl, rfl, _, rfl, ?_⟩
    refine ite2 (fun _ => ?_) (fun _ => ?_)
    · refine ⟨_, rfl, p, _, _, _, rfl, rfl, SqL.of e, rfl, .inl ⟨_, rfl, _, rfl, _, _, rfl, rfl, hw, _, rfl, p, _, _, _, rfl, rfl, SqL.of e, rfl, _, rfl, _, _, rfl, rfl, wide_div hw hw2 (by decide) (by decide), _, rfl, p, _, _, 0, rfl, rfl, e, rfl, _, rfl, ?_⟩⟩
      exact k _ _ (Int.emod_nonneg _ (by omega)) (Int.emod_lt_of_pos _ hw) ⟨_, _, _, upd_same, b0, b1, n0, by omega⟩ fun _ h => upd_ne h
    · refine ⟨_, rfl, p, _, _, _, rfl, rfl, SqL.of e, rfl, _, _, rfl, rfl, _, rfl, p, _, _, 2, rfl, rfl, e, rfl, ?_⟩
      have hP : CPowW 10 41 := pow3' (by decide) (by decide)
      have hP2 : CPowW 10 39 := pow3' (by decide) (by decide)
      have q0 : (0 : Int) < (10 : Int) ^ (41 : Int).toNat + 37 := by decide
      have q1 : (0 : Int) < (10 : Int) ^ (39 : Int).toNat + 3 := by decide
      have q2 : (10 : Int) ^ (41 : Int).toNat + 37 < 2 ^ 200 := by decide
      have c1 : CPowW (b + 870022201 * (n + 1)) 3 := pow3 (by omega)
      refine ⟨_, rfl, p, _, _, _, rfl, rfl, SqL.of upd_same, rfl, _, rfl, p, _, _, _, rfl, rfl, SqL.of upd_same, rfl, _, _, rfl, rfl, .inl ⟨by decide, by decide⟩, _, _, rfl, rfl, .inl ⟨_, rfl, _, _, rfl, rfl, c1, _, _, rfl, rfl, hP, _, _, rfl, rfl, _, _, rfl, rfl, q0, ?_⟩⟩
      obtain ⟨y, hy⟩ : ∃ y : Int, y = (b + 870022201 * (n + 1)) ^ (3 : Int).toNat % ((10 : Int) ^ (41 : Int).toNat + 37) := ⟨_, rfl⟩
      have y0 : 0 ≤ y := hy ▸ Int.emod_nonneg _ (Int.ne_of_gt q0)
      have y1 : y < (10 : Int) ^ (41 : Int).toNat + 37 := hy ▸ Int.emod_lt_of_pos _ q0
      have c2 : CPowW (y + 334214467 * (n + 1)) 3 := pow3 (by omega)
      show gName 3 (.int ((b + 870022201 * (n + 1)) ^ (3 : Int).toNat % ((10 : Int) ^ (41 : Int).toNat + 37))) _ _ _
      rw [← hy]
      refine ⟨_, rfl, _, rfl, p, _, _, _, rfl, rfl, SqL.of upd_same, rfl, _, _, rfl, rfl, .inl ⟨by decide, by decide⟩, _, _, rfl, rfl, .inl ⟨_, rfl, _, _, rfl, rfl, c2, _, _, rfl, rfl, hP2, _, _, rfl, rfl, _, _, rfl, rfl, q1, ?_⟩⟩
      refine ⟨_, rfl, _, _, rfl, rfl, ⟨by decide, by decide⟩, .inl ⟨_, rfl, _, rfl, _, _, rfl, rfl, hw, ?_⟩⟩
      exact k _ _ (Int.emod_nonneg _ (by omega)) (Int.emod_lt_of_pos _ hw) ⟨_, _, _, upd_same, b0, b1, by omega, by omega⟩ fun _ h => upd_ne h
end
end K11

namespace K11
open PySem PySem.Spec PyProof.Rows L2 LcM
theorem at_in {xs : List V} {v : Int} (h0 : 0 ≤ v) (h1 : v < xs.length) : ∃ z ∈ xs, atI xs v = some z := by
  have lt : v.toNat < xs.length := by omega
  have q := atI_nat (List.getElem?_eq_getElem lt)
  rw [Int.toNat_of_nonneg h0] at q
  exact ⟨_, List.getElem_mem lt, q⟩
/-- items of newcomers: each within its bounds -/
def Bnd (xs : List Int) : Prop := ∀ (j : Nat) (x : Int), xs[j]? = some x → -(j : Int) ≤ x ∧ x ≤ (j : Int)
theorem Bnd.add {xs : List Int} {x : Int} (h : Bnd xs) (h0 : -(xs.length : Int) ≤ x) (h1 : x ≤ (xs.length : Int)) : Bnd (xs ++ [x]) := fun j y e => by
  rcases Nat.lt_or_ge j xs.length with z | z
  · rw [List.getElem?_append_left z] at e
    exact h j y e
  · rw [List.getElem?_append_right z] at e
    have : j - xs.length = 0 := by
      rcases Nat.eq_zero_or_pos (j - xs.length) with q | q
      · exact q
      · rw [List.getElem?_eq_none (by show 1 ≤ j - xs.length; omega)] at e
        cases e
    rw [this] at e
    have e' : x = y := Option.some.inj e
    omega
def spItems : Sp := fun vs H Q _ => ∃ (p : Addr) (mn m : Int), vs = [.ref p, .int mn] ∧ Pch H p m ∧ m < 2 ^ 50 ∧ 1 ≤ mn ∧ mn ≤ 20 ∧
  ∀ (l : Addr) (xs : List Int) (H' : Hp), (xs.length : Int) = mn - 1 → Bnd xs → Pch H' p (m + 100) → Gr p H H' → H l = none → H' l = some (.lst (xs.map V.int)) → Q (.ref l) H'
theorem but_at {p a : Addr} {H H' : Hp} {o : HO} (h : ∀ b, b ≠ p → H' b = H b) (e : H a = some o) (n : a ≠ p) : H' a = some o := (h a n).trans e
theorem but_gr {p : Addr} {H H' : Hp} (h : ∀ b, b ≠ p → H' b = H b) : Gr p H H' := fun b o n e => (h b n).trans e
theorem pch_ne {p a : Addr} {H : Hp} {m : Int} (h : Pch H p m) (n : H a = none) : a ≠ p := fun e => by
  obtain ⟨_, _, _, q, _⟩ := h
  rw [← e, n] at q
  cases q
section
variable {P : Program} {w : World} {K : PySem.W.Frag} {mg : Str → Option Value} {base : Heap}
structure TxtD (mg : Str → Option Value) (fD : Addr) : Prop extends Txt0 mg where
  gD : mg "_law_dip" = some (.ref fD)
theorem scItems : FnScope ["pouch", "many", "style", "found", "fresh", "near", "pick"] ["pouch", "many"] (defScope sItems) := ⟨rfl, rfl, rfl, by decide +kernel, rfl, by decide +kernel, by decide +kernel⟩
theorem ok_items {f fD : Addr} {fd fdD : FuncData} (F : Fun K "_law_items" "_law_items" sItems f fd) (T : TxtD mg fD) (FD : Fun K "_law_dip" "_law_dip" sDip fD fdD) (bD : Binds K fdD ["pouch", "wide"] []) : FnOk P w K mg base CX0 2 f fd ["pouch", "many"] spItems := by
  have GD : FnOk P w K mg base CX0 1 fD fdD ["pouch", "wide"] spDip := ok_dip FD T.toTxt0
  refine F.ok scItems (fun vs H Q E h => ?_) (fun cdv A outer s H vs Q E hr h => ?_)
  · obtain ⟨p, mn, m, rfl, _⟩ := h
    rfl
  · obtain ⟨p, mn, m, rfl, hP, hm, hmn, hmx, k⟩ := h
    refine ⟨_, (pss_cons (ps_par (i := 2) (j := 3) (by rfl) scItems.nd rfl rfl (by decide) rfl rfl (pa_cons (pe_call GD (hr.mono (by decide)) rfl T.gD FD.kp bD .nil pass0 (pa_cons (pv 0) (pa_cons pe_int pa_nil))) (pa_cons (pe_lst pa_nil) pa_nil)) (by rfl))
      (pss_cons (ps_for PassesOwn.never rfl (pi_range2 (by rfl) T.range (pa_cons pe_int (pa_cons (pv 1) pa_nil))) (pg_name (i := 4) scItems.nd rfl (.inl rfl))
      (pss_cons (ps_set (i := 5) scItems.nd rfl (.inl rfl) (pe_lst (pa_cons (pe_op op_add (pe_op op_sub (pe_call GD (hr.mono (by decide)) rfl T.gD FD.kp bD .nil pass0 (pa_cons (pv 0) (pa_cons (pe_op op_sub (pe_op op_mul pe_int (pv 4)) pe_int) pa_nil))) (pv 4)) pe_int) (pa_cons (pe_op op_sub (pv 4) pe_int) (pa_cons (pe_op op_sub pe_int (pv 4)) (pa_cons pe_int (pa_cons (pe_op op_sub pe_int (pe_callB (call_min2 rfl) (by rfl) T.min (by decide +kernel) (pa_cons pe_int (pa_cons (pe_op op_sub (pv 4) pe_int) pa_nil)))) pa_nil)))))))
      (pss_cons (ps_set (i := 6) scItems.nd rfl (.inl rfl) (pe_ix (r := rIxL K) ix_list (pe_lst (pa_cons (pe_call GD (hr.mono (by decide)) rfl T.gD FD.kp bD .nil pass0 (pa_cons (pv 0) (pa_cons pe_int pa_nil))) (pa_cons pe_int (pa_cons pe_int (pa_cons pe_int (pa_cons (pe_ix (r := rIxL K) ix_list (pe_lst (pa_cons pe_int (pa_cons pe_int pa_nil))) (pe_call GD (hr.mono (by decide)) rfl T.gD FD.kp bD .nil pass0 (pa_cons (pv 0) (pa_cons pe_int pa_nil))) (fun _ _ => rfl)) (pa_cons (pe_ix (r := rIxL K) ix_list (pe_lst (pa_cons pe_int (pa_cons pe_int pa_nil))) (pe_call GD (hr.mono (by decide)) rfl T.gD FD.kp bD .nil pass0 (pa_cons (pv 0) (pa_cons pe_int pa_nil))) (fun _ _ => rfl)) pa_nil))))))) (pv 2) (fun _ _ => rfl)))
      (pss_one (ps_expr (pe_bm PySem.F.plainAttrs_list PySem.F.slot_list_append PySem.F.type_list_append mt_append (pv 3) (pa_cons (pe_ix (r := rIxL K) ix_list (pv 5) (pv 6) (fun _ _ => rfl)) pa_nil)))))))
      (pss_one (ps_ret (pv 3))))), ?_⟩
    refine ⟨_, rfl, p, _, _, rfl, hP, by omega, by decide, by decide, fun v0 H1 v00 v01 hP1 but1 => ⟨by decide, fun l hl => ⟨_, _, rfl, ?_⟩⟩⟩
    have nlp : l ≠ p := pch_ne hP1 hl
    have hl0 : H l = none := (but1 l nlp).symm.trans hl
    refine ⟨_, rfl, 1, mn, rfl, ⟨by decide, by decide, by omega, by omega⟩, for_range (lo := 1) (n := (mn - 1).toNat) (fun i σ H' => ∃ (xs : List Int) (f1 f2 f3 : Option V), σ = [some (.ref p), some (.int mn), some (.int v0), some (.ref l), f1, f2, f3] ∧ xs.length = i ∧ Bnd xs ∧ Pch H' p (m + 1 + 4 * i) ∧ Gr p H H' ∧ H' l = some (.lst (xs.map V.int)))
      ⟨[], none, none, none, rfl, rfl, (fun j x e => by rw [List.getElem?_nil] at e; cases e), (hP1.same (.new hl)).le (by omega), (but_gr but1).trans (.new hl), upd_same⟩ ?_ ?_⟩
    · rintro i σ H2 hi ⟨xs, f1, f2, f3, rfl, hxl, hb, hP2, gr2, e2⟩
      have hi20 : i < 19 := by omega
      -- near
      refine ⟨_, rfl, _, rfl, _, _, rfl, rfl, .inl ⟨by decide, by decide⟩, _, _, rfl, rfl, p, _, _, rfl, hP2, by omega, by omega, ?_, fun v1 H3 v10 v11 hP3 but3 => ?_⟩
      · show (2 * (1 + (i : Int)) - 1).natAbs < 2 ^ 200
        omega
      refine ⟨_, rfl, _, _, rfl, rfl, _, _, rfl, rfl, _, rfl, _, _, rfl, rfl, _, rfl, _, _, rfl, rfl, _, rfl, _, _, rfl, rfl, _, _, rfl, _, _, rfl, rfl, (by show 5 ≤ sizeLine; decide), fun q1 hq1 => ?_⟩
      have nq1 := pch_ne hP3 hq1
      have el3 := but_at but3 e2 nlp
      obtain ⟨nr, hnr⟩ : ∃ nr : List V, nr = [.int (v1 - (1 + (i : Int)) + 1), .int (1 + (i : Int) - 1), .int (1 - (1 + (i : Int))), .int 0, .int (0 - (if 1 + (i : Int) - 1 < 1 then 1 + (i : Int) - 1 else 1))] := ⟨_, rfl⟩
      have nb : ∀ z ∈ nr, ∃ y : Int, z = .int y ∧ -(i : Int) ≤ y ∧ y ≤ (i : Int) := by
        intro z hz
        rw [hnr] at hz
        simp only [List.mem_cons, List.not_mem_nil, or_false] at hz
        rcases hz with rfl | rfl | rfl | rfl | rfl
        · exact ⟨_, rfl, by omega, by omega⟩
        · exact ⟨_, rfl, by omega, by omega⟩
        · exact ⟨_, rfl, by omega, by omega⟩
        · exact ⟨_, rfl, by omega, by omega⟩
        · refine ⟨_, rfl, ?_, ?_⟩ <;> (split <;> omega)
      have el4 : upd H3 q1 (.lst nr) l = some (.lst (xs.map V.int)) := (upd_ne (ne_of_none el3 hq1)).trans el3
      have hP4 : Pch (upd H3 q1 (.lst nr)) p (m + 1 + 4 * i + 1) := hP3.same (.new hq1)
      -- pick
      refine ⟨_, rfl, p, _, _, rfl, (by rw [← hnr]; exact hP4), by omega, by decide, by decide, fun v2 H5 v20 v21 hP5 but5 => ?_⟩
      rw [← hnr] at but5
      refine ⟨(by show 2 ≤ sizeLine; decide), fun q2 hq2 => ⟨_, rfl, p, _, _, rfl, hP5.same (.new hq2), by omega, by decide, by decide, fun v3 H6 v30 v31 hP6 but6 => ?_⟩⟩
      have nq2 := pch_ne hP5 hq2
      obtain ⟨z3, hz3, ez3⟩ := at_in (xs := [V.int 0, V.int 3]) v30 v31
      refine ⟨q2, _, v3, z3, rfl, rfl, SqL.of (but_at but6 upd_same nq2), ez3, (by show 2 ≤ sizeLine; decide), fun q3 hq3 => ⟨_, rfl, p, _, _, rfl, hP6.same (.new hq3), by omega, by decide, by decide, fun v4 H7 v40 v41 hP7 but7 => ?_⟩⟩
      have nq3 := pch_ne hP6 hq3
      obtain ⟨z4, hz4, ez4⟩ := at_in (xs := [V.int 0, V.int 4]) v40 v41
      refine ⟨q3, _, v4, z4, rfl, rfl, SqL.of (but_at but7 upd_same nq3), ez4, (by show 6 ≤ sizeLine; decide), fun q4 hq4 => ?_⟩
      obtain ⟨z5, hz5, ez5⟩ := at_in (xs := [V.int v2, V.int 0, V.int 1, V.int 2, z3, z4]) v00 v01
      have pk : ∃ y : Int, z5 = .int y ∧ 0 ≤ y ∧ y < 5 := by
        simp only [List.mem_cons, List.not_mem_nil, or_false] at hz5 hz3 hz4
        rcases hz5 with rfl | rfl | rfl | rfl | rfl | rfl
        · exact ⟨_, rfl, v20, v21⟩
        · exact ⟨_, rfl, by decide, by decide⟩
        · exact ⟨_, rfl, by decide, by decide⟩
        · exact ⟨_, rfl, by decide, by decide⟩
        · rcases hz3 with rfl | rfl <;> exact ⟨_, rfl, by decide, by decide⟩
        · rcases hz4 with rfl | rfl <;> exact ⟨_, rfl, by decide, by decide⟩
      obtain ⟨y, rfl, y0, y1⟩ := pk
      refine ⟨_, rfl, q4, _, v0, .int y, rfl, rfl, SqL.of upd_same, ez5, ?_⟩
      -- append
      have gr7 : Gr p (upd H3 q1 (.lst nr)) (upd H7 q4 (.lst [V.int v2, V.int 0, V.int 1, V.int 2, z3, z4])) := ((((but_gr but5).trans (.new hq2)).trans (but_gr but6)).trans (.new hq3)).trans ((but_gr but7).trans (.new hq4))
      have eq1 := gr7 q1 _ nq1 upd_same
      have el7 := gr7 l _ nlp el4
      obtain ⟨z6, hz6, ez6⟩ := at_in (xs := nr) (v := y) y0 (by rw [hnr]; exact y1)
      obtain ⟨x, rfl, x0, x1⟩ := nb z6 hz6
      refine ⟨_, rfl, .inl ⟨rfl, _, SqL.of el7⟩, _, rfl, _, rfl, q1, _, y, .int x, rfl, rfl, SqL.of eq1, ez6, l, _, _, rfl, rfl, el7, ?_, ?_⟩
      · rw [List.length_map]
        exact small1000 (by omega)
      · refine ⟨xs ++ [x], _, _, _, rfl, by rw [List.length_append, hxl]; rfl, hb.add (by omega) (by omega), ?_, ?_, by rw [upd_same, List.map_append]; rfl⟩
        · obtain ⟨d, b, n, e, b0, b1, n0, n1⟩ := (hP7.same (H' := upd H7 q4 (.lst [V.int v2, V.int 0, V.int 1, V.int 2, z3, z4])) (.new hq4))
          exact ⟨d, b, n, (upd_ne nlp.symm).trans e, b0, b1, n0, by omega⟩
        · intro b o nb' eb
          rcases Classical.em (b = l) with e | e
          · rw [e, hl0] at eb
            cases eb
          · rw [upd_ne e]
            exact gr7 b o nb' ((Gr.new hq1 : Gr p H3 _) b o nb' (but_gr but3 b o nb' (gr2 b o nb' eb)))
    · rintro σ H2 ⟨xs, f1, f2, f3, rfl, hxl, hb, hP2, gr2, e2⟩
      exact ⟨_, rfl, k l xs H2 (by omega) hb (hP2.le (by omega)) gr2 hl0 e2⟩
end
end K11

namespace K11
open PySem PySem.Spec PyProof.Rows L2 SortR LcM
abbrev sNumber : Stmt := top 13
abbrev sPerson : Stmt := top 14
abbrev sAsc : Stmt := top 15
abbrev sPList : Stmt := top 16
abbrev sGroup : Stmt := top 17
abbrev sMask : Stmt := top 21
abbrev sCross : Stmt := top 22
abbrev sAny : Stmt := top 23
abbrev sParting : Stmt := top 42
abbrev sPersons : Stmt := top 43
/-- the program's defs, where they stand -/
structure ProgF (K : PySem.W.Frag) (mg : Str → Option Value) where
  (fNum fPer fAsc fPL fGr fMask fCross fAny fIs fPs : Addr)
  (dNum dPer dAsc dPL dGr dMask dCross dAny dIs dPs : FuncData)
  FNum : Fun K "is_number" "is_number" sNumber fNum dNum
  FPer : Fun K "is_person" "is_person" sPerson fPer dPer
  FAsc : Fun K "is_ascending" "is_ascending" sAsc fAsc dAsc
  FPL : Fun K "is_person_list" "is_person_list" sPList fPL dPL
  FGr : Fun K "is_group" "is_group" sGroup fGr dGr
  FMask : Fun K "mask_of" "mask_of" sMask fMask dMask
  FCross : Fun K "masks_cross" "masks_cross" sCross fCross dCross
  FAny : Fun K "any_cross" "any_cross" sAny fAny dAny
  FIs : Fun K "is_parting" "is_parting" sParting fIs dIs
  FPs : Fun K "persons_of" "persons_of" sPersons fPs dPs
  gNum : mg "is_number" = some (.ref fNum)
  gPer : mg "is_person" = some (.ref fPer)
  gAsc : mg "is_ascending" = some (.ref fAsc)
  gPL : mg "is_person_list" = some (.ref fPL)
  gGr : mg "is_group" = some (.ref fGr)
  gMask : mg "mask_of" = some (.ref fMask)
  gCross : mg "masks_cross" = some (.ref fCross)
  gAny : mg "any_cross" = some (.ref fAny)
  gIs : mg "is_parting" = some (.ref fIs)
  gPs : mg "persons_of" = some (.ref fPs)
  bNum : Binds K dNum ["thing"] []
  bPer : Binds K dPer ["thing", "persons"] []
  bAsc : Binds K dAsc ["items"] []
  bPL : Binds K dPL ["thing", "persons"] []
  bGr : Binds K dGr ["thing", "persons"] []
  bMask : Binds K dMask ["group"] []
  bCross : Binds K dCross ["one", "other"] []
  bAny : Binds K dAny ["groups"] []
  bIs : Binds K dIs ["thing"] []
  bPs : Binds K dPs ["parting"] []
  gComb : mg "combinations" = some (.type "itertools.combinations")
  mostT : Tok
  gMost : mg "MOST_PERSONS" = some (.int 20 mostT)
/-- the built-in kinds that may come -/
def kinds : List String := ["int", "bool", "str", "NoneType", "list", "tuple", "dict"]
structure TxtP (mg : Str → Option Value) : Prop where
  isi : mg "isinstance" = none
  int : mg "int" = none
  bool : mg "bool" = none
  list : mg "list" = none
  len : mg "len" = none
  all : mg "all" = none
  any : mg "any" = none
  sum : mg "sum" = none
  zip : mg "zip" = none
  sorted : mg "sorted" = none
  tuple : mg "tuple" = none
  range : mg "range" = none
  enumerate : mg "enumerate" = none
def spNumber (K : PySem.W.Frag) : Sp := fun vs H Q _ => ∃ (x : V) (t : String), vs = [x] ∧ TyX K H x (.type t) ∧ t ∈ kinds ∧ Q (.bl (decide (t = "int"))) H
def spPerson (K : PySem.W.Frag) : Sp := fun vs H Q _ => ∃ (x : V) (t : String) (n : Int), vs = [x, .int n] ∧ TyX K H x (.type t) ∧ t ∈ kinds ∧ (t = "int" → ∃ i, x = .int i ∧ Q (.bl (decide (0 ≤ i) && decide (i < n))) H) ∧ (t ≠ "int" → Q (.bl false) H)
/-- each below the one behind it -/
def ascI (ns : List Int) : Bool := (List.range (ns.length - 1)).all fun i => decide (ns.getD i 0 < ns.getD (i + 1) 0)
def ascR (rs : List (List Int)) : Bool := (List.range (rs.length - 1)).all fun i => decide (rs.getD i [] < rs.getD (i + 1) [])
def spAscI (K : PySem.W.Frag) : Sp := fun vs H Q _ => ∃ (a : Addr) (ns : List Int), vs = [.ref a] ∧ SqL K H a (ns.map V.int) ∧ ns.length ≤ 1000 ∧ ∀ H', Grows H H' → Q (.bl (ascI ns)) H'
def spAscR (K : PySem.W.Frag) : Sp := fun vs H Q _ => ∃ (a : Addr) (bs : List (Addr × List Int)), vs = [.ref a] ∧ SqL K H a (bs.map fun b => V.ref b.1) ∧ (∀ b ∈ bs, SqL K H b.1 (b.2.map V.int)) ∧ bs.length ≤ 1000 ∧ ∀ H', Grows H H' → Q (.bl (ascR (bs.map (·.2)))) H'
section
variable {P : Program} {w : World} {K : PySem.W.Frag} {mg : Str → Option Value} {base : Heap}
theorem scNumber : FnScope ["thing"] ["thing"] (defScope sNumber) := ⟨rfl, rfl, rfl, by decide +kernel, rfl, by decide +kernel, by decide +kernel⟩
theorem scPerson : FnScope ["thing", "persons"] ["thing", "persons"] (defScope sPerson) := ⟨rfl, rfl, rfl, by decide +kernel, rfl, by decide +kernel, by decide +kernel⟩
theorem scAsc : FnScope ["items", "low", "high"] ["items"] (defScope sAsc) := ⟨rfl, rfl, rfl, by decide +kernel, rfl, by decide +kernel, by decide +kernel⟩
theorem ok_number {f : Addr} {fd : FuncData} (F : Fun K "is_number" "is_number" sNumber f fd) (T : TxtP mg) : FnOk P w K mg base CX0 1 f fd ["thing"] (spNumber K) := by
  refine F.ok scNumber (fun vs H Q E h => ?_) (fun cdv A outer s H vs Q E hr h => ?_)
  · obtain ⟨x, t, rfl, _⟩ := h
    rfl
  · obtain ⟨x, t, rfl, ty, hk, k⟩ := h
    refine ⟨_, (pss_one (ps_ret (pe_and (pe_callB call_isi (by rfl) T.isi (by decide +kernel) (pa_cons (pv 0) (pa_cons (pe_bltn (v := .ty "int") (u := .type "int") (by rfl) T.int (by decide +kernel) rfl) pa_nil))) (pe_one (pe_not (pe_callB call_isi (by rfl) T.isi (by decide +kernel) (pa_cons (pv 0) (pa_cons (pe_bltn (v := .ty "bool") (u := .type "bool") (by rfl) T.bool (by decide +kernel) rfl) pa_nil)))))))), ?_⟩
    simp only [kinds, List.mem_cons, List.not_mem_nil, or_false] at hk
    rcases hk with rfl | rfl | rfl | rfl | rfl | rfl | rfl
    · exact ⟨_, rfl, _, _, _, _, true, rfl, .ty "int", ty, kit_ty (by decide +kernel), true, rfl, _, rfl, _, _, _, _, false, rfl, .ty "bool", ty, kit_ty (by decide +kernel), false, rfl, k⟩
    · exact ⟨_, rfl, _, _, _, _, true, rfl, .ty "int", ty, kit_ty (by decide +kernel), true, rfl, _, rfl, _, _, _, _, true, rfl, .ty "bool", ty, kit_ty (by decide +kernel), true, rfl, k⟩
    all_goals exact ⟨_, rfl, _, _, _, _, false, rfl, .ty "int", ty, kit_ty (by decide +kernel), false, rfl, k⟩
theorem ok_person (Z : ProgF K mg) (T : TxtP mg) : FnOk P w K mg base CX0 2 Z.fPer Z.dPer ["thing", "persons"] (spPerson K) := by
  have GNum : FnOk P w K mg base CX0 1 Z.fNum Z.dNum ["thing"] (spNumber K) := ok_number Z.FNum T
  refine Z.FPer.ok scPerson (fun vs H Q E h => ?_) (fun cdv A outer s H vs Q E hr h => ?_)
  · obtain ⟨x, t, n, rfl, _⟩ := h
    rfl
  · obtain ⟨x, t, n, rfl, ty, hk, k1, k2⟩ := h
    refine ⟨_, (pss_one (ps_ret (pe_and (pe_call GNum (hr.mono (by decide)) rfl Z.gNum Z.FNum.kp Z.bNum .nil pass0 (pa_cons (pv 0) pa_nil)) (pe_one (pe_chain op_le op_lt pe_int (pv 0) (pv 1)))))), ?_⟩
    refine ⟨_, rfl, x, t, rfl, ty, hk, ?_⟩
    by_cases e : t = "int"
    · obtain ⟨i, rfl, q⟩ := k1 e
      refine ⟨_, rfl, ?_⟩
      rw [if_pos (decide_eq_true e)]
      refine ⟨_, rfl, _, _, rfl, rfl, _, rfl, ?_⟩
      by_cases l : 0 ≤ i
      · rw [if_pos (decide_eq_true l)]
        refine ⟨_, rfl, _, _, rfl, rfl, ?_⟩
        rw [decide_eq_true l, Bool.true_and] at q
        exact q
      · rw [if_neg (by rw [decide_eq_false l]; exact Bool.false_ne_true)]
        rw [decide_eq_false l, Bool.false_and] at q
        exact q
    · refine ⟨_, rfl, ?_⟩
      rw [if_neg (by rw [decide_eq_false e]; exact Bool.false_ne_true)]
      exact k2 e
theorem at_map {α : Type} {f : α → V} {ns : List α} {i : Nat} {x : V} {d : α} (h : (ns.map f)[i]? = some x) : x = f (ns.getD i d) := by
  rw [List.getElem?_map] at h
  obtain ⟨z, hz, e⟩ := Option.map_eq_some_iff.mp h
  rw [← e, List.getD_eq_getElem?_getD, hz]
  rfl
theorem at_tail {α : Type} {f : α → V} {ns : List α} {i : Nat} {x : V} {d : α} (h : (ns.map f).tail[i]? = some x) : x = f (ns.getD (i + 1) d) := by
  rw [List.getElem?_tail] at h
  exact at_map h
theorem all_rng (n : Nat) (p : Nat → Bool) : ((List.range n).map p).all id = (List.range n).all p := by
  rw [List.all_map]
  rfl
theorem ok_ascI {f : Addr} {fd : FuncData} (F : Fun K "is_ascending" "is_ascending" sAsc f fd) (T : TxtP mg) : FnOk P w K mg base CX0 1 f fd ["items"] (spAscI K) := by
  refine F.ok scAsc (fun vs H Q E h => ?_) (fun cdv A outer s H vs Q E hr h => ?_)
  · obtain ⟨a, ns, rfl, _⟩ := h
    rfl
  · obtain ⟨a, ns, rfl, hS, hn, k⟩ := h
    refine ⟨_, (pss_one (ps_ret (pe_callB (cr_all rfl) (by rfl) T.all (by decide +kernel) (pa_cons (pe_lc (own := [("low", 1), ("high", 2)]) (g := gTup K 2 (gCons (gName 1) (gCons (gName 2) gNil))) (tt := tYes) rfl scAsc.nd (pi_zip (by rfl) T.zip (pa_cons (pv 0) (pa_cons (pe_slice sl_list (pv 0) (po_some pe_int) po_none) pa_nil))) (blkOk_by (own := [("low", 1), ("high", 2)]) (N := ["items", "low", "high"]) (sc := defScope sAsc) (by decide +kernel)) (fun _ _ _ _ _ => pg_tup rfl (pgs_cons (pg_name (i := 1) scAsc.nd rfl (Or.inl rfl)) (pgs_cons (pg_name (i := 2) scAsc.nd rfl (Or.inl rfl)) pgs_nil))) (fun _ _ _ _ _ => pts_nil) (fun _ _ _ _ _ => (pe_cmpR op_lt (pv 1) (pv 2) (nomark _)))) pa_nil)))), ?_⟩
    refine ⟨_, rfl, _, rfl, 1, rfl, a, _, rfl, hS, fun c nc => ?_⟩
    rw [cut_tail]
    refine ⟨a, c, _, _, rfl, (Grows.new nc).seq hS, SqL.of upd_same, fun D hD => lc_zipM (K := K) (fun i => V.bl (decide (ns.getD i 0 < ns.getD (i + 1) 0))) hD ((Grows.new nc).seq hS) (SqL.of upd_same) (by rw [List.length_map]; omega) (fun i x y T H' R hx hy sm hT kR => ?_) fun H' sm eD => ?_⟩
    · refine ⟨T, _, rfl, SqT.of upd_same, rfl, _, _, rfl, _, _, rfl, rfl, ?_⟩
      obtain rfl := at_map (d := 0) hx
      obtain rfl := at_tail (d := 0) hy
      exact ⟨rfl, _, rfl, _, rfl, _, _, rfl, rfl, kR _ .refl⟩
    · have e : min (ns.map V.int).length (ns.map V.int).tail.length = ns.length - 1 := by
        rw [List.length_tail, List.length_map]
        omega
      rw [e] at eD
      refine ⟨D, (List.range (ns.length - 1)).map fun i => decide (ns.getD i 0 < ns.getD (i + 1) 0), rfl, SqL.of (by rw [eD, List.map_map]; rfl), ?_⟩
      rw [all_rng]
      exact k H' ((Grows.new nc).trans sm)
theorem ok_ascR {f : Addr} {fd : FuncData} (F : Fun K "is_ascending" "is_ascending" sAsc f fd) (T : TxtP mg) : FnOk P w K mg base CX0 1 f fd ["items"] (spAscR K) := by
  refine F.ok scAsc (fun vs H Q E h => ?_) (fun cdv A outer s H vs Q E hr h => ?_)
  · obtain ⟨a, bs, rfl, _⟩ := h
    rfl
  · obtain ⟨a, bs, rfl, hS, hb, hn, k⟩ := h
    refine ⟨_, (pss_one (ps_ret (pe_callB (cr_all rfl) (by rfl) T.all (by decide +kernel) (pa_cons (pe_lc (own := [("low", 1), ("high", 2)]) (g := gTup K 2 (gCons (gName 1) (gCons (gName 2) gNil))) (tt := tYes) rfl scAsc.nd (pi_zip (by rfl) T.zip (pa_cons (pv 0) (pa_cons (pe_slice sl_list (pv 0) (po_some pe_int) po_none) pa_nil))) (blkOk_by (own := [("low", 1), ("high", 2)]) (N := ["items", "low", "high"]) (sc := defScope sAsc) (by decide +kernel)) (fun _ _ _ _ _ => pg_tup rfl (pgs_cons (pg_name (i := 1) scAsc.nd rfl (Or.inl rfl)) (pgs_cons (pg_name (i := 2) scAsc.nd rfl (Or.inl rfl)) pgs_nil))) (fun _ _ _ _ _ => pts_nil) (fun _ _ _ _ _ => (pe_cmpR (r := rLtR K) (op_ltR (by exact hr.units)) (pv 1) (pv 2) (nomark _)))) pa_nil)))), ?_⟩
    refine ⟨_, rfl, _, rfl, 1, rfl, a, _, rfl, hS, fun c nc => ?_⟩
    rw [cut_tail]
    have hbD : ∀ i : Nat, i < bs.length → SqL K H (bs.getD i (0, [])).1 ((bs.getD i (0, [])).2.map V.int) := fun i hi => by
      rw [List.getD_eq_getElem?_getD, List.getElem?_eq_getElem hi]
      exact hb _ (List.getElem_mem hi)
    refine ⟨a, c, _, _, rfl, (Grows.new nc).seq hS, SqL.of upd_same, fun D hD => lc_zipM (K := K) (fun i => V.bl (decide ((bs.getD i (0, [])).2 < (bs.getD (i + 1) (0, [])).2))) hD ((Grows.new nc).seq hS) (SqL.of upd_same) (by rw [List.length_map]; omega) (fun i x y T H' R hx hy sm hT kR => ?_) fun H' sm eD => ?_⟩
    · have i1 := (List.getElem?_eq_some_iff.mp hx).1
      have i2 := (List.getElem?_eq_some_iff.mp hy).1
      rw [List.length_map] at i1
      rw [List.length_tail, List.length_map] at i2
      refine ⟨T, _, rfl, SqT.of upd_same, rfl, _, _, rfl, _, _, rfl, rfl, ?_⟩
      obtain rfl := at_map (d := (0, [])) hx
      obtain rfl := at_tail (d := (0, [])) hy
      have st : Grows H (upd H' T (.tup [V.ref (bs.getD i (0, [])).1, V.ref (bs.getD (i + 1) (0, [])).1])) := ((Grows.new nc).trans sm).trans (Grows.new hT)
      exact ⟨rfl, _, rfl, _, rfl, _, _, _, _, rfl, rfl, st.seq (hbD i i1), st.seq (hbD (i + 1) (by omega)), kR _ .refl⟩
    · have e : min (bs.map fun b => V.ref b.1).length (bs.map fun b => V.ref b.1).tail.length = bs.length - 1 := by
        rw [List.length_tail, List.length_map]
        omega
      rw [e] at eD
      refine ⟨D, (List.range (bs.length - 1)).map fun i => decide ((bs.getD i (0, [])).2 < (bs.getD (i + 1) (0, [])).2), rfl, SqL.of (by rw [eD, List.map_map]; rfl), ?_⟩
      rw [all_rng]
      have q := k H' ((Grows.new nc).trans sm)
      unfold ascR at q
      rw [List.length_map] at q
      have fe : ∀ i, (bs.map (·.2)).getD i [] = (bs.getD i (0, [])).2 := fun i => by
        rw [List.getD_eq_getElem?_getD, List.getD_eq_getElem?_getD, List.getElem?_map]
        cases bs[i]? <;> rfl
      simp only [fe] at q
      exact q
end
end K11

namespace K11
open PySem PySem.Spec PyProof.Rows L2 SortR LcM
theorem ty_list {K : PySem.W.Frag} {H : Hp} {a : Addr} {xs : List V} (h : SqL K H a xs) : TyX K H (.ref a) (.type "list") := by
  rcases h with (h | ⟨o, h⟩) | ⟨o, its, n, h, hc, _⟩
  · exact .base (.lst h)
  · exact .base (.frz h)
  · exact .kList h hc
def inR (n : Int) (ns : List Int) : Bool := (List.range ns.length).all fun i => decide (0 ≤ ns.getD i 0) && decide (ns.getD i 0 < n)
def plist (n : Int) (ns : List Int) : Bool := inR n ns && ascI ns
def group (n : Int) (ns : List Int) : Bool := plist n ns && decide (2 ≤ (ns.length : Int))
def maskI (ns : List Int) : Int := ((List.range ns.length).map fun i => 1 * 2 ^ (ns.getD i 0).toNat).sum
def crossI (i j : Int) : Bool := !inV (.int (Builtin.bitAnd i j)) [.int 0, .int i, .int j]
def anyX (rs : List (List Int)) : Bool := (List.range (Comb.prs rs.length).length).any fun t => crossI (maskI (rs.getD ((Comb.prs rs.length).getD t (0, 0)).1 [])) (maskI (rs.getD ((Comb.prs rs.length).getD t (0, 0)).2 []))
def isP (rs : List (List Int)) : Bool := decide ((rs.length : Int) < 20) && ((List.range rs.length).all fun i => group (rs.length + 1) (rs.getD i [])) && ascR rs && !anyX rs
def spPL (K : PySem.W.Frag) (m : Int → List Int → Bool) : Sp := fun vs H Q _ => ∃ (a : Addr) (n : Int) (ns : List Int), vs = [.ref a, .int n] ∧ SqL K H a (ns.map V.int) ∧ ns.length ≤ 1000 ∧ ∀ H', Grows H H' → Q (.bl (m n ns)) H'
def spMask (K : PySem.W.Frag) : Sp := fun vs H Q _ => ∃ (a : Addr) (ns : List Int), vs = [.ref a] ∧ SqL K H a (ns.map V.int) ∧ ns.length ≤ 1000 ∧ (∀ x ∈ ns, 0 ≤ x ∧ x ≤ 1000) ∧ ∀ H', Grows H H' → Q (.int (maskI ns)) H'
def spCross : Sp := fun vs H Q _ => ∃ (i j : Int), vs = [.int i, .int j] ∧ ∀ H', Grows H H' → Q (.bl (crossI i j)) H'
section
variable {P : Program} {w : World} {K : PySem.W.Frag} {mg : Str → Option Value} {base : Heap}
theorem scPList : FnScope ["thing", "persons", "item"] ["thing", "persons"] (defScope sPList) := ⟨rfl, rfl, rfl, by decide +kernel, rfl, by decide +kernel, by decide +kernel⟩
theorem scGroup : FnScope ["thing", "persons"] ["thing", "persons"] (defScope sGroup) := ⟨rfl, rfl, rfl, by decide +kernel, rfl, by decide +kernel, by decide +kernel⟩
theorem scMask : FnScope ["group", "person"] ["group"] (defScope sMask) := ⟨rfl, rfl, rfl, by decide +kernel, rfl, by decide +kernel, by decide +kernel⟩
theorem scCross : FnScope ["one", "other"] ["one", "other"] (defScope sCross) := ⟨rfl, rfl, rfl, by decide +kernel, rfl, by decide +kernel, by decide +kernel⟩
theorem ok_plist (Z : ProgF K mg) (T : TxtP mg) : FnOk P w K mg base CX0 3 Z.fPL Z.dPL ["thing", "persons"] (spPL K plist) := by
  have GPer : FnOk P w K mg base CX0 2 Z.fPer Z.dPer ["thing", "persons"] (spPerson K) := ok_person Z T
  have GAsc : FnOk P w K mg base CX0 1 Z.fAsc Z.dAsc ["items"] (spAscI K) := ok_ascI Z.FAsc T
  refine Z.FPL.ok scPList (fun vs H Q E h => ?_) (fun cdv A outer s H vs Q E hr h => ?_)
  · obtain ⟨a, n, ns, rfl, _⟩ := h
    rfl
  · obtain ⟨a, n, ns, rfl, hS, hn, k⟩ := h
    refine ⟨_, (pss_cons (ps_if (pt_not (pt_val (pe_callB call_isi (by rfl) T.isi (by decide +kernel) (pa_cons (pv 0) (pa_cons (pe_bltn (v := .ty "list") (u := .type "list") (by rfl) T.list (by decide +kernel) rfl) pa_nil))))) (pss_one (ps_ret pe_bl)) pss_nil)
      (pss_one (ps_ret (pe_and (pe_callB (cr_all rfl) (by rfl) T.all (by decide +kernel) (pa_cons (pe_lc (own := [("item", 2)]) (g := gName 2) (tt := tYes) rfl scPList.nd (pi_list (pv 0)) (blkOk_by (own := [("item", 2)]) (N := ["thing", "persons", "item"]) (sc := defScope sPList) (by decide +kernel)) (fun _ _ _ _ _ => pg_name (i := 2) scPList.nd rfl (Or.inl rfl)) (fun _ _ _ _ _ => pts_nil) (fun _ _ _ _ _ => (pe_call GPer (hr.mono (by decide)) rfl Z.gPer Z.FPer.kp Z.bPer .nil pass0 (pa_cons (pv 2) (pa_cons (pv 1) pa_nil))))) pa_nil)) (pe_one (pe_call GAsc (hr.mono (by decide)) rfl Z.gAsc Z.FAsc.kp Z.bAsc .nil pass0 (pa_cons (pv 0) pa_nil))))))), ?_⟩
    refine ⟨_, rfl, _, _, _, _, true, rfl, .ty "list", ty_list hS, kit_ty (by decide +kernel), true, rfl, ?_⟩
    refine iteF ⟨_, rfl, a, rfl, ⟨_, hS⟩, fun D hD => lc_listM (K := K) (fun i => V.bl (decide (0 ≤ ns.getD i 0) && decide (ns.getD i 0 < n))) hD hS (by rw [List.length_map]; omega) (fun i x H' R hx sm kR => ?_) fun H' sm eD => ?_⟩
    · obtain rfl := at_map (d := 0) hx
      refine ⟨rfl, _, rfl, _, rfl, _, "int", n, rfl, .base (.int _), by decide, fun _ => ⟨_, rfl, kR _ .refl⟩, fun z => absurd rfl z⟩
    · rw [List.length_map] at eD
      refine ⟨D, (List.range ns.length).map fun i => decide (0 ≤ ns.getD i 0) && decide (ns.getD i 0 < n), rfl, SqL.of (by rw [eD, List.map_map]; rfl), _, rfl, ?_⟩
      rw [all_rng]
      show if inR n ns = true then _ else _
      by_cases hi : inR n ns = true
      · rw [if_pos hi]
        refine ⟨_, rfl, a, ns, rfl, sm.seq hS, hn, fun H2 s2 => ?_⟩
        have q := k H2 (sm.trans s2)
        unfold plist at q
        rw [hi, Bool.true_and] at q
        exact q
      · rw [if_neg hi]
        have q := k H' sm
        unfold plist at q
        rw [Bool.eq_false_iff.mpr hi, Bool.false_and] at q
        exact q
theorem ok_group (Z : ProgF K mg) (T : TxtP mg) : FnOk P w K mg base CX0 4 Z.fGr Z.dGr ["thing", "persons"] (spPL K group) := by
  have GPL : FnOk P w K mg base CX0 3 Z.fPL Z.dPL ["thing", "persons"] (spPL K plist) := ok_plist Z T
  refine Z.FGr.ok scGroup (fun vs H Q E h => ?_) (fun cdv A outer s H vs Q E hr h => ?_)
  · obtain ⟨a, n, ns, rfl, _⟩ := h
    rfl
  · obtain ⟨a, n, ns, rfl, hS, hn, k⟩ := h
    refine ⟨_, (pss_one (ps_ret (pe_and (pe_call GPL (hr.mono (by decide)) rfl Z.gPL Z.FPL.kp Z.bPL .nil pass0 (pa_cons (pv 0) (pa_cons (pv 1) pa_nil))) (pe_one (pe_cmpR op_ge (pe_callB call_len_seq (by rfl) T.len (by decide +kernel) (pa_cons (pv 0) pa_nil)) pe_int (nomark _)))))), ?_⟩
    refine ⟨_, rfl, _, rfl, a, n, ns, rfl, hS, hn, fun H2 s2 => ⟨_, rfl, ?_⟩⟩
    have q := k H2 s2
    unfold group at q
    by_cases hi : plist n ns = true
    · rw [if_pos hi]
      rw [hi, Bool.true_and] at q
      refine ⟨_, rfl, a, _, rfl, .inl (s2.seq hS), _, _, rfl, rfl, ?_⟩
      rw [List.length_map]
      exact q
    · rw [if_neg hi]
      rw [Bool.eq_false_iff.mpr hi, Bool.false_and] at q
      exact q
theorem ok_mask (Z : ProgF K mg) (T : TxtP mg) : FnOk P w K mg base CX0 1 Z.fMask Z.dMask ["group"] (spMask K) := by
  refine Z.FMask.ok scMask (fun vs H Q E h => ?_) (fun cdv A outer s H vs Q E hr h => ?_)
  · obtain ⟨a, ns, rfl, _⟩ := h
    rfl
  · obtain ⟨a, ns, rfl, hS, hn, hr0, k⟩ := h
    refine ⟨_, (pss_one (ps_ret (pe_callB (cr_sum rfl) (by rfl) T.sum (by decide +kernel) (pa_cons (pe_lc (own := [("person", 1)]) (g := gName 1) (tt := tYes) rfl scMask.nd (pi_list (pv 0)) (blkOk_by (own := [("person", 1)]) (N := ["group", "person"]) (sc := defScope sMask) (by decide +kernel)) (fun _ _ _ _ _ => pg_name (i := 1) scMask.nd rfl (Or.inl rfl)) (fun _ _ _ _ _ => pts_nil) (fun _ _ _ _ _ => (pe_op op_shl pe_int (pv 1)))) pa_nil)))), ?_⟩
    refine ⟨_, rfl, a, rfl, ⟨_, hS⟩, fun D hD => lc_listM (K := K) (fun i => V.int (1 * 2 ^ (ns.getD i 0).toNat)) hD hS (by rw [List.length_map]; omega) (fun i x H' R hx sm kR => ?_) fun H' sm eD => ?_⟩
    · have il := (List.getElem?_eq_some_iff.mp hx).1
      rw [List.length_map] at il
      obtain rfl := at_map (d := 0) hx
      have mem : ns.getD i 0 ∈ ns := by
        rw [List.getD_eq_getElem?_getD, List.getElem?_eq_getElem il]
        exact List.getElem_mem il
      obtain ⟨m0, m1⟩ := hr0 _ mem
      exact ⟨rfl, _, rfl, _, _, rfl, rfl, ⟨m0, by omega, by decide⟩, kR _ .refl⟩
    · rw [List.length_map] at eD
      refine ⟨D, (List.range ns.length).map fun i => 1 * 2 ^ (ns.getD i 0).toNat, rfl, SqL.of (by rw [eD, List.map_map]; rfl), ?_⟩
      exact k H' sm
theorem ok_cross (Z : ProgF K mg) : FnOk P w K mg base CX0 1 Z.fCross Z.dCross ["one", "other"] spCross := by
  refine Z.FCross.ok scCross (fun vs H Q E h => ?_) (fun cdv A outer s H vs Q E hr h => ?_)
  · obtain ⟨i, j, rfl, _⟩ := h
    rfl
  · obtain ⟨i, j, rfl, k⟩ := h
    refine ⟨_, (pss_one (ps_ret (pe_cmpR op_notIn_seq (pe_op op_and (pv 0) (pv 1)) (pe_tup (pa_cons pe_int (pa_cons (pv 0) (pa_cons (pv 1) pa_nil)))) (by rfl)))), ?_⟩
    refine ⟨_, rfl, _, rfl, _, _, rfl, rfl, _, rfl, _, rfl, (by show 3 ≤ sizeLine; decide), fun t ht => ⟨t, _, rfl, .inr (SqT.of upd_same), rfl, rfl, ?_⟩⟩
    exact k _ (Grows.new ht)
end
end K11

namespace K11
open PySem PySem.Spec PyProof.Rows L2 SortR LcM
/-- a list of lists of ints, as it stands -/
structure Rw (K : PySem.W.Frag) (H : Hp) (a : Addr) (bs : List (Addr × List Int)) : Prop where
  top : SqL K H a (bs.map fun b => V.ref b.1)
  each : ∀ b ∈ bs, SqL K H b.1 (b.2.map V.int)
theorem Rw.keep {K : PySem.W.Frag} {H H' : Hp} {a : Addr} {bs : List (Addr × List Int)} (r : Rw K H a bs) (s : Grows H H') : Rw K H' a bs := ⟨s.seq r.top, fun b m => s.seq (r.each b m)⟩
theorem Rw.at {K : PySem.W.Frag} {H : Hp} {a : Addr} {bs : List (Addr × List Int)} (r : Rw K H a bs) {i : Nat} (hi : i < bs.length) : SqL K H (bs.getD i (0, [])).1 ((bs.getD i (0, [])).2.map V.int) := by
  rw [List.getD_eq_getElem?_getD, List.getElem?_eq_getElem hi]
  exact r.each _ (List.getElem_mem hi)
theorem snd_at (bs : List (Addr × List Int)) (i : Nat) : (bs.map (·.2)).getD i [] = (bs.getD i (0, [])).2 := by
  rw [List.getD_eq_getElem?_getD, List.getD_eq_getElem?_getD, List.getElem?_map]
  cases bs[i]? <;> rfl
theorem mem_at {bs : List (Addr × List Int)} {i : Nat} (hi : i < bs.length) : (bs.getD i (0, [])).2 ∈ bs.map (·.2) := by
  rw [List.getD_eq_getElem?_getD, List.getElem?_eq_getElem hi]
  exact List.mem_map.mpr ⟨_, List.getElem_mem hi, rfl⟩
theorem none_back {H H' : Hp} {a : Addr} (s : Grows H H') (h : H' a = none) : H a = none := by
  rcases Option.eq_none_or_eq_some (H a) with z | ⟨o, z⟩
  · exact z
  · rw [s _ _ z] at h
    cases h
theorem nw_back {H0 H1 H : Hp} {cs : List (Addr × List Int)} (n : Nw H1 H cs) (s : Grows H0 H1) : Nw H0 H cs := ⟨n.lists, fun c m => none_back s (n.new c m), n.nodup⟩
theorem snd_of {cs : List (Addr × List Int)} {R : Nat → List Int} {n i : Nat} (e : cs.map (·.2) = (List.range n).map R) (hi : i < n) : (cs.getD i (0, [])).2 = R i := by
  rw [← snd_at, e, List.getD_eq_getElem?_getD, List.getElem?_map, List.getElem?_range hi]
  rfl
theorem any_rng (n : Nat) (p : Nat → Bool) : ((List.range n).map p).any id = (List.range n).any p := by
  rw [List.any_map]
  rfl
/-- of the size that may come -/
def Sz (rs : List (List Int)) : Prop := rs.length ≤ 1000 ∧ ∀ r ∈ rs, r.length ≤ 1000
def spAny (K : PySem.W.Frag) : Sp := fun vs H Q _ => ∃ (a : Addr) (bs : List (Addr × List Int)), vs = [.ref a] ∧ Rw K H a bs ∧ Sz (bs.map (·.2)) ∧ (∀ r ∈ bs.map (·.2), ∀ x ∈ r, 0 ≤ x ∧ x ≤ 1000) ∧ ∀ H', Grows H H' → Q (.bl (anyX (bs.map (·.2)))) H'
def spIs (K : PySem.W.Frag) : Sp := fun vs H Q _ => ∃ (a : Addr) (bs : List (Addr × List Int)), vs = [.ref a] ∧ Rw K H a bs ∧ Sz (bs.map (·.2)) ∧ ∀ H', Grows H H' → Q (.bl (isP (bs.map (·.2)))) H'
def spPs (K : PySem.W.Frag) : Sp := fun vs H Q _ => ∃ (a : Addr) (bs : List (Addr × List Int)), vs = [.ref a] ∧ Rw K H a bs ∧ Sz (bs.map (·.2)) ∧ isP (bs.map (·.2)) = true ∧ ∀ H', Grows H H' → Q (.int (bs.length + 1)) H'
section
variable {P : Program} {w : World} {K : PySem.W.Frag} {mg : Str → Option Value} {base : Heap}
theorem scAny : FnScope ["groups", "masks", "group", "one", "other"] ["groups"] (defScope sAny) := ⟨rfl, rfl, rfl, by decide +kernel, rfl, by decide +kernel, by decide +kernel⟩
theorem scParting : FnScope ["thing", "persons", "group"] ["thing"] (defScope sParting) := ⟨rfl, rfl, rfl, by decide +kernel, rfl, by decide +kernel, by decide +kernel⟩
theorem scPersons : FnScope ["parting"] ["parting"] (defScope sPersons) := ⟨rfl, rfl, rfl, by decide +kernel, rfl, by decide +kernel, by decide +kernel⟩
theorem ok_any (Z : ProgF K mg) (T : TxtP mg) : FnOk P w K mg base CX0 2 Z.fAny Z.dAny ["groups"] (spAny K) := by
  have GMask : FnOk P w K mg base CX0 1 Z.fMask Z.dMask ["group"] (spMask K) := ok_mask Z T
  have GCross : FnOk P w K mg base CX0 1 Z.fCross Z.dCross ["one", "other"] spCross := ok_cross Z
  refine Z.FAny.ok scAny (fun vs H Q E h => ?_) (fun cdv A outer s H vs Q E hr h => ?_)
  · obtain ⟨a, bs, rfl, _⟩ := h
    rfl
  · obtain ⟨a, bs, rfl, hB, ⟨hz1, hz2⟩, hx, k⟩ := h
    refine ⟨_, (pss_cons (ps_setLc (i := 1) (own := [("group", 2)]) (g := gName 2) (tt := tYes) rfl scAny.nd rfl rfl (sw_true rfl rfl rfl (by decide +kernel)) (pi_list (pv 0)) (blkOk_by (own := [("group", 2)]) (N := ["groups", "masks", "group", "one", "other"]) (sc := defScope sAny) (by decide +kernel)) (fun _ _ _ _ _ => pg_name (i := 2) scAny.nd rfl (Or.inl rfl)) (fun _ _ _ _ _ => pts_nil) (fun _ _ _ _ _ => (pe_call GMask (hr.mono (by decide)) rfl Z.gMask Z.FMask.kp Z.bMask .nil pass0 (pa_cons (pv 2) pa_nil))))
      (pss_one (ps_ret (pe_callB (cr_any rfl) (by rfl) T.any (by decide +kernel) (pa_cons (pe_lc (own := [("one", 3), ("other", 4)]) (g := gTup K 2 (gCons (gName 3) (gCons (gName 4) gNil))) (tt := tYes) rfl scAny.nd (Comb.pi_comb (by rfl) Z.gComb (pa_cons (pv 1) (pa_cons pe_int pa_nil))) (blkOk_by (own := [("one", 3), ("other", 4)]) (N := ["groups", "masks", "group", "one", "other"]) (sc := defScope sAny) (by decide +kernel)) (fun _ _ _ _ _ => pg_tup rfl (pgs_cons (pg_name (i := 3) scAny.nd rfl (Or.inl rfl)) (pgs_cons (pg_name (i := 4) scAny.nd rfl (Or.inl rfl)) pgs_nil))) (fun _ _ _ _ _ => pts_nil) (fun _ _ _ _ _ => (pe_call GCross (hr.mono (by decide)) rfl Z.gCross Z.FCross.kp Z.bCross .nil pass0 (pa_cons (pv 3) (pa_cons (pv 4) pa_nil))))) pa_nil))))), ?_⟩
    rw [List.length_map] at hz1
    refine ⟨_, rfl, a, rfl, ⟨_, hB.top⟩, fun D hD => lc_listM (K := K) (fun i => V.int (maskI (bs.getD i (0, [])).2)) hD hB.top (by rw [List.length_map]; omega) (fun i x H' R hx' sm kR => ?_) fun H' sm eD => ?_⟩
    · have il := (List.getElem?_eq_some_iff.mp hx').1
      rw [List.length_map] at il
      obtain rfl := at_map (d := (0, [])) hx'
      exact ⟨rfl, _, rfl, _, _, rfl, sm.seq (hB.at il), hz2 _ (mem_at il), hx _ (mem_at il), fun H2 s2 => kR _ s2⟩
    · rw [List.length_map] at eD
      refine ⟨_, rfl, D, _, rfl, SqL.of eD, fun D2 hD2 => lc_combM (xs := (List.range bs.length).map fun i => V.int (maskI (bs.getD i (0, [])).2)) (fun t => V.bl (crossI (maskI (bs.getD ((Comb.prs bs.length).getD t (0, 0)).1 (0, [])).2) (maskI (bs.getD ((Comb.prs bs.length).getD t (0, 0)).2 (0, [])).2))) hD2 (by rw [List.length_map, List.length_range]; exact hz1) (fun t i j x y T H' R ht ex ey sm2 hT kR => ?_) fun H2 sm2 eD2 => ?_⟩
      · rw [List.length_map, List.length_range] at ht
        rw [List.getElem?_map] at ex ey
        have gx : x = .int (maskI (bs.getD i (0, [])).2) := by
          obtain ⟨z, hz, e⟩ := Option.map_eq_some_iff.mp ex
          have e2 := (List.getElem?_eq_some_iff.mp hz)
          obtain ⟨l2, e3⟩ := e2
          rw [List.getElem_range] at e3
          rw [← e, ← e3]
        have gy : y = .int (maskI (bs.getD j (0, [])).2) := by
          obtain ⟨z, hz, e⟩ := Option.map_eq_some_iff.mp ey
          have e2 := (List.getElem?_eq_some_iff.mp hz)
          obtain ⟨l2, e3⟩ := e2
          rw [List.getElem_range] at e3
          rw [← e, ← e3]
        subst gx gy
        have et : (Comb.prs bs.length).getD t (0, 0) = (i, j) := by
          rw [List.getD_eq_getElem?_getD, ht]
          rfl
        rw [et] at kR
        exact ⟨T, _, rfl, SqT.of upd_same, rfl, _, _, rfl, _, _, rfl, rfl, rfl, _, rfl, _, rfl, _, _, rfl, fun H3 s3 => kR _ s3⟩
      · rw [List.length_map, List.length_range] at eD2
        refine ⟨D2, (List.range (Comb.prs bs.length).length).map fun t => crossI (maskI (bs.getD ((Comb.prs bs.length).getD t (0, 0)).1 (0, [])).2) (maskI (bs.getD ((Comb.prs bs.length).getD t (0, 0)).2 (0, [])).2), rfl, SqL.of (by rw [eD2, List.map_map]; rfl), ?_⟩
        rw [any_rng]
        have q := k H2 (sm.trans sm2)
        unfold anyX at q
        simp only [List.length_map, snd_at] at q
        exact q
theorem rows_in {n : Int} {ns : List Int} (h : group n ns = true) (hn : n ≤ 1000) : ∀ x ∈ ns, 0 ≤ x ∧ x ≤ 1000 := by
  unfold group plist at h
  simp only [Bool.and_eq_true] at h
  obtain ⟨⟨h1, _⟩, _⟩ := h
  intro x hx
  obtain ⟨i, hi, e⟩ := List.getElem_of_mem hx
  have q := List.all_eq_true.mp h1 i (List.mem_range.mpr hi)
  simp only [Bool.and_eq_true, decide_eq_true_eq] at q
  rw [List.getD_eq_getElem?_getD, List.getElem?_eq_getElem hi] at q
  have q' : 0 ≤ ns[i] ∧ ns[i] < n := q
  rw [e] at q'
  omega
theorem ok_is (Z : ProgF K mg) (T : TxtP mg) : FnOk P w K mg base CX0 5 Z.fIs Z.dIs ["thing"] (spIs K) := by
  have GGr : FnOk P w K mg base CX0 4 Z.fGr Z.dGr ["thing", "persons"] (spPL K group) := ok_group Z T
  have GAsc : FnOk P w K mg base CX0 1 Z.fAsc Z.dAsc ["items"] (spAscR K) := ok_ascR Z.FAsc T
  have GAny : FnOk P w K mg base CX0 2 Z.fAny Z.dAny ["groups"] (spAny K) := ok_any Z T
  refine Z.FIs.ok scParting (fun vs H Q E h => ?_) (fun cdv A outer s H vs Q E hr h => ?_)
  · obtain ⟨a, bs, rfl, _⟩ := h
    rfl
  · obtain ⟨a, bs, rfl, hB, hz, k⟩ := h
    refine ⟨_, (pss_cons (ps_if (PW.pt (pw_or (pt_not (pt_val (pe_callB call_isi (by rfl) T.isi (by decide +kernel) (pa_cons (pv 0) (pa_cons (pe_bltn (v := .ty "list") (u := .type "list") (by rfl) T.list (by decide +kernel) rfl) pa_nil))))) (pw_or1 (pt_cmpR op_ge (pe_callB call_len_seq (by rfl) T.len (by decide +kernel) (pa_cons (pv 0) pa_nil)) (pe_glob (v := .int 20) rfl Z.gMost ⟨_, rfl⟩) (nomark _))))) (pss_one (ps_ret pe_bl)) pss_nil)
      (pss_cons (ps_set (i := 1) scParting.nd rfl (.inr rfl) (pe_op op_add (pe_callB call_len_seq (by rfl) T.len (by decide +kernel) (pa_cons (pv 0) pa_nil)) pe_int))
      (pss_cons (ps_if (pt_not (pt_val (pe_callB (cr_all rfl) (by rfl) T.all (by decide +kernel) (pa_cons (pe_lc (own := [("group", 2)]) (g := gName 2) (tt := tYes) rfl scParting.nd (pi_list (pv 0)) (blkOk_by (own := [("group", 2)]) (N := ["thing", "persons", "group"]) (sc := defScope sParting) (by decide +kernel)) (fun _ _ _ _ _ => pg_name (i := 2) scParting.nd rfl (Or.inl rfl)) (fun _ _ _ _ _ => pts_nil) (fun _ _ _ _ _ => (pe_call GGr (hr.mono (by decide)) rfl Z.gGr Z.FGr.kp Z.bGr .nil pass0 (pa_cons (pv 2) (pa_cons (pv 1) pa_nil))))) pa_nil)))) (pss_one (ps_ret pe_bl)) pss_nil)
      (pss_one (ps_ret (pe_and (pe_call GAsc (hr.mono (by decide)) rfl Z.gAsc Z.FAsc.kp Z.bAsc .nil pass0 (pa_cons (pv 0) pa_nil)) (pe_one (pe_not (pe_call GAny (hr.mono (by decide)) rfl Z.gAny Z.FAny.kp Z.bAny .nil pass0 (pa_cons (pv 0) pa_nil)))))))))), ?_⟩
    have hz' := hz
    obtain ⟨hz1, hz2⟩ := hz
    rw [List.length_map] at hz1
    refine ⟨_, rfl, _, _, _, _, true, rfl, .ty "list", ty_list hB.top, kit_ty (by decide +kernel), true, rfl, iteF ⟨_, rfl, a, _, rfl, .inl hB.top, _, _, rfl, rfl, _, rfl, ?_⟩⟩
    rw [List.length_map]
    refine ite2 (fun e => ?_) (fun e => ?_)
    · have ge := of_decide_eq_true e
      have q := k H .refl
      unfold isP at q
      rw [List.length_map, decide_eq_false (by omega), Bool.false_and, Bool.false_and, Bool.false_and] at q
      exact q
    · have lt : (bs.length : Int) < 20 := by
        rcases Int.lt_or_le (bs.length : Int) 20 with z | z
        · exact z
        · exact absurd (decide_eq_true z) e
      refine ⟨_, rfl, a, _, rfl, .inl hB.top, _, _, rfl, rfl, ?_⟩
      rw [List.length_map]
      refine ⟨_, rfl, a, rfl, ⟨_, hB.top⟩, fun D hD => lc_listM (K := K) (fun i => V.bl (group (bs.length + 1) (bs.getD i (0, [])).2)) hD hB.top (by rw [List.length_map]; omega) (fun i x H' R hx' sm kR => ?_) fun H' sm eD => ?_⟩
      · have il := (List.getElem?_eq_some_iff.mp hx').1
        rw [List.length_map] at il
        obtain rfl := at_map (d := (0, [])) hx'
        exact ⟨rfl, _, rfl, _, rfl, _, _, _, rfl, sm.seq (hB.at il), hz2 _ (mem_at il), fun H2 s2 => kR _ s2⟩
      · rw [List.length_map] at eD
        refine ⟨D, (List.range bs.length).map fun i => group (bs.length + 1) (bs.getD i (0, [])).2, rfl, SqL.of (by rw [eD, List.map_map]; rfl), ?_⟩
        rw [all_rng]
        refine ⟨_, rfl, ?_⟩
        have val : ∀ H2, Grows H H2 → Q (.bl (((List.range bs.length).all fun i => group (bs.length + 1) (bs.getD i (0, [])).2) && ascR (bs.map (·.2)) && !anyX (bs.map (·.2)))) H2 := fun H2 s2 => by
          have q := k H2 s2
          unfold isP at q
          simp only [List.length_map, snd_at] at q
          rw [decide_eq_true lt, Bool.true_and] at q
          exact q
        by_cases hg : ((List.range bs.length).all fun i => group (bs.length + 1) (bs.getD i (0, [])).2) = true
        · rw [hg] at val ⊢
          refine iteF ⟨_, rfl, a, bs, rfl, (hB.keep sm).top, (hB.keep sm).each, hz1, fun H2 s2 => ⟨_, rfl, ?_⟩⟩
          by_cases ha : ascR (bs.map (·.2)) = true
          · rw [if_pos ha]
            have hx : ∀ r ∈ bs.map (·.2), ∀ x ∈ r, 0 ≤ x ∧ x ≤ 1000 := fun r hr x hx => by
              obtain ⟨i, hi, e⟩ := List.getElem_of_mem hr
              rw [List.length_map] at hi
              have g := List.all_eq_true.mp hg i (List.mem_range.mpr hi)
              have e2 : (bs.getD i (0, [])).2 = r := by
                rw [← snd_at, List.getD_eq_getElem?_getD, List.getElem?_eq_getElem (by rw [List.length_map]; exact hi), e]
                rfl
              rw [e2] at g
              exact rows_in g (by omega) x hx
            refine ⟨_, rfl, a, bs, rfl, (hB.keep sm).keep s2, hz', hx, fun H3 s3 => ⟨_, rfl, ?_⟩⟩
            have q := val H3 ((sm.trans s2).trans s3)
            rw [ha, Bool.true_and, Bool.true_and] at q
            exact q
          · rw [if_neg ha]
            have q := val H2 (sm.trans s2)
            rw [Bool.eq_false_iff.mpr ha, Bool.true_and, Bool.false_and] at q
            exact q
        · have q := val H' sm
          rw [Bool.eq_false_iff.mpr hg] at q ⊢
          rw [Bool.false_and, Bool.false_and] at q
          exact iteT q
theorem ok_persons (Z : ProgF K mg) (T : TxtP mg) : FnOk P w K mg base CX0 6 Z.fPs Z.dPs ["parting"] (spPs K) := by
  have GIs : FnOk P w K mg base CX0 5 Z.fIs Z.dIs ["thing"] (spIs K) := ok_is Z T
  refine Z.FPs.ok scPersons (fun vs H Q E h => ?_) (fun cdv A outer s H vs Q E hr h => ?_)
  · obtain ⟨a, bs, rfl, _⟩ := h
    rfl
  · obtain ⟨a, bs, rfl, hB, hz, hp, k⟩ := h
    refine ⟨_, (pss_cons (ps_if (pt_not (pt_val (pe_call GIs (hr.mono (by decide)) rfl Z.gIs Z.FIs.kp Z.bIs .nil pass0 (pa_cons (pv 0) pa_nil)))) (pss_one ps_never) pss_nil)
      (pss_one (ps_ret (pe_op op_add (pe_callB call_len_seq (by rfl) T.len (by decide +kernel) (pa_cons (pv 0) pa_nil)) pe_int)))), ?_⟩
    refine ⟨_, rfl, a, bs, rfl, hB, hz, fun H2 s2 => ?_⟩
    rw [hp]
    refine ⟨_, rfl, iteF ⟨_, rfl, a, _, rfl, .inl (s2.seq hB.top), _, _, rfl, rfl, ?_⟩⟩
    rw [List.length_map]
    exact k H2 s2
end
end K11

namespace K11
open PySem PySem.Spec PyProof.Rows L2 SortR LcM
abbrev sFolk : Stmt := top 61
/-- two halves, each of them parted again -/
inductive Nest where
  | leaf (i : Int)
  | node (l r : Nest)
def Nest.ht : Nest → Nat
  | .leaf _ => 0
  | .node l r => max l.ht r.ht + 1
def Nest.sz : Nest → Nat
  | .leaf _ => 1
  | .node l r => l.sz + r.sz
/-- all persons of it -/
def Nest.folk : Nest → List Int
  | .leaf i => [i]
  | .node l r => (l.folk ++ r.folk).mergeSort intLe
theorem Nest.folk_len : ∀ t : Nest, t.folk.length = t.sz
  | .leaf _ => rfl
  | .node l r => by
    show ((l.folk ++ r.folk).mergeSort intLe).length = l.sz + r.sz
    rw [List.length_mergeSort, List.length_append, Nest.folk_len l, Nest.folk_len r]
/-- a nest as it stands -/
inductive NV (K : PySem.W.Frag) (H : Hp) : V → Nest → Prop
  | leaf (i : Int) : NV K H (.int i) (.leaf i)
  | node {t : Addr} {x y : V} {l r : Nest} : H t = some (.tup [x, y]) → NV K H x l → NV K H y r → NV K H (.ref t) (.node l r)
theorem NV.keep {K : PySem.W.Frag} {H H' : Hp} {x : V} {t : Nest} (n : NV K H x t) (s : Grows H H') : NV K H' x t := by
  induction n with
  | leaf i => exact .leaf i
  | node h _ _ a b => exact .node (s _ _ h) a b
def spNo : Sp := fun _ _ _ _ => False
def spFolk (K : PySem.W.Frag) (d : Nat) : Sp := fun vs H Q _ => ∃ (x : V) (t : Nest), vs = [x] ∧ NV K H x t ∧ t.ht ≤ d ∧ t.sz ≤ 600000 ∧ ∀ (p : Addr) (H' : Hp), Grows H H' → H p = none → H' p = some (.lst (t.folk.map V.int)) → Q (.ref p) H'
section
variable {P : Program} {w : World} {K : PySem.W.Frag} {mg : Str → Option Value} {base : Heap}
theorem fn_no {f : Addr} {fd : FuncData} {ps : List Str} : FnOk P w K mg base CX0 1 f fd ps spNo := ⟨fun _ _ _ _ h => h.elim, fun _ _ _ _ _ _ _ _ _ _ _ _ _ h => h.elim⟩
theorem scFolk : FnScope ["nest"] ["nest"] (defScope sFolk) := ⟨rfl, rfl, rfl, by decide +kernel, rfl, by decide +kernel, by decide +kernel⟩
theorem folk_body {k d : Nat} {sp0 : Sp} {f : Addr} {fd : FuncData} (F : Fun K "_law_folk" "_law_folk" sFolk f fd) (T : TxtP mg) (gFolk : mg "_law_folk" = some (.ref f)) (bF : Binds K fd ["nest"] []) (G0 : FnOk P w K mg base CX0 k f fd ["nest"] sp0)
    (inner : ∀ (x : V) (t : Nest) (H : Hp) (Q : VK) (E : XK), NV K H x t → t.ht < d → t.sz ≤ 600000 → (∀ (p : Addr) (H' : Hp), Grows H H' → H p = none → H' p = some (.lst (t.folk.map V.int)) → Q (.ref p) H') → sp0 [x] H Q E) :
    FnOk P w K mg base CX0 (k + 1) f fd ["nest"] (spFolk K d) := by
  refine F.ok scFolk (fun vs H Q E h => ?_) (fun cdv A outer s H vs Q E hr h => ?_)
  · obtain ⟨x, t, rfl, _⟩ := h
    rfl
  · obtain ⟨x, t, rfl, nv, ht, hz, kq⟩ := h
    refine ⟨_, (pss_one (ps_ret (pe_ifExp (pt_val (pe_callB call_isi (by rfl) T.isi (by decide +kernel) (pa_cons (pv 0) (pa_cons (pe_bltn (v := .ty "int") (u := .type "int") (by rfl) T.int (by decide +kernel) rfl) pa_nil)))) (pe_lst (pa_cons (pv 0) pa_nil)) (pe_callB (call_sortedInts hr.units) (by rfl) T.sorted (by decide +kernel) (pa_cons (pe_op op_cat (pe_call G0 hr rfl gFolk F.kp bF .nil pass0 (pa_cons (pe_ix (r := rIxT K) ix_tup (pv 0) pe_int (fun _ _ => rfl)) pa_nil)) (pe_call G0 hr rfl gFolk F.kp bF .nil pass0 (pa_cons (pe_ix (r := rIxT K) ix_tup (pv 0) pe_int (fun _ _ => rfl)) pa_nil))) pa_nil))))), ?_⟩
    cases nv with
    | leaf i =>
      refine ⟨_, rfl, _, _, _, _, true, rfl, .ty "int", .base (.int i), kit_ty (by decide +kernel), true, rfl, iteT ⟨_, rfl, (by show 1 ≤ sizeLine; decide), fun l hl => ?_⟩⟩
      exact kq l _ (Grows.new hl) hl upd_same
    | @node t x y l r at_t nl nr =>
      have hlz : l.sz + r.sz ≤ 600000 := hz
      have hlh : max l.ht r.ht + 1 ≤ d := ht
      refine ⟨_, rfl, _, _, _, _, false, rfl, .ty "int", .base (.tup at_t), kit_ty (by decide +kernel), false, rfl, iteF ?_⟩
      refine ⟨_, rfl, t, _, 0, x, rfl, rfl, SqT.of at_t, rfl, inner x l H _ _ nl (by omega) (by omega) fun p1 H1 s1 n1 e1 => ?_⟩
      refine ⟨_, rfl, t, _, 1, y, rfl, rfl, SqT.of (s1 _ _ at_t), rfl, inner y r H1 _ _ (nr.keep s1) (by omega) (by omega) fun p2 H2 s2 n2 e2 => ?_⟩
      have len : (l.folk.map V.int).length + (r.folk.map V.int).length ≤ sizeLine := by
        rw [List.length_map, List.length_map, Nest.folk_len, Nest.folk_len]
        exact Nat.le_trans hlz (by decide)
      refine ⟨p1, p2, _, _, rfl, rfl, s2 _ _ e1, e2, len, fun p3 n3 => ⟨p3, l.folk ++ r.folk, rfl, SqL.of (by rw [upd_same, List.map_append]), fun p4 n4 => ?_⟩⟩
      have s12 := s1.trans s2
      have s3 := s12.trans (Grows.new (o := .lst (l.folk.map V.int ++ r.folk.map V.int)) n3)
      exact kq p4 _ (s3.trans (Grows.new n4)) (none_back s3 n4) upd_same
theorem ok_folk {f : Addr} {fd : FuncData} (F : Fun K "_law_folk" "_law_folk" sFolk f fd) (T : TxtP mg) (gFolk : mg "_law_folk" = some (.ref f)) (bF : Binds K fd ["nest"] []) : ∀ d, FnOk P w K mg base CX0 (d + 2) f fd ["nest"] (spFolk K d)
  | 0 => folk_body F T gFolk bF (fn_no (f := f) (fd := fd)) fun _ _ _ _ _ _ h _ _ => absurd h (Nat.not_lt_zero _)
  | d + 1 => folk_body F T gFolk bF (ok_folk F T gFolk bF d) fun x t H Q E nv h hz kq => ⟨x, t, rfl, nv, Nat.le_of_lt_succ h, hz, kq⟩
end
end K11

namespace K11
open PySem PySem.Spec PyProof.Rows L2 SortR LcM
abbrev sPut : Stmt := top 62
/-- the least person -/
def Nest.mn : Nest → Int
  | .leaf i => i
  | .node l r => min l.mn r.mn
theorem Nest.mn_ok : ∀ t : Nest, t.mn ∈ t.folk ∧ ∀ y ∈ t.folk, t.mn ≤ y
  | .leaf i => ⟨List.mem_singleton.mpr rfl, fun y h => by rw [List.mem_singleton.mp h]; exact Int.le_refl _⟩
  | .node l r => by
    obtain ⟨l1, l2⟩ := Nest.mn_ok l
    obtain ⟨r1, r2⟩ := Nest.mn_ok r
    have mem : ∀ y, y ∈ (Nest.node l r).folk ↔ y ∈ l.folk ∨ y ∈ r.folk := fun y => List.mem_mergeSort.trans List.mem_append
    refine ⟨(mem _).mpr ?_, fun y hy => ?_⟩
    · show min l.mn r.mn ∈ l.folk ∨ min l.mn r.mn ∈ r.folk
      rcases Int.le_total l.mn r.mn with h | h
      · rw [Int.min_eq_left h]
        exact .inl l1
      · rw [Int.min_eq_right h]
        exact .inr r1
    · show min l.mn r.mn ≤ y
      rcases (mem y).mp hy with h | h
      · have := l2 y h
        omega
      · have := r2 y h
        omega
theorem Nest.mn_eq {t : Nest} {m : Int} (h : m ∈ t.folk) (k : ∀ y ∈ t.folk, m ≤ y) : m = t.mn := by
  obtain ⟨a, b⟩ := t.mn_ok
  exact Int.le_antisymm (k _ a) (b _ h)
/-- with a newcomer, beside a person or around the group with a maker -/
def Nest.put (item fresh : Int) : Nest → Nest
  | .leaf i => if i = item then .node (.leaf i) (.leaf fresh) else .leaf i
  | .node l r => if max l.mn r.mn = 0 - item then .node (.node l r) (.leaf fresh) else .node (l.put item fresh) (r.put item fresh)
def spPut (K : PySem.W.Frag) (d : Nat) : Sp := fun vs H Q _ => ∃ (x : V) (item fresh : Int) (t : Nest), vs = [x, .int item, .int fresh] ∧ NV K H x t ∧ t.ht ≤ d ∧ t.sz ≤ 600000 ∧ ∀ (y : V) (H' : Hp), Grows H H' → NV K H' y (t.put item fresh) → Q y H'
theorem NV.free {K : PySem.W.Frag} {H : Hp} {x : V} {t : Nest} (n : NV K H x t) {D : Addr} {zs : List V} (h : H D = some (.lst zs)) (u : HO) : NV K (upd H D u) x t := by
  induction n with
  | leaf i => exact .leaf i
  | node e _ _ a b =>
    refine .node ?_ a b
    rw [upd_ne (ne_of e h fun z => nomatch z)]
    exact e
section
variable {P : Program} {w : World} {K : PySem.W.Frag} {mg : Str → Option Value} {base : Heap}
theorem scPut : FnScope ["nest", "item", "fresh", "half"] ["nest", "item", "fresh"] (defScope sPut) := ⟨rfl, rfl, rfl, by decide +kernel, rfl, by decide +kernel, by decide +kernel⟩
theorem put_body {k d : Nat} {sp0 : Sp} {f fF : Addr} {fd dF : FuncData} (F : Fun K "_law_put" "_law_put" sPut f fd) (T : TxtP mg) (T0 : Txt0 mg) (gPut : mg "_law_put" = some (.ref f)) (bF : Binds K fd ["nest", "item", "fresh"] []) (FF : Fun K "_law_folk" "_law_folk" sFolk fF dF) (gFolk : mg "_law_folk" = some (.ref fF)) (bFF : Binds K dF ["nest"] [])
    (hk : d + 2 ≤ k) (G0 : FnOk P w K mg base CX0 k f fd ["nest", "item", "fresh"] sp0)
    (inner : ∀ (x : V) (item fresh : Int) (t : Nest) (H : Hp) (Q : VK) (E : XK), NV K H x t → t.ht < d → t.sz ≤ 600000 → (∀ (y : V) (H' : Hp), Grows H H' → NV K H' y (t.put item fresh) → Q y H') → sp0 [x, .int item, .int fresh] H Q E) :
    FnOk P w K mg base CX0 (k + 1) f fd ["nest", "item", "fresh"] (spPut K d) := by
  have GF : FnOk P w K mg base CX0 (d + 2) fF dF ["nest"] (spFolk K d) := ok_folk FF T gFolk bFF d
  refine F.ok scPut (fun vs H Q E h => ?_) (fun cdv A outer s H vs Q E hr h => ?_)
  · obtain ⟨x, i, j, t, rfl, _⟩ := h
    rfl
  · obtain ⟨x, item, fresh, t, rfl, nv, ht, hz, kq⟩ := h
    refine ⟨_, (pss_cons (ps_if (pt_val (pe_callB call_isi (by rfl) T.isi (by decide +kernel) (pa_cons (pv 0) (pa_cons (pe_bltn (v := .ty "int") (u := .type "int") (by rfl) T.int (by decide +kernel) rfl) pa_nil)))) (pss_one (ps_ret (pe_ifExp (pt_cmpR op_eq (pv 0) (pv 1) (nomark _)) (pe_tup (pa_cons (pv 0) (pa_cons (pv 2) pa_nil))) (pv 0)))) pss_nil)
      (pss_cons (ps_if (pt_cmpR op_eq (pe_callB (cr_max rfl) (by rfl) T0.max (by decide +kernel) (pa_cons (pe_lc (own := [("half", 3)]) (g := gName 3) (tt := tYes) rfl scPut.nd (pi_tup (pv 0)) (blkOk_by (own := [("half", 3)]) (N := ["nest", "item", "fresh", "half"]) (sc := defScope sPut) (by decide +kernel)) (fun _ _ _ _ _ => pg_name (i := 3) scPut.nd rfl (Or.inl rfl)) (fun _ _ _ _ _ => pts_nil) (fun _ _ _ _ _ => (pe_callB (id := "min") (r := rMin K) (by exact cr_min rfl) (by rfl) T0.min (by decide +kernel) (pa_cons (pe_call GF (hr.mono hk) rfl gFolk FF.kp bFF .nil pass0 (pa_cons (pv 3) pa_nil)) pa_nil)))) pa_nil)) (pe_op op_sub pe_int (pv 1)) (nomark _)) (pss_one (ps_ret (pe_tup (pa_cons (pv 0) (pa_cons (pv 2) pa_nil))))) pss_nil)
      (pss_one (ps_ret (pe_callTy call_tuple_of (by rfl) T.tuple (by decide +kernel) (pa_cons (pe_lc (own := [("half", 3)]) (g := gName 3) (tt := tYes) rfl scPut.nd (pi_tup (pv 0)) (blkOk_by (own := [("half", 3)]) (N := ["nest", "item", "fresh", "half"]) (sc := defScope sPut) (by decide +kernel)) (fun _ _ _ _ _ => pg_name (i := 3) scPut.nd rfl (Or.inl rfl)) (fun _ _ _ _ _ => pts_nil) (fun _ _ _ _ _ => (pe_call G0 hr rfl gPut F.kp bF .nil pass0 (pa_cons (pv 3) (pa_cons (pv 1) (pa_cons (pv 2) pa_nil)))))) pa_nil)))))), ?_⟩
    cases nv with
    | leaf i =>
      refine ⟨_, rfl, _, _, _, _, true, rfl, .ty "int", .base (.int i), kit_ty (by decide +kernel), true, rfl, iteT ⟨_, rfl, _, rfl, rfl, _, rfl, ?_⟩⟩
      refine ite2 (fun e => ?_) (fun e => ?_)
      · have e' : i = item := by simpa using e
        refine ⟨_, rfl, _, rfl, (by show 2 ≤ sizeLine; decide), fun t ht => kq (.ref t) _ (Grows.new ht) ?_⟩
        show NV K _ _ (if i = item then _ else _)
        rw [if_pos e']
        exact .node upd_same (.leaf i) (.leaf fresh)
      · have e' : ¬ i = item := by simpa using e
        refine ⟨_, rfl, kq (.int i) H .refl ?_⟩
        show NV K _ _ (if i = item then _ else _)
        rw [if_neg e']
        exact .leaf i
    | @node t x y l r at_t nl nr =>
      have hlz : l.sz + r.sz ≤ 600000 := hz
      have hlh : max l.ht r.ht + 1 ≤ d := ht
      let hv : Nat → Nest := fun j => if j = 0 then l else r
      have half : ∀ (i : Nat) (z : V) (H' : Hp), [x, y][i]? = some z → Grows H H' → NV K H' z (hv i) ∧ (hv i).ht < d ∧ (hv i).sz ≤ 600000 := fun i z H' e s => by
        match i, e with
        | 0, e =>
          obtain rfl : x = z := Option.some.inj e
          exact ⟨nl.keep s, (show l.ht < d by omega), (show l.sz ≤ 600000 by omega)⟩
        | 1, e =>
          obtain rfl : y = z := Option.some.inj e
          exact ⟨nr.keep s, (show r.ht < d by omega), (show r.sz ≤ 600000 by omega)⟩
      refine ⟨_, rfl, _, _, _, _, false, rfl, .ty "int", .base (.tup at_t), kit_ty (by decide +kernel), false, rfl, iteF ?_⟩
      refine ⟨_, rfl, t, rfl, ⟨_, SqT.of at_t⟩, fun D hD => lc_tupX (K := K) (fun j z _ => z = .int (hv j).mn) (fun _ _ _ _ _ h => h) (fun _ _ _ _ h _ _ => h) hD (SqT.of at_t) (by show 2 ≤ 1000000; decide) (fun i z H' Rk ez sm _ kR => ?_) fun H1 ys m => ?_⟩
      · obtain ⟨n1, n2, n3⟩ := half i z H' ez sm
        refine ⟨rfl, _, rfl, z, hv i, rfl, n1, Nat.le_of_lt n2, n3, fun p H2 s2 _ e2 => ⟨p, (hv i).folk, rfl, SqL.of e2, ?_, fun m hm hle => kR (.int m) H2 s2 (by rw [Nest.mn_eq hm hle])⟩⟩
        exact List.length_pos_of_mem (hv i).mn_ok.1
      · have two : ys = [.int l.mn, .int r.mn] := by
          have len : ys.length = 2 := m.len
          match ys, len, m.rel with
          | [u, v], _, rel =>
            have a := rel 0 u rfl
            have b := rel 1 v rfl
            rw [a, b]
            rfl
        have top := m.top
        rw [two] at top
        refine ⟨D, [l.mn, r.mn], rfl, SqL.of top, (by show 0 < 2; decide), fun mx hmx hge => ⟨_, rfl, _, _, rfl, rfl, rfl, _, rfl, ?_⟩⟩
        have emx : mx = max l.mn r.mn := by
          have g1 := hge l.mn (List.mem_cons_self)
          have g2 := hge r.mn (List.mem_cons_of_mem _ List.mem_cons_self)
          have g3 : mx = l.mn ∨ mx = r.mn := by simpa using hmx
          omega
        have s1 := m.grow
        refine ite2 (fun e => ?_) (fun e => ?_)
        · have e' : max l.mn r.mn = 0 - item := by
            rw [← emx]
            simpa using e
          refine ⟨_, rfl, _, rfl, (by show 2 ≤ sizeLine; decide), fun q hq => kq (.ref q) _ (s1.trans (Grows.new hq)) ?_⟩
          show NV K _ _ (if max l.mn r.mn = 0 - item then _ else _)
          rw [if_pos e']
          have s2 : Grows H (upd H1 q (.tup [.ref t, .int fresh])) := s1.trans (Grows.new hq)
          exact .node upd_same (.node (s2 _ _ at_t) (nl.keep s2) (nr.keep s2)) (.leaf fresh)
        · have e' : ¬ max l.mn r.mn = 0 - item := by
            rw [← emx]
            simpa using e
          refine ⟨_, rfl, t, rfl, ⟨_, SqT.of (s1 _ _ at_t)⟩, fun D2 hD2 => lc_tupX (K := K) (fun j z G => NV K G z ((hv j).put item fresh)) (fun _ _ _ _ s h => h.keep s) (fun _ _ _ _ h e u => h.free e u) hD2 (SqT.of (s1 _ _ at_t)) (by show 2 ≤ 1000000; decide) (fun i z H' Rk ez sm _ kR => ?_) fun H2 ys2 m2 => ?_⟩
          · obtain ⟨n1, n2, n3⟩ := half i z H' ez (s1.trans sm)
            exact ⟨rfl, _, rfl, _, rfl, _, rfl, inner z item fresh (hv i) H' _ _ n1 n2 n3 fun y' H3 s3 nv3 => kR y' H3 s3 nv3⟩
          · have len2 : ys2.length = 2 := m2.len
            refine ⟨D2, ys2, rfl, .inl ⟨SqL.of m2.top, fun q hq => kq (.ref q) _ ((s1.trans m2.grow).trans (Grows.new hq)) ?_⟩⟩
            show NV K _ _ (if max l.mn r.mn = 0 - item then _ else _)
            rw [if_neg e']
            match ys2, len2, m2.rel, hq with
            | [u, v], _, rel, hq => exact .node upd_same ((rel 0 u rfl).keep (Grows.new hq)) ((rel 1 v rfl).keep (Grows.new hq))
theorem ok_put {f fF : Addr} {fd dF : FuncData} (F : Fun K "_law_put" "_law_put" sPut f fd) (T : TxtP mg) (T0 : Txt0 mg) (gPut : mg "_law_put" = some (.ref f)) (bF : Binds K fd ["nest", "item", "fresh"] []) (FF : Fun K "_law_folk" "_law_folk" sFolk fF dF) (gFolk : mg "_law_folk" = some (.ref fF)) (bFF : Binds K dF ["nest"] []) : ∀ d, FnOk P w K mg base CX0 (d + 3) f fd ["nest", "item", "fresh"] (spPut K d)
  | 0 => put_body F T T0 gPut bF FF gFolk bFF (Nat.le_refl _) ((fn_no (f := f) (fd := fd)).mono (by decide)) fun _ _ _ _ _ _ _ _ h _ _ => absurd h (Nat.not_lt_zero _)
  | d + 1 => put_body F T T0 gPut bF FF gFolk bFF (Nat.le_refl _) (ok_put F T T0 gPut bF FF gFolk bFF d) fun x i j t H Q E nv h hz kq => ⟨x, i, j, t, rfl, nv, Nat.le_of_lt_succ h, hz, kq⟩
end
end K11

namespace K11
open PySem PySem.Spec PyProof.Rows L2 SortR LcM
abbrev sNest : Stmt := top 63
abbrev sLots : Stmt := top 64
theorem Nest.put_ht (i j : Int) : ∀ t : Nest, (t.put i j).ht ≤ t.ht + 1
  | .leaf k => by
    unfold Nest.put
    split
    · show max (0 : Nat) 0 + 1 ≤ 0 + 1
      omega
    · exact Nat.zero_le _
  | .node l r => by
    have a := Nest.put_ht i j l
    have b := Nest.put_ht i j r
    unfold Nest.put
    split
    · show max (max l.ht r.ht + 1) 0 + 1 ≤ max l.ht r.ht + 1 + 1
      omega
    · show max (l.put i j).ht (r.put i j).ht + 1 ≤ max l.ht r.ht + 1 + 1
      omega
theorem Nest.sz_pos : ∀ t : Nest, 1 ≤ t.sz
  | .leaf _ => Nat.le_refl _
  | .node l r => by
    have := Nest.sz_pos l
    show 1 ≤ l.sz + r.sz
    omega
theorem Nest.put_sz (i j : Int) : ∀ t : Nest, (t.put i j).sz ≤ 2 * t.sz
  | .leaf k => by
    unfold Nest.put
    split
    · exact Nat.le_refl _
    · show 1 ≤ 2 * 1
      decide
  | .node l r => by
    have a := Nest.put_sz i j l
    have b := Nest.put_sz i j r
    have c := Nest.sz_pos l
    have d := Nest.sz_pos r
    unfold Nest.put
    split
    · show l.sz + r.sz + 1 ≤ 2 * (l.sz + r.sz)
      omega
    · show (l.put i j).sz + (r.put i j).sz ≤ 2 * (l.sz + r.sz)
      omega
/-- the first n newcomers come -/
def nestN (is : List Int) : Nat → Nest
  | 0 => .leaf 0
  | n + 1 => (nestN is n).put (is.getD n 0) (n + 1)
theorem nestN_ht (is : List Int) : ∀ n, (nestN is n).ht ≤ n
  | 0 => Nat.le_refl _
  | n + 1 => Nat.le_trans (Nest.put_ht _ _ _) (Nat.succ_le_succ (nestN_ht is n))
theorem nestN_sz (is : List Int) : ∀ n, (nestN is n).sz ≤ 2 ^ n
  | 0 => Nat.le_refl _
  | n + 1 => by
    have := nestN_sz is n
    have := Nest.put_sz (is.getD n 0) (n + 1) (nestN is n)
    show ((nestN is n).put (is.getD n 0) (n + 1)).sz ≤ 2 ^ (n + 1)
    rw [Nat.pow_succ]
    omega
def spNest (K : PySem.W.Frag) : Sp := fun vs H Q _ => ∃ (a : Addr) (is : List Int), vs = [.ref a] ∧ SqL K H a (is.map V.int) ∧ is.length ≤ 19 ∧ ∀ (y : V) (H' : Hp), Grows H H' → NV K H' y (nestN is is.length) → Q y H'
/-- all groups of two persons or more -/
def Nest.lots : Nest → List (List Int)
  | .leaf _ => []
  | .node l r => ((Nest.node l r).folk :: (l.lots ++ r.lots)).mergeSort fun p q => decide (p ≤ q)
theorem Nest.lots_len : ∀ t : Nest, t.lots.length + 1 = t.sz
  | .leaf _ => rfl
  | .node l r => by
    have a := Nest.lots_len l
    have b := Nest.lots_len r
    show (((Nest.node l r).folk :: (l.lots ++ r.lots)).mergeSort _).length + 1 = l.sz + r.sz
    rw [List.length_mergeSort, List.length_cons, List.length_append]
    omega
def spLots (K : PySem.W.Frag) (d : Nat) : Sp := fun vs H Q _ => ∃ (x : V) (t : Nest), vs = [x] ∧ NV K H x t ∧ t.ht ≤ d ∧ t.sz ≤ 600000 ∧
  ∀ (p : Addr) (cs : List (Addr × List Int)) (H' : Hp), cs.map (·.2) = t.lots → Grows H H' → H p = none → Nw H H' cs → (∀ c ∈ cs, c.1 ≠ p) → H' p = some (.lst (cs.map fun c => V.ref c.1)) → Q (.ref p) H'
section
variable {P : Program} {w : World} {K : PySem.W.Frag} {mg : Str → Option Value} {base : Heap}
theorem scNest : FnScope ["items", "nest", "spot", "item"] ["items"] (defScope sNest) := ⟨rfl, rfl, rfl, by decide +kernel, rfl, by decide +kernel, by decide +kernel⟩
theorem scLots : FnScope ["nest"] ["nest"] (defScope sLots) := ⟨rfl, rfl, rfl, by decide +kernel, rfl, by decide +kernel, by decide +kernel⟩
theorem ok_nest {f fP : Addr} {fd dP : FuncData} (F : Fun K "_law_nest" "_law_nest" sNest f fd) (T : TxtP mg) (gPut : mg "_law_put" = some (.ref fP)) (FP : Fun K "_law_put" "_law_put" sPut fP dP) (bFP : Binds K dP ["nest", "item", "fresh"] [])
    (GP : FnOk P w K mg base CX0 22 fP dP ["nest", "item", "fresh"] (spPut K 19)) : FnOk P w K mg base CX0 23 f fd ["items"] (spNest K) := by
  refine F.ok scNest (fun vs H Q E h => ?_) (fun cdv A outer s H vs Q E hr h => ?_)
  · obtain ⟨a, is, rfl, _⟩ := h
    rfl
  · obtain ⟨a, is, rfl, hS, hn, kq⟩ := h
    refine ⟨_, (pss_cons (ps_set (i := 1) scNest.nd rfl (.inl rfl) pe_int)
      (pss_cons (ps_for PassesOwn.never rfl (pi_enum (by rfl) T.enumerate (pa_cons (pv 0) pa_nil)) (pg_tup (by rfl) (pgs_cons (pg_name (i := 2) scNest.nd rfl (.inl rfl)) (pgs_cons (pg_name (i := 3) scNest.nd rfl (.inl rfl)) pgs_nil)))
      (pss_one (ps_set (i := 1) scNest.nd rfl (.inl rfl) (pe_call GP (hr.mono (by decide)) rfl gPut FP.kp bFP .nil pass0 (pa_cons (pv 1) (pa_cons (pv 3) (pa_cons (pe_op op_add (pv 2) pe_int) pa_nil)))))))
      (pss_one (ps_ret (pv 1))))), ?_⟩
    refine ⟨_, rfl, a, _, rfl, hS, for_enumL (K := K) (xs := is.map V.int) (fun i σ H' => ∃ (y : V) (o1 o2 : Option V), σ = [some (.ref a), some y, o1, o2] ∧ Grows H H' ∧ NV K H' y (nestN is i)) ⟨.int 0, none, none, rfl, .refl, .leaf 0⟩ (fun i σ H' ⟨_, _, _, _, s, _⟩ => s.seq hS) (fun i x Tp σ H' hx ⟨y, o1, o2, e, s, nv⟩ hT => ?_) fun σ H' ⟨y, o1, o2, e, s, nv⟩ => ?_⟩
    · subst e
      have il := (List.getElem?_eq_some_iff.mp hx).1
      rw [List.length_map] at il
      obtain rfl := at_map (d := 0) hx
      have h1 := nestN_ht is i
      have h2 := nestN_sz is i
      have h3 : (2 : Nat) ^ i ≤ 2 ^ 19 := Nat.pow_le_pow_right (by decide) (by omega)
      have h4 : (2 : Nat) ^ 19 = 524288 := by decide
      refine ⟨Tp, _, rfl, SqT.of upd_same, rfl, _, _, rfl, _, _, rfl, rfl, _, rfl, _, rfl, _, rfl, _, _, rfl, rfl, y, _, _, nestN is i, rfl, nv.keep (Grows.new hT), by omega, by omega, fun z H2 s2 nv2 => ?_⟩
      exact ⟨z, _, _, rfl, (s.trans (Grows.new hT)).trans s2, nv2⟩
    · subst e
      rw [List.length_map] at nv
      exact ⟨_, rfl, kq y H' s nv⟩
end
end K11

namespace K11
open PySem PySem.Spec PyProof.Rows L2 SortR LcM
section
variable {P : Program} {w : World} {K : PySem.W.Frag} {mg : Str → Option Value} {base : Heap}
theorem lots_body {k d : Nat} {sp0 : Sp} {f fF : Addr} {fd dF : FuncData} (F : Fun K "_law_lots" "_law_lots" sLots f fd) (T : TxtP mg) (gLots : mg "_law_lots" = some (.ref f)) (bF : Binds K fd ["nest"] []) (FF : Fun K "_law_folk" "_law_folk" sFolk fF dF) (gFolk : mg "_law_folk" = some (.ref fF)) (bFF : Binds K dF ["nest"] [])
    (hk : d + 2 ≤ k) (G0 : FnOk P w K mg base CX0 k f fd ["nest"] sp0)
    (inner : ∀ (x : V) (t : Nest) (H : Hp) (Q : VK) (E : XK), NV K H x t → t.ht < d → t.sz ≤ 600000 → (∀ (p : Addr) (cs : List (Addr × List Int)) (H' : Hp), cs.map (·.2) = t.lots → Grows H H' → H p = none → Nw H H' cs → (∀ c ∈ cs, c.1 ≠ p) → H' p = some (.lst (cs.map fun c => V.ref c.1)) → Q (.ref p) H') → sp0 [x] H Q E) :
    FnOk P w K mg base CX0 (k + 1) f fd ["nest"] (spLots K d) := by
  have GF : FnOk P w K mg base CX0 (d + 2) fF dF ["nest"] (spFolk K d) := ok_folk FF T gFolk bFF d
  refine F.ok scLots (fun vs H Q E h => ?_) (fun cdv A outer s H vs Q E hr h => ?_)
  · obtain ⟨x, t, rfl, _⟩ := h
    rfl
  · obtain ⟨x, t, rfl, nv, ht, hz, kq⟩ := h
    refine ⟨_, (pss_cons (ps_if (pt_val (pe_callB call_isi (by rfl) T.isi (by decide +kernel) (pa_cons (pv 0) (pa_cons (pe_bltn (v := .ty "int") (u := .type "int") (by rfl) T.int (by decide +kernel) rfl) pa_nil)))) (pss_one (ps_ret (pe_lst pa_nil))) pss_nil)
      (pss_one (ps_ret (pe_callB (call_sortedR hr.units) (by rfl) T.sorted (by decide +kernel) (pa_cons (pe_op op_cat (pe_op op_cat (pe_lst (pa_cons (pe_call GF (hr.mono hk) rfl gFolk FF.kp bFF .nil pass0 (pa_cons (pv 0) pa_nil)) pa_nil)) (pe_call G0 hr rfl gLots F.kp bF .nil pass0 (pa_cons (pe_ix (r := rIxT K) ix_tup (pv 0) pe_int (fun _ _ => rfl)) pa_nil))) (pe_call G0 hr rfl gLots F.kp bF .nil pass0 (pa_cons (pe_ix (r := rIxT K) ix_tup (pv 0) pe_int (fun _ _ => rfl)) pa_nil))) pa_nil))))), ?_⟩
    cases nv with
    | leaf i =>
      refine ⟨_, rfl, _, _, _, _, true, rfl, .ty "int", .base (.int i), kit_ty (by decide +kernel), true, rfl, iteT ⟨(by show 0 ≤ sizeLine; decide), fun l hl => ?_⟩⟩
      exact kq l [] _ rfl (Grows.new hl) hl ⟨(fun _ m => nomatch m), (fun _ m => nomatch m), List.Pairwise.nil⟩ (fun _ m => nomatch m) upd_same
    | @node t x y l r at_t nl nr =>
      have hlz : l.sz + r.sz ≤ 600000 := hz
      have hlh : max l.ht r.ht + 1 ≤ d := ht
      have zl := l.lots_len
      have zr := r.lots_len
      refine ⟨_, rfl, _, _, _, _, false, rfl, .ty "int", .base (.tup at_t), kit_ty (by decide +kernel), false, rfl, iteF ?_⟩
      refine ⟨_, rfl, .ref t, .node l r, rfl, .node at_t nl nr, ht, hz, fun pF H1 s1 n1 e1 => ⟨(by show 1 ≤ sizeLine; decide), fun L1 nL1 => ?_⟩⟩
      have g1 : Grows H (upd H1 L1 (.lst [.ref pF])) := s1.trans (Grows.new nL1)
      refine ⟨_, rfl, t, _, 0, x, rfl, rfl, SqT.of (g1 _ _ at_t), rfl, inner x l _ _ _ (nl.keep g1) (by omega) (by omega) fun p1 cs1 H2 m2 s2 n2 nw2 ap2 top2 => ?_⟩
      have len1 : cs1.length = l.lots.length := by rw [← m2, List.length_map]
      refine ⟨L1, p1, _, _, rfl, rfl, s2 _ _ upd_same, top2, ?_, fun L2 nL2 => ?_⟩
      · rw [List.length_map, len1]
        have : (600001 : Nat) ≤ sizeLine := by decide
        show 1 + _ ≤ sizeLine
        omega
      have g2 : Grows H (upd H2 L2 (.lst ([V.ref pF] ++ cs1.map fun c => V.ref c.1))) := (g1.trans s2).trans (Grows.new nL2)
      refine ⟨_, rfl, t, _, 1, y, rfl, rfl, SqT.of (g2 _ _ at_t), rfl, inner y r _ _ _ (nr.keep g2) (by omega) (by omega) fun p3 cs3 H3 m3 s3 n3 nw3 ap3 top3 => ?_⟩
      have len3 : cs3.length = r.lots.length := by rw [← m3, List.length_map]
      refine ⟨L2, p3, _, _, rfl, rfl, s3 _ _ upd_same, top3, ?_, fun L4 nL4 => ?_⟩
      · rw [List.length_append, List.length_map, List.length_map, len1, len3]
        have : (600001 : Nat) ≤ sizeLine := by decide
        show 1 + _ + _ ≤ sizeLine
        omega
      obtain ⟨G, eG⟩ : ∃ G, G = upd H3 L4 (.lst (([V.ref pF] ++ cs1.map fun c => V.ref c.1) ++ cs3.map fun c => V.ref c.1)) := ⟨_, rfl⟩
      rw [← eG]
      have s4 : Grows H3 G := eG ▸ Grows.new nL4
      obtain ⟨bs, ebs⟩ : ∃ bs : List (Addr × List Int), bs = (pF, (Nest.node l r).folk) :: (cs1 ++ cs3) := ⟨_, rfl⟩
      have c1H2 : Grows (upd H1 L1 (.lst [.ref pF])) H2 := s2
      have toG2 : Grows H2 G := ((Grows.new nL2).trans s3).trans s4
      have pF_at : (upd H1 L1 (.lst [.ref pF])) pF = some (.lst ((Nest.node l r).folk.map V.int)) := Grows.new nL1 _ _ e1
      have each : ∀ b ∈ bs, G b.1 = some (.lst (b.2.map V.int)) := fun b m => by
        rw [ebs] at m
        rcases List.mem_cons.mp m with z | z
        · rw [z]
          exact toG2 _ _ (s2 _ _ pF_at)
        · rcases List.mem_append.mp z with z | z
          · exact toG2 _ _ (nw2.lists b z)
          · exact s4 _ _ (nw3.lists b z)
      have fresh : ∀ b ∈ bs, H b.1 = none := fun b m => by
        rw [ebs] at m
        rcases List.mem_cons.mp m with z | z
        · rw [z]
          exact n1
        · rcases List.mem_append.mp z with z | z
          · exact none_back g1 (nw2.new b z)
          · exact none_back g2 (nw3.new b z)
      have nod : (bs.map (·.1)).Nodup := by
        rw [ebs, List.map_cons, List.map_append]
        refine List.nodup_cons.mpr ⟨fun z => ?_, List.nodup_append.mpr ⟨nw2.nodup, nw3.nodup, fun a ma b mb => ?_⟩⟩
        · rcases List.mem_append.mp z with z | z
          · obtain ⟨c, mc, e⟩ := List.mem_map.mp z
            exact ne_of_none pF_at (nw2.new c mc) e.symm
          · obtain ⟨c, mc, e⟩ := List.mem_map.mp z
            exact ne_of_none (Grows.new nL2 _ _ (s2 _ _ pF_at)) (nw3.new c mc) e.symm
        · obtain ⟨c, mc, rfl⟩ := List.mem_map.mp ma
          obtain ⟨c', mc', rfl⟩ := List.mem_map.mp mb
          exact ne_of_none (Grows.new nL2 _ _ (nw2.lists c mc)) (nw3.new c' mc')
      have topG : G L4 = some (.lst (bs.map fun b => V.ref b.1)) := by
        rw [eG, upd_same, ebs, List.map_cons, List.map_append]
        rfl
      refine ⟨L4, bs, rfl, SqL.of topG, fun b m => SqL.of (each b m), fun p np => ?_⟩
      have mem : ∀ b, b ∈ bs.mergeSort rowLe → b ∈ bs := fun b m => List.mem_mergeSort.mp m
      have gG : Grows H G := (g2.trans s3).trans s4
      refine kq p (bs.mergeSort rowLe) _ ?_ (gG.trans (Grows.new np)) (none_back gG np) ⟨fun b m => ?_, fun b m => fresh b (mem b m), ?_⟩ (fun b m e => ?_) upd_same
      · rw [sort_rows, ebs, List.map_cons, List.map_append, m2, m3]
        rfl
      · exact Grows.new np _ _ (each b (mem b m))
      · exact (((List.mergeSort_perm bs rowLe).map (·.1)).nodup_iff).mpr nod
      · have z := each b (mem b m)
        rw [e, np] at z
        cases z
theorem ok_lots {f fF : Addr} {fd dF : FuncData} (F : Fun K "_law_lots" "_law_lots" sLots f fd) (T : TxtP mg) (gLots : mg "_law_lots" = some (.ref f)) (bF : Binds K fd ["nest"] []) (FF : Fun K "_law_folk" "_law_folk" sFolk fF dF) (gFolk : mg "_law_folk" = some (.ref fF)) (bFF : Binds K dF ["nest"] []) : ∀ d, FnOk P w K mg base CX0 (d + 3) f fd ["nest"] (spLots K d)
  | 0 => lots_body F T gLots bF FF gFolk bFF (Nat.le_refl _) ((fn_no (f := f) (fd := fd)).mono (by decide)) fun _ _ _ _ _ _ h _ _ => absurd h (Nat.not_lt_zero _)
  | d + 1 => lots_body F T gLots bF FF gFolk bFF (Nat.le_refl _) (ok_lots F T gLots bF FF gFolk bFF d) fun x t H Q E nv h hz kq => ⟨x, t, rfl, nv, Nat.le_of_lt_succ h, hz, kq⟩
end
end K11

namespace K11
open PySem PySem.Spec PyProof.Rows L2 SortR LcM
theorem plist_of {n : Int} {ks : List Int} (up : ks.Pairwise (· < ·)) (rng : ∀ x ∈ ks, 0 ≤ x ∧ x < n) : plist n ks = true := by
  unfold plist inR ascI
  rw [Bool.and_eq_true]
  refine ⟨List.all_eq_true.mpr fun i hi => ?_, List.all_eq_true.mpr fun i hi => ?_⟩
  · have il := List.mem_range.mp hi
    have e : ks.getD i 0 = ks[i] := by rw [List.getD_eq_getElem?_getD, List.getElem?_eq_getElem il]; rfl
    have := rng _ (List.getElem_mem il)
    rw [e, decide_eq_true this.1, decide_eq_true this.2]
    rfl
  · have il := List.mem_range.mp hi
    have l1 : i < ks.length := by omega
    have l2 : i + 1 < ks.length := by omega
    have e1 : ks.getD i 0 = ks[i] := by rw [List.getD_eq_getElem?_getD, List.getElem?_eq_getElem l1]; rfl
    have e2 : ks.getD (i + 1) 0 = ks[i + 1] := by rw [List.getD_eq_getElem?_getD, List.getElem?_eq_getElem l2]; rfl
    rw [e1, e2]
    exact decide_eq_true (List.pairwise_iff_getElem.mp up i (i + 1) l1 l2 (Nat.lt_succ_self i))
theorem gr_none {p a : Addr} {H H' : Hp} (g : Gr p H H') (h : H' a = none) (n : a ≠ p) : H a = none := by
  rcases Option.eq_none_or_eq_some (H a) with z | ⟨o, z⟩
  · exact z
  · rw [g a o n z] at h
    cases h
theorem rg_ints (n : Int) : rgV 0 n = ((List.range n.toNat).map fun i => (0 + (i : Nat) : Int)).map V.int := by
  unfold rgV
  rw [List.map_map, Int.sub_zero]
  rfl
theorem rg_up (n : Nat) : ((List.range n).map fun i => (0 + (i : Nat) : Int)).Pairwise (· < ·) := by
  rw [List.pairwise_map]
  exact List.pairwise_lt_range.imp fun {a b} h => by omega
theorem rg_in (n : Nat) : ∀ x ∈ (List.range n).map fun i => (0 + (i : Nat) : Int), 0 ≤ x ∧ x < n := fun x hx => by
  obtain ⟨i, hi, e⟩ := List.mem_map.mp hx
  have := List.mem_range.mp hi
  omega
theorem inV_ints (i : Int) (ns : List Int) : inV (.int i) (ns.map V.int) = decide (i ∈ ns) := by
  unfold inV
  induction ns with
  | nil => rfl
  | cons x ns ih =>
    rw [List.map_cons, List.any_cons, ih]
    show ((x == i) || decide (i ∈ ns)) = decide (i ∈ x :: ns)
    by_cases e : x = i
    · rw [e, beq_self_eq_true, Bool.true_or, decide_eq_true List.mem_cons_self]
    · rw [beq_eq_false_iff_ne.mpr e, Bool.false_or]
      by_cases m : i ∈ ns
      · rw [decide_eq_true m, decide_eq_true (List.mem_cons_of_mem _ m)]
      · rw [decide_eq_false m, decide_eq_false fun z => (List.mem_cons.mp z).elim (fun q => e q.symm) m]
theorem flat_ints (ns : List Int) : (ns.map V.int).all flatV = true := by
  rw [List.all_map]
  exact List.all_eq_true.mpr fun _ _ => rfl
end K11

namespace K11
open PySem PySem.Spec PyProof.Rows L2 SortR LcM
theorem rng_map {α β : Type} (ns : List α) (d : α) (f : α → β) : (List.range ns.length).map (fun i => f (ns.getD i d)) = ns.map f := by
  refine List.ext_getElem (by rw [List.length_map, List.length_map, List.length_range]) fun j j1 j2 => ?_
  rw [List.length_map] at j2
  rw [List.getElem_map, List.getElem_map, List.getElem_range, List.getD_eq_getElem?_getD, List.getElem?_eq_getElem j2]
  rfl
theorem maskI_mk {ns : List Int} : maskI ns = ((mk (ns.map Int.toNat) : Nat) : Int) := by
  unfold maskI
  rw [rng_map ns 0 fun x => (1 : Int) * 2 ^ x.toNat]
  induction ns with
  | nil => rfl
  | cons x ns ih =>
    rw [List.map_cons, List.sum_cons, ih, List.map_cons, mk_cons, Int.one_mul, Int.natCast_add, Int.natCast_pow]
    rfl
/-- ascending lists of persons that lie apart, or one within the other -/
def Nice (xs ys : List Int) : Prop := (∀ z ∈ xs, z ∉ ys) ∨ (∀ z ∈ xs, z ∈ ys) ∨ ∀ z ∈ ys, z ∈ xs
theorem up_nat {xs : List Int} (h : xs.Pairwise (· < ·)) (p : ∀ x ∈ xs, 0 ≤ x) : (xs.map Int.toNat).Pairwise (· < ·) := by
  rw [List.pairwise_map]
  exact h.imp_of_mem fun {a b} ha hb lt => by
    have := p a ha
    have := p b hb
    omega
theorem mem_nat {xs : List Int} (p : ∀ x ∈ xs, 0 ≤ x) {i : Nat} : i ∈ xs.map Int.toNat ↔ (i : Int) ∈ xs := by
  rw [List.mem_map]
  constructor
  · rintro ⟨x, hx, rfl⟩
    rw [Int.toNat_of_nonneg (p x hx)]
    exact hx
  · intro h
    exact ⟨_, h, rfl⟩
theorem crossI_no {xs ys : List Int} (hx : xs.Pairwise (· < ·)) (hy : ys.Pairwise (· < ·)) (px : ∀ x ∈ xs, 0 ≤ x) (py : ∀ x ∈ ys, 0 ≤ x) (h : Nice xs ys) : crossI (maskI xs) (maskI ys) = false := by
  have h' : (∀ z ∈ xs.map Int.toNat, z ∉ ys.map Int.toNat) ∨ (∀ z ∈ xs.map Int.toNat, z ∈ ys.map Int.toNat) ∨ ∀ z ∈ ys.map Int.toNat, z ∈ xs.map Int.toNat := by
    rcases h with h | h | h
    · exact .inl fun z hz hz2 => h _ ((mem_nat px).mp hz) ((mem_nat py).mp hz2)
    · exact .inr (.inl fun z hz => (mem_nat py).mpr (h _ ((mem_nat px).mp hz)))
    · exact .inr (.inr fun z hz => (mem_nat px).mpr (h _ ((mem_nat py).mp hz)))
  have m := mk_and (up_nat hx px) (up_nat hy py) h'
  rw [maskI_mk, maskI_mk]
  unfold crossI
  rw [PyProof.Rows.bitAnd_pp (Int.natCast_nonneg _) (Int.natCast_nonneg _), Int.toNat_natCast, Int.toNat_natCast]
  generalize mk (xs.map Int.toNat) = a at m
  generalize mk (ys.map Int.toNat) = b at m
  have e : inV (.int ((a &&& b : Nat) : Int)) [.int 0, .int (a : Int), .int (b : Int)] = true := by
    unfold inV
    rcases m with m | m | m
    · rw [m]
      rfl
    · rw [m]
      simp [eqV]
    · rw [m]
      simp [eqV]
  rw [e]
  rfl
end K11

namespace K11
open PySem PySem.Spec PyProof.Rows L2 SortR LcM
/-- the persons, as they sit -/
def Nest.lv : Nest → List Int
  | .leaf i => [i]
  | .node l r => l.lv ++ r.lv
theorem Nest.folk_perm : ∀ t : Nest, t.folk.Perm t.lv
  | .leaf _ => .refl _
  | .node l r => (List.mergeSort_perm _ _).trans ((Nest.folk_perm l).append (Nest.folk_perm r))
theorem Nest.folk_le : ∀ t : Nest, t.folk.Pairwise (· ≤ ·)
  | .leaf _ => List.pairwise_singleton _ _
  | .node l r => by
    have h := List.pairwise_mergeSort (le := intLe) (fun a b c h1 h2 => by
      unfold intLe at *
      simp only [decide_eq_true_eq] at *
      omega) (fun a b => by
      unfold intLe
      simp only [Bool.or_eq_true, decide_eq_true_eq]
      omega) (l.folk ++ r.folk)
    exact h.imp fun {a b} z => by
      unfold intLe at z
      exact of_decide_eq_true z
theorem Nest.folk_up {t : Nest} (h : t.lv.Nodup) : t.folk.Pairwise (· < ·) := by
  have n : t.folk.Nodup := (t.folk_perm.nodup_iff).mpr h
  exact (t.folk_le.and n).imp fun {a b} z => by
    have := z.1
    have := z.2
    omega
theorem Nest.lots_mem {l r : Nest} {q : List Int} : q ∈ (Nest.node l r).lots ↔ q = (Nest.node l r).folk ∨ q ∈ l.lots ∨ q ∈ r.lots := by
  show q ∈ List.mergeSort _ _ ↔ _
  rw [List.mem_mergeSort, List.mem_cons, List.mem_append]
theorem Nest.sz_lv : ∀ t : Nest, t.lv.length = t.sz
  | .leaf _ => rfl
  | .node l r => by
    show (l.lv ++ r.lv).length = l.sz + r.sz
    rw [List.length_append, Nest.sz_lv l, Nest.sz_lv r]
/-- each group: some of the persons, two or more, ascending -/
theorem Nest.lot_ok : ∀ (t : Nest), t.lv.Nodup → ∀ q ∈ t.lots, (∀ z ∈ q, z ∈ t.lv) ∧ 2 ≤ q.length ∧ q.Pairwise (· < ·)
  | .leaf _, _, q, h => nomatch h
  | .node l r, hn, q, h => by
    obtain ⟨n1, n2, _⟩ := List.nodup_append.mp hn
    rcases Nest.lots_mem.mp h with e | e | e
    · subst e
      refine ⟨fun z hz => (Nest.folk_perm _).mem_iff.mp hz, ?_, Nest.folk_up hn⟩
      rw [Nest.folk_len]
      have := l.sz_pos
      have := r.sz_pos
      show 2 ≤ l.sz + r.sz
      omega
    · obtain ⟨a, b, c⟩ := Nest.lot_ok l n1 q e
      exact ⟨fun z hz => List.mem_append.mpr (.inl (a z hz)), b, c⟩
    · obtain ⟨a, b, c⟩ := Nest.lot_ok r n2 q e
      exact ⟨fun z hz => List.mem_append.mpr (.inr (a z hz)), b, c⟩
theorem Nest.lots_nice : ∀ (t : Nest), t.lv.Nodup → ∀ p ∈ t.lots, ∀ q ∈ t.lots, Nice p q
  | .leaf _, _, p, h, _, _ => nomatch h
  | .node l r, hn, p, hp, q, hq => by
    obtain ⟨n1, n2, n3⟩ := List.nodup_append.mp hn
    have all : ∀ s ∈ (Nest.node l r).lots, ∀ z ∈ s, z ∈ (Nest.node l r).folk := fun s hs z hz => (Nest.folk_perm _).mem_iff.mpr ((Nest.lot_ok _ hn s hs).1 z hz)
    rcases Nest.lots_mem.mp hp with e | e | e
    · subst e
      exact .inr (.inr (all q hq))
    · rcases Nest.lots_mem.mp hq with f | f | f
      · subst f
        exact .inr (.inl (all p hp))
      · exact Nest.lots_nice l n1 p e q f
      · exact .inl fun z hz hz2 => n3 z ((Nest.lot_ok l n1 p e).1 z hz) z ((Nest.lot_ok r n2 q f).1 z hz2) rfl
    · rcases Nest.lots_mem.mp hq with f | f | f
      · subst f
        exact .inr (.inl (all p hp))
      · exact .inl fun z hz hz2 => n3 z ((Nest.lot_ok l n1 q f).1 z hz2) z ((Nest.lot_ok r n2 p e).1 z hz) rfl
      · exact Nest.lots_nice r n2 p e q f
theorem Nest.lv_ne : ∀ t : Nest, ∃ z, z ∈ t.lv
  | .leaf i => ⟨i, List.mem_singleton.mpr rfl⟩
  | .node l r => let ⟨z, h⟩ := Nest.lv_ne l; ⟨z, List.mem_append.mpr (.inl h)⟩
theorem Nest.lots_nodup : ∀ (t : Nest), t.lv.Nodup → t.lots.Nodup
  | .leaf _, _ => List.Pairwise.nil
  | .node l r, hn => by
    obtain ⟨n1, n2, n3⟩ := List.nodup_append.mp hn
    show (List.mergeSort _ _).Nodup
    refine ((List.mergeSort_perm _ _).nodup_iff).mpr (List.nodup_cons.mpr ⟨fun h => ?_, List.nodup_append.mpr ⟨Nest.lots_nodup l n1, Nest.lots_nodup r n2, fun a ha b hb e => ?_⟩⟩)
    · have mem : ∀ z ∈ (Nest.node l r).lv, z ∈ (Nest.node l r).folk := fun z hz => (Nest.folk_perm _).mem_iff.mpr hz
      rcases List.mem_append.mp h with h | h
      · obtain ⟨z, hz⟩ := r.lv_ne
        exact n3 z ((Nest.lot_ok l n1 _ h).1 z (mem z (List.mem_append.mpr (.inr hz)))) z hz rfl
      · obtain ⟨z, hz⟩ := l.lv_ne
        exact n3 z hz z ((Nest.lot_ok r n2 _ h).1 z (mem z (List.mem_append.mpr (.inl hz)))) rfl
    · subst e
      obtain ⟨a1, a2, _⟩ := Nest.lot_ok l n1 a ha
      obtain ⟨b1, _, _⟩ := Nest.lot_ok r n2 a hb
      cases a with
      | nil => exact absurd a2 (by decide)
      | cons z a => exact n3 z (a1 z List.mem_cons_self) z (b1 z List.mem_cons_self) rfl
end K11

namespace K11
open PySem PySem.Spec PyProof.Rows L2 SortR LcM
theorem sorted_rows (rs : List (List Int)) : (rs.mergeSort fun p q => decide (p ≤ q)).Pairwise (· ≤ ·) := by
  have h := List.pairwise_mergeSort (le := fun p q : List Int => decide (p ≤ q)) (fun a b c h1 h2 => decide_eq_true (List.le_trans (of_decide_eq_true h1) (of_decide_eq_true h2)))
    (fun a b => by
      simp only [Bool.or_eq_true, decide_eq_true_eq]
      exact List.le_total a b) rs
  exact h.imp fun {a b} z => of_decide_eq_true z
theorem strict_rows {rs : List (List Int)} (h : rs.Pairwise (· ≤ ·)) (n : rs.Nodup) : rs.Pairwise (· < ·) :=
  (h.and n).imp fun {a b} z => (List.le_iff_lt_or_eq.mp z.1).resolve_right z.2
theorem ascR_of {rs : List (List Int)} (up : rs.Pairwise (· < ·)) : ascR rs = true := by
  unfold ascR
  refine List.all_eq_true.mpr fun i hi => ?_
  have il := List.mem_range.mp hi
  have l1 : i < rs.length := by omega
  have l2 : i + 1 < rs.length := by omega
  have e1 : rs.getD i [] = rs[i] := by rw [List.getD_eq_getElem?_getD, List.getElem?_eq_getElem l1]; rfl
  have e2 : rs.getD (i + 1) [] = rs[i + 1] := by rw [List.getD_eq_getElem?_getD, List.getElem?_eq_getElem l2]; rfl
  rw [e1, e2]
  exact decide_eq_true (List.pairwise_iff_getElem.mp up i (i + 1) l1 l2 (Nat.lt_succ_self i))
theorem Nest.lots_le : ∀ t : Nest, t.lots.Pairwise (· ≤ ·)
  | .leaf _ => List.Pairwise.nil
  | .node l r => sorted_rows _
/-- a nest of the persons 0 .. n - 1 -/
structure Nest.Full (t : Nest) (n : Nat) : Prop where
  nodup : t.lv.Nodup
  rng : ∀ x ∈ t.lv, 0 ≤ x ∧ x < n
  size : t.sz = n
theorem isP_lots {t : Nest} {n : Nat} (f : t.Full n) (h : n ≤ 20) : isP t.lots = true := by
  have len := t.lots_len
  rw [f.size] at len
  have ok := Nest.lot_ok t f.nodup
  have pos : ∀ q ∈ t.lots, ∀ x ∈ q, 0 ≤ x := fun q hq x hx => (f.rng x ((ok q hq).1 x hx)).1
  unfold isP
  simp only [Bool.and_eq_true, decide_eq_true_eq, Bool.not_eq_true']
  refine ⟨⟨⟨by omega, List.all_eq_true.mpr fun i hi => ?_⟩, ascR_of (strict_rows t.lots_le (Nest.lots_nodup t f.nodup))⟩, ?_⟩
  · have il := List.mem_range.mp hi
    have e : t.lots.getD i [] = t.lots[i] := by rw [List.getD_eq_getElem?_getD, List.getElem?_eq_getElem il]; rfl
    obtain ⟨a, b, c⟩ := ok _ (List.getElem_mem il)
    rw [e]
    unfold group
    rw [plist_of c fun x hx => ?_, Bool.true_and]
    · exact decide_eq_true (by omega)
    · have := f.rng x (a x hx)
      omega
  · unfold anyX
    refine List.any_eq_false.mpr fun k hk => ?_
    have kl := List.mem_range.mp hk
    obtain ⟨i, j, e⟩ : ∃ i j, (Comb.prs t.lots.length)[k] = (i, j) := ⟨_, _, rfl⟩
    have ek : (Comb.prs t.lots.length)[k]? = some (i, j) := by rw [List.getElem?_eq_getElem kl, e]
    obtain ⟨l1, l2, _⟩ := Comb.prs_step ek
    have ed : (Comb.prs t.lots.length).getD k (0, 0) = (i, j) := by rw [List.getD_eq_getElem?_getD, ek]; rfl
    have il : i < t.lots.length := by omega
    have e1 : t.lots.getD i [] = t.lots[i] := by rw [List.getD_eq_getElem?_getD, List.getElem?_eq_getElem il]; rfl
    have e2 : t.lots.getD j [] = t.lots[j] := by rw [List.getD_eq_getElem?_getD, List.getElem?_eq_getElem l2]; rfl
    rw [ed]
    show ¬ crossI (maskI (t.lots.getD i [])) (maskI (t.lots.getD j [])) = true
    rw [e1, e2]
    have m1 := List.getElem_mem il
    have m2 := List.getElem_mem l2
    rw [crossI_no (ok _ m1).2.2 (ok _ m2).2.2 (pos _ m1) (pos _ m2) (Nest.lots_nice t f.nodup _ m1 _ m2)]
    exact Bool.false_ne_true
end K11

namespace K11
open PySem PySem.Spec PyProof.Rows L2 SortR LcM
/-- the makers of all groups -/
def Nest.mks : Nest → List Int
  | .leaf _ => []
  | .node l r => max l.mn r.mn :: (l.mks ++ r.mks)
theorem Nest.mn_lv (t : Nest) : t.mn ∈ t.lv := (t.folk_perm.mem_iff).mp t.mn_ok.1
theorem Nest.mks_perm : ∀ t : Nest, (t.mn :: t.mks).Perm t.lv
  | .leaf _ => .refl _
  | .node l r => by
    have a := Nest.mks_perm l
    have b := Nest.mks_perm r
    have c : (l.mn :: l.mks ++ (r.mn :: r.mks)).Perm (l.lv ++ r.lv) := a.append b
    refine List.Perm.trans ?_ c
    show (min l.mn r.mn :: max l.mn r.mn :: (l.mks ++ r.mks)).Perm (l.mn :: (l.mks ++ (r.mn :: r.mks)))
    have d : (l.mn :: (l.mks ++ (r.mn :: r.mks))).Perm (l.mn :: r.mn :: (l.mks ++ r.mks)) := List.Perm.cons _ List.perm_middle
    refine List.Perm.trans ?_ d.symm
    rcases Int.le_total l.mn r.mn with h | h
    · rw [Int.min_eq_left h, Int.max_eq_right h]
    · rw [Int.min_eq_right h, Int.max_eq_left h]
      exact List.Perm.swap _ _ _
theorem Nest.put_pos {i f : Int} (hi : 0 ≤ i) : ∀ t : Nest, t.lv.Nodup → (∀ x ∈ t.lv, 0 ≤ x) → (t.put i f).lv.Perm (if i ∈ t.lv then t.lv ++ [f] else t.lv)
  | .leaf k, _, _ => by
    unfold Nest.put
    by_cases e : k = i
    · rw [if_pos e, if_pos (show i ∈ (Nest.leaf k).lv from List.mem_singleton.mpr e.symm)]
      exact .refl _
    · rw [if_neg e, if_neg (show ¬ i ∈ (Nest.leaf k).lv from fun z => e (List.mem_singleton.mp z).symm)]
  | .node l r, hn, hp => by
    obtain ⟨n1, n2, n3⟩ := List.nodup_append.mp hn
    have pl : ∀ x ∈ l.lv, 0 ≤ x := fun x hx => hp x (List.mem_append.mpr (.inl hx))
    have pr : ∀ x ∈ r.lv, 0 ≤ x := fun x hx => hp x (List.mem_append.mpr (.inr hx))
    have m1 := pl _ l.mn_lv
    have m2 := pr _ r.mn_lv
    have m3 : l.mn ≠ r.mn := n3 _ l.mn_lv _ r.mn_lv
    have a := Nest.put_pos hi l n1 pl (f := f)
    have b := Nest.put_pos hi r n2 pr (f := f)
    unfold Nest.put
    rw [if_neg (by omega)]
    show ((l.put i f).lv ++ (r.put i f).lv).Perm (if i ∈ l.lv ++ r.lv then (l.lv ++ r.lv) ++ [f] else l.lv ++ r.lv)
    by_cases h1 : i ∈ l.lv
    · have h2 : i ∉ r.lv := fun z => n3 i h1 i z rfl
      rw [if_pos h1] at a
      rw [if_neg h2] at b
      rw [if_pos (List.mem_append.mpr (.inl h1))]
      refine (a.append b).trans ?_
      rw [List.append_assoc, List.append_assoc]
      exact List.Perm.append_left _ List.perm_append_comm
    · rw [if_neg h1] at a
      by_cases h2 : i ∈ r.lv
      · rw [if_pos h2] at b
        rw [if_pos (List.mem_append.mpr (.inr h2))]
        refine (a.append b).trans ?_
        rw [List.append_assoc]
      · rw [if_neg h2] at b
        rw [if_neg fun z => (List.mem_append.mp z).elim h1 h2]
        exact a.append b
theorem Nest.put_neg {i f : Int} (hi : i < 0) : ∀ t : Nest, t.mks.Nodup → (∀ x ∈ t.lv, 0 ≤ x) → (t.put i f).lv.Perm (if 0 - i ∈ t.mks then t.lv ++ [f] else t.lv)
  | .leaf k, _, hp => by
    have := hp k (List.mem_singleton.mpr rfl)
    unfold Nest.put
    rw [if_neg (by omega), if_neg (show ¬ 0 - i ∈ (Nest.leaf k).mks from fun z => nomatch z)]
  | .node l r, hn, hp => by
    obtain ⟨n0, n⟩ := List.nodup_cons.mp hn
    obtain ⟨n1, n2, n3⟩ := List.nodup_append.mp n
    have a := Nest.put_neg hi l n1 (fun x hx => hp x (List.mem_append.mpr (.inl hx))) (f := f)
    have b := Nest.put_neg hi r n2 (fun x hx => hp x (List.mem_append.mpr (.inr hx))) (f := f)
    unfold Nest.put
    by_cases e : max l.mn r.mn = 0 - i
    · rw [if_pos e, if_pos (show 0 - i ∈ (Nest.node l r).mks from e ▸ List.mem_cons_self)]
      exact .refl _
    · rw [if_neg e]
      show ((l.put i f).lv ++ (r.put i f).lv).Perm (if 0 - i ∈ max l.mn r.mn :: (l.mks ++ r.mks) then (l.lv ++ r.lv) ++ [f] else l.lv ++ r.lv)
      by_cases h1 : 0 - i ∈ l.mks
      · have h2 : 0 - i ∉ r.mks := fun z => n3 _ h1 _ z rfl
        rw [if_pos h1] at a
        rw [if_neg h2] at b
        rw [if_pos (List.mem_cons_of_mem _ (List.mem_append.mpr (.inl h1)))]
        refine (a.append b).trans ?_
        rw [List.append_assoc, List.append_assoc]
        exact List.Perm.append_left _ List.perm_append_comm
      · rw [if_neg h1] at a
        by_cases h2 : 0 - i ∈ r.mks
        · rw [if_pos h2] at b
          rw [if_pos (List.mem_cons_of_mem _ (List.mem_append.mpr (.inr h2)))]
          refine (a.append b).trans ?_
          rw [List.append_assoc]
        · rw [if_neg h2] at b
          rw [if_neg fun z => (List.mem_cons.mp z).elim (fun q => e q.symm) fun q => (List.mem_append.mp q).elim h1 h2]
          exact a.append b
/-- who comes by an item within its bounds comes once -/
theorem Nest.put_full {t : Nest} {n : Nat} (f : t.Full n) (has : ∀ x : Nat, x < n → (x : Int) ∈ t.lv) {i : Int} (h0 : -(n : Int) < i) (h1 : i < n) (hn : 0 < n) : (t.put i n).Full (n + 1) ∧ ∀ x : Nat, x < n + 1 → (x : Int) ∈ (t.put i n).lv := by
  have perm : (t.put i n).lv.Perm (t.lv ++ [(n : Int)]) := by
    by_cases hi : 0 ≤ i
    · have p := Nest.put_pos hi t f.nodup (fun x hx => (f.rng x hx).1) (f := n)
      have m : i ∈ t.lv := by
        have := has i.toNat (by omega)
        rw [Int.toNat_of_nonneg hi] at this
        exact this
      rw [if_pos m] at p
      exact p
    · have nd : (t.mn :: t.mks).Nodup := (t.mks_perm.nodup_iff).mpr f.nodup
      have p := Nest.put_neg (by omega) t (List.nodup_cons.mp nd).2 (fun x hx => (f.rng x hx).1) (f := n) (i := i)
      have m : 0 - i ∈ t.mks := by
        have q : 0 - i ∈ t.lv := by
          have := has (0 - i).toNat (by omega)
          rw [Int.toNat_of_nonneg (by omega)] at this
          exact this
        have zero := has 0 hn
        have least : t.mn = 0 := by
          have a := t.mn_ok.2 0 ((t.folk_perm.mem_iff).mpr zero)
          have b := (f.rng _ t.mn_lv).1
          omega
        rcases List.mem_cons.mp ((t.mks_perm.mem_iff).mpr q) with z | z
        · omega
        · exact z
      rw [if_pos m] at p
      exact p
  refine ⟨⟨(perm.nodup_iff).mpr (List.nodup_append.mpr ⟨f.nodup, List.nodup_cons.mpr ⟨(fun z => nomatch z), List.Pairwise.nil⟩, fun a ha b hb e => ?_⟩), fun x hx => ?_, ?_⟩, fun x hx => (perm.mem_iff).mpr ?_⟩
  · have := (f.rng a ha).2
    have eb : b = n := by simpa using hb
    omega
  · rcases List.mem_append.mp ((perm.mem_iff).mp hx) with z | z
    · have := f.rng x z
      omega
    · have eb : x = n := by simpa using z
      omega
  · rw [← Nest.sz_lv, perm.length_eq, List.length_append, Nest.sz_lv, f.size]
    rfl
  · by_cases e : x < n
    · exact List.mem_append.mpr (.inl (has x e))
    · have : x = n := by omega
      rw [this]
      exact List.mem_append.mpr (.inr List.mem_cons_self)
theorem nestN_full (is : List Int) (h : Bnd is) : ∀ n, n ≤ is.length → (nestN is n).Full (n + 1) ∧ ∀ x : Nat, x < n + 1 → (x : Int) ∈ (nestN is n).lv
  | 0, _ => ⟨⟨List.nodup_cons.mpr ⟨(fun z => nomatch z), List.Pairwise.nil⟩, fun x hx => by rw [List.mem_singleton.mp hx]; omega, rfl⟩, fun x hx => by
      have : x = 0 := by omega
      rw [this]
      exact List.mem_singleton.mpr rfl⟩
  | n + 1, hn => by
    obtain ⟨f, has⟩ := nestN_full is h n (Nat.le_of_succ_le hn)
    have e : is[n]? = some is[n] := List.getElem?_eq_getElem hn
    have b := h n _ e
    have eg : is.getD n 0 = is[n] := by rw [List.getD_eq_getElem?_getD, e]; rfl
    have q := Nest.put_full f has (i := is.getD n 0) (by rw [eg]; omega) (by rw [eg]; omega) (Nat.succ_pos n)
    exact q
end K11

namespace K11
open PySem PySem.Spec PyProof.Rows L2 SortR LcM
abbrev sNeedP : Stmt := top 19
abbrev sAre : Stmt := top 18
abbrev sNeedT : Stmt := top 28
abbrev sWays : Stmt := top 26
abbrev sCountP : Stmt := top 27
abbrev sFrac : Stmt := top 24
abbrev sCert : Stmt := top 32
abbrev sLies : Stmt := top 33
abbrev sFirst : Stmt := top 29
abbrev sFam : Stmt := top 30
abbrev sCros : Stmt := top 31
abbrev sUnits : Stmt := top 34
abbrev sAllU : Stmt := top 35
abbrev sGo : Stmt := top 36
abbrev sWith : Stmt := top 37
abbrev sShare : Stmt := top 38
abbrev sUof : Stmt := top 39
abbrev sGsh : Stmt := top 40
abbrev sNth : Stmt := top 55
abbrev sIdx : Stmt := top 56
/-- the program's further defs, where they stand -/
structure TolF (K : PySem.W.Frag) (mg : Str → Option Value) where
  (fNeedP fAre fNeedT fWays fCountP fFrac fCert fLies fFirst fFam fCros fUnits fAllU fGo fWith fShare fUof fGsh fNth fIdx : Addr)
  (dNeedP dAre dNeedT dWays dCountP dFrac dCert dLies dFirst dFam dCros dUnits dAllU dGo dWith dShare dUof dGsh dNth dIdx : FuncData)
  FNeedP : Fun K "need_persons" "need_persons" sNeedP fNeedP dNeedP
  FAre : Fun K "are_groups" "are_groups" sAre fAre dAre
  FNeedT : Fun K "need_told" "need_told" sNeedT fNeedT dNeedT
  FWays : Fun K "ways_of" "ways_of" sWays fWays dWays
  FCountP : Fun K "count_partings" "count_partings" sCountP fCountP dCountP
  FFrac : Fun K "fraction" "fraction" sFrac fFrac dFrac
  FCert : Fun K "certain_groups" "certain_groups" sCert fCert dCert
  FLies : Fun K "lies_within" "lies_within" sLies fLies dLies
  FFirst : Fun K "first_crossing" "first_crossing" sFirst fFirst dFirst
  FFam : Fun K "need_family" "need_family" sFam fFam dFam
  FCros : Fun K "crossing" "crossing" sCros fCros dCros
  FUnits : Fun K "units_in" "units_in" sUnits fUnits dUnits
  FAllU : Fun K "all_units" "all_units" sAllU fAllU dAllU
  FGo : Fun K "count_going_on" "count_going_on" sGo fGo dGo
  FWith : Fun K "count_with" "count_with" sWith fWith dWith
  FShare : Fun K "share_with" "share_with" sShare fShare dShare
  FUof : Fun K "units_of" "units_of" sUof fUof dUof
  FGsh : Fun K "group_share" "group_share" sGsh fGsh dGsh
  FNth : Fun K "nth_with" "nth_with" sNth fNth dNth
  FIdx : Fun K "index_with" "index_with" sIdx fIdx dIdx
  gNeedP : mg "need_persons" = some (.ref fNeedP)
  gAre : mg "are_groups" = some (.ref fAre)
  gNeedT : mg "need_told" = some (.ref fNeedT)
  gWays : mg "ways_of" = some (.ref fWays)
  gCountP : mg "count_partings" = some (.ref fCountP)
  gFrac : mg "fraction" = some (.ref fFrac)
  gCert : mg "certain_groups" = some (.ref fCert)
  gLies : mg "lies_within" = some (.ref fLies)
  gFirst : mg "first_crossing" = some (.ref fFirst)
  gFam : mg "need_family" = some (.ref fFam)
  gCros : mg "crossing" = some (.ref fCros)
  gUnits : mg "units_in" = some (.ref fUnits)
  gAllU : mg "all_units" = some (.ref fAllU)
  gGo : mg "count_going_on" = some (.ref fGo)
  gWith : mg "count_with" = some (.ref fWith)
  gShare : mg "share_with" = some (.ref fShare)
  gUof : mg "units_of" = some (.ref fUof)
  gGsh : mg "group_share" = some (.ref fGsh)
  gNth : mg "nth_with" = some (.ref fNth)
  gIdx : mg "index_with" = some (.ref fIdx)
  bNeedP : Binds K dNeedP ["persons"] []
  bAre : Binds K dAre ["thing", "persons"] []
  bNeedT : Binds K dNeedT ["persons", "told"] []
  bWays : Binds K dWays ["many"] []
  bCountP : Binds K dCountP ["persons"] []
  bFrac : Binds K dFrac ["top", "bottom"] []
  bCert : Binds K dCert ["persons", "told"] []
  bLies : Binds K dLies ["one", "other"] []
  bFirst : Binds K dFirst ["groups"] []
  bFam : Binds K dFam ["groups"] []
  bCros : Binds K dCros ["persons", "told"] []
  bUnits : Binds K dUnits ["told", "group"] []
  bAllU : Binds K dAllU ["persons", "told"] []
  bGo : Binds K dGo ["unit_lists", "come"] []
  bWith : Binds K dWith ["persons", "told"] []
  bShare : Binds K dShare ["persons", "told"] []
  bUof : Binds K dUof ["persons", "told", "group"] []
  bGsh : Binds K dGsh ["persons", "told", "group"] []
  bNth : Binds K dNth ["persons", "told", "index"] []
  bIdx : Binds K dIdx ["parting", "told"] []
  gGcd : mg "gcd" = some (.builtin "math.gcd")
/-- told groups of n persons -/
structure Told (n : Int) (rs : List (List Int)) : Prop where
  pos : 1 ≤ n
  le : n ≤ 20
  few : rs.length < 20
  grp : ∀ r ∈ rs, group n r = true
  len : ∀ r ∈ rs, r.length ≤ 20
  nd : rs.Nodup
theorem Told.ne {n : Int} {rs : List (List Int)} (t : Told n rs) {r : List Int} (h : r ∈ rs) : r ≠ [] := fun z => by
  have g := t.grp r h
  rw [z] at g
  unfold group at g
  rw [Bool.and_eq_true] at g
  exact absurd g.2 (by decide)
theorem Told.in {n : Int} {rs : List (List Int)} (t : Told n rs) {r : List Int} (h : r ∈ rs) : ∀ x ∈ r, 0 ≤ x ∧ x ≤ 1000 := rows_in (t.grp r h) (by have := t.le; omega)
theorem Told.sz {n : Int} {rs : List (List Int)} (t : Told n rs) : Sz rs := ⟨by have := t.few; omega, fun r h => by have := t.len r h; omega⟩
def spNeedP : Sp := fun vs H Q _ => ∃ n : Int, vs = [.int n] ∧ 1 ≤ n ∧ n ≤ 20 ∧ Q .non H
def spAre (K : PySem.W.Frag) : Sp := fun vs H Q _ => ∃ (a : Addr) (n : Int) (bs : List (Addr × List Int)), vs = [.ref a, .int n] ∧ Rw K H a bs ∧ Told n (bs.map (·.2)) ∧ ∀ H', Grows H H' → Q (.bl true) H'
def spNeedT (K : PySem.W.Frag) : Sp := fun vs H Q _ => ∃ (a : Addr) (n : Int) (bs : List (Addr × List Int)), vs = [.int n, .ref a] ∧ Rw K H a bs ∧ Told n (bs.map (·.2)) ∧ ∀ H', Grows H H' → Q .non H'
def spWays : Sp := fun vs H Q _ => ∃ m : Nat, vs = [.int m] ∧ m ≤ 40 ∧ ∀ v : Int, 1 ≤ v → v.natAbs < 2 ^ 320 → (m ≤ 2 → v = 1) → Q (.int v) H
def spCountP : Sp := fun vs H Q _ => ∃ n : Int, vs = [.int n] ∧ 1 ≤ n ∧ n ≤ 20 ∧ ∀ v : Int, 1 ≤ v → v.natAbs < 2 ^ 320 → Q (.int v) H
def spFrac : Sp := fun vs H Q _ => ∃ x y : Int, vs = [.int x, .int y] ∧ 0 ≤ x ∧ x.natAbs < 2 ^ 8000 ∧ 1 ≤ y ∧ y.natAbs < 2 ^ 320 ∧ ∀ (u v : Int) (t : Addr) (H' : Hp), (x = 0 → u = 0 ∧ v = 1) → (x ≠ 0 → u ≠ 0) → Grows H H' → H t = none → H' t = some (.tup [.int u, .int v]) → Q (.ref t) H'
section
variable {P : Program} {w : World} {K : PySem.W.Frag} {mg : Str → Option Value} {base : Heap}
theorem scNeedP : FnScope ["persons"] ["persons"] (defScope sNeedP) := ⟨rfl, rfl, rfl, by decide +kernel, rfl, by decide +kernel, by decide +kernel⟩
theorem scAre : FnScope ["thing", "persons", "group"] ["thing", "persons"] (defScope sAre) := ⟨rfl, rfl, rfl, by decide +kernel, rfl, by decide +kernel, by decide +kernel⟩
theorem scNeedT : FnScope ["persons", "told"] ["persons", "told"] (defScope sNeedT) := ⟨rfl, rfl, rfl, by decide +kernel, rfl, by decide +kernel, by decide +kernel⟩
theorem scWays : FnScope ["many", "ways", "odd"] ["many"] (defScope sWays) := ⟨rfl, rfl, rfl, by decide +kernel, rfl, by decide +kernel, by decide +kernel⟩
theorem scCountP : FnScope ["persons"] ["persons"] (defScope sCountP) := ⟨rfl, rfl, rfl, by decide +kernel, rfl, by decide +kernel, by decide +kernel⟩
theorem scFrac : FnScope ["top", "bottom", "divisor"] ["top", "bottom"] (defScope sFrac) := ⟨rfl, rfl, rfl, by decide +kernel, rfl, by decide +kernel, by decide +kernel⟩
theorem scCert : FnScope ["persons", "told", "group"] ["persons", "told"] (defScope sCert) := ⟨rfl, rfl, rfl, by decide +kernel, rfl, by decide +kernel, by decide +kernel⟩
theorem scLies : FnScope ["one", "other"] ["one", "other"] (defScope sLies) := ⟨rfl, rfl, rfl, by decide +kernel, rfl, by decide +kernel, by decide +kernel⟩
theorem ok_needP (Z : ProgF K mg) (T : TxtP mg) (Y : TolF K mg) : FnOk P w K mg base CX0 2 Y.fNeedP Y.dNeedP ["persons"] spNeedP := by
  have GNum : FnOk P w K mg base CX0 1 Z.fNum Z.dNum ["thing"] (spNumber K) := ok_number Z.FNum T
  refine Y.FNeedP.ok scNeedP (fun vs H Q E h => ?_) (fun cdv A outer s H vs Q E hr h => ?_)
  · obtain ⟨n, rfl, _⟩ := h
    rfl
  · obtain ⟨n, rfl, h1, h2, k⟩ := h
    refine ⟨_, (pss_one (ps_if (PW.pt (pw_or (pt_not (pt_val (pe_call GNum (hr.mono (by decide)) rfl Z.gNum Z.FNum.kp Z.bNum .nil pass0 (pa_cons (pv 0) pa_nil)))) (pw_or1 (pt_not (pt_chain op_le op_le pe_int (pv 0) (pe_glob (v := .int 20) rfl Z.gMost ⟨_, rfl⟩)))))) (pss_one ps_never) pss_nil)), ?_⟩
    refine ⟨_, rfl, _, "int", rfl, .base (.int n), by decide, true, rfl, iteF ⟨_, rfl, _, _, rfl, rfl, _, rfl, ?_⟩⟩
    rw [if_pos (decide_eq_true h1)]
    refine ⟨_, _, rfl, rfl, _, rfl, ?_⟩
    rw [decide_eq_true h2]
    exact iteF k
theorem ok_are (Z : ProgF K mg) (T : TxtP mg) (Y : TolF K mg) : FnOk P w K mg base CX0 5 Y.fAre Y.dAre ["thing", "persons"] (spAre K) := by
  have GGr : FnOk P w K mg base CX0 4 Z.fGr Z.dGr ["thing", "persons"] (spPL K group) := ok_group Z T
  refine Y.FAre.ok scAre (fun vs H Q E h => ?_) (fun cdv A outer s H vs Q E hr h => ?_)
  · obtain ⟨a, n, bs, rfl, _⟩ := h
    rfl
  · obtain ⟨a, n, bs, rfl, hB, t, k⟩ := h
    refine ⟨_, (pss_cons (ps_if (PW.pt (pw_or (pt_not (pt_val (pe_callB call_isi (by rfl) T.isi (by decide +kernel) (pa_cons (pv 0) (pa_cons (pe_bltn (v := .ty "list") (u := .type "list") (by rfl) T.list (by decide +kernel) rfl) pa_nil))))) (pw_or1 (pt_cmpR op_ge (pe_callB call_len_seq (by rfl) T.len (by decide +kernel) (pa_cons (pv 0) pa_nil)) (pe_glob (v := .int 20) rfl Z.gMost ⟨_, rfl⟩) (nomark _))))) (pss_one (ps_ret pe_bl)) pss_nil)
      (pss_cons (ps_if (pt_not (pt_val (pe_callB (cr_all rfl) (by rfl) T.all (by decide +kernel) (pa_cons (pe_lc (own := [("group", 2)]) (g := gName 2) (tt := tYes) rfl scAre.nd (pi_list (pv 0)) (blkOk_by (own := [("group", 2)]) (N := ["thing", "persons", "group"]) (sc := defScope sAre) (by decide +kernel)) (fun _ _ _ _ _ => pg_name (i := 2) scAre.nd rfl (Or.inl rfl)) (fun _ _ _ _ _ => pts_nil) (fun _ _ _ _ _ => (pe_call GGr (hr.mono (by decide)) rfl Z.gGr Z.FGr.kp Z.bGr .nil pass0 (pa_cons (pv 2) (pa_cons (pv 1) pa_nil))))) pa_nil)))) (pss_one (ps_ret pe_bl)) pss_nil)
      (pss_one (ps_ret (pe_cmpR op_eq (pe_callB (id := "len") (by exact SetT.call_lenT) (by rfl) T.len (by decide +kernel) (pa_cons (SetT.pe_scT (own := [("group", 2)]) (g := gName 2) (tt := tYes) (by exact hr.units) rfl scAre.nd (pi_list (pv 0)) (blkOk_by (own := [("group", 2)]) (N := ["thing", "persons", "group"]) (sc := defScope sAre) (by decide +kernel)) (fun _ _ _ _ _ => pg_name (i := 2) scAre.nd rfl (Or.inl rfl)) (fun _ _ _ _ _ => pts_nil) (fun _ _ _ _ _ => pe_callTy (T := "tuple") (r := rTup K) (by exact call_tupK) (by rfl) T.tuple (by decide +kernel) (pa_cons (pv 2) pa_nil))) pa_nil)) (pe_callB call_len_seq (by rfl) T.len (by decide +kernel) (pa_cons (pv 0) pa_nil)) (nomark _)))))), ?_⟩
    have few := t.few
    rw [List.length_map] at few
    refine ⟨_, rfl, _, _, _, _, true, rfl, .ty "list", ty_list hB.top, kit_ty (by decide +kernel), true, rfl, iteF ⟨_, rfl, a, _, rfl, .inl hB.top, _, _, rfl, rfl, _, rfl, ?_⟩⟩
    rw [List.length_map]
    rw [decide_eq_false (by omega)]
    refine iteF ⟨_, rfl, a, rfl, ⟨_, hB.top⟩, fun D hD => lc_listM (K := K) (fun i => V.bl (group n (bs.getD i (0, [])).2)) hD hB.top (by rw [List.length_map]; omega) (fun i x H' R hx' sm kR => ?_) fun H' sm eD => ?_⟩
    · have il := (List.getElem?_eq_some_iff.mp hx').1
      rw [List.length_map] at il
      obtain rfl := at_map (d := (0, [])) hx'
      exact ⟨rfl, _, rfl, _, rfl, _, _, _, rfl, sm.seq (hB.at il), t.sz.2 _ (mem_at il), fun H2 s2 => kR _ s2⟩
    · rw [List.length_map] at eD
      have all : ((List.range bs.length).all fun i => group n (bs.getD i (0, [])).2) = true := List.all_eq_true.mpr fun i hi => t.grp _ (mem_at (List.mem_range.mp hi))
      refine ⟨D, (List.range bs.length).map fun i => group n (bs.getD i (0, [])).2, rfl, SqL.of (by rw [eD, List.map_map]; rfl), ?_⟩
      rw [all_rng, all]
      refine ⟨_, rfl, iteF ⟨_, rfl, a, rfl, ⟨_, sm.seq hB.top⟩, fun D2 hD2 => SetT.sc_listU (K := K) (fun i => (bs.getD i (0, [])).2) (fun i j ij jl => ?_) (by rw [List.length_map]; omega) hD2 (sm.seq hB.top) (fun i x H2 R hx' s2 kR => ?_) fun H2 L s2 eL len => ?_⟩⟩
      · rw [List.length_map] at jl
        rw [← snd_at, ← snd_at]
        intro z
        have nd := List.pairwise_iff_getElem.mp t.nd i j (by rw [List.length_map]; omega) (by rw [List.length_map]; omega) ij
        rw [List.getD_eq_getElem?_getD, List.getD_eq_getElem?_getD, List.getElem?_eq_getElem (by rw [List.length_map]; omega), List.getElem?_eq_getElem (by rw [List.length_map]; omega)] at z
        exact nd z
      · have il := (List.getElem?_eq_some_iff.mp hx').1
        rw [List.length_map] at il
        obtain rfl := at_map (d := (0, [])) hx'
        exact ⟨rfl, _, rfl, _, _, rfl, (sm.trans s2).seq (hB.at il), fun t2 ht2 => kR t2 _ (Grows.new ht2) upd_same⟩
      · rw [List.length_map] at len
        refine ⟨D2, L, rfl, eL, _, rfl, a, _, rfl, .inl ((sm.trans s2).seq hB.top), rfl, ?_⟩
        rw [List.length_map, len]
        have q := k H2 (sm.trans s2)
        rw [decide_eq_true rfl]
        exact q
theorem ok_needT (Z : ProgF K mg) (T : TxtP mg) (Y : TolF K mg) : FnOk P w K mg base CX0 6 Y.fNeedT Y.dNeedT ["persons", "told"] (spNeedT K) := by
  have GNeedP : FnOk P w K mg base CX0 2 Y.fNeedP Y.dNeedP ["persons"] spNeedP := ok_needP Z T Y
  have GAre : FnOk P w K mg base CX0 5 Y.fAre Y.dAre ["thing", "persons"] (spAre K) := ok_are Z T Y
  refine Y.FNeedT.ok scNeedT (fun vs H Q E h => ?_) (fun cdv A outer s H vs Q E hr h => ?_)
  · obtain ⟨a, n, bs, rfl, _⟩ := h
    rfl
  · obtain ⟨a, n, bs, rfl, hB, t, k⟩ := h
    refine ⟨_, (pss_cons (ps_expr (pe_call GNeedP (hr.mono (by decide)) rfl Y.gNeedP Y.FNeedP.kp Y.bNeedP .nil pass0 (pa_cons (pv 0) pa_nil)))
      (pss_one (ps_if (pt_not (pt_val (pe_call GAre (hr.mono (by decide)) rfl Y.gAre Y.FAre.kp Y.bAre .nil pass0 (pa_cons (pv 1) (pa_cons (pv 0) pa_nil))))) (pss_one ps_never) pss_nil))), ?_⟩
    exact ⟨_, rfl, n, rfl, t.pos, t.le, _, rfl, _, rfl, a, n, bs, rfl, hB, t, fun H' s => ⟨_, rfl, iteF (k H' s)⟩⟩
def rgN (m : Nat) : Nat := (Builtin.Range.rangeSize 3 (2 * (m : Int) - 2) 2).toNat
theorem ways_rg : ∀ m : Nat, m ≤ 40 → RgC 3 (2 * (m : Int) - 2) 2 (rgN m) ∧ rgN m ≤ 39 ∧ (m ≤ 2 → rgN m = 0) := fun m hm => by
  have all : ∀ i : Fin 41, (Builtin.Range.small 3 (2 * ((i.val : Nat) : Int) - 2) 2 && decide (rgN i.val ≤ 39) && (!decide (i.val ≤ 2) || decide (rgN i.val = 0)) && decide (0 ≤ Builtin.Range.rangeSize 3 (2 * ((i.val : Nat) : Int) - 2) 2)) = true := by decide +kernel
  have q := all ⟨m, by omega⟩
  simp only [Bool.and_eq_true, Bool.or_eq_true, Bool.not_eq_true', decide_eq_false_iff_not, decide_eq_true_eq] at q
  exact ⟨⟨by decide, by decide, q.1.1.1, (Int.toNat_of_nonneg q.2).symm⟩, q.1.1.2, fun h => q.1.2.elim (fun z => absurd h z) id⟩
theorem ok_ways (T : TxtP mg) (Y : TolF K mg) : FnOk P w K mg base CX0 1 Y.fWays Y.dWays ["many"] spWays := by
  refine Y.FWays.ok scWays (fun vs H Q E h => ?_) (fun cdv A outer s H vs Q E hr h => ?_)
  · obtain ⟨m, rfl, _⟩ := h
    rfl
  · obtain ⟨m, rfl, hm, k⟩ := h
    refine ⟨_, (pss_cons (ps_set (i := 1) scWays.nd rfl (.inl rfl) pe_int)
      (pss_cons (ps_for PassesOwn.never rfl (pi_range3 rfl T.range (pa_cons pe_int (pa_cons (pe_op op_sub (pe_op op_mul pe_int (pv 0)) pe_int) (pa_cons pe_int pa_nil)))) (pg_name (i := 2) scWays.nd rfl (.inl rfl))
      (pss_one (ps_set (i := 1) scWays.nd rfl (.inl rfl) (pe_op op_mul (pv 1) (pv 2)))))
      (pss_one (ps_ret (pv 1))))), ?_⟩
    obtain ⟨r1, r2, r3⟩ := ways_rg m hm
    refine ⟨_, rfl, _, _, rfl, rfl, .inl ⟨by decide, by decide⟩, _, _, rfl, rfl, _, _, _, _, rfl, r1, for_rangeC (lo := 3) (c := 2) (n := rgN m) (fun i σ H' => ∃ (v : Int) (o : Option V), σ = [some (.int m), some (.int v), o] ∧ 1 ≤ v ∧ v.natAbs < 2 ^ (8 * i + 1) ∧ (i = 0 → v = 1) ∧ H' = H)
      ⟨1, none, rfl, by decide, by decide, (fun _ => rfl), rfl⟩ (fun i σ H' hi ⟨v, o, e, v1, v2, v3, eH⟩ => ?_) fun σ H' ⟨v, o, e, v1, v2, v3, eH⟩ => ?_⟩
    · subst e eH
      refine ⟨_, rfl, _, rfl, _, _, rfl, rfl, .inr ⟨by omega, by omega⟩, ?_⟩
      have b1 : (3 + (i : Nat) * 2 : Int).natAbs < 2 ^ 8 := by
        have : i < 40 := by omega
        show _ < 256
        omega
      refine ⟨_, _, rfl, ?_, ?_, fun z => absurd z (Nat.succ_ne_zero i), rfl⟩
      · have : (1 : Int) * 1 ≤ v * (3 + (i : Nat) * 2) := Int.mul_le_mul v1 (by omega) (by decide) (by omega)
        omega
      · rw [Int.natAbs_mul, show 8 * (i + 1) + 1 = (8 * i + 1) + 8 by omega, Nat.pow_add]
        exact Nat.mul_lt_mul'' v2 b1
    · subst e eH
      refine ⟨_, rfl, k v v1 (Nat.lt_of_lt_of_le v2 (Nat.pow_le_pow_right (by decide) (by omega))) fun h => v3 (r3 h)⟩
theorem ok_countP (Z : ProgF K mg) (T : TxtP mg) (Y : TolF K mg) : FnOk P w K mg base CX0 3 Y.fCountP Y.dCountP ["persons"] spCountP := by
  have GNeedP : FnOk P w K mg base CX0 2 Y.fNeedP Y.dNeedP ["persons"] spNeedP := ok_needP Z T Y
  have GWays : FnOk P w K mg base CX0 1 Y.fWays Y.dWays ["many"] spWays := ok_ways T Y
  refine Y.FCountP.ok scCountP (fun vs H Q E h => ?_) (fun cdv A outer s H vs Q E hr h => ?_)
  · obtain ⟨n, rfl, _⟩ := h
    rfl
  · obtain ⟨n, rfl, h1, h2, k⟩ := h
    refine ⟨_, (pss_cons (ps_expr (pe_call GNeedP (hr.mono (by decide)) rfl Y.gNeedP Y.FNeedP.kp Y.bNeedP .nil pass0 (pa_cons (pv 0) pa_nil)))
      (pss_one (ps_ret (pe_call GWays (hr.mono (by decide)) rfl Y.gWays Y.FWays.kp Y.bWays .nil pass0 (pa_cons (pv 0) pa_nil))))), ?_⟩
    refine ⟨_, rfl, n, rfl, h1, h2, _, rfl, n.toNat, ?_, by omega, fun v v1 v2 _ => k v v1 v2⟩
    show [V.int n] = [V.int ((n.toNat : Nat) : Int)]
    rw [Int.toNat_of_nonneg (by omega)]
theorem ok_frac (Y : TolF K mg) : FnOk P w K mg base CX0 1 Y.fFrac Y.dFrac ["top", "bottom"] spFrac := by
  refine Y.FFrac.ok scFrac (fun vs H Q E h => ?_) (fun cdv A outer s H vs Q E hr h => ?_)
  · obtain ⟨x, y, rfl, _⟩ := h
    rfl
  · obtain ⟨x, y, rfl, x0, xb, y1, yb, k⟩ := h
    refine ⟨_, (pss_cons (ps_set (i := 2) scFrac.nd rfl (.inl rfl) (pe_callBfun (id := "math.gcd") cr_gcd rfl Y.gGcd (pa_cons (pv 0) (pa_cons (pv 1) pa_nil))))
      (pss_one (ps_ret (pe_tup (pa_cons (pe_op op_fdivW (pv 0) (pv 2)) (pa_cons (pe_op op_fdivW (pv 1) (pv 2)) pa_nil)))))), ?_⟩
    have gpos : 0 < Nat.gcd x.natAbs y.natAbs := Nat.gcd_pos_of_pos_right _ (by omega)
    have gle : Nat.gcd x.natAbs y.natAbs ≤ y.natAbs := Nat.gcd_le_right _ (by omega)
    have gi : (0 : Int) < ((Nat.gcd x.natAbs y.natAbs : Nat) : Int) := by omega
    have gb : (((Nat.gcd x.natAbs y.natAbs : Nat) : Int)).natAbs < 2 ^ 320 := Nat.lt_of_le_of_lt gle yb
    refine ⟨_, rfl, _, rfl, _, _, rfl, _, rfl, _, rfl, _, _, rfl, rfl, wide_div gi gb (by decide) (by decide), _, rfl, _, rfl, _, _, rfl, rfl, wide_div gi gb (by decide) (by decide), (by show 2 ≤ sizeLine; decide), fun t ht => k _ _ t _ (fun z => ?_) (fun z => ?_) (Grows.new ht) ht upd_same⟩
    · subst z
      refine ⟨Int.zero_ediv _, ?_⟩
      rw [show (0 : Int).natAbs = 0 from rfl, Nat.gcd_zero_left, Int.natAbs_of_nonneg (by omega)]
      exact Int.ediv_self (by omega)
    · have le : Nat.gcd x.natAbs y.natAbs ≤ x.natAbs := Nat.gcd_le_left _ (by omega)
      have : (((Nat.gcd x.natAbs y.natAbs : Nat) : Int)) ≤ x := by omega
      have := (Int.le_ediv_iff_mul_le gi (a := 1) (b := x)).mpr (by omega)
      omega
end
end K11

namespace K11
open PySem PySem.Spec PyProof.Rows L2 SortR LcM
/-- some persons, at least one, at most twenty -/
structure Grp (ns : List Int) : Prop where
  ne : ns ≠ []
  len : ns.length ≤ 20
  pos : ∀ x ∈ ns, 0 ≤ x
theorem Told.one {n : Int} {rs : List (List Int)} (t : Told n rs) {r : List Int} (h : r ∈ rs) : Grp r := ⟨t.ne h, t.len r h, fun x hx => (t.in h x hx).1⟩
def liesB (ns ms : List Int) : Bool := decide ((ns.length : Int) < (ms.length : Int)) && decide (ns.getD 0 0 ∈ ms)
def rng (n : Int) : List Int := (List.range n.toNat).map fun i => (0 + (i : Nat) : Int)
theorem rng_one {n : Int} (h1 : 1 ≤ n) (h2 : n ≤ 20) : Grp (rng n) := by
  refine ⟨fun z => ?_, ?_, fun x hx => (rg_in _ x hx).1⟩
  · have := congrArg List.length z
    unfold rng at this
    rw [List.length_map, List.length_range] at this
    have : n.toNat = 0 := this
    omega
  · unfold rng
    rw [List.length_map, List.length_range]
    omega
theorem at_zero {ns : List Int} (h : ns ≠ []) : atI (ns.map V.int) 0 = some (.int (ns.getD 0 0)) := by
  cases ns with
  | nil => exact absurd rfl h
  | cons x xs =>
    have q := atI_nat (xs := (x :: xs).map V.int) (j := 0) (v := V.int x) rfl
    exact q
theorem Rw.mem {K : PySem.W.Frag} {H : Hp} {a : Addr} {bs : List (Addr × List Int)} (r : Rw K H a bs) {i : Nat} (hi : i < bs.length) : bs.getD i (0, []) ∈ bs := by
  rw [List.getD_eq_getElem?_getD, List.getElem?_eq_getElem hi]
  exact List.getElem_mem hi
theorem filtA {α : Type} (d : α) (p : α → Bool) (cs : List α) : ((List.range cs.length).filter fun i => p (cs.getD i d)).map (fun i => cs.getD i d) = cs.filter p := by
  have e : (fun i => p (cs.getD i d)) = p ∘ (fun i => cs.getD i d) := rfl
  rw [e, ← List.filter_map]
  congr 1
  refine List.ext_getElem (by rw [List.length_map, List.length_range]) fun i h1 h2 => ?_
  rw [List.getElem_map, List.getElem_range, List.getD_eq_getElem?_getD, List.getElem?_eq_getElem h2]
  rfl
theorem kept_rows (p : List Int → Bool) (bs : List (Addr × List Int)) : kept (fun i => p (bs.getD i (0, [])).2) (fun i => V.ref (bs.getD i (0, [])).1) bs.length = (bs.filter fun b => p b.2).map fun b => V.ref b.1 := by
  rw [← filtA (0, []) (fun b => p b.2) bs, List.map_map]
  rfl
def spLies (K : PySem.W.Frag) : Sp := fun vs H Q _ => ∃ (a b : Addr) (ns ms : List Int), vs = [.ref a, .ref b] ∧ SqL K H a (ns.map V.int) ∧ SqL K H b (ms.map V.int) ∧ ns ≠ [] ∧ Q (.bl (liesB ns ms)) H
def spCert (K : PySem.W.Frag) : Sp := fun vs H Q _ => ∃ (a : Addr) (n : Int) (bs : List (Addr × List Int)), vs = [.int n, .ref a] ∧ Rw K H a bs ∧ Told n (bs.map (·.2)) ∧
  ∀ (p : Addr) (cs : List (Addr × List Int)) (H' : Hp), Grows H H' → Rw K H' p cs → cs.length ≤ 20 → (∀ c ∈ cs, Grp c.2) → (∃ c ds, cs = c :: ds ∧ c.2 = rng n) → Q (.ref p) H'
section
variable {P : Program} {w : World} {K : PySem.W.Frag} {mg : Str → Option Value} {base : Heap}
theorem ok_lies (T : TxtP mg) (Y : TolF K mg) : FnOk P w K mg base CX0 1 Y.fLies Y.dLies ["one", "other"] (spLies K) := by
  refine Y.FLies.ok scLies (fun vs H Q E h => ?_) (fun cdv A outer s H vs Q E hr h => ?_)
  · obtain ⟨a, b, ns, ms, rfl, _⟩ := h
    rfl
  · obtain ⟨a, b, ns, ms, rfl, hA, hB, ne, k⟩ := h
    refine ⟨_, (pss_one (ps_ret (pe_and (pe_cmpR op_lt (pe_callB call_len_seq (by rfl) T.len (by decide +kernel) (pa_cons (pv 0) pa_nil)) (pe_callB call_len_seq (by rfl) T.len (by decide +kernel) (pa_cons (pv 1) pa_nil)) (nomark _)) (pe_one (pe_cmpR (r := rIn K false) (by exact op_in_seq) (pe_ix (r := rIxL K) ix_list (pv 0) pe_int (fun _ _ => rfl)) (pv 1) (by rfl)))))), ?_⟩
    refine ⟨_, rfl, a, _, rfl, .inl hA, _, rfl, b, _, rfl, .inl hB, _, _, rfl, rfl, _, rfl, ?_⟩
    rw [List.length_map, List.length_map]
    unfold liesB at k
    by_cases l : (ns.length : Int) < (ms.length : Int)
    · rw [if_pos (decide_eq_true l)]
      rw [decide_eq_true l, Bool.true_and] at k
      refine ⟨_, rfl, a, _, 0, _, rfl, rfl, hA, at_zero ne, _, rfl, b, _, rfl, .inl hB, rfl, flat_ints ms, ?_⟩
      show Q (.bl (inV (.int (ns.getD 0 0)) (ms.map V.int))) H
      rw [inV_ints]
      exact k
    · rw [if_neg (by rw [decide_eq_false l]; exact Bool.false_ne_true)]
      rw [decide_eq_false l, Bool.false_and] at k
      exact k
theorem ok_cert (T : TxtP mg) (Y : TolF K mg) : FnOk P w K mg base CX0 1 Y.fCert Y.dCert ["persons", "told"] (spCert K) := by
  refine Y.FCert.ok scCert (fun vs H Q E h => ?_) (fun cdv A outer s H vs Q E hr h => ?_)
  · obtain ⟨a, n, bs, rfl, _⟩ := h
    rfl
  · obtain ⟨a, n, bs, rfl, hB, t, k⟩ := h
    refine ⟨_, (pss_one (ps_ret (pe_op op_cat (pe_lst (pa_cons (pe_listRg rfl (by rfl) T.list (prg_1 (by rfl) T.range (pv 0))) pa_nil)) (pe_lc (own := [("group", 2)]) (g := gName 2)  rfl scCert.nd (pi_list (pv 1)) (blkOk_by (own := [("group", 2)]) (N := ["persons", "told", "group"]) (sc := defScope sCert) (by decide +kernel)) (fun _ _ _ _ _ => pg_name (i := 2) scCert.nd rfl (Or.inl rfl)) (fun _ _ _ _ _ => (pts_one (pt_cmpR op_lt (pe_callB (id := "len") (r := rLenS K) (by exact call_lenK) (by rfl) T.len (by decide +kernel) (pa_cons (pv 2) pa_nil)) (pv 0) (nomark _)))) (fun _ _ _ _ _ => (pv 2)))))), ?_⟩
    have few := t.few
    rw [List.length_map] at few
    have n1 := t.pos
    have n2 := t.le
    refine ⟨_, rfl, n, rfl, ⟨by decide, by decide, by omega, by omega⟩, fun r0 hr0 => ⟨(by show 1 ≤ sizeLine; decide), fun l hl => ⟨_, rfl, a, rfl, ⟨_, (((Grows.new hr0).trans (Grows.new hl)).seq hB.top)⟩, fun D hD => lc_listT (K := K) (fun i => decide (((bs.getD i (0, [])).2.length : Int) < n)) (fun i => V.ref (bs.getD i (0, [])).1) hD (((Grows.new hr0).trans (Grows.new hl)).seq hB.top) (by rw [List.length_map]; omega) (fun i x H' R Rn hx' sm kY kN => ?_) fun H' sm eD => ?_⟩⟩⟩
    · have il := (List.getElem?_eq_some_iff.mp hx').1
      rw [List.length_map] at il
      obtain rfl := at_map (d := (0, [])) hx'
      refine ⟨rfl, _, rfl, _, _, rfl, .inl ((((Grows.new hr0).trans (Grows.new hl)).trans sm).seq (hB.at il)), _, rfl, _, _, rfl, rfl, _, rfl, ?_⟩
      rw [List.length_map]
      refine ite2 (fun e => ⟨_, rfl, kY e _ .refl⟩) (fun e => kN (Bool.eq_false_iff.mpr e) _ .refl)
    · rw [List.length_map, kept_rows (fun r => decide ((r.length : Int) < n)) bs] at eD
      refine ⟨l, D, _, _, rfl, rfl, sm _ _ upd_same, eD, ?_, fun p hp => ?_⟩
      · have le : (bs.filter fun b => decide ((b.2.length : Int) < n)).length ≤ bs.length := List.length_filter_le _ _
        rw [List.length_map]
        have : (1000 : Nat) ≤ sizeLine := by decide
        show 1 + _ ≤ sizeLine
        omega
      · have g1 := ((Grows.new (o := .lst (rgV 0 n)) hr0).trans (Grows.new (o := .lst [V.ref r0]) hl)).trans sm
        have r0at : H' r0 = some (.lst (rgV 0 n)) := sm _ _ (Grows.new hl _ _ upd_same)
        have each : ∀ c ∈ (r0, rng n) :: bs.filter (fun b => decide ((b.2.length : Int) < n)), SqL K (upd H' p (.lst ([V.ref r0] ++ (bs.filter fun b => decide ((b.2.length : Int) < n)).map fun b => V.ref b.1))) c.1 (c.2.map V.int) := fun c hc => by
          rcases List.mem_cons.mp hc with z | z
          · rw [z]
            refine SqL.of (Grows.new hp _ _ ?_)
            rw [r0at, rg_ints]
            rfl
          · exact (g1.trans (Grows.new hp)).seq (hB.each c (List.mem_filter.mp z).1)
        refine k p ((r0, rng n) :: bs.filter (fun b => decide ((b.2.length : Int) < n))) _ (g1.trans (Grows.new hp)) ⟨SqL.of upd_same, each⟩ ?_ (fun c hc => ?_) ⟨_, _, rfl, rfl⟩
        · have le : (bs.filter fun b => decide ((b.2.length : Int) < n)).length ≤ bs.length := List.length_filter_le _ _
          rw [List.length_cons]
          omega
        · rcases List.mem_cons.mp hc with z | z
          · rw [z]
            exact rng_one n1 n2
          · exact t.one (List.mem_map.mpr ⟨c, (List.mem_filter.mp z).1, rfl⟩)
def spUnits (K : PySem.W.Frag) : Sp := fun vs H Q _ => ∃ (a b : Addr) (bs : List (Addr × List Int)) (gs : List Int), vs = [.ref a, .ref b] ∧ Rw K H a bs ∧ bs.length ≤ 20 ∧ (∀ c ∈ bs, Grp c.2) ∧ SqL K H b (gs.map V.int) ∧ Grp gs ∧
  ∀ (p : Addr) (cs : List (Addr × List Int)) (H' : Hp), Grows H H' → H p = none → H' p = some (.lst (cs.map fun c => V.ref c.1)) → (∀ c ∈ cs, H' c.1 = some (.lst (c.2.map V.int)) ∧ Grp c.2) → cs.length ≤ 40 → Q (.ref p) H'
theorem scUnits : FnScope ["told", "group", "inner", "other", "greatest", "one", "held", "unit", "person"] ["told", "group"] (defScope sUnits) := ⟨rfl, rfl, rfl, by decide +kernel, rfl, by decide +kernel, by decide +kernel⟩
theorem ok_units (T : TxtP mg) (Y : TolF K mg) : FnOk P w K mg base CX0 2 Y.fUnits Y.dUnits ["told", "group"] (spUnits K) := by
  have GLies : FnOk P w K mg base CX0 1 Y.fLies Y.dLies ["one", "other"] (spLies K) := ok_lies T Y
  refine Y.FUnits.ok scUnits (fun vs H Q E h => ?_) (fun cdv A outer s H vs Q E hr h => ?_)
  · obtain ⟨a, b, bs, gs, rfl, _⟩ := h
    rfl
  · obtain ⟨a, b, bs, gs, rfl, hB, few, grp, hG, gg, k⟩ := h
    have hu := hu_of hr
    refine ⟨_, (pss_cons (ps_set (i := 2) scUnits.nd rfl (.inr rfl) (pe_lc (own := [("other", 3)]) (g := gName 3) rfl scUnits.nd (pi_list (pv 0)) (blkOk_by (own := [("other", 3)]) (N := ["told", "group", "inner", "other", "greatest", "one", "held", "unit", "person"]) (sc := defScope sUnits) (by decide +kernel)) (fun _ _ _ _ _ => pg_name (i := 3) scUnits.nd rfl (Or.inl rfl)) (fun _ _ _ _ _ => pts_one (pt_val (pe_call GLies (hr.mono (by decide)) rfl Y.gLies Y.FLies.kp Y.bLies .nil pass0 (pa_cons (pv 3) (pa_cons (pv 1) pa_nil))))) (fun _ _ _ _ _ => pv 3)))
      (pss_cons (ps_setLc (i := 4) (own := [("one", 5)]) (g := gName 5) rfl scUnits.nd rfl rfl (sw_true rfl rfl rfl (by decide +kernel)) (pi_list (pv 2)) (blkOk_by (own := [("one", 5)]) (N := ["told", "group", "inner", "other", "greatest", "one", "held", "unit", "person"]) (sc := defScope sUnits) (by decide +kernel)) (fun _ _ _ _ _ => pg_name (i := 5) scUnits.nd rfl (Or.inr rfl)) (fun _ _ _ _ _ => pts_one (pt_not (pt_val (pe_callB (id := "any") (r := rAny K) (by exact cr_any rfl) (by rfl) T.any (by decide +kernel) (pa_cons (pe_lc (wi := iList K (tVar 2)) (own := [("other", 3)]) (g := gName 3) (tt := tYes) rfl scUnits.nd (pi_list (pv 2)) (blkOk_by (own := [("other", 3)]) (N := ["told", "group", "inner", "other", "greatest", "one", "held", "unit", "person"]) (sc := { kind := .function, names := [(".0", .local), ("one", .cell), ("any", .globalImplicit), ("list", .globalImplicit), ("inner", .cell)], isGenerator := false, isCoroutine := false }) (by decide +kernel)) (fun _ _ _ _ _ => pg_name (i := 3) scUnits.nd rfl (Or.inl rfl)) (fun _ _ _ _ _ => pts_nil) (fun _ _ _ _ _ => (pe_call GLies (hr.mono (by decide)) rfl Y.gLies Y.FLies.kp Y.bLies .nil pass0 (pa_cons (pv 5) (pa_cons (pv 3) pa_nil))))) pa_nil))))) (fun _ _ _ _ _ => pe_callTy (T := "list") (r := rLst K) (by exact call_lstK) (by rfl) T.list (by decide +kernel) (pa_cons (pv 5) pa_nil)))
      (pss_cons (ps_set (i := 6) scUnits.nd rfl (.inr rfl) (Dc2.pe_dc2 (own := [("unit", 7), ("person", 8)]) (vs1 := [8]) (g := gName 7) (wi1 := iList K (tVar 7)) (g1 := gName 8) rfl scUnits.nd (pi_list (pv 4)) (blkOk_by (own := [("unit", 7), ("person", 8)]) (N := ["told", "group", "inner", "other", "greatest", "one", "held", "unit", "person"]) (sc := defScope sUnits) (by decide +kernel)) (by decide) (fun _ _ _ _ _ => pg_name (i := 7) scUnits.nd rfl (Or.inl rfl)) (fun _ _ _ _ _ => pi_list (pv 7)) (fun _ _ _ _ _ => pg_name (i := 8) scUnits.nd rfl (Or.inl rfl)) (fun _ _ _ _ _ => pv 8) (fun _ _ _ _ _ => pe_bl)))
      (pss_one (ps_ret (pe_callB (call_sortedR hr.units) (by rfl) T.sorted (by decide +kernel) (pa_cons (pe_op op_cat (pv 4) (pe_lc (own := [("person", 8)]) (g := gName 8) rfl scUnits.nd (pi_list (pv 1)) (blkOk_by (own := [("person", 8)]) (N := ["told", "group", "inner", "other", "greatest", "one", "held", "unit", "person"]) (sc := defScope sUnits) (by decide +kernel)) (fun _ _ _ _ _ => pg_name (i := 8) scUnits.nd rfl (Or.inl rfl)) (fun _ _ _ _ _ => pts_one (pt_cmp (pc_dnotin hu (pv 8) (pv 6)))) (fun _ _ _ _ _ => pe_lst (pa_cons (pv 8) pa_nil)))) pa_nil))))))), ?_⟩
    refine ⟨_, rfl, a, rfl, ⟨_, hB.top⟩, fun D1 hD1 => lc_listT (K := K) (fun i => liesB (bs.getD i (0, [])).2 gs) (fun i => V.ref (bs.getD i (0, [])).1) hD1 hB.top (by rw [List.length_map]; omega) (fun i x H' R Rn hx' sm kY kN => ?_) fun H1 s1 eD1 => ?_⟩
    · have il := (List.getElem?_eq_some_iff.mp hx').1
      rw [List.length_map] at il
      obtain rfl := at_map (d := (0, [])) hx'
      refine ⟨rfl, _, rfl, _, rfl, _, _, _, _, rfl, sm.seq (hB.at il), sm.seq hG, (grp _ (hB.mem il)).ne, _, rfl, ?_⟩
      refine ite2 (fun e => ⟨_, rfl, kY e _ .refl⟩) (fun e => kN (Bool.eq_false_iff.mpr e) _ .refl)
    · rw [List.length_map, kept_rows (fun r => liesB r gs) bs] at eD1
      generalize ejs : (bs.filter fun b => liesB b.2 gs) = js at eD1
      have mem : ∀ j ∈ js, j ∈ bs := fun j hj => by
        rw [← ejs] at hj
        exact (List.mem_filter.mp hj).1
      have jl : js.length ≤ 20 := by
        rw [← ejs]
        exact Nat.le_trans (List.length_filter_le _ _) few
      have jB : Rw K H1 D1 js := ⟨SqL.of eD1, fun c hc => s1.seq (hB.each c (mem c hc))⟩
      have hG1 := s1.seq hG
      have big : (1000 : Nat) ≤ sizeLine := by decide
      refine ⟨_, rfl, D1, rfl, ⟨_, jB.top⟩, fun D2 hD2 => lc_list (K := K) (a := D1) (xs := js.map fun c => V.ref c.1) (fun i H => Grows H1 H ∧ ∃ cs : List (Addr × List Int), H D2 = some (.lst (cs.map fun c => V.ref c.1)) ∧ cs.length ≤ i ∧ ∀ c ∈ cs, H c.1 = some (.lst (c.2.map V.int)) ∧ c.1 ≠ D2 ∧ Grp c.2)
        ⟨Grows.new hD2, [], upd_same, Nat.le_refl _, fun _ z => nomatch z⟩ (fun i H _ pv => pv.1.seq jB.top) (fun i x H2 hx ⟨g2, cs, e2, l2, c2⟩ => ?_) fun H2 ⟨g2, cs, e2, l2, c2⟩ => ?_⟩
      · have il := (List.getElem?_eq_some_iff.mp hx).1
        rw [List.length_map] at il
        obtain rfl := at_map (d := (0, [])) hx
        have one := grp _ (mem _ (jB.mem il))
        have one_at := jB.at il
        refine ⟨rfl, _, rfl, D1, rfl, ⟨_, g2.seq jB.top⟩, fun D3 hD3 => lc_listM (K := K) (fun j => V.bl (liesB (js.getD i (0, [])).2 (js.getD j (0, [])).2)) hD3 (g2.seq jB.top) (by rw [List.length_map]; omega) (fun j y H5 R hy sm kR => ?_) fun H5 sm eD3 => ?_⟩
        · have jl2 := (List.getElem?_eq_some_iff.mp hy).1
          rw [List.length_map] at jl2
          obtain rfl := at_map (d := (0, [])) hy
          exact ⟨rfl, _, rfl, _, rfl, _, _, _, _, rfl, (g2.trans sm).seq one_at, (g2.trans sm).seq (jB.at jl2), one.ne, kR _ .refl⟩
        · rw [List.length_map] at eD3
          refine ⟨D3, (List.range js.length).map fun j => liesB (js.getD i (0, [])).2 (js.getD j (0, [])).2, rfl, SqL.of (by rw [eD3, List.map_map]; rfl), ?_⟩
          have g5 := g2.trans sm
          refine ⟨_, rfl, ite2 (fun _ => ?_) (fun _ => ?_)⟩
          · refine ⟨_, rfl, _, _, rfl, .inl (g5.seq one_at), fun l hl => ?_⟩
            have gl : Grows H5 (upd H5 l (.lst ((js.getD i (0, [])).2.map V.int))) := Grows.new hl
            have ne : D2 ≠ l := ne_of_none (sm _ _ e2) hl
            refine ⟨_, gl _ _ (sm _ _ e2), ?_, fun c o q => ?_, cs ++ [(l, (js.getD i (0, [])).2)], ?_, ?_, fun c hc => ?_⟩
            · rw [List.length_map]
              omega
            · rw [upd_ne (ne_of_none q hD2)]
              exact gl _ _ (g5 _ _ q)
            · rw [upd_same, List.map_append]
              rfl
            · rw [List.length_append]
              exact Nat.succ_le_succ l2
            · rcases List.mem_append.mp hc with z | z
              · obtain ⟨z1, z2, z3⟩ := c2 c z
                refine ⟨?_, z2, z3⟩
                rw [upd_ne z2]
                exact gl _ _ (sm _ _ z1)
              · rw [List.mem_singleton.mp z]
                refine ⟨?_, ne.symm, one⟩
                rw [upd_ne ne.symm]
                exact upd_same
          · exact ⟨g5, cs, sm _ _ e2, Nat.le_succ_of_le l2, fun c hc => ⟨sm _ _ (c2 c hc).1, (c2 c hc).2⟩⟩
      · rw [List.length_map] at l2
        have g12 := s1.trans g2
        have at2 : SqL K H2 D2 (cs.map fun c => V.ref c.1) := SqL.of e2
        refine ⟨_, rfl, D2, rfl, ⟨_, at2⟩, fun D4 hD4 => ⟨fun i m H => m = cs.length - i ∧ i ≤ cs.length ∧ Grows H2 H ∧ ∃ kvs, H D4 = some (.dK kvs) ∧ kvs.length ≤ 20 * i, ⟨_, rfl, Nat.zero_le _, Grows.new hD4, [], upd_same, Nat.le_refl _⟩, ?_⟩⟩
        rintro i m H4 ⟨rfl, hi, g4, kvs, e4, l4⟩
        rcases Nat.lt_or_ge i cs.length with lt | ge
        · have ex : (cs.map fun c => V.ref c.1)[i]? = some (V.ref (cs.getD i (0, [])).1) := by
            rw [List.getElem?_map, List.getD_eq_getElem?_getD, List.getElem?_eq_getElem lt]
            rfl
          refine .inr ⟨⟨_, _, g4.seq at2, ex⟩, fun H => Grows H2 H ∧ ∃ kvs, H D4 = some (.dK kvs) ∧ kvs.length ≤ 20 * (i + 1), fun H' p' => ⟨cs.length - (i + 1), by omega, rfl, lt, p'⟩, fun v H' y => ?_⟩
          obtain ⟨rfl, y⟩ := y
          obtain rfl : V.ref (cs.getD i (0, [])).1 = v := Option.some.inj (ex.symm.trans (y _ (g4.seq at2)))
          have cm : cs.getD i (0, []) ∈ cs := by
            rw [List.getD_eq_getElem?_getD, List.getElem?_eq_getElem lt]
            exact List.getElem_mem lt
          obtain ⟨c1, _, c3⟩ := c2 _ cm
          generalize cs.getD i (0, []) = c at c1 c3 ex y
          have cl := c3.len
          have atc : SqL K H2 c.1 (c.2.map V.int) := SqL.of c1
          refine ⟨rfl, _, rfl, c.1, rfl, ⟨_, g4.seq atc⟩, fun j k H => k = c.2.length - j ∧ j ≤ c.2.length ∧ Grows H2 H ∧ ∃ kvs, H D4 = some (.dK kvs) ∧ kvs.length ≤ 20 * i + j, ⟨_, rfl, Nat.zero_le _, g4, kvs, e4, l4⟩, ?_⟩
          rintro j k' H5 ⟨rfl, hj, g5, kvs5, e5, l5⟩
          rcases Nat.lt_or_ge j c.2.length with lt5 | ge5
          · have ex5 : (c.2.map V.int)[j]? = some (V.int (c.2.getD j 0)) := by
              rw [List.getElem?_map, List.getD_eq_getElem?_getD, List.getElem?_eq_getElem lt5]
              rfl
            refine .inr ⟨⟨_, _, g5.seq atc, ex5⟩, fun H => Grows H2 H ∧ ∃ kvs, H D4 = some (.dK kvs) ∧ kvs.length ≤ 20 * i + (j + 1), fun H' p' => ⟨c.2.length - (j + 1), by omega, rfl, lt5, p'⟩, fun v H' y5 => ?_⟩
            obtain ⟨rfl, y5⟩ := y5
            obtain rfl : V.int (c.2.getD j 0) = v := Option.some.inj (ex5.symm.trans (y5 _ (g5.seq atc)))
            refine ⟨rfl, _, rfl, kvs5, Sum.inl (c.2.getD j 0), rfl, e5, by omega, fun q o eq => ?_, _, upd_same, ?_⟩
            · rw [upd_ne (ne_of_none eq hD4)]
              exact g5 _ _ eq
            · have := length_putK kvs5 (Sum.inl (c.2.getD j 0)) (V.bl true)
              omega
          · exact .inl ⟨⟨_, g5.seq atc, by rw [List.length_map]; exact ge5⟩, g5, kvs5, e5, by omega⟩
        · refine .inl ⟨⟨_, g4.seq at2, by rw [List.length_map]; exact ge⟩, ?_⟩
          have gH4 := g12.trans g4
          have hG4 := gH4.seq hG
          have gl := gg.len
          refine ⟨_, rfl, _, rfl, b, rfl, ⟨_, hG4⟩, fun D5 hD5 => lc_list (K := K) (a := b) (xs := gs.map V.int) (fun i H => Grows H4 H ∧ ∃ ds : List (Addr × List Int), H D5 = some (.lst (ds.map fun c => V.ref c.1)) ∧ ds.length ≤ i ∧ ∀ c ∈ ds, H c.1 = some (.lst (c.2.map V.int)) ∧ c.1 ≠ D5 ∧ Grp c.2)
            ⟨Grows.new hD5, [], upd_same, Nat.le_refl _, fun _ z => nomatch z⟩ (fun i H _ pv => pv.1.seq hG4) (fun i x H5 hx ⟨g5, ds, e5, l5, c5⟩ => ?_) fun H5 ⟨g5, ds, e5, l5, c5⟩ => ?_⟩
          · have il := (List.getElem?_eq_some_iff.mp hx).1
            rw [List.length_map] at il
            obtain rfl := at_map (d := 0) hx
            have xm : gs.getD i 0 ∈ gs := by
              rw [List.getD_eq_getElem?_getD, List.getElem?_eq_getElem il]
              exact List.getElem_mem il
            refine ⟨rfl, _, rfl, _, rfl, D4, _, rfl, DGet.k (k := Sum.inl (gs.getD i 0)) (g5 _ _ e4), _, rfl, ite2 (fun _ => ?_) (fun _ => ⟨g5, ds, e5, Nat.le_succ_of_le l5, c5⟩)⟩
            refine ⟨_, rfl, (by show 1 ≤ sizeLine; decide), fun l hl => ?_⟩
            have gn : Grows H5 (upd H5 l (.lst [V.int (gs.getD i 0)])) := Grows.new hl
            have ne : D5 ≠ l := ne_of_none e5 hl
            refine ⟨_, gn _ _ e5, ?_, fun c o q => ?_, ds ++ [(l, [gs.getD i 0])], ?_, ?_, fun c hc => ?_⟩
            · rw [List.length_map]
              omega
            · rw [upd_ne (ne_of_none q hD5)]
              exact gn _ _ (g5 _ _ q)
            · rw [upd_same, List.map_append]
              rfl
            · rw [List.length_append]
              exact Nat.succ_le_succ l5
            · rcases List.mem_append.mp hc with z | z
              · obtain ⟨z1, z2, z3⟩ := c5 c z
                refine ⟨?_, z2, z3⟩
                rw [upd_ne z2]
                exact gn _ _ z1
              · rw [List.mem_singleton.mp z]
                refine ⟨?_, ne.symm, (fun z => nomatch z), (by show 1 ≤ 20; decide), fun x hx => by rw [List.mem_singleton.mp hx]; exact gg.pos _ xm⟩
                rw [upd_ne ne.symm]
                exact upd_same
          · rw [List.length_map] at l5
            have g45 := g4.trans g5
            refine ⟨D2, D5, _, _, rfl, rfl, g45 _ _ e2, e5, ?_, fun L hL => ?_⟩
            · rw [List.length_map, List.length_map]
              omega
            · have each : ∀ c ∈ cs ++ ds, (upd H5 L (.lst (cs.map (fun c => V.ref c.1) ++ ds.map fun c => V.ref c.1))) c.1 = some (.lst (c.2.map V.int)) ∧ Grp c.2 := fun c hc => by
                rcases List.mem_append.mp hc with z | z
                · exact ⟨Grows.new hL _ _ (g45 _ _ (c2 c z).1), (c2 c z).2.2⟩
                · exact ⟨Grows.new hL _ _ (c5 c z).1, (c5 c z).2.2⟩
              refine ⟨L, cs ++ ds, rfl, SqL.of (by rw [upd_same, List.map_append]), fun c hc => SqL.of (each c hc).1, fun p hp => ?_⟩
              have gL : Grows H (upd H5 L (.lst (cs.map (fun c => V.ref c.1) ++ ds.map fun c => V.ref c.1))) := (gH4.trans g5).trans (Grows.new hL)
              refine k p ((cs ++ ds).mergeSort rowLe) _ (gL.trans (Grows.new hp)) (none_back gL hp) upd_same (fun c hc => ?_) ?_
              · have z := each c (List.mem_mergeSort.mp hc)
                exact ⟨Grows.new hp _ _ z.1, z.2⟩
              · rw [List.length_mergeSort, List.length_append]
                omega
end
end K11

namespace K11
open PySem PySem.Spec PyProof.Rows L2 SortR LcM
/-! ### the first one, the first two -/
def fiN (p : Nat → Bool) : Nat → Option Nat
  | 0 => none
  | n + 1 => match fiN p n with
    | some f => some f
    | none => if p n = true then some n else none
def fcN (c : Nat → Nat → Bool) : Nat → Option (Nat × Nat)
  | 0 => none
  | n + 1 => match fcN c n with
    | some p => some p
    | none => (fiN (fun f => c f n) n).map fun f => (f, n)
theorem fi_no {p : Nat → Bool} {n : Nat} (h : fiN p n = none) (hp : p n = false) : fiN p (n + 1) = none := by
  show (match fiN p n with | some f => some f | none => if p n = true then some n else none) = none
  rw [h, hp]
  rfl
theorem fi_yes {p : Nat → Bool} {n : Nat} (h : fiN p n = none) (hp : p n = true) : fiN p (n + 1) = some n := by
  show (match fiN p n with | some f => some f | none => if p n = true then some n else none) = some n
  rw [h, hp]
  rfl
theorem fi_stay {p : Nat → Bool} {n f : Nat} (h : fiN p n = some f) : ∀ m, fiN p (n + m) = some f
  | 0 => h
  | m + 1 => by
    show (match fiN p (n + m) with | some f => some f | none => if p (n + m) = true then some (n + m) else none) = some f
    rw [fi_stay h m]
theorem fc_no {c : Nat → Nat → Bool} {n : Nat} (h : fcN c n = none) (hp : fiN (fun f => c f n) n = none) : fcN c (n + 1) = none := by
  show (match fcN c n with | some p => some p | none => (fiN (fun f => c f n) n).map fun f => (f, n)) = none
  rw [h, hp]
  rfl
theorem fc_yes {c : Nat → Nat → Bool} {n f : Nat} (h : fcN c n = none) (hp : fiN (fun f => c f n) n = some f) : fcN c (n + 1) = some (f, n) := by
  show (match fcN c n with | some p => some p | none => (fiN (fun f => c f n) n).map fun f => (f, n)) = some (f, n)
  rw [h, hp]
  rfl
theorem fc_stay {c : Nat → Nat → Bool} {n : Nat} {p : Nat × Nat} (h : fcN c n = some p) : ∀ m, fcN c (n + m) = some p
  | 0 => h
  | m + 1 => by
    show (match fcN c (n + m) with | some p => some p | none => (fiN (fun f => c f (n + m)) (n + m)).map fun f => (f, n + m)) = some p
    rw [fc_stay h m]
/-- found at j, of i -/
theorem fc_hit {c : Nat → Nat → Bool} {n i j : Nat} (hi : i < n) (hj : j < i) (h : fcN c i = none) (h2 : fiN (fun f => c f i) j = none) (hc : c j i = true) : fcN c n = some (j, i) := by
  have a := fi_stay (fi_yes (p := fun f => c f i) h2 hc) (i - (j + 1))
  rw [show j + 1 + (i - (j + 1)) = i by omega] at a
  have b := fc_stay (fc_yes h a) (n - (i + 1))
  rw [show i + 1 + (n - (i + 1)) = n by omega] at b
  exact b
theorem fi_cong {p q : Nat → Bool} : ∀ {n : Nat}, (∀ f, f < n → p f = q f) → fiN p n = fiN q n
  | 0, _ => rfl
  | n + 1, h => by
    show (match fiN p n with | some f => some f | none => if p n = true then some n else none) = (match fiN q n with | some f => some f | none => if q n = true then some n else none)
    rw [fi_cong (fun f hf => h f (Nat.lt_succ_of_lt hf)), h n (Nat.lt_succ_self n)]
theorem fc_cong {c d : Nat → Nat → Bool} : ∀ {n : Nat}, (∀ s, s < n → ∀ f, f < s → c f s = d f s) → fcN c n = fcN d n
  | 0, _ => rfl
  | n + 1, h => by
    show (match fcN c n with | some p => some p | none => (fiN (fun f => c f n) n).map fun f => (f, n)) = (match fcN d n with | some p => some p | none => (fiN (fun f => d f n) n).map fun f => (f, n))
    rw [fc_cong (fun s hs => h s (Nat.lt_succ_of_lt hs)), fi_cong (h n (Nat.lt_succ_self n))]
def fcR (rs : List (List Int)) : Option (Nat × Nat) := fcN (fun f s => crossI (maskI (rs.getD f [])) (maskI (rs.getD s []))) rs.length
def spFirst (K : PySem.W.Frag) : Sp := fun vs H Q _ => ∃ (a : Addr) (bs : List (Addr × List Int)), vs = [.ref a] ∧ Rw K H a bs ∧ Sz (bs.map (·.2)) ∧ (∀ r ∈ bs.map (·.2), ∀ x ∈ r, 0 ≤ x ∧ x ≤ 1000) ∧
  (fcR (bs.map (·.2)) = none → ∀ H', Grows H H' → Q .non H') ∧ ∀ f s, fcR (bs.map (·.2)) = some (f, s) → ∀ (t : Addr) (H' : Hp), Grows H H' → H t = none → H' t = some (.tup [.int (f : Nat), .int (s : Nat)]) → Q (.ref t) H'
def spCros (K : PySem.W.Frag) : Sp := fun vs H Q _ => ∃ (a : Addr) (n : Int) (bs : List (Addr × List Int)), vs = [.int n, .ref a] ∧ Rw K H a bs ∧ Told n (bs.map (·.2)) ∧
  (fcR (bs.map (·.2)) = none → ∀ H', Grows H H' → Q .non H') ∧ ∀ f s, fcR (bs.map (·.2)) = some (f, s) → ∀ (t : Addr) (H' : Hp), Grows H H' → H t = none → H' t = some (.tup [.int (f : Nat), .int (s : Nat)]) → Q (.ref t) H'
section
variable {P : Program} {w : World} {K : PySem.W.Frag} {mg : Str → Option Value} {base : Heap}
theorem scFirst : FnScope ["groups", "masks", "group", "second", "mask", "first"] ["groups"] (defScope sFirst) := ⟨rfl, rfl, rfl, by decide +kernel, rfl, by decide +kernel, by decide +kernel⟩
theorem scCros : FnScope ["persons", "told"] ["persons", "told"] (defScope sCros) := ⟨rfl, rfl, rfl, by decide +kernel, rfl, by decide +kernel, by decide +kernel⟩
theorem ok_first (Z : ProgF K mg) (T : TxtP mg) (Y : TolF K mg) : FnOk P w K mg base CX0 2 Y.fFirst Y.dFirst ["groups"] (spFirst K) := by
  have GMask : FnOk P w K mg base CX0 1 Z.fMask Z.dMask ["group"] (spMask K) := ok_mask Z T
  have GCross : FnOk P w K mg base CX0 1 Z.fCross Z.dCross ["one", "other"] spCross := ok_cross Z
  refine Y.FFirst.ok scFirst (fun vs H Q E h => ?_) (fun cdv A outer s H vs Q E hr h => ?_)
  · obtain ⟨a, bs, rfl, _⟩ := h
    rfl
  · obtain ⟨a, bs, rfl, hB, ⟨hz1, hz2⟩, hx, k1, k2⟩ := h
    refine ⟨_, (pss_cons (ps_setLc (i := 1) (own := [("group", 2)]) (g := gName 2) (tt := tYes) rfl scFirst.nd rfl rfl (sw_true rfl rfl rfl (by decide +kernel)) (pi_list (pv 0)) (blkOk_by (own := [("group", 2)]) (N := ["groups", "masks", "group", "second", "mask", "first"]) (sc := defScope sFirst) (by decide +kernel)) (fun _ _ _ _ _ => pg_name (i := 2) scFirst.nd rfl (Or.inl rfl)) (fun _ _ _ _ _ => pts_nil) (fun _ _ _ _ _ => (pe_call GMask (hr.mono (by decide)) rfl Z.gMask Z.FMask.kp Z.bMask .nil pass0 (pa_cons (pv 2) pa_nil))))
      (pss_cons (ps_for PassesOwn.never rfl (pi_enum (by rfl) T.enumerate (pa_cons (pv 1) pa_nil)) (pg_tup (by rfl) (pgs_cons (pg_name (i := 3) scFirst.nd rfl (.inl rfl)) (pgs_cons (pg_name (i := 4) scFirst.nd rfl (.inl rfl)) pgs_nil)))
      (pss_one (ps_for PassesOwn.never rfl (pi_range1 (by rfl) T.range (pa_cons (pv 3) pa_nil)) (pg_name (i := 5) scFirst.nd rfl (.inl rfl))
      (pss_one (ps_if (pt_val (pe_call GCross (hr.mono (by decide)) rfl Z.gCross Z.FCross.kp Z.bCross .nil pass0 (pa_cons (pe_ix (r := rIxL K) ix_list (pv 1) (pv 5) (fun _ _ => rfl)) (pa_cons (pv 4) pa_nil)))) (pss_one (ps_ret (pe_tup (pa_cons (pv 5) (pa_cons (pv 3) pa_nil))))) pss_nil)))))
      (pss_one (ps_ret pe_non)))), ?_⟩
    rw [List.length_map] at hz1
    refine ⟨_, rfl, a, rfl, ⟨_, hB.top⟩, fun D hD => lc_listM (K := K) (fun i => V.int (maskI (bs.getD i (0, [])).2)) hD hB.top (by rw [List.length_map]; omega) (fun i x H' R hx' sm kR => ?_) fun H1 s1 eD => ?_⟩
    · have il := (List.getElem?_eq_some_iff.mp hx').1
      rw [List.length_map] at il
      obtain rfl := at_map (d := (0, [])) hx'
      exact ⟨rfl, _, rfl, _, _, rfl, sm.seq (hB.at il), hz2 _ (mem_at il), hx _ (mem_at il), fun H2 s2 => kR _ s2⟩
    · rw [List.length_map] at eD
      generalize eM : (fun i => maskI (bs.getD i (0, [])).2) = M at eD
      have eD' : H1 D = some (.lst ((List.range bs.length).map fun i => V.int (M i))) := by
        rw [eD, ← eM]
      have ec : fcR (bs.map (·.2)) = fcN (fun f s => crossI (M f) (M s)) bs.length := by
        unfold fcR
        rw [List.length_map, ← eM]
        simp only [snd_at]
      have len : ((List.range bs.length).map fun i => V.int (M i)).length = bs.length := by rw [List.length_map, List.length_range]
      refine ⟨_, rfl, D, _, rfl, SqL.of eD', for_enumL (K := K) (a := D) (xs := (List.range bs.length).map fun i => V.int (M i)) (fun i σ G => ∃ o3 o4 o5, σ = [some (.ref a), some (.ref D), none, o3, o4, o5] ∧ Grows H1 G ∧ fcN (fun f s => crossI (M f) (M s)) i = none)
        ⟨none, none, none, rfl, .refl, rfl⟩ (fun i σ G ⟨_, _, _, _, g, _⟩ => SqL.of (g _ _ eD')) (fun i x T' σ G hx' ⟨o3, o4, o5, e, g, no⟩ hT => ?_) fun σ G ⟨o3, o4, o5, e, g, no⟩ => ?_⟩
      · subst e
        have il := (List.getElem?_eq_some_iff.mp hx').1
        rw [len] at il
        have ex : x = V.int (M i) := by
          rw [List.getElem?_map, List.getElem?_range il] at hx'
          exact (Option.some.inj hx').symm
        subst ex
        have gT := g.trans (Grows.new (o := .tup [V.int (i : Nat), V.int (M i)]) hT)
        refine ⟨T', _, rfl, SqT.of upd_same, rfl, _, _, rfl, _, _, rfl, rfl, _, rfl, (i : Nat), rfl, by omega, by omega, for_range (lo := 0) (n := ((i : Nat) : Int).toNat) (fun j σ G => ∃ o5, σ = [some (.ref a), some (.ref D), none, some (.int (i : Nat)), some (.int (M i)), o5] ∧ Grows H1 G ∧ fiN (fun f => crossI (M f) (M i)) j = none)
          ⟨o5, rfl, gT, rfl⟩ (fun j σ G hj ⟨o5, e, g, no2⟩ => ?_) fun σ G ⟨o5, e, g, no2⟩ => ?_⟩
        · subst e
          have jl : j < i := by omega
          have ej : atI ((List.range bs.length).map fun i => V.int (M i)) (0 + (j : Nat)) = some (V.int (M j)) := by
            rw [Int.zero_add]
            exact atI_nat (by rw [List.getElem?_map, List.getElem?_range (by omega)]; rfl)
          refine ⟨_, rfl, _, rfl, D, _, _, _, rfl, rfl, SqL.of (g _ _ eD'), ej, _, rfl, _, _, rfl, fun H3 s3 => ⟨_, rfl, ite2 (fun e => ?_) (fun e => ?_)⟩⟩
          · refine ⟨_, rfl, _, rfl, (by show 2 ≤ sizeLine; decide), fun t ht => ?_⟩
            have gg := (s1.trans g).trans s3
            refine k2 j i ?_ t _ (gg.trans (Grows.new ht)) (none_back gg ht) ?_
            · rw [ec]
              exact fc_hit il jl no no2 e
            · rw [upd_same, Int.zero_add]
          · exact ⟨_, rfl, g.trans s3, fi_no no2 (Bool.eq_false_iff.mpr e)⟩
        · subst e
          refine ⟨_, _, _, rfl, g, fc_no no ?_⟩
          rw [show ((i : Nat) : Int).toNat = i from Int.toNat_natCast i] at no2
          exact no2
      · rw [len] at no
        exact k1 (ec.trans no) G (s1.trans g)
theorem ok_cros (Z : ProgF K mg) (T : TxtP mg) (Y : TolF K mg) : FnOk P w K mg base CX0 7 Y.fCros Y.dCros ["persons", "told"] (spCros K) := by
  have GNeedT : FnOk P w K mg base CX0 6 Y.fNeedT Y.dNeedT ["persons", "told"] (spNeedT K) := ok_needT Z T Y
  have GFirst : FnOk P w K mg base CX0 2 Y.fFirst Y.dFirst ["groups"] (spFirst K) := ok_first Z T Y
  refine Y.FCros.ok scCros (fun vs H Q E h => ?_) (fun cdv A outer s H vs Q E hr h => ?_)
  · obtain ⟨a, n, bs, rfl, _⟩ := h
    rfl
  · obtain ⟨a, n, bs, rfl, hB, t, k1, k2⟩ := h
    refine ⟨_, (pss_cons (ps_expr (pe_call GNeedT (hr.mono (by decide)) rfl Y.gNeedT Y.FNeedT.kp Y.bNeedT .nil pass0 (pa_cons (pv 0) (pa_cons (pv 1) pa_nil))))
      (pss_one (ps_ret (pe_call GFirst (hr.mono (by decide)) rfl Y.gFirst Y.FFirst.kp Y.bFirst .nil pass0 (pa_cons (pv 1) pa_nil))))), ?_⟩
    exact ⟨_, rfl, _, rfl, a, n, bs, rfl, hB, t, fun H1 s1 => ⟨_, rfl, a, bs, rfl, hB.keep s1, t.sz, fun r hr => t.in hr, fun e H' s => k1 e H' (s1.trans s), fun f s e t' H' g n e' => k2 f s e t' H' (s1.trans g) (none_back s1 n) e'⟩⟩
end
end K11

namespace K11
open PySem PySem.Spec PyProof.Rows L2 SortR LcM
/-- units of many groups, as they stand -/
structure Us (H : Hp) (p : Addr) (us : List (Addr × List (Addr × List Int))) : Prop where
  top : H p = some (.lst (us.map fun u => V.ref u.1))
  mid : ∀ u ∈ us, H u.1 = some (.lst (u.2.map fun c => V.ref c.1)) ∧ u.2.length ≤ 40
  low : ∀ u ∈ us, ∀ c ∈ u.2, H c.1 = some (.lst (c.2.map V.int)) ∧ Grp c.2
theorem Us.keep {H H' : Hp} {p : Addr} {us : List (Addr × List (Addr × List Int))} (u : Us H p us) (g : Grows H H') : Us H' p us :=
  ⟨g _ _ u.top, fun x hx => ⟨g _ _ (u.mid x hx).1, (u.mid x hx).2⟩, fun x hx c hc => ⟨g _ _ (u.low x hx c hc).1, (u.low x hx c hc).2⟩⟩
def spAllU (K : PySem.W.Frag) : Sp := fun vs H Q _ => ∃ (a : Addr) (n : Int) (bs : List (Addr × List Int)), vs = [.int n, .ref a] ∧ Rw K H a bs ∧ Told n (bs.map (·.2)) ∧
  ∀ (p : Addr) (us : List (Addr × List (Addr × List Int))) (H' : Hp), Grows H H' → Us H' p us → us.length ≤ 20 → Q (.ref p) H'
def spGo : Sp := fun vs H Q _ => ∃ (p : Addr) (us : List (Addr × List (Addr × List Int))), vs = [.ref p, .int 0] ∧ Us H p us ∧ us.length ≤ 20 ∧ ∀ (v : Int) (H' : Hp), 1 ≤ v → v.natAbs < 2 ^ 7000 → Grows H H' → Q (.int v) H'
def spWith (K : PySem.W.Frag) : Sp := fun vs H Q _ => ∃ (a : Addr) (n : Int) (bs : List (Addr × List Int)), vs = [.int n, .ref a] ∧ Rw K H a bs ∧ Told n (bs.map (·.2)) ∧
  ∀ (v : Int) (H' : Hp), 0 ≤ v → v.natAbs < 2 ^ 7000 → (v = 0 ↔ fcR (bs.map (·.2)) ≠ none) → Grows H H' → Q (.int v) H'
def spShare (K : PySem.W.Frag) : Sp := fun vs H Q _ => ∃ (a : Addr) (n : Int) (bs : List (Addr × List Int)), vs = [.int n, .ref a] ∧ Rw K H a bs ∧ Told n (bs.map (·.2)) ∧
  ∀ (u v : Int) (t : Addr) (H' : Hp), (fcR (bs.map (·.2)) ≠ none → u = 0 ∧ v = 1) → (fcR (bs.map (·.2)) = none → u ≠ 0) → Grows H H' → H t = none → H' t = some (.tup [.int u, .int v]) → Q (.ref t) H'
section
variable {P : Program} {w : World} {K : PySem.W.Frag} {mg : Str → Option Value} {base : Heap}
theorem scAllU : FnScope ["persons", "told", "group"] ["persons", "told"] (defScope sAllU) := ⟨rfl, rfl, rfl, by decide +kernel, rfl, by decide +kernel, by decide +kernel⟩
theorem scGo : FnScope ["unit_lists", "come", "many", "units", "met", "unit"] ["unit_lists", "come"] (defScope sGo) := ⟨rfl, rfl, rfl, by decide +kernel, rfl, by decide +kernel, by decide +kernel⟩
theorem scWith : FnScope ["persons", "told"] ["persons", "told"] (defScope sWith) := ⟨rfl, rfl, rfl, by decide +kernel, rfl, by decide +kernel, by decide +kernel⟩
theorem scShare : FnScope ["persons", "told"] ["persons", "told"] (defScope sShare) := ⟨rfl, rfl, rfl, by decide +kernel, rfl, by decide +kernel, by decide +kernel⟩
theorem unlike {H : Hp} {a D : Addr} {ns : List Int} {xs : List Addr} (ne : ns ≠ []) (ea : H a = some (.lst (ns.map V.int))) (eD : H D = some (.lst (xs.map V.ref))) : a ≠ D := fun z => by
  rw [z, eD] at ea
  have q : xs.map V.ref = ns.map V.int := HO.lst.inj (Option.some.inj ea)
  cases ns with
  | nil => exact ne rfl
  | cons n ns =>
    cases xs with
    | nil => cases q
    | cons x xs => cases (List.cons.inj q).1
theorem ok_allU (T : TxtP mg) (Y : TolF K mg) : FnOk P w K mg base CX0 3 Y.fAllU Y.dAllU ["persons", "told"] (spAllU K) := by
  have GUnits : FnOk P w K mg base CX0 2 Y.fUnits Y.dUnits ["told", "group"] (spUnits K) := ok_units T Y
  have GCert : FnOk P w K mg base CX0 1 Y.fCert Y.dCert ["persons", "told"] (spCert K) := ok_cert T Y
  refine Y.FAllU.ok scAllU (fun vs H Q E h => ?_) (fun cdv A outer s H vs Q E hr h => ?_)
  · obtain ⟨a, n, bs, rfl, _⟩ := h
    rfl
  · obtain ⟨a, n, bs, rfl, hB, t, k⟩ := h
    refine ⟨_, (pss_one (ps_ret (pe_lc (own := [("group", 2)]) (g := gName 2) (tt := tYes) rfl scAllU.nd (pi_list (pe_call GCert (hr.mono (by decide)) rfl Y.gCert Y.FCert.kp Y.bCert .nil pass0 (pa_cons (pv 0) (pa_cons (pv 1) pa_nil)))) (blkOk_by (own := [("group", 2)]) (N := ["persons", "told", "group"]) (sc := defScope sAllU) (by decide +kernel)) (fun _ _ _ _ _ => pg_name (i := 2) scAllU.nd rfl (Or.inl rfl)) (fun _ _ _ _ _ => pts_nil) (fun _ _ _ _ _ => (pe_call GUnits (hr.mono (by decide)) rfl Y.gUnits Y.FUnits.kp Y.bUnits .nil pass0 (pa_cons (pv 1) (pa_cons (pv 2) pa_nil))))))), ?_⟩
    have few := t.few
    rw [List.length_map] at few
    have big : (1000 : Nat) ≤ sizeLine := by decide
    refine ⟨_, rfl, _, rfl, a, n, bs, rfl, hB, t, fun p cs H1 s1 rw1 l1 g1 _ => ⟨p, rfl, ⟨_, rw1.top⟩, fun D hD => lc_list (K := K) (a := p) (xs := cs.map fun c => V.ref c.1) (fun i H => Grows H1 H ∧ ∃ us : List (Addr × List (Addr × List Int)), H D = some (.lst ((us.map (·.1)).map V.ref)) ∧ us.length ≤ i ∧
        (∀ u ∈ us, H u.1 = some (.lst (u.2.map fun c => V.ref c.1)) ∧ u.2.length ≤ 40 ∧ u.1 ≠ D) ∧ ∀ u ∈ us, ∀ c ∈ u.2, H c.1 = some (.lst (c.2.map V.int)) ∧ c.1 ≠ D ∧ Grp c.2)
        ⟨Grows.new hD, [], upd_same, Nat.le_refl _, (fun _ z => nomatch z), fun _ z => nomatch z⟩ (fun i H _ pv => pv.1.seq rw1.top) (fun i x H2 hx ⟨g2, us, e2, l2, m2, c2⟩ => ?_) fun H2 ⟨g2, us, e2, l2, m2, c2⟩ => ?_⟩⟩
    · have il := (List.getElem?_eq_some_iff.mp hx).1
      rw [List.length_map] at il
      obtain rfl := at_map (d := (0, [])) hx
      have sg := s1.trans g2
      refine ⟨rfl, _, rfl, _, rfl, a, _, bs, _, rfl, hB.keep sg, by omega, fun c hc => t.one (List.mem_map.mpr ⟨c, hc, rfl⟩), g2.seq (rw1.at il), g1 _ (rw1.mem il), fun q ds H3 s3 nq eq each lq => ?_⟩
      have e3 := s3 _ _ e2
      have nqD : q ≠ D := (ne_of_none e2 nq).symm
      refine ⟨_, e3, ?_, fun c o z => ?_, us ++ [(q, ds)], ?_, ?_, fun u hu => ?_, fun u hu c hc => ?_⟩
      · rw [List.length_map, List.length_map]
        omega
      · rw [upd_ne (ne_of_none z hD)]
        exact s3 _ _ (g2 _ _ z)
      · rw [upd_same, List.map_append, List.map_append]
        rfl
      · rw [List.length_append]
        exact Nat.succ_le_succ l2
      · rcases List.mem_append.mp hu with z | z
        · obtain ⟨z1, z2, z3⟩ := m2 u z
          refine ⟨?_, z2, z3⟩
          rw [upd_ne z3]
          exact s3 _ _ z1
        · rw [List.mem_singleton.mp z]
          refine ⟨?_, lq, nqD⟩
          rw [upd_ne nqD]
          exact eq
      · rcases List.mem_append.mp hu with z | z
        · obtain ⟨z1, z2, z3⟩ := c2 u z c hc
          refine ⟨?_, z2, z3⟩
          rw [upd_ne z2]
          exact s3 _ _ z1
        · rw [List.mem_singleton.mp z] at hc
          obtain ⟨z1, z2⟩ := each c hc
          have ncD : c.1 ≠ D := unlike z2.ne z1 e3
          refine ⟨?_, ncD, z2⟩
          rw [upd_ne ncD]
          exact z1
    · rw [List.length_map] at l2
      rw [List.map_map] at e2
      exact k D us H2 (s1.trans g2) ⟨e2, fun u hu => ⟨(m2 u hu).1, (m2 u hu).2.1⟩, fun u hu c hc => ⟨(c2 u hu c hc).1, (c2 u hu c hc).2.2⟩⟩ (by omega)
theorem kept_nil (F : Nat → V) (n : Nat) : kept (fun _ => false) F n = [] := by
  unfold kept
  rw [List.filter_eq_nil_iff.mpr fun _ _ => Bool.false_ne_true]
  rfl
theorem ok_go (T : TxtP mg) (Y : TolF K mg) : FnOk P w K mg base CX0 2 Y.fGo Y.dGo ["unit_lists", "come"] spGo := by
  have GWays : FnOk P w K mg base CX0 1 Y.fWays Y.dWays ["many"] spWays := ok_ways T Y
  refine Y.FGo.ok scGo (fun vs H Q E h => ?_) (fun cdv A outer s H vs Q E hr h => ?_)
  · obtain ⟨p, us, rfl, _⟩ := h
    rfl
  · obtain ⟨p, us, rfl, hU, ul, k⟩ := h
    refine ⟨_, (pss_cons (ps_set (i := 2) scGo.nd rfl (.inl rfl) pe_int)
      (pss_cons (ps_for PassesOwn.never rfl (pi_list (pv 0)) (pg_name (i := 3) scGo.nd rfl (.inl rfl))
      (pss_cons (ps_set (i := 4) scGo.nd rfl (.inl rfl) (pe_callB call_len_seq (by rfl) T.len (by decide +kernel) (pa_cons (pe_lc (own := [("unit", 5)]) (g := gName 5)  rfl scGo.nd (pi_list (pv 3)) (blkOk_by (own := [("unit", 5)]) (N := ["unit_lists", "come", "many", "units", "met", "unit"]) (sc := defScope sGo) (by decide +kernel)) (fun _ _ _ _ _ => pg_name (i := 5) scGo.nd rfl (Or.inl rfl)) (fun _ _ _ _ _ => (pts_one (pt_cmpR op_lt (pe_ix (r := rIxL K) ix_list (pv 5) pe_int (fun _ _ => rfl)) (pv 1) (nomark _)))) (fun _ _ _ _ _ => (pv 5))) pa_nil)))
      (pss_one (ps_set (i := 2) scGo.nd rfl (.inl rfl) (pe_op op_fdivN (pe_op op_mulW (pv 2) (pe_call GWays (hr.mono (by decide)) rfl Y.gWays Y.FWays.kp Y.bWays .nil pass0 (pa_cons (pe_callB call_len_seq (by rfl) T.len (by decide +kernel) (pa_cons (pv 3) pa_nil)) pa_nil))) (pe_call GWays (hr.mono (by decide)) rfl Y.gWays Y.FWays.kp Y.bWays .nil pass0 (pa_cons (pv 4) pa_nil)))))))
      (pss_one (ps_ret (pv 2))))), ?_⟩
    refine ⟨_, rfl, p, rfl, ⟨_, SqL.of hU.top⟩, for_list (K := K) (a := p) (xs := us.map fun u => V.ref u.1) (fun i σ G => ∃ (v : Int) (o3 o4 : Option V), σ = [some (.ref p), some (.int 0), some (.int v), o3, o4, none] ∧ Grows H G ∧ 1 ≤ v ∧ v.natAbs < 2 ^ (320 * i + 1))
      ⟨1, none, none, rfl, .refl, by decide, by decide⟩ (fun i σ G _ ⟨_, _, _, _, g, _⟩ => SqL.of (g _ _ hU.top)) (fun i x σ G hx ⟨v, o3, o4, e, g, v1, v2⟩ => ?_) fun σ G ⟨v, o3, o4, e, g, v1, v2⟩ => ?_⟩
    · subst e
      have il := (List.getElem?_eq_some_iff.mp hx).1
      rw [List.length_map] at il
      obtain rfl := at_map (d := (0, [])) hx
      have um : us.getD i (0, []) ∈ us := by
        rw [List.getD_eq_getElem?_getD, List.getElem?_eq_getElem il]
        exact List.getElem_mem il
      have mid := hU.mid _ um
      have low := hU.low _ um
      generalize us.getD i (0, []) = u at mid low
      have atU : SqL K G u.1 (u.2.map fun c => V.ref c.1) := SqL.of (g _ _ mid.1)
      refine ⟨_, rfl, u.1, rfl, ⟨_, atU⟩, fun D hD => lc_listT (K := K) (fun _ => false) (fun _ => V.non) hD atU (by rw [List.length_map]; omega) (fun j y H' R Rn hy sm kY kN => ?_) fun H1 s1 eD => ?_⟩
      · have jl := (List.getElem?_eq_some_iff.mp hy).1
        rw [List.length_map] at jl
        obtain rfl := at_map (d := (0, [])) hy
        have cm : u.2.getD j (0, []) ∈ u.2 := by
          rw [List.getD_eq_getElem?_getD, List.getElem?_eq_getElem jl]
          exact List.getElem_mem jl
        obtain ⟨c1, c2⟩ := low _ cm
        generalize u.2.getD j (0, []) = c at c1 c2
        have c0 : 0 ≤ c.2.getD 0 0 := by
          have l0 : 0 < c.2.length := List.length_pos_iff.mpr c2.ne
          rw [List.getD_eq_getElem?_getD, List.getElem?_eq_getElem l0]
          exact c2.pos _ (List.getElem_mem l0)
        refine ⟨rfl, _, rfl, c.1, _, 0, _, rfl, rfl, SqL.of (sm _ _ (g _ _ c1)), at_zero c2.ne, _, rfl, _, _, rfl, rfl, _, rfl, ?_⟩
        rw [decide_eq_false (by omega)]
        exact iteF (kN rfl _ .refl)
      · rw [kept_nil] at eD
        refine ⟨D, _, rfl, .inl (SqL.of eD), ?_⟩
        refine ⟨_, rfl, _, rfl, u.1, _, rfl, .inl (s1.seq atU), u.2.length, by rw [List.length_map]; rfl, mid.2, fun w1 w11 w12 _ => ?_⟩
        refine ⟨_, _, rfl, rfl, wide_mul v2 w12 (by omega) (by decide) (by omega), _, rfl, 0, rfl, by decide, fun w2 w21 w22 w23 => ?_⟩
        obtain rfl := w23 (by decide)
        refine ⟨_, _, rfl, rfl, ⟨by decide, by decide⟩, _, _, _, rfl, g.trans s1, ?_, ?_⟩
        · rw [Int.fdiv_one]
          have : (1 : Int) * 1 ≤ v * w1 := Int.mul_le_mul v1 w11 (by decide) (by omega)
          omega
        · rw [Int.fdiv_one, Int.natAbs_mul, show 320 * (i + 1) + 1 = (320 * i + 1) + 320 by omega, Nat.pow_add]
          exact Nat.mul_lt_mul'' v2 w12
    · subst e
      rw [List.length_map] at v2
      exact ⟨_, rfl, k v G v1 (Nat.lt_of_lt_of_le v2 (Nat.pow_le_pow_right (by decide) (by omega))) g⟩
theorem ok_with (Z : ProgF K mg) (T : TxtP mg) (Y : TolF K mg) : FnOk P w K mg base CX0 7 Y.fWith Y.dWith ["persons", "told"] (spWith K) := by
  have GNeedT : FnOk P w K mg base CX0 6 Y.fNeedT Y.dNeedT ["persons", "told"] (spNeedT K) := ok_needT Z T Y
  have GFirst : FnOk P w K mg base CX0 2 Y.fFirst Y.dFirst ["groups"] (spFirst K) := ok_first Z T Y
  have GAllU : FnOk P w K mg base CX0 3 Y.fAllU Y.dAllU ["persons", "told"] (spAllU K) := ok_allU T Y
  have GGo : FnOk P w K mg base CX0 2 Y.fGo Y.dGo ["unit_lists", "come"] spGo := ok_go T Y
  refine Y.FWith.ok scWith (fun vs H Q E h => ?_) (fun cdv A outer s H vs Q E hr h => ?_)
  · obtain ⟨a, n, bs, rfl, _⟩ := h
    rfl
  · obtain ⟨a, n, bs, rfl, hB, t, k⟩ := h
    refine ⟨_, (pss_cons (ps_expr (pe_call GNeedT (hr.mono (by decide)) rfl Y.gNeedT Y.FNeedT.kp Y.bNeedT .nil pass0 (pa_cons (pv 0) (pa_cons (pv 1) pa_nil))))
      (pss_cons (ps_if (pt_cmpR op_notN (pe_call GFirst (hr.mono (by decide)) rfl Y.gFirst Y.FFirst.kp Y.bFirst .nil pass0 (pa_cons (pv 1) pa_nil)) pe_non (nomark _)) (pss_one (ps_ret pe_int)) pss_nil)
      (pss_one (ps_ret (pe_call GGo (hr.mono (by decide)) rfl Y.gGo Y.FGo.kp Y.bGo .nil pass0 (pa_cons (pe_call GAllU (hr.mono (by decide)) rfl Y.gAllU Y.FAllU.kp Y.bAllU .nil pass0 (pa_cons (pv 0) (pa_cons (pv 1) pa_nil))) (pa_cons pe_int pa_nil))))))), ?_⟩
    refine ⟨_, rfl, _, rfl, a, n, bs, rfl, hB, t, fun H1 s1 => ⟨_, rfl, a, bs, rfl, hB.keep s1, t.sz, fun r hr => t.in hr, fun e H' s => ?_, fun f s e t' H' g nt et => ?_⟩⟩
    · refine ⟨rfl, _, rfl, iteF ?_⟩
      have g := s1.trans s
      refine ⟨_, rfl, _, rfl, a, n, bs, rfl, hB.keep g, t, fun p us H2 s2 hU ul => ⟨p, us, rfl, hU, ul, fun v H3 v1 v2 s3 => k v H3 (by omega) v2 ⟨fun z => absurd z (by omega), fun z => absurd e z⟩ ((g.trans s2).trans s3)⟩⟩
    · exact ⟨rfl, _, rfl, iteT (k 0 H' (by decide) (by decide) ⟨fun _ => (by rw [e]; exact fun z => nomatch z), fun _ => rfl⟩ (s1.trans g))⟩
theorem ok_share (Z : ProgF K mg) (T : TxtP mg) (Y : TolF K mg) : FnOk P w K mg base CX0 8 Y.fShare Y.dShare ["persons", "told"] (spShare K) := by
  have GWith : FnOk P w K mg base CX0 7 Y.fWith Y.dWith ["persons", "told"] (spWith K) := ok_with Z T Y
  have GCountP : FnOk P w K mg base CX0 3 Y.fCountP Y.dCountP ["persons"] spCountP := ok_countP Z T Y
  have GFrac : FnOk P w K mg base CX0 1 Y.fFrac Y.dFrac ["top", "bottom"] spFrac := ok_frac Y
  refine Y.FShare.ok scShare (fun vs H Q E h => ?_) (fun cdv A outer s H vs Q E hr h => ?_)
  · obtain ⟨a, n, bs, rfl, _⟩ := h
    rfl
  · obtain ⟨a, n, bs, rfl, hB, t, k⟩ := h
    refine ⟨_, (pss_one (ps_ret (pe_call GFrac (hr.mono (by decide)) rfl Y.gFrac Y.FFrac.kp Y.bFrac .nil pass0 (pa_cons (pe_call GWith (hr.mono (by decide)) rfl Y.gWith Y.FWith.kp Y.bWith .nil pass0 (pa_cons (pv 0) (pa_cons (pv 1) pa_nil))) (pa_cons (pe_call GCountP (hr.mono (by decide)) rfl Y.gCountP Y.FCountP.kp Y.bCountP .nil pass0 (pa_cons (pv 0) pa_nil)) pa_nil))))), ?_⟩
    refine ⟨_, rfl, _, rfl, a, n, bs, rfl, hB, t, fun v H1 v0 v2 vz s1 => ⟨_, rfl, n, rfl, t.pos, t.le, fun u u1 u2 => ⟨v, u, rfl, v0, Nat.lt_of_lt_of_le v2 (Nat.pow_le_pow_right (by decide) (by decide)), u1, u2, fun x y t' H' hx hy g nt et => k x y t' H' (fun e => hx (vz.mpr e)) (fun e => hy fun z => vz.mp z e) (s1.trans g) (none_back s1 nt) et⟩⟩⟩
end
end K11

namespace K11
open PySem PySem.Spec PyProof.Rows L2 SortR LcM NdefX
abbrev sInC : Stmt := inClass (top 10) 0
/-- what an f-string's field may hold here -/
def Fld (x : V) : Prop := ∃ i : Int, x = .int i ∧ i.natAbs.log2 < 1920
theorem fld_fmt {x : V} {H : Hp} {Q : VK} (h : Fld x) (k : ∀ y : Str, y.length ≤ 5000 → Q (.str y) H) : (∃ y : Str, x = .str y ∧ y.length ≤ sizeLine ∧ Q (.str y) H) ∨ ∃ i : Int, x = .int i ∧ i.natAbs.log2 < 1920 ∧ Q (.str (toString i)) H := by
  obtain ⟨i, rfl, h⟩ := h
  refine .inr ⟨i, rfl, h, k _ ?_⟩
  have e := int_text_length_le (k := 1920) (by decide) h
  show (Str.ofString (toString i)).length ≤ 5000
  rw [PySem.ofString_length]
  omega
theorem tfmt_var {i : Nat} {σ : L2.St} {H : Hp} {x : V} {Q : VK} (h : Fld x) (hi : σ[i]? = some (some x)) (k : ∀ y : Str, y.length ≤ 5000 → Q (.str y) H) : tFmt (tVar i) σ H Q := ⟨x, hi, fld_fmt h k⟩
theorem ap_le {a b : Str} {m n : Nat} (ha : a.length ≤ m) (hb : b.length ≤ n) : (a ++ b).length ≤ m + n := by
  rw [Str.length_append]
  omega
theorem ln {n m : Nat} (h : n ≤ m) (k : m ≤ 100000) : n ≤ sizeLine := by
  rw [sizeLine_eq]
  omega
/-- self with two fields -/
def spTwo (C : Addr) (f1 f2 : Str) : Sp := fun vs H Q _ => ∃ (a : Addr) (x y : V), vs = [.ref a, x, y] ∧ H a = some (exo a C none) ∧ Fld x ∧ Fld y ∧
  ∀ (d : Addr) (H' : Hp), H d = none → d ≠ a → H' a = some (exo a C (some d)) → H' d = some (exd d [(f2, y), (f1, x)]) → (∀ b, b ≠ a → b ≠ d → H' b = H b) → Q .non H'
abbrev nfOf (q : Str) (st : Stmt) (cc c : Addr) : NF := ⟨"__init__", q, defArgs st, defBody st, defScope st, [(("__class__" : Str), cc)], c⟩
theorem nsC : NScope ["self", "first", "second", "__class__"] ["self", "first", "second"] ["__class__"] (defScope sInC) := nscope_by (by decide +kernel)
section
variable {P : Program} {w : World} {K : PySem.W.Frag} {mg : Str → Option Value} {base : Heap} {C f cc c : Addr} {fd : FuncData}
theorem ok_inC (T : InitTxt P K mg C f cc (nfOf "Crossing.__init__" sInC cc c) fd) (n1 : PySem.W.findIn K (.ref C) "first" = some none) (n2 : PySem.W.findIn K (.ref C) "second" = some none) : FnOk P w K mg base CX0 1 f fd ["self", "first", "second"] (spTwo C "first" "second") := by
  refine ok_superInit T nsC rfl rfl (show (defScope sInC).names.lookup ("super" : Str) = some .globalImplicit by decide +kernel) (show (defScope sInC).names.lookup ("__class__" : Str) = some .free by decide +kernel) (show (defScope sInC).names.lookup ("self" : Str) = some .local by decide +kernel) rfl (pl := fun _ => _) (fun _ => rfl) (fun _ => rfl) (fun vs H Q E h => ?_) (fun A outer s H vs Q E hr h => ?_)
  · obtain ⟨a, x, y, rfl, _⟩ := h
    rfl
  · obtain ⟨a, x, y, rfl, ha, fx, fy, k⟩ := h
    refine ⟨a, _, _, rfl, ha, pe_joined (.cons pe_str (.cons (pe_fmt (pv 1)) (.cons pe_str (.cons (pe_fmt (pv 2)) (.cons pe_str .nil))))), pss_cons (ps_ost (pv 0) (pv 1)) (pss_one (ps_ost (pv 0) (pv 2))), ?_⟩
    have l1 := ap_le (a := Str.empty) (b := "the groups with the indices ") (m := 0) (n := 100) (by decide +kernel) (by decide +kernel)
    refine ⟨_, rfl, ln l1 (by decide), ?_⟩
    show tFmt (tVar 1) _ _ _
    refine tfmt_var fx rfl fun y1 h1 => ?_
    have l2 := ap_le l1 h1
    have l3 := ap_le (b := " and ") (n := 100) l2 (by decide +kernel)
    refine ⟨_, rfl, ln l2 (by decide), _, rfl, ln l3 (by decide), ?_⟩
    show tFmt (tVar 2) _ _ _
    refine tfmt_var fy rfl fun y2 h2 => ?_
    have l4 := ap_le l3 h2
    have l5 := ap_le (b := " cross") (n := 100) l4 (by decide +kernel)
    refine ⟨_, rfl, ln l4 (by decide), _, rfl, ln l5 (by decide), ha, ?_⟩
    refine ⟨_, rfl, _, rfl, a, C, rfl, T.ox, n1, .inl ⟨ha, fun d hd hda => ?_⟩⟩
    refine ⟨_, rfl, _, rfl, a, C, rfl, T.ox, n2, .inr ⟨d, _, upd_same, (by rw [upd_ne hda]; exact upd_same), (by show 1 ≤ 900; omega), ?_⟩⟩
    refine k d _ hd hda ?_ upd_same fun b h1 h2 => ?_
    · rw [upd_ne (Ne.symm hda)]
      exact upd_same
    · rw [upd_ne h2, upd_ne h1, upd_ne h2]
end
/-- the class Crossing -/
structure CroF (P : Program) (K : PySem.W.Frag) (mg : Str → Option Value) where
  (C fI cc cI : Addr)
  dI : FuncData
  init : InitTxt P K mg C fI cc (nfOf "Crossing.__init__" sInC cc cI) dI
  n1 : PySem.W.findIn K (.ref C) "first" = some none
  n2 : PySem.W.findIn K (.ref C) "second" = some none
  iC : PySem.W.findIn K (.ref C) "__init__" = some (some (.ref fI))
  tI : PySem.W.typeIn K (.ref fI) = some (.type "function")
  bI : Binds K dI ["self", "first", "second"] []
  gC : mg "Crossing" = some (.ref C)
  xf : XfC K C
  te : PySem.W.exmOne K (.ref C) (.ref C) = some true
/-- Crossing(f, s) is let out, all that stood stands -/
def Rai (C : Addr) (H : Hp) (f s : Nat) (E : XK) : Prop := ∀ (d : Addr) (H' : Hp), Grows H H' → H' d = some (.xd [(("second" : Str), V.int (s : Nat)), (("first" : Str), V.int (f : Nat))]) → E (.ref C) (some d) H'
theorem fi_lt {p : Nat → Bool} : ∀ {n f : Nat}, fiN p n = some f → f < n
  | 0, _, h => nomatch h
  | n + 1, f, h => by
    have h' : (match fiN p n with | some f => some f | none => if p n = true then some n else none) = some f := h
    cases e : fiN p n with
    | some g =>
      rw [e] at h'
      have := fi_lt e
      cases h'
      omega
    | none =>
      rw [e] at h'
      dsimp only at h'
      split at h'
      · cases h'
        exact Nat.lt_succ_self n
      · cases h'
theorem fc_lt {c : Nat → Nat → Bool} : ∀ {n f s : Nat}, fcN c n = some (f, s) → f < s ∧ s < n
  | 0, _, _, h => nomatch h
  | n + 1, f, s, h => by
    have h' : (match fcN c n with | some p => some p | none => (fiN (fun f => c f n) n).map fun f => (f, n)) = some (f, s) := h
    cases e : fcN c n with
    | some g =>
      rw [e] at h'
      cases h'
      have := fc_lt e
      omega
    | none =>
      rw [e] at h'
      obtain ⟨g, eg, z⟩ := Option.map_eq_some_iff.mp h'
      cases z
      have := fi_lt eg
      omega
theorem fld_of {f : Nat} (h : f < 10000) : Fld (.int (f : Nat)) := ⟨_, rfl, by
  have z : ((f : Nat) : Int).natAbs < 2 ^ 64 := by omega
  have := PySem.Flt.log2_lt_of (by decide) z
  omega⟩
theorem units65 {A : Around} {k : Nat} (hr : Room k A) : A.units + 65 < cLine := by
  have := hr.un
  omega
def spFam (K : PySem.W.Frag) (C : Addr) : Sp := fun vs H Q E => ∃ (a : Addr) (bs : List (Addr × List Int)) (f s : Nat), vs = [.ref a] ∧ Rw K H a bs ∧ Sz (bs.map (·.2)) ∧ (∀ r ∈ bs.map (·.2), ∀ x ∈ r, 0 ≤ x ∧ x ≤ 1000) ∧ fcR (bs.map (·.2)) = some (f, s) ∧ Rai C H f s E
section
variable {P : Program} {w : World} {K : PySem.W.Frag} {mg : Str → Option Value} {base : Heap}
theorem scFam : FnScope ["groups", "found"] ["groups"] (defScope sFam) := ⟨rfl, rfl, rfl, by decide +kernel, rfl, by decide +kernel, by decide +kernel⟩
theorem ok_fam (Z : ProgF K mg) (T : TxtP mg) (Y : TolF K mg) (V : CroF P K mg) : FnOk P w K mg base (L2.CX P w) 3 Y.fFam Y.dFam ["groups"] (spFam K V.C) := by
  have GFirst : FnOk P w K mg base CX0 2 Y.fFirst Y.dFirst ["groups"] (spFirst K) := ok_first Z T Y
  have GInit : FnOk P w K mg base CX0 1 V.fI V.dI ["self", "first", "second"] (spTwo V.C "first" "second") := ok_inC V.init V.n1 V.n2
  refine Y.FFam.okX scFam (fun vs H Q E h => ?_) (fun cdv A outer s H vs Q E hr h => ?_)
  · obtain ⟨a, bs, f, s, rfl, _⟩ := h
    rfl
  · obtain ⟨a, bs, f, s2, rfl, hB, hz, hx, e, k⟩ := h
    refine ⟨_, (pss_cons (ps_set (i := 1) scFam.nd rfl (.inl rfl) (pe_call GFirst (hr.mono (by decide)) rfl Y.gFirst Y.FFirst.kp Y.bFirst .nil pass0 (pa_cons (pv 0) pa_nil)))
      (pss_one (ps_if (pt_cmpR op_notN (pv 1) pe_non (nomark _)) (pss_one (ps_raise rfl (takes_of rfl rfl rfl rfl) (pmk_oex V.init.ox V.iC V.tI GInit (hr.mono (by decide)) V.bI .nil pass0 rfl V.gC (pa_cons (pe_ix (r := rIxT K) ix_tup (pv 1) pe_int (fun _ _ => rfl)) (pa_cons (pe_ix (r := rIxT K) ix_tup (pv 1) pe_int (fun _ _ => rfl)) pa_nil))))) pss_nil))), ?_⟩
    obtain ⟨l1, l2⟩ := fc_lt e
    rw [List.length_map] at l2
    have l3 : bs.length ≤ 1000 := by
      have := hz.1
      rw [List.length_map] at this
      exact this
    refine ⟨_, rfl, a, bs, rfl, hB, hz, hx, (fun z => by rw [e] at z; cases z), fun f' s' e' t H1 g1 nt et => ?_⟩
    rw [e] at e'
    cases e'
    refine ⟨_, rfl, rfl, _, rfl, iteT ⟨_, rfl, t, _, 0, _, rfl, rfl, SqT.of et, rfl, _, rfl, t, _, 1, _, rfl, rfl, SqT.of et, rfl, (by show 2 ≤ 1000; decide), fun x nx => ⟨x, _, _, rfl, upd_same, fld_of (by omega), fld_of (by omega), fun d H2 hd dx ex ed oth => ⟨rfl, d, _, ex, ed, ?_, ?_⟩⟩⟩⟩
    · rw [← hd, upd_ne dx]
    · refine k d _ (fun b o z => ?_) upd_same
      have zb := g1 _ _ z
      have nbx : b ≠ x := ne_of_none zb nx
      have hd1 : H1 d = none := by rw [← hd, upd_ne dx]
      have nbd : b ≠ d := ne_of_none zb hd1
      rw [upd_ne nbd, del_ne nbx, oth b nbx nbd, upd_ne nbx]
      exact zb
end
end K11

namespace K11
open PySem PySem.Spec PyProof.Rows L2 SortR LcM
theorem ints_dp {K : PySem.W.Frag} {H : Hp} : ∀ ns : List Int, DpAll K H (ns.map V.int) (ns.map .int)
  | [] => .nil
  | n :: ns => .cons (.int n) (ints_dp ns)
theorem rng_len {n : Int} (h : 1 ≤ n) : ((rng n).length : Int) = n := by
  unfold rng
  rw [List.length_map, List.length_range]
  omega
theorem rng_group {n : Int} (h1 : 2 ≤ n) (h2 : n ≤ 20) : group n (rng n) = true := by
  unfold group
  rw [Bool.and_eq_true]
  refine ⟨plist_of (rg_up _) fun x hx => ?_, decide_eq_true (by rw [rng_len (by omega)]; exact h1)⟩
  have := rg_in _ x hx
  omega
/-- told groups of which two cross, before anything else is asked -/
structure Bad (K : PySem.W.Frag) (C : Addr) (H : Hp) (E : XK) (a : Addr) (n : Int) (bs : List (Addr × List Int)) : Prop where
  rw' : Rw K H a bs
  told : Told n (bs.map (·.2))
  rai : ∃ f s, fcR (bs.map (·.2)) = some (f, s) ∧ Rai C H f s E
theorem Rai.keep {C : Addr} {H H' : Hp} {f s : Nat} {E : XK} (r : Rai C H f s E) (g : Grows H H') : Rai C H' f s E := fun d H2 g2 e => r d H2 (g.trans g2) e
def spUof (K : PySem.W.Frag) (C : Addr) : Sp := fun vs H Q E => ∃ (a g : Addr) (n : Int) (bs : List (Addr × List Int)), vs = [.int n, .ref a, .ref g] ∧ Bad K C H E a n bs ∧ 2 ≤ n ∧ SqL K H g ((rng n).map V.int)
def spGsh (K : PySem.W.Frag) (C : Addr) : Sp := fun vs H Q E => ∃ (a g : Addr) (n : Int) (bs : List (Addr × List Int)) (r : List Int), vs = [.int n, .ref a, .ref g] ∧ Bad K C H E a n bs ∧ SqL K H g (r.map V.int) ∧ group n r = true ∧ r.length ≤ 1000
def spNth (K : PySem.W.Frag) (C : Addr) : Sp := fun vs H Q E => ∃ (a : Addr) (n i : Int) (bs : List (Addr × List Int)), vs = [.int n, .ref a, .int i] ∧ Bad K C H E a n bs
def spIdx (K : PySem.W.Frag) (C : Addr) : Sp := fun vs H Q E => ∃ (p a : Addr) (n : Int) (cs bs : List (Addr × List Int)), vs = [.ref p, .ref a] ∧ Rw K H p cs ∧ Sz (cs.map (·.2)) ∧ isP (cs.map (·.2)) = true ∧ (cs.length : Int) + 1 = n ∧ Bad K C H E a n bs
section
variable {P : Program} {w : World} {K : PySem.W.Frag} {mg : Str → Option Value} {base : Heap}
theorem scUof : FnScope ["persons", "told", "group"] ["persons", "told", "group"] (defScope sUof) := ⟨rfl, rfl, rfl, by decide +kernel, rfl, by decide +kernel, by decide +kernel⟩
theorem scGsh : FnScope ["persons", "told", "group", "more"] ["persons", "told", "group"] (defScope sGsh) := ⟨rfl, rfl, rfl, by decide +kernel, rfl, by decide +kernel, by decide +kernel⟩
theorem scNth : FnScope ["persons", "told", "index", "unit_lists", "masks", "made", "person", "at"] ["persons", "told", "index"] (defScope sNth) := ⟨rfl, rfl, rfl, by decide +kernel, rfl, by decide +kernel, by decide +kernel⟩
theorem scIdx : FnScope ["parting", "told", "persons", "unit_lists", "masks", "index", "made", "person", "item", "at"] ["parting", "told"] (defScope sIdx) := ⟨rfl, rfl, rfl, by decide +kernel, rfl, by decide +kernel, by decide +kernel⟩
theorem ok_uof (Z : ProgF K mg) (T : TxtP mg) (Y : TolF K mg) (V : CroF P K mg) : FnOk P w K mg base (L2.CX P w) 7 Y.fUof Y.dUof ["persons", "told", "group"] (spUof K V.C) := by
  have GNeedT : FnOk P w K mg base CX0 6 Y.fNeedT Y.dNeedT ["persons", "told"] (spNeedT K) := ok_needT Z T Y
  have GGr : FnOk P w K mg base CX0 4 Z.fGr Z.dGr ["thing", "persons"] (spPL K group) := ok_group Z T
  have GCert : FnOk P w K mg base CX0 1 Y.fCert Y.dCert ["persons", "told"] (spCert K) := ok_cert T Y
  have GFam : FnOk P w K mg base (L2.CX P w) 3 Y.fFam Y.dFam ["groups"] (spFam K V.C) := ok_fam Z T Y V
  refine Y.FUof.okX scUof (fun vs H Q E h => ?_) (fun cdv A outer s H vs Q E hr h => ?_)
  · obtain ⟨a, g, n, bs, rfl, _⟩ := h
    rfl
  · obtain ⟨a, g, n, bs, rfl, ⟨hB, t, f, s, e, k⟩, n2, hG⟩ := h
    refine ⟨_, (pss_cons (ps_expr (pe_call GNeedT (hr.mono (by decide)) rfl Y.gNeedT Y.FNeedT.kp Y.bNeedT .nil pass0 (pa_cons (pv 0) (pa_cons (pv 1) pa_nil))))
      (pss_cons (ps_if (PW.pt (pw_or (pt_not (pt_val (pe_call GGr (hr.mono (by decide)) rfl Z.gGr Z.FGr.kp Z.bGr .nil pass0 (pa_cons (pv 2) (pa_cons (pv 0) pa_nil))))) (pw_or1 (pt_cmpR (r := rNotInD K) (by exact op_notInD (units65 hr)) (pv 2) (pe_call GCert (hr.mono (by decide)) rfl Y.gCert Y.FCert.kp Y.bCert .nil pass0 (pa_cons (pv 0) (pa_cons (pv 1) pa_nil))) (by rfl))))) (pss_one ps_never) pss_nil)
      (pss_cons (ps_expr (pe_callS GFam (hr.mono (by decide)) rfl Y.gFam Y.FFam.kp Y.bFam (fun σ => passAt (takes_of rfl rfl rfl rfl) σ) (pa_cons (pv 1) pa_nil)))
      (pss_one ps_never)))), ?_⟩
    have rl : (rng n).length ≤ 20 := (rng_one (by omega) t.le).len
    refine ⟨_, rfl, _, rfl, a, n, bs, rfl, hB, t, fun H1 s1 => ⟨_, rfl, _, rfl, g, n, _, rfl, s1.seq hG, by omega, fun H2 s2 => ?_⟩⟩
    rw [rng_group n2 t.le]
    have g2 := s1.trans s2
    refine ⟨_, rfl, iteF ⟨_, rfl, _, rfl, _, rfl, a, n, bs, rfl, hB.keep g2, t, fun p cs H3 s3 rw3 l3 g3 hd => ?_⟩⟩
    obtain ⟨c, ds, ec, er⟩ := hd
    have g3' := g2.trans s3
    refine ⟨.list ((rng n).map .int), (cs.map (·.2)).map fun r => .list (r.map .int), .lst (g3'.seq hG) (ints_dp _), .lst rw3.top (rows_data rw3.each), shaped_ints _, shaped_rows _, _, rfl, ?_⟩
    have yes : (((cs.map (·.2)).map fun r => PyData.list (r.map .int)).any fun z => PyData.eqv z (.list ((rng n).map .int))) = true := by
      rw [ec, List.map_cons, List.map_cons, List.any_cons, er, eqv_ints, decide_eq_true rfl, Bool.true_or]
    rw [yes]
    exact iteF ⟨_, rfl, a, bs, f, s, rfl, hB.keep g3', t.sz, fun r hr => t.in hr, e, k.keep g3'⟩
theorem ok_gsh (Z : ProgF K mg) (T : TxtP mg) (Y : TolF K mg) (V : CroF P K mg) : FnOk P w K mg base (L2.CX P w) 7 Y.fGsh Y.dGsh ["persons", "told", "group"] (spGsh K V.C) := by
  have GNeedT : FnOk P w K mg base CX0 6 Y.fNeedT Y.dNeedT ["persons", "told"] (spNeedT K) := ok_needT Z T Y
  have GGr : FnOk P w K mg base CX0 4 Z.fGr Z.dGr ["thing", "persons"] (spPL K group) := ok_group Z T
  have GFam : FnOk P w K mg base (L2.CX P w) 3 Y.fFam Y.dFam ["groups"] (spFam K V.C) := ok_fam Z T Y V
  refine Y.FGsh.okX scGsh (fun vs H Q E h => ?_) (fun cdv A outer s H vs Q E hr h => ?_)
  · obtain ⟨a, g, n, bs, r, rfl, _⟩ := h
    rfl
  · obtain ⟨a, g, n, bs, r, rfl, ⟨hB, t, f, s, e, k⟩, hG, gg, rl⟩ := h
    refine ⟨_, (pss_cons (ps_expr (pe_call GNeedT (hr.mono (by decide)) rfl Y.gNeedT Y.FNeedT.kp Y.bNeedT .nil pass0 (pa_cons (pv 0) (pa_cons (pv 1) pa_nil))))
      (pss_cons (ps_if (pt_not (pt_val (pe_call GGr (hr.mono (by decide)) rfl Z.gGr Z.FGr.kp Z.bGr .nil pass0 (pa_cons (pv 2) (pa_cons (pv 0) pa_nil))))) (pss_one ps_never) pss_nil)
      (pss_cons (ps_expr (pe_callS GFam (hr.mono (by decide)) rfl Y.gFam Y.FFam.kp Y.bFam (fun σ => passAt (takes_of rfl rfl rfl rfl) σ) (pa_cons (pv 1) pa_nil)))
      (pss_cons ps_never
      (pss_cons ps_never
      (pss_cons ps_never
      (pss_one ps_never))))))), ?_⟩
    refine ⟨_, rfl, _, rfl, a, n, bs, rfl, hB, t, fun H1 s1 => ⟨_, rfl, _, rfl, g, n, r, rfl, s1.seq hG, rl, fun H2 s2 => ?_⟩⟩
    rw [gg]
    have g2 := s1.trans s2
    exact ⟨_, rfl, iteF ⟨_, rfl, a, bs, f, s, rfl, hB.keep g2, t.sz, fun r hr => t.in hr, e, k.keep g2⟩⟩
theorem ok_nth (Z : ProgF K mg) (T : TxtP mg) (Y : TolF K mg) (V : CroF P K mg) : FnOk P w K mg base (L2.CX P w) 7 Y.fNth Y.dNth ["persons", "told", "index"] (spNth K V.C) := by
  have GNeedT : FnOk P w K mg base CX0 6 Y.fNeedT Y.dNeedT ["persons", "told"] (spNeedT K) := ok_needT Z T Y
  have GFam : FnOk P w K mg base (L2.CX P w) 3 Y.fFam Y.dFam ["groups"] (spFam K V.C) := ok_fam Z T Y V
  refine Y.FNth.okX scNth (fun vs H Q E h => ?_) (fun cdv A outer s H vs Q E hr h => ?_)
  · obtain ⟨a, n, i, bs, rfl, _⟩ := h
    rfl
  · obtain ⟨a, n, i, bs, rfl, ⟨hB, t, f, s, e, k⟩⟩ := h
    refine ⟨_, (pss_cons (ps_expr (pe_call GNeedT (hr.mono (by decide)) rfl Y.gNeedT Y.FNeedT.kp Y.bNeedT .nil pass0 (pa_cons (pv 0) (pa_cons (pv 1) pa_nil))))
      (pss_cons (ps_expr (pe_callS GFam (hr.mono (by decide)) rfl Y.gFam Y.FFam.kp Y.bFam (fun σ => passAt (takes_of rfl rfl rfl rfl) σ) (pa_cons (pv 1) pa_nil)))
      (pss_cons ps_never
      (pss_cons ps_never
      (pss_cons ps_never
      (pss_cons ps_never
      (pss_cons ps_never
      (pss_one ps_never)))))))), ?_⟩
    exact ⟨_, rfl, _, rfl, a, n, bs, rfl, hB, t, fun H1 s1 => ⟨_, rfl, a, bs, f, s, rfl, hB.keep s1, t.sz, fun r hr => t.in hr, e, k.keep s1⟩⟩
theorem ok_idx (Z : ProgF K mg) (T : TxtP mg) (Y : TolF K mg) (V : CroF P K mg) : FnOk P w K mg base (L2.CX P w) 7 Y.fIdx Y.dIdx ["parting", "told"] (spIdx K V.C) := by
  have GNeedT : FnOk P w K mg base CX0 6 Y.fNeedT Y.dNeedT ["persons", "told"] (spNeedT K) := ok_needT Z T Y
  have GPs : FnOk P w K mg base CX0 6 Z.fPs Z.dPs ["parting"] (spPs K) := ok_persons Z T
  have GFam : FnOk P w K mg base (L2.CX P w) 3 Y.fFam Y.dFam ["groups"] (spFam K V.C) := ok_fam Z T Y V
  refine Y.FIdx.okX scIdx (fun vs H Q E h => ?_) (fun cdv A outer s H vs Q E hr h => ?_)
  · obtain ⟨p, a, n, cs, bs, rfl, _⟩ := h
    rfl
  · obtain ⟨p, a, n, cs, bs, rfl, hP, hz, ip, en, ⟨hB, t, f, s, e, k⟩⟩ := h
    refine ⟨_, (pss_cons (ps_set (i := 2) scIdx.nd rfl (.inl rfl) (pe_call GPs (hr.mono (by decide)) rfl Z.gPs Z.FPs.kp Z.bPs .nil pass0 (pa_cons (pv 0) pa_nil)))
      (pss_cons (ps_expr (pe_call GNeedT (hr.mono (by decide)) rfl Y.gNeedT Y.FNeedT.kp Y.bNeedT .nil pass0 (pa_cons (pv 2) (pa_cons (pv 1) pa_nil))))
      (pss_cons (ps_expr (pe_callS GFam (hr.mono (by decide)) rfl Y.gFam Y.FFam.kp Y.bFam (fun σ => passAt (takes_of rfl rfl rfl rfl) σ) (pa_cons (pv 1) pa_nil)))
      (pss_cons ps_never
      (pss_cons ps_never
      (pss_cons ps_never
      (pss_cons ps_never
      (pss_cons ps_never
      (pss_one ps_never))))))))), ?_⟩
    subst en
    exact ⟨_, rfl, p, cs, rfl, hP, hz, ip, fun H0 s0 => ⟨_, rfl, _, rfl, a, _, bs, rfl, hB.keep s0, t, fun H1 s1 => ⟨_, rfl, a, bs, f, s, rfl, (hB.keep s0).keep s1, t.sz, fun r hr => t.in hr, e, (k.keep s0).keep s1⟩⟩⟩
end
end K11

namespace K11
open PySem PySem.Spec PyProof.Rows L2 SortR LcM
abbrev sFew : Stmt := top 65
abbrev sLot : Stmt := top 66
abbrev sCrL : Stmt := top 67
abbrev sCrd : Stmt := top 69
/-! ### groups that cross -/
def crossL (xs ys : List Int) : Bool := decide ((0 : Int) < ((xs.filter fun x => decide (x ∈ ys)).length : Int)) && decide (((xs.filter fun x => decide (x ∈ ys)).length : Int) < if (ys.length : Int) < (xs.length : Int) then (ys.length : Int) else (xs.length : Int))
theorem flt_perm {xs ys : List Int} (hx : xs.Nodup) (hy : ys.Nodup) : (xs.filter fun x => decide (x ∈ ys)).Perm (ys.filter fun y => decide (y ∈ xs)) := by
  refine (List.perm_ext_iff_of_nodup (hx.filter _) (hy.filter _)).mpr fun z => ?_
  rw [List.mem_filter, List.mem_filter, decide_eq_true_eq, decide_eq_true_eq]
  exact And.comm
theorem flt_all {xs : List Int} {p : Int → Bool} (h : xs.length ≤ (xs.filter p).length) : ∀ x ∈ xs, p x = true := by
  have e : xs.filter p = xs := (List.filter_sublist).eq_of_length_le h
  intro x hx
  rw [← e] at hx
  exact (List.mem_filter.mp hx).2
theorem flt_some {xs : List Int} {p : Int → Bool} (h : (xs.filter p).length < xs.length) : ∃ x ∈ xs, p x = false := by
  rcases Classical.em (∃ x ∈ xs, p x = false) with z | z
  · exact z
  · have e : xs.filter p = xs := List.filter_eq_self.mpr fun x hx => by
      cases q : p x with
      | true => rfl
      | false => exact absurd ⟨x, hx, q⟩ z
    rw [e] at h
    exact absurd h (Nat.lt_irrefl _)
theorem nd_up {xs : List Int} (h : xs.Pairwise (· < ·)) : xs.Nodup := h.imp fun lt e => by omega
theorem crossI_yes {xs ys : List Int} (hx : xs.Pairwise (· < ·)) (hy : ys.Pairwise (· < ·)) (px : ∀ x ∈ xs, 0 ≤ x) (py : ∀ x ∈ ys, 0 ≤ x) {z x y : Int} (z1 : z ∈ xs) (z2 : z ∈ ys) (x1 : x ∈ xs) (x2 : x ∉ ys) (y1 : y ∈ ys) (y2 : y ∉ xs) : crossI (maskI xs) (maskI ys) = true := by
  rw [maskI_mk, maskI_mk]
  unfold crossI
  rw [PyProof.Rows.bitAnd_pp (Int.natCast_nonneg _) (Int.natCast_nonneg _), Int.toNat_natCast, Int.toNat_natCast]
  have bx : ∀ i, (mk (xs.map Int.toNat)).testBit i = decide ((i : Int) ∈ xs) := fun i => by
    rw [mk_bit _ i (up_nat hx px)]
    exact decide_eq_decide.mpr (mem_nat px)
  have by' : ∀ i, (mk (ys.map Int.toNat)).testBit i = decide ((i : Int) ∈ ys) := fun i => by
    rw [mk_bit _ i (up_nat hy py)]
    exact decide_eq_decide.mpr (mem_nat py)
  generalize mk (xs.map Int.toNat) = a at bx
  generalize mk (ys.map Int.toNat) = b at by'
  have bit : ∀ i, (a &&& b).testBit i = (decide ((i : Int) ∈ xs) && decide ((i : Int) ∈ ys)) := fun i => by rw [Nat.testBit_and, bx, by']
  have n0 : (a &&& b) ≠ 0 := fun e => by
    have q := bit z.toNat
    rw [e, Nat.zero_testBit, Int.toNat_of_nonneg (px z z1), decide_eq_true z1, decide_eq_true z2] at q
    cases q
  have n1 : (a &&& b) ≠ a := fun e => by
    have q := bit x.toNat
    rw [e, bx, Int.toNat_of_nonneg (px x x1), decide_eq_true x1, decide_eq_false x2] at q
    cases q
  have n2 : (a &&& b) ≠ b := fun e => by
    have q := bit y.toNat
    rw [e, by', Int.toNat_of_nonneg (py y y1), decide_eq_true y1, decide_eq_false y2] at q
    cases q
  generalize (a &&& b) = c at n0 n1 n2
  have e : inV (.int ((c : Nat) : Int)) [.int 0, .int (a : Int), .int (b : Int)] = false := by
    unfold inV
    refine List.any_eq_false.mpr fun v hv => ?_
    simp only [List.mem_cons, List.not_mem_nil, or_false] at hv
    rcases hv with rfl | rfl | rfl
    · show ¬ ((0 : Int) == (c : Int)) = true
      rw [beq_iff_eq]
      omega
    · show ¬ ((a : Int) == (c : Int)) = true
      rw [beq_iff_eq]
      omega
    · show ¬ ((b : Int) == (c : Int)) = true
      rw [beq_iff_eq]
      omega
  rw [e]
  rfl
theorem cross_eq {xs ys : List Int} (hx : xs.Pairwise (· < ·)) (hy : ys.Pairwise (· < ·)) (px : ∀ x ∈ xs, 0 ≤ x) (py : ∀ x ∈ ys, 0 ≤ x) : crossI (maskI xs) (maskI ys) = crossL xs ys := by
  have pm := (flt_perm (nd_up hx) (nd_up hy)).length_eq
  have le1 : (xs.filter fun x => decide (x ∈ ys)).length ≤ xs.length := List.length_filter_le _ _
  have le2 : (ys.filter fun y => decide (y ∈ xs)).length ≤ ys.length := List.length_filter_le _ _
  unfold crossL
  by_cases k0 : (xs.filter fun x => decide (x ∈ ys)).length = 0
  · rw [k0, decide_eq_false (show ¬ (0 : Int) < ((0 : Nat) : Int) by decide), Bool.false_and]
    refine crossI_no hx hy px py (.inl fun z hz hz2 => ?_)
    have m : z ∈ xs.filter fun x => decide (x ∈ ys) := List.mem_filter.mpr ⟨hz, decide_eq_true hz2⟩
    rw [List.length_eq_zero_iff.mp k0] at m
    cases m
  · by_cases k1 : xs.length ≤ (xs.filter fun x => decide (x ∈ ys)).length
    · rw [decide_eq_false (show ¬ ((xs.filter fun x => decide (x ∈ ys)).length : Int) < (if (ys.length : Int) < (xs.length : Int) then (ys.length : Int) else (xs.length : Int)) by split <;> omega), Bool.and_false]
      exact crossI_no hx hy px py (.inr (.inl fun z hz => of_decide_eq_true (flt_all k1 z hz)))
    · by_cases k2 : ys.length ≤ (ys.filter fun y => decide (y ∈ xs)).length
      · rw [decide_eq_false (show ¬ ((xs.filter fun x => decide (x ∈ ys)).length : Int) < (if (ys.length : Int) < (xs.length : Int) then (ys.length : Int) else (xs.length : Int)) by split <;> omega), Bool.and_false]
        exact crossI_no hx hy px py (.inr (.inr fun z hz => of_decide_eq_true (flt_all k2 z hz)))
      · rw [decide_eq_true (show (0 : Int) < ((xs.filter fun x => decide (x ∈ ys)).length : Int) by omega), decide_eq_true (show ((xs.filter fun x => decide (x ∈ ys)).length : Int) < (if (ys.length : Int) < (xs.length : Int) then (ys.length : Int) else (xs.length : Int)) by split <;> omega)]
        obtain ⟨z, hz⟩ := List.exists_mem_of_length_pos (show 0 < (xs.filter fun x => decide (x ∈ ys)).length by omega)
        obtain ⟨z1, z2⟩ := List.mem_filter.mp hz
        obtain ⟨x, x1, x2⟩ := flt_some (p := fun x => decide (x ∈ ys)) (xs := xs) (by omega)
        obtain ⟨y, y1, y2⟩ := flt_some (p := fun y => decide (y ∈ xs)) (xs := ys) (by omega)
        exact crossI_yes hx hy px py z1 (of_decide_eq_true z2) x1 (of_decide_eq_false x2) y1 (of_decide_eq_false y2)
/-! ### rows that are groups -/
structure Row (n : Int) (r : List Int) : Prop where
  up : r.Pairwise (· < ·)
  rng : ∀ x ∈ r, 0 ≤ x ∧ x < n
  two : 2 ≤ r.length
theorem up_len {n : Int} : ∀ (r : List Int) (lo : Int), r.Pairwise (· < ·) → (∀ x ∈ r, lo ≤ x ∧ x < n) → r.length ≤ (n - lo).toNat
  | [], _, _, _ => Nat.zero_le _
  | x :: r, lo, h, k => by
    obtain ⟨h1, h2⟩ := List.pairwise_cons.mp h
    have q := up_len r (x + 1) h2 fun y hy => ⟨by have := h1 y hy; omega, (k y (List.mem_cons_of_mem _ hy)).2⟩
    have := k x List.mem_cons_self
    rw [List.length_cons]
    omega
theorem Row.len {n : Int} {r : List Int} (h : Row n r) (hn : n ≤ 20) : r.length ≤ 20 := by
  have := up_len r 0 h.up h.rng
  omega
theorem Row.grp {n : Int} {r : List Int} (h : Row n r) : group n r = true := by
  unfold group
  rw [plist_of h.up h.rng, Bool.true_and]
  exact decide_eq_true (by have := h.two; omega)
/-- unlike groups of n persons -/
structure Rows (n : Int) (rs : List (List Int)) : Prop where
  each : ∀ r ∈ rs, Row n r
  nd : rs.Nodup
theorem Rows.told {n : Int} {rs : List (List Int)} (h : Rows n rs) (h1 : 1 ≤ n) (h2 : n ≤ 20) (l : rs.length < 20) : Told n rs :=
  ⟨h1, h2, l, fun r hr => (h.each r hr).grp, fun r hr => (h.each r hr).len h2, h.nd⟩
def fcL (rs : List (List Int)) : Option (Nat × Nat) := fcN (fun f s => crossL (rs.getD f []) (rs.getD s [])) rs.length
theorem Rows.at {n : Int} {rs : List (List Int)} (h : Rows n rs) {i : Nat} (hi : i < rs.length) : Row n (rs.getD i []) := by
  rw [List.getD_eq_getElem?_getD, List.getElem?_eq_getElem hi]
  exact h.each _ (List.getElem_mem hi)
theorem Rows.fc {n : Int} {rs : List (List Int)} (h : Rows n rs) : fcR rs = fcL rs := by
  unfold fcR fcL
  refine fc_cong fun s hs f hf => ?_
  have a := h.at (show f < rs.length by omega)
  have b := h.at hs
  exact cross_eq a.up b.up (fun x hx => (a.rng x hx).1) fun x hx => (b.rng x hx).1
def spCrL (K : PySem.W.Frag) : Sp := fun vs H Q _ => ∃ (a b : Addr) (xs ys : List Int), vs = [.ref a, .ref b] ∧ SqL K H a (xs.map V.int) ∧ SqL K H b (ys.map V.int) ∧ xs.length ≤ 1000 ∧ ∀ H', Grows H H' → Q (.bl (crossL xs ys)) H'
section
variable {P : Program} {w : World} {K : PySem.W.Frag} {mg : Str → Option Value} {base : Heap}
theorem scCrL : FnScope ["lot", "rest", "both", "fresh"] ["lot", "rest"] (defScope sCrL) := ⟨rfl, rfl, rfl, by decide +kernel, rfl, by decide +kernel, by decide +kernel⟩
theorem ints_filter (p : Int → Bool) (xs : List Int) : kept (fun i => p (xs.getD i 0)) (fun i => V.int (xs.getD i 0)) xs.length = (xs.filter p).map V.int := by
  rw [← filtA 0 p xs, List.map_map]
  rfl
theorem ok_crL {f : Addr} {fd : FuncData} (F : Fun K "_law_cross" "_law_cross" sCrL f fd) (T : TxtP mg) (TD : Txt0 mg) : FnOk P w K mg base CX0 1 f fd ["lot", "rest"] (spCrL K) := by
  refine F.ok scCrL (fun vs H Q E h => ?_) (fun cdv A outer s H vs Q E hr h => ?_)
  · obtain ⟨a, b, xs, ys, rfl, _⟩ := h
    rfl
  · obtain ⟨a, b, xs, ys, rfl, hA, hB, xl, k⟩ := h
    refine ⟨_, (pss_cons (ps_setLc (i := 2) (own := [("fresh", 3)]) (g := gName 3)  rfl scCrL.nd rfl rfl (sw_true rfl rfl rfl (by decide +kernel)) (pi_list (pv 0)) (blkOk_by (own := [("fresh", 3)]) (N := ["lot", "rest", "both", "fresh"]) (sc := defScope sCrL) (by decide +kernel)) (fun _ _ _ _ _ => pg_name (i := 3) scCrL.nd rfl (Or.inl rfl)) (fun _ _ _ _ _ => (pts_one (pt_cmpR (r := rIn K false) (by exact op_in_seq) (pv 3) (pv 1) (by rfl)))) (fun _ _ _ _ _ => (pv 3)))
      (pss_one (ps_ret (pe_chain op_lt op_lt pe_int (pe_callB call_len_seq (by rfl) T.len (by decide +kernel) (pa_cons (pv 2) pa_nil)) (pe_callB (call_min2 rfl) (by rfl) TD.min (by decide +kernel) (pa_cons (pe_callB call_len_seq (by rfl) T.len (by decide +kernel) (pa_cons (pv 0) pa_nil)) (pa_cons (pe_callB call_len_seq (by rfl) T.len (by decide +kernel) (pa_cons (pv 1) pa_nil)) pa_nil))))))), ?_⟩
    refine ⟨_, rfl, a, rfl, ⟨_, hA⟩, fun D hD => lc_listT (K := K) (fun i => decide (xs.getD i 0 ∈ ys)) (fun i => V.int (xs.getD i 0)) hD hA (by rw [List.length_map]; omega) (fun i x H' R Rn hx' sm kY kN => ?_) fun H1 s1 eD => ?_⟩
    · have il := (List.getElem?_eq_some_iff.mp hx').1
      rw [List.length_map] at il
      obtain rfl := at_map (d := 0) hx'
      refine ⟨rfl, _, rfl, _, rfl, b, _, rfl, .inl (sm.seq hB), rfl, flat_ints ys, _, rfl, ?_⟩
      show if inV (.int (xs.getD i 0)) (ys.map V.int) = true then _ else _
      rw [inV_ints]
      exact ite2 (fun e => ⟨_, rfl, kY e _ .refl⟩) (fun e => kN (Bool.eq_false_iff.mpr e) _ .refl)
    · rw [List.length_map, ints_filter (fun x => decide (x ∈ ys)) xs] at eD
      refine ⟨_, rfl, D, _, rfl, .inl (SqL.of eD), _, _, rfl, rfl, _, rfl, ?_⟩
      have q := k H1 s1
      unfold crossL at q
      rw [List.length_map]
      by_cases l : (0 : Int) < ((xs.filter fun x => decide (x ∈ ys)).length : Int)
      · rw [if_pos (decide_eq_true l)]
        rw [decide_eq_true l, Bool.true_and] at q
        refine ⟨_, rfl, a, _, rfl, .inl (s1.seq hA), _, rfl, b, _, rfl, .inl (s1.seq hB), _, _, rfl, _, _, rfl, rfl, ?_⟩
        rw [List.length_map, List.length_map]
        exact q
      · rw [if_neg (by rw [decide_eq_false l]; exact Bool.false_ne_true)]
        rw [decide_eq_false l, Bool.false_and] at q
        exact q
end
end K11

namespace K11
open PySem PySem.Spec PyProof.Rows L2 SortR LcM
/-- a list of rows, all of them lists of ints that stand by themselves -/
structure Lw (H : Hp) (a : Addr) (cs : List (Addr × List Int)) : Prop where
  top : H a = some (.lst (cs.map fun c => V.ref c.1))
  each : ∀ c ∈ cs, H c.1 = some (.lst (c.2.map V.int))
theorem Lw.keep {H H' : Hp} {a : Addr} {cs : List (Addr × List Int)} (r : Lw H a cs) (g : Grows H H') : Lw H' a cs := ⟨g _ _ r.top, fun c m => g _ _ (r.each c m)⟩
theorem Lw.rw' {K : PySem.W.Frag} {H : Hp} {a : Addr} {cs : List (Addr × List Int)} (r : Lw H a cs) : Rw K H a cs := ⟨SqL.of r.top, fun c m => SqL.of (r.each c m)⟩
theorem Lw.at {H : Hp} {a : Addr} {cs : List (Addr × List Int)} (r : Lw H a cs) {i : Nat} (hi : i < cs.length) : H (cs.getD i (0, [])).1 = some (.lst ((cs.getD i (0, [])).2.map V.int)) := by
  rw [List.getD_eq_getElem?_getD, List.getElem?_eq_getElem hi]
  exact r.each _ (List.getElem_mem hi)
def spCrd (K : PySem.W.Frag) : Sp := fun vs H Q _ => ∃ (a : Addr) (bs : List (Addr × List Int)), vs = [.ref a] ∧ Rw K H a bs ∧ bs.length ≤ 100 ∧ (∀ b ∈ bs, b.2.length ≤ 1000) ∧
  (fcL (bs.map (·.2)) = none → ∀ H', Grows H H' → Q .non H') ∧ ∀ f s, fcL (bs.map (·.2)) = some (f, s) → ∀ (t : Addr) (H' : Hp), Grows H H' → H t = none → H' t = some (.tup [.int (f : Nat), .int (s : Nat)]) → Q (.ref t) H'
theorem fi_kept (p : Nat → Bool) : ∀ n, (fiN p n = none → (List.range n).filter p = []) ∧ ∀ f, fiN p n = some f → ∃ r, (List.range n).filter p = f :: r
  | 0 => ⟨fun _ => rfl, fun _ h => nomatch h⟩
  | n + 1 => by
    obtain ⟨a, b⟩ := fi_kept p n
    have e : fiN p (n + 1) = (match fiN p n with | some f => some f | none => if p n = true then some n else none) := rfl
    have s : (List.range (n + 1)).filter p = (List.range n).filter p ++ (if p n = true then [n] else []) := by
      rw [List.range_succ, List.filter_append]
      congr 1
      by_cases h : p n = true
      · rw [if_pos h, List.filter_cons_of_pos h, List.filter_nil]
      · rw [if_neg h, List.filter_cons_of_neg h, List.filter_nil]
    rw [e, s]
    cases q : fiN p n with
    | none =>
      rw [a q, List.nil_append]
      cases h : p n with
      | true => exact ⟨fun z => by simp at z, fun f z => ⟨[], by simp at z; simp [z]⟩⟩
      | false => exact ⟨fun _ => by simp, fun f z => by simp at z⟩
    | some g =>
      obtain ⟨r, er⟩ := b g q
      rw [er]
      refine ⟨fun z => (nomatch z), fun f z => ?_⟩
      cases z
      exact ⟨r ++ (if p n = true then [n] else []), rfl⟩
section
variable {P : Program} {w : World} {K : PySem.W.Frag} {mg : Str → Option Value} {base : Heap}
theorem scCrd : FnScope ["marked", "spot", "hits", "low"] ["marked"] (defScope sCrd) := ⟨rfl, rfl, rfl, by decide +kernel, rfl, by decide +kernel, by decide +kernel⟩
theorem ok_crd {f fC : Addr} {fd dC : FuncData} (F : Fun K "_law_crossed" "_law_crossed" sCrd f fd) (T : TxtP mg) (TD : Txt0 mg) (FCrL : Fun K "_law_cross" "_law_cross" sCrL fC dC) (gCrL : mg "_law_cross" = some (.ref fC)) (bCrL : Binds K dC ["lot", "rest"] []) : FnOk P w K mg base CX0 2 f fd ["marked"] (spCrd K) := by
  have GCrL : FnOk P w K mg base CX0 1 fC dC ["lot", "rest"] (spCrL K) := ok_crL FCrL T TD
  refine F.ok scCrd (fun vs H Q E h => ?_) (fun cdv A outer s H vs Q E hr h => ?_)
  · obtain ⟨a, bs, rfl, _⟩ := h
    rfl
  · obtain ⟨a, bs, rfl, hB, bl, rl, k1, k2⟩ := h
    refine ⟨_, (pss_cons (ps_for PassesOwn.never rfl (pi_range1 (by rfl) T.range (pa_cons (pe_callB call_len_seq (by rfl) T.len (by decide +kernel) (pa_cons (pv 0) pa_nil)) pa_nil)) (pg_name (i := 1) scCrd.nd rfl (.inr rfl))
      (pss_cons (ps_setLc (i := 2) (own := [("low", 3)]) (g := gName 3)  rfl scCrd.nd rfl rfl (sw_true rfl rfl rfl (by decide +kernel)) (pi_range1 (by rfl) T.range (pa_cons (pv 1) pa_nil)) (blkOk_by (own := [("low", 3)]) (N := ["marked", "spot", "hits", "low"]) (sc := defScope sCrd) (by decide +kernel)) (fun _ _ _ _ _ => pg_name (i := 3) scCrd.nd rfl (Or.inl rfl)) (fun _ _ _ _ _ => (pts_one (pt_val (pe_call GCrL (hr.mono (by decide)) rfl gCrL FCrL.kp bCrL .nil pass0 (pa_cons (pe_ix (r := rIxL K) ix_list (pv 0) (pv 3) (fun _ _ => rfl)) (pa_cons (pe_ix (r := rIxL K) ix_list (pv 0) (pv 1) (fun _ _ => rfl)) pa_nil)))))) (fun _ _ _ _ _ => (pv 3)))
      (pss_one (ps_if (pt_cmpR (op_neD hr.units) (pv 2) (pe_lst pa_nil) (nomark _)) (pss_one (ps_ret (pe_tup (pa_cons (pe_ix (r := rIxL K) ix_list (pv 2) pe_int (fun _ _ => rfl)) (pa_cons (pv 1) pa_nil))))) pss_nil))))
      (pss_one (ps_ret pe_non))), ?_⟩
    have at_ : ∀ i : Nat, i < bs.length → atI (bs.map fun b => V.ref b.1) (0 + (i : Nat)) = some (V.ref (bs.getD i (0, [])).1) := fun i hi => by
      rw [Int.zero_add]
      refine atI_nat ?_
      rw [List.getElem?_map, List.getD_eq_getElem?_getD, List.getElem?_eq_getElem hi]
      rfl
    have ec : fcL (bs.map (·.2)) = fcN (fun f s => crossL (bs.getD f (0, [])).2 (bs.getD s (0, [])).2) bs.length := by
      unfold fcL
      rw [List.length_map]
      simp only [snd_at]
    refine ⟨_, rfl, a, _, rfl, .inl hB.top, _, rfl, by omega, (by rw [List.length_map]; omega), for_range (lo := 0) (n := Int.toNat (((bs.map fun b => V.ref b.1).length : Nat) : Int)) (fun i σ G => ∃ o1 o2, σ = [some (.ref a), o1, o2, none] ∧ Grows H G ∧ fcN (fun f s => crossL (bs.getD f (0, [])).2 (bs.getD s (0, [])).2) i = none)
      ⟨none, none, rfl, .refl, rfl⟩ (fun i σ G hi ⟨o1, o2, e, g, no⟩ => ?_) fun σ G ⟨o1, o2, e, g, no⟩ => ?_⟩
    · subst e
      rw [Int.toNat_natCast, List.length_map] at no
      exact k1 (ec.trans no) G g
    · subst e
      rw [Int.toNat_natCast, List.length_map] at hi
      refine ⟨_, rfl, (0 + (i : Nat) : Int), rfl, by omega, by omega, fun D hD => lc_range (lo := 0) (n := Int.toNat (0 + (i : Nat) : Int)) (fun j G' => Grows G G' ∧ G' D = some (.lst (kept (fun j => crossL (bs.getD j (0, [])).2 (bs.getD i (0, [])).2) (fun j => V.int (0 + (j : Nat))) j))) ⟨Grows.new hD, upd_same⟩ (fun j G' jl ⟨g2, e2⟩ => ?_) fun G' ⟨g2, e2⟩ => ?_⟩
      · have jl' : j < i := by omega
        have g3 := g.trans g2
        refine ⟨rfl, _, rfl, _, rfl, a, _, _, _, rfl, rfl, g3.seq hB.top, at_ j (by omega), _, rfl, _, rfl, a, _, _, _, rfl, rfl, g3.seq hB.top, at_ i hi, _, _, _, _, rfl, g3.seq (hB.at (by omega)), g3.seq (hB.at hi), rl _ (hB.mem (by omega)), fun G3 s3 => ⟨_, rfl, ite2 (fun e => ?_) (fun e => ?_)⟩⟩
        · refine ⟨_, rfl, _, s3 _ _ e2, ?_, fun c o q => ?_, ?_⟩
          · have := kept_le (fun j => crossL (bs.getD j (0, [])).2 (bs.getD i (0, [])).2) (fun j => V.int (0 + (j : Nat))) j
            have : (1000 : Nat) ≤ sizeLine := by decide
            omega
          · rw [upd_ne (ne_of_none q hD)]
            exact s3 _ _ (g2 _ _ q)
          · rw [upd_same, kept_yes e]
        · refine ⟨g2.trans s3, ?_⟩
          rw [s3 _ _ e2, kept_no (Bool.eq_false_iff.mpr e)]
      · rw [show Int.toNat (0 + (i : Nat) : Int) = i by omega] at e2
        obtain ⟨fk1, fk2⟩ := fi_kept (fun j => crossL (bs.getD j (0, [])).2 (bs.getD i (0, [])).2) i
        have g3 := g.trans g2
        generalize eF : kept (fun j => crossL (bs.getD j (0, [])).2 (bs.getD i (0, [])).2) (fun j => V.int (0 + (j : Nat))) i = F at e2
        have eF' : F = (((List.range i).filter fun j => crossL (bs.getD j (0, [])).2 (bs.getD i (0, [])).2).map fun j => (0 + (j : Nat) : Int)).map V.int := by
          rw [← eF, List.map_map]
          rfl
        generalize eL : (List.range i).filter (fun j => crossL (bs.getD j (0, [])).2 (bs.getD i (0, [])).2) = L at eF' fk1 fk2
        refine ⟨_, rfl, (by show 0 ≤ sizeLine; decide), fun q hq => ⟨.list ((L.map fun j => (0 + (j : Nat) : Int)).map .int), .list [], .lst (SqL.of ((Grows.new hq) _ _ (by rw [e2, eF']))) (ints_dp _), .lst (SqL.of upd_same) .nil, shaped_ints _, rfl, _, rfl, ?_⟩⟩
        have gq : Grows G (upd G' q (.lst [])) := g2.trans (Grows.new hq)
        cases ef : fiN (fun j => crossL (bs.getD j (0, [])).2 (bs.getD i (0, [])).2) i with
        | none =>
          rw [fk1 ef]
          exact iteF ⟨_, _, rfl, g.trans gq, fc_no no ef⟩
        | some f =>
          obtain ⟨r, er⟩ := fk2 f ef
          have fl := fi_lt ef
          rw [er]
          refine iteT ⟨_, rfl, D, F, 0, V.int (0 + (f : Nat)), rfl, rfl, SqL.of ((Grows.new hq) _ _ e2), ?_, _, rfl, (by show 2 ≤ sizeLine; decide), fun t ht => ?_⟩
          · rw [eF', er]
            exact atI_nat (j := 0) rfl
          · have gt := (g.trans gq).trans (Grows.new (o := .tup [V.int (0 + (f : Nat)), V.int (0 + (i : Nat))]) ht)
            refine k2 f i ?_ t _ gt (none_back (g.trans gq) ht) ?_
            · rw [ec]
              have b := fc_stay (fc_yes no ef) (bs.length - (i + 1))
              rw [show i + 1 + (bs.length - (i + 1)) = bs.length by omega] at b
              exact b
            · rw [upd_same, Int.zero_add, Int.zero_add]
end
end K11

namespace K11
open PySem PySem.Spec PyProof.Rows L2 SortR LcM
theorem gr_own {sd p : Addr} {H0 H : Hp} (g : Gr sd H0 H) (e : H0 p = none) (o : HO) : Gr sd H0 (upd H p o) := fun b u nb h => by
  have ne : b ≠ p := fun z => by rw [z, e] at h; cases h
  rw [upd_ne ne]
  exact g b u nb h
theorem Pch.off {H : Hp} {p x : Addr} {m : Int} (h : Pch H p m) (n : x ≠ p) (o : HO) : Pch (upd H x o) p m := by
  obtain ⟨d, b, k, e, r⟩ := h
  exact ⟨d, b, k, (upd_ne n.symm).trans e, r⟩
theorem erase_map {α β : Type} (f : α → β) : ∀ (l : List α) (k : Nat), (l.map f).eraseIdx k = (l.eraseIdx k).map f
  | [], _ => rfl
  | _ :: _, 0 => rfl
  | x :: l, k + 1 => congrArg (f x :: ·) (erase_map f l k)
theorem erase_perm {α : Type} : ∀ (l : List α) (k : Nat) (h : k < l.length), (l[k] :: l.eraseIdx k).Perm l
  | [], k, h => absurd h (Nat.not_lt_zero k)
  | x :: l, 0, _ => .refl _
  | x :: l, k + 1, h => (List.Perm.swap x (l[k]'(Nat.lt_of_succ_lt_succ h)) (l.eraseIdx k)).trans ((erase_perm l k (Nat.lt_of_succ_lt_succ h)).cons x)
theorem pop_perm {α : Type} {fs ls cs : List α} {c : α} {k : Nat} (h : (fs ++ ls).Perm cs) (e : ls[k]? = some c) : ((fs ++ [c]) ++ ls.eraseIdx k).Perm cs := by
  obtain ⟨hk, ec⟩ := List.getElem?_eq_some_iff.mp e
  refine List.Perm.trans ?_ h
  rw [List.append_assoc]
  refine List.Perm.append_left fs ?_
  rw [← ec]
  exact erase_perm ls k hk
theorem seq_in {v : Int} {n : Nat} (h0 : 0 ≤ v) (h1 : v < n) : seqIndex? v n = some v.toNat := by
  unfold seqIndex?
  dsimp only
  rw [if_neg (by omega : ¬ v < 0), if_pos (by rw [Bool.and_eq_true]; exact ⟨decide_eq_true h0, decide_eq_true h1⟩)]
theorem ints_le (l : List Int) : (l.mergeSort intLe).Pairwise (· ≤ ·) := by
  have h := List.pairwise_mergeSort (le := intLe) (fun a b c h1 h2 => by
    unfold intLe at *
    simp only [decide_eq_true_eq] at *
    omega) (fun a b => by
    unfold intLe
    simp only [Bool.or_eq_true, decide_eq_true_eq]
    omega) l
  exact h.imp fun {a b} z => by
    unfold intLe at z
    exact of_decide_eq_true z
def spFew : Sp := fun vs H Q _ => ∃ (p a : Addr) (m : Int) (cs : List (Addr × List Int)), vs = [.ref p, .ref a] ∧ Pch H p m ∧ m < 2 ^ 50 ∧ a ≠ p ∧ H a = some (.lst (cs.map fun c => V.ref c.1)) ∧ cs.length ≤ 19 ∧
  ∀ (f : Addr) (fs ls : List (Addr × List Int)) (H' : Hp), (fs ++ ls).Perm cs → Pch H' p (m + 30) → Gr p H H' → H f = none → H' f = some (.lst (fs.map fun c => V.ref c.1)) → Q (.ref f) H'
def spLot : Sp := fun vs H Q _ => ∃ (p : Addr) (n m : Int), vs = [.ref p, .int n] ∧ Pch H p m ∧ m < 2 ^ 50 ∧ 2 ≤ n ∧ n ≤ 20 ∧
  ∀ (q : Addr) (r : List Int) (H' : Hp), Row n r → Pch H' p (m + 30) → Gr p H H' → H q = none → H' q = some (.lst (r.map V.int)) → Q (.ref q) H'
section
variable {P : Program} {w : World} {K : PySem.W.Frag} {mg : Str → Option Value} {base : Heap}
theorem scFew : FnScope ["pouch", "lots", "left", "found", "turn"] ["pouch", "lots"] (defScope sFew) := ⟨rfl, rfl, rfl, by decide +kernel, rfl, by decide +kernel, by decide +kernel⟩
theorem scLot : FnScope ["pouch", "many", "found", "fresh", "left", "turn"] ["pouch", "many"] (defScope sLot) := ⟨rfl, rfl, rfl, by decide +kernel, rfl, by decide +kernel, by decide +kernel⟩
theorem ok_few {f fD : Addr} {fd fdD : FuncData} (F : Fun K "_law_few" "_law_few" sFew f fd) (T : TxtP mg) (TD : TxtD mg fD) (FD : Fun K "_law_dip" "_law_dip" sDip fD fdD) (bD : Binds K fdD ["pouch", "wide"] []) : FnOk P w K mg base CX0 2 f fd ["pouch", "lots"] spFew := by
  have GD : FnOk P w K mg base CX0 1 fD fdD ["pouch", "wide"] spDip := ok_dip FD TD.toTxt0
  refine F.ok scFew (fun vs H Q E h => ?_) (fun cdv A outer s H vs Q E hr h => ?_)
  · obtain ⟨p, a, m, cs, rfl, _⟩ := h
    rfl
  · obtain ⟨p, a, m, cs, rfl, hP, hm, nap, ea, cl, k⟩ := h
    refine ⟨_, (pss_cons (ps_par (i := 2) (j := 3) (by rfl) scFew.nd rfl rfl (by decide) rfl rfl (pa_cons (pe_callTy call_list_of (by rfl) T.list (by decide +kernel) (pa_cons (pv 1) pa_nil)) (pa_cons (pe_lst pa_nil) pa_nil)) (by rfl))
      (pss_cons (ps_for PassesOwn.never rfl (pi_range1 (by rfl) T.range (pa_cons (pe_call GD (hr.mono (by decide)) rfl TD.gD FD.kp bD .nil pass0 (pa_cons (pv 0) (pa_cons (pe_callB (call_min2 rfl) (by rfl) TD.min (by decide +kernel) (pa_cons pe_int (pa_cons (pe_op op_add (pe_callB call_len_seq (by rfl) T.len (by decide +kernel) (pa_cons (pv 1) pa_nil)) pe_int) pa_nil))) pa_nil))) pa_nil)) (pg_name (i := 4) scFew.nd rfl (.inl rfl))
      (pss_one (ps_expr (pe_bm PySem.F.plainAttrs_list PySem.F.slot_list_append PySem.F.type_list_append mt_append (pv 3) (pa_cons (pe_bm PySem.F.plainAttrs_list PySem.F.slot_list_pop PySem.F.type_list_pop mt_popAt (pv 2) (pa_cons (pe_call GD (hr.mono (by decide)) rfl TD.gD FD.kp bD .nil pass0 (pa_cons (pv 0) (pa_cons (pe_callB call_len_seq (by rfl) T.len (by decide +kernel) (pa_cons (pv 2) pa_nil)) pa_nil))) pa_nil)) pa_nil)))))
      (pss_one (ps_ret (pv 3))))), ?_⟩
    have big : (1000 : Nat) ≤ sizeLine := by decide
    refine ⟨_, rfl, a, _, rfl, .inl (SqL.of ea), fun l hl => ⟨(by show 0 ≤ sizeLine; decide), fun f hf => ⟨_, _, rfl, ?_⟩⟩⟩
    have nlp : l ≠ p := pch_ne hP hl
    have hP1 := hP.same (H' := upd H l (.lst (cs.map fun c => V.ref c.1))) (.new hl)
    have nfp : f ≠ p := pch_ne hP1 hf
    have nfl : l ≠ f := ne_of_none upd_same hf
    have hf0 : H f = none := none_back (Grows.new hl) hf
    have gA : Grows H (upd (upd H l (.lst (cs.map fun c => V.ref c.1))) f (.lst [])) := (Grows.new hl).trans (Grows.new hf)
    refine ⟨_, rfl, _, rfl, a, _, rfl, .inl (SqL.of (gA _ _ ea)), _, _, rfl, rfl, _, _, rfl, p, _, _, rfl, hP.same gA, by omega, ?_, ?_, fun v H1 v0 v1 hP2 but1 => ?_⟩
    · rw [List.length_map]
      split <;> omega
    · rw [List.length_map]
      split <;> omega
    · rw [List.length_map] at v1
      have v1' : v ≤ cs.length ∧ v < 20 := by split at v1 <;> omega
      have gB : Gr p H H1 := gA.gr.trans (but_gr but1)
      have el : H1 l = some (.lst (cs.map fun c => V.ref c.1)) := by
        rw [but1 l nlp, upd_ne nfl]
        exact upd_same
      have ef : H1 f = some (.lst []) := by
        rw [but1 f nfp]
        exact upd_same
      refine ⟨v, rfl, by omega, by omega, for_range (lo := 0) (n := v.toNat) (fun i σ G => ∃ (ls fs : List (Addr × List Int)) (o4 : Option V), σ = [some (.ref p), some (.ref a), some (.ref l), some (.ref f), o4] ∧ Gr p H G ∧ Pch G p (m + 1 + i) ∧ G l = some (.lst (ls.map fun c => V.ref c.1)) ∧ G f = some (.lst (fs.map fun c => V.ref c.1)) ∧ (fs ++ ls).Perm cs ∧ fs.length = i)
        ⟨cs, [], none, rfl, gB, hP2.le (by omega), el, ef, .refl _, rfl⟩ (fun i σ G hi ⟨ls, fs, o4, e, g, hp, e1, e2, pm, len⟩ => ?_) fun σ G ⟨ls, fs, o4, e, g, hp, e1, e2, pm, len⟩ => ?_⟩
      · subst e
        have tot := pm.length_eq
        rw [List.length_append] at tot
        refine ⟨_, rfl, .inl ⟨rfl, _, SqL.of e2⟩, _, rfl, .inl ⟨rfl, _, SqL.of e1⟩, _, rfl, _, rfl, l, _, rfl, .inl (SqL.of e1), p, _, _, rfl, hp, by omega, ?_, ?_, fun u G2 u0 u1 hp2 but2 => ?_⟩
        · rw [List.length_map]
          omega
        · rw [List.length_map]
          omega
        · rw [List.length_map] at u1
          have ul : u.toNat < ls.length := by omega
          have e1' := (but2 l nlp).trans e1
          have e2' := (but2 f nfp).trans e2
          have at_u : (ls.map fun c => V.ref c.1)[u.toNat]? = some (V.ref ls[u.toNat].1) := by
            rw [List.getElem?_map, List.getElem?_eq_getElem ul]
            rfl
          refine ⟨l, _, u, u.toNat, _, rfl, rfl, e1', by omega, by omega, ?_, at_u, f, _, _, rfl, rfl, (upd_ne nfl.symm).trans e2', ?_, ls.eraseIdx u.toNat, fs ++ [ls[u.toNat]], _, rfl, ?_, ?_, ?_, ?_, pop_perm pm (List.getElem?_eq_getElem ul), ?_⟩
          · rw [List.length_map]
            exact seq_in u0 u1
          · rw [List.length_map]
            omega
          · exact gr_own (gr_own (g.trans (but_gr but2)) hl _) hf0 _
          · exact ((hp2.off nlp _).off nfp _).le (by omega)
          · rw [upd_ne nfl, upd_same, erase_map]
          · rw [upd_same, List.map_append]
            rfl
          · rw [List.length_append, len]
            rfl
      · subst e
        exact ⟨_, rfl, k f fs ls G pm (hp.le (by omega)) g hf0 e2⟩
theorem ok_lot {f fD : Addr} {fd fdD : FuncData} (F : Fun K "_law_lot" "_law_lot" sLot f fd) (T : TxtP mg) (TD : TxtD mg fD) (FD : Fun K "_law_dip" "_law_dip" sDip fD fdD) (bD : Binds K fdD ["pouch", "wide"] []) : FnOk P w K mg base CX0 2 f fd ["pouch", "many"] spLot := by
  have GD : FnOk P w K mg base CX0 1 fD fdD ["pouch", "wide"] spDip := ok_dip FD TD.toTxt0
  refine F.ok scLot (fun vs H Q E h => ?_) (fun cdv A outer s H vs Q E hr h => ?_)
  · obtain ⟨p, n, m, rfl, _⟩ := h
    rfl
  · obtain ⟨p, mn, m, rfl, hP, hm, hmn, hmx, kq⟩ := h
    refine ⟨_, (pss_cons (ps_setLc (i := 2) (own := [("fresh", 3)]) (g := gName 3)  rfl scLot.nd rfl rfl (sw_true rfl rfl rfl (by decide +kernel)) (pi_range1 (by rfl) T.range (pa_cons (pv 1) pa_nil)) (blkOk_by (own := [("fresh", 3)]) (N := ["pouch", "many", "found", "fresh", "left", "turn"]) (sc := defScope sLot) (by decide +kernel)) (fun _ _ _ _ _ => pg_name (i := 3) scLot.nd rfl (Or.inl rfl)) (fun _ _ _ _ _ => (pts_one (pt_cmpR op_eq (pe_call GD (hr.mono (by decide)) rfl TD.gD FD.kp bD .nil pass0 (pa_cons (pv 0) (pa_cons pe_int pa_nil))) pe_int (nomark _)))) (fun _ _ _ _ _ => (pv 3)))
      (pss_cons (ps_if (pt_cmpR op_gt (pe_callB call_len_seq (by rfl) T.len (by decide +kernel) (pa_cons (pv 2) pa_nil)) pe_int (nomark _)) (pss_one (ps_ret (pv 2))) pss_nil)
      (pss_cons (ps_set (i := 4) scLot.nd rfl (.inr rfl) (pe_listRg rfl (by rfl) T.list (prg_1 (by rfl) T.range (pv 1))))
      (pss_one (ps_ret (pe_callB (call_sortedInts hr.units) (by rfl) T.sorted (by decide +kernel) (pa_cons (pe_lc (te := tBM K "list" rPopAt (tVar 4) (tCons _ tNil)) (own := [("turn", 5)]) (g := gName 5) (tt := tYes) rfl scLot.nd (pi_range1 (by rfl) T.range (pa_cons pe_int pa_nil)) (blkOk_by (own := [("turn", 5)]) (N := ["pouch", "many", "found", "fresh", "left", "turn"]) (sc := defScope sLot) (by decide +kernel)) (fun _ _ _ _ _ => pg_name (i := 5) scLot.nd rfl (Or.inl rfl)) (fun _ _ _ _ _ => pts_nil) (fun _ _ _ _ _ => (pe_bm PySem.F.plainAttrs_list PySem.F.slot_list_pop PySem.F.type_list_pop mt_popAt (pv 4) (pa_cons (pe_call GD (hr.mono (by decide)) rfl TD.gD FD.kp bD .nil pass0 (pa_cons (pv 0) (pa_cons (pe_callB (id := "len") (r := rLenS K) (by exact call_lenK) (by rfl) T.len (by decide +kernel) (pa_cons (pv 4) pa_nil)) pa_nil))) pa_nil)))) pa_nil))))))), ?_⟩
    refine ⟨_, rfl, mn, rfl, by omega, by omega, fun D hD => lc_range (lo := 0) (n := mn.toNat) (fun i H' => ∃ acc : List Int, Gr p H H' ∧ Pch H' p (m + i) ∧ H' D = some (.lst (acc.map V.int)) ∧ acc.Pairwise (· < ·) ∧ (∀ x ∈ acc, 0 ≤ x ∧ x < i) ∧ acc.length ≤ i) ⟨[], Gr.new hD, (hP.same (.new hD)).le (by omega), upd_same, .nil, (fun _ h => nomatch h), Nat.le_refl _⟩ (fun i H' hi ⟨acc, gr, hp, eD, up, rng, len⟩ => ?_) fun H1 ⟨acc, gr, hp, eD, up, rng, len⟩ => ?_⟩
    · have nDp : D ≠ p := pch_ne hP hD
      refine ⟨rfl, _, rfl, p, 2, _, rfl, hp, by omega, by decide, by decide, fun v H2 v0 v1 hp2 but => ⟨rfl, _, rfl, ?_⟩⟩
      have eD2 := but_at but eD nDp
      refine ite2 (fun e => ?_) (fun e => ?_)
      · refine ⟨_, rfl, _, eD2, ?_, acc ++ [0 + (i : Int)], gr_own (gr.trans (but_gr but)) hD _, (hp2.off nDp _).le (by omega), by rw [upd_same, List.map_append]; rfl, ?_, fun x hx => ?_, by rw [List.length_append]; exact Nat.succ_le_succ len⟩
        · rw [List.length_map]
          exact small1000 (by omega)
        · refine List.pairwise_append.mpr ⟨up, List.pairwise_singleton _ _, fun a ha b hb => ?_⟩
          rw [List.mem_singleton.mp hb]
          have := (rng a ha).2
          omega
        · rcases List.mem_append.mp hx with h | h
          · have := rng x h
            omega
          · rw [List.mem_singleton.mp h]
            omega
      · exact ⟨acc, gr.trans (but_gr but), hp2.le (by omega), eD2, up, fun x hx => by have := rng x hx; omega, Nat.le_succ_of_le len⟩
    · have nDp : D ≠ p := pch_ne hP hD
      refine ⟨_, rfl, D, _, rfl, .inl (SqL.of eD), _, _, rfl, rfl, _, rfl, ?_⟩
      rw [List.length_map]
      refine ite2 (fun e => ?_) (fun e => ?_)
      · have two := of_decide_eq_true e
        exact ⟨_, rfl, kq D acc H1 ⟨up, fun x hx => by have := rng x hx; omega, by omega⟩ (hp.le (by omega)) gr hD eD⟩
      · refine ⟨_, rfl, mn, rfl, .of_le (by decide) (by omega) (by decide) (by omega), fun q1 hq1 => ?_⟩
        have n1p := pch_ne hp hq1
        have hq0 : H q1 = none := gr_none gr hq1 n1p
        have hp1 := hp.same (.new hq1 (o := .lst (rgV 0 mn)))
        have g1 : Gr p H (upd H1 q1 (.lst (rgV 0 mn))) := gr.trans (.new hq1)
        have e1 : (upd H1 q1 (.lst (rgV 0 mn))) q1 = some (.lst ((K11.rng mn).map V.int)) := by
          rw [upd_same, rg_ints]
          rfl
        generalize upd H1 q1 (.lst (rgV 0 mn)) = G1 at hp1 g1 e1
        refine ⟨2, rfl, by decide, by decide, fun D2 hD2 => lc_range (lo := 0) (n := 2) (fun i G => ∃ acc ls : List Int, Gr p H G ∧ Pch G p (m + 20 + i) ∧ G D2 = some (.lst (acc.map V.int)) ∧ G q1 = some (.lst (ls.map V.int)) ∧ (acc ++ ls).Perm (K11.rng mn) ∧ acc.length = i)
          ⟨[], K11.rng mn, g1.trans (.new hD2), (hp1.same (.new hD2)).le (by omega), upd_same, (Grows.new hD2) _ _ e1, .refl _, rfl⟩ (fun i G hi ⟨acc, ls, g, hp2, e2, e3, pm, len⟩ => ?_) fun G ⟨acc, ls, g, hp2, e2, e3, pm, len⟩ => ?_⟩
        · have n2p : D2 ≠ p := pch_ne hp1 hD2
          have hD0 : H D2 = none := gr_none g1 hD2 n2p
          have n12 : q1 ≠ D2 := ne_of_none e1 hD2
          have tot := pm.length_eq
          rw [List.length_append] at tot
          have rl := rng_len (n := mn) (by omega)
          refine ⟨rfl, _, rfl, .inl ⟨rfl, _, SqL.of e3⟩, _, rfl, _, rfl, q1, _, rfl, .inl (SqL.of e3), p, _, _, rfl, hp2, by omega, ?_, ?_, fun u G2 u0 u1 hp3 but2 => ?_⟩
          · rw [List.length_map]
            omega
          · rw [List.length_map]
            omega
          · rw [List.length_map] at u1
            have ul : u.toNat < ls.length := by omega
            have e2' := (but2 D2 n2p).trans e2
            have e3' := (but2 q1 n1p).trans e3
            have at_u : (ls.map V.int)[u.toNat]? = some (V.int ls[u.toNat]) := by
              rw [List.getElem?_map, List.getElem?_eq_getElem ul]
              rfl
            refine ⟨q1, _, u, u.toNat, _, rfl, rfl, e3', by omega, by omega, ?_, at_u, _, (upd_ne n12.symm).trans e2', ?_, acc ++ [ls[u.toNat]], ls.eraseIdx u.toNat, ?_, ?_, ?_, ?_, pop_perm pm (List.getElem?_eq_getElem ul), ?_⟩
            · rw [List.length_map]
              exact seq_in u0 u1
            · rw [List.length_map]
              exact small1000 (by omega)
            · exact gr_own (gr_own (g.trans (but_gr but2)) hq0 _) hD0 _
            · exact ((hp3.off n1p _).off n2p _).le (by omega)
            · rw [upd_same, List.map_append]
              rfl
            · rw [upd_ne n12, upd_same, erase_map]
            · rw [List.length_append, len]
              rfl
        · have n2p : D2 ≠ p := pch_ne hp1 hD2
          refine ⟨D2, acc, rfl, SqL.of e2, fun q hq => ?_⟩
          have nqp : q ≠ p := pch_ne hp2 hq
          have nd : (acc ++ ls).Nodup := pm.nodup_iff.mpr (nd_up (rg_up _))
          have ndm : (acc.mergeSort intLe).Nodup := (List.mergeSort_perm acc intLe).nodup_iff.mpr (List.nodup_append.mp nd).1
          have srt : (acc.mergeSort intLe).Pairwise (· ≤ ·) := by
            exact ints_le acc
          refine kq q (acc.mergeSort intLe) _ ⟨?_, fun x hx => ?_, ?_⟩ ((hp2.same (.new hq)).le (by omega)) (g.trans (.new hq)) (gr_none g hq nqp) upd_same
          · exact (srt.and ndm).imp fun ⟨h1, h2⟩ => by omega
          · have mx : x ∈ K11.rng mn := pm.mem_iff.mp (List.mem_append_left _ (List.mem_mergeSort.mp hx))
            have := rg_in _ x mx
            omega
          · rw [List.length_mergeSort, len]
            decide
end
end K11

namespace K11
open PySem PySem.Spec PyProof.Rows L2 SortR LcM
abbrev sMrk : Stmt := top 68
abbrev sAny2 : Stmt := top 71
abbrev sRai : Stmt := top 70
abbrev sRight : Stmt := top 72
structure TxtW (mg : Str → Option Value) : Prop extends TxtP mg, Txt0 mg where
  repr : mg "repr" = none
/-- all defs that the law reaches, where they stand -/
structure LawF (K : PySem.W.Frag) (mg : Str → Option Value) where
  Z : ProgF K mg
  Y : TolF K mg
  T : TxtW mg
  (fPouch fDip fItems fFolk fPut fNest fLots fFew fLot fCrL fCrd fMrk fAny fRai fRight : Addr)
  (dPouch dDip dItems dFolk dPut dNest dLots dFew dLot dCrL dCrd dMrk dAny dRai dRight : FuncData)
  FPouch : Fun K "_law_pouch" "_law_pouch" sPouch fPouch dPouch
  FDip : Fun K "_law_dip" "_law_dip" sDip fDip dDip
  FItems : Fun K "_law_items" "_law_items" sItems fItems dItems
  FFolk : Fun K "_law_folk" "_law_folk" sFolk fFolk dFolk
  FPut : Fun K "_law_put" "_law_put" sPut fPut dPut
  FNest : Fun K "_law_nest" "_law_nest" sNest fNest dNest
  FLots : Fun K "_law_lots" "_law_lots" sLots fLots dLots
  FFew : Fun K "_law_few" "_law_few" sFew fFew dFew
  FLot : Fun K "_law_lot" "_law_lot" sLot fLot dLot
  FCrL : Fun K "_law_cross" "_law_cross" sCrL fCrL dCrL
  FCrd : Fun K "_law_crossed" "_law_crossed" sCrd fCrd dCrd
  FMrk : Fun K "_law_marked" "_law_marked" sMrk fMrk dMrk
  FAny : Fun K "_law_any_marked" "_law_any_marked" sAny2 fAny dAny
  FRai : Fun K "_law_raised" "_law_raised" sRai fRai dRai
  FRight : Fun K "_law_right" "_law_right" sRight fRight dRight
  gPouch : mg "_law_pouch" = some (.ref fPouch)
  gDip : mg "_law_dip" = some (.ref fDip)
  gItems : mg "_law_items" = some (.ref fItems)
  gFolk : mg "_law_folk" = some (.ref fFolk)
  gPut : mg "_law_put" = some (.ref fPut)
  gNest : mg "_law_nest" = some (.ref fNest)
  gLots : mg "_law_lots" = some (.ref fLots)
  gFew : mg "_law_few" = some (.ref fFew)
  gLot : mg "_law_lot" = some (.ref fLot)
  gCrL : mg "_law_cross" = some (.ref fCrL)
  gCrd : mg "_law_crossed" = some (.ref fCrd)
  gMrk : mg "_law_marked" = some (.ref fMrk)
  gAny : mg "_law_any_marked" = some (.ref fAny)
  gRai : mg "_law_raised" = some (.ref fRai)
  gRight : mg "_law_right" = some (.ref fRight)
  bPouch : Binds K dPouch ["script", "at"] []
  bDip : Binds K dDip ["pouch", "wide"] []
  bItems : Binds K dItems ["pouch", "many"] []
  bFolk : Binds K dFolk ["nest"] []
  bPut : Binds K dPut ["nest", "item", "fresh"] []
  bNest : Binds K dNest ["items"] []
  bLots : Binds K dLots ["nest"] []
  bFew : Binds K dFew ["pouch", "lots"] []
  bLot : Binds K dLot ["pouch", "many"] []
  bCrL : Binds K dCrL ["lot", "rest"] []
  bCrd : Binds K dCrd ["marked"] []
  bMrk : Binds K dMrk ["pouch", "many"] []
  bAny : Binds K dAny ["pouch", "many"] []
  bRai : Binds K dRai ["way", "many", "marked", "lots"] []
  bRight : Binds K dRight ["pouch", "many"] []
  kbCros : KBinds K Y.dCros ["persons", "told"] ["told", "persons"] (fun us ws => us ++ ws.reverse) (fun vs zs => vs ++ zs.reverse)
section
variable {P : Program} {w : World} {K : PySem.W.Frag} {mg : Str → Option Value} {base : Heap}
theorem LawF.TD (W : LawF K mg) : TxtD mg W.fDip := ⟨W.T.toTxt0, W.gDip⟩
theorem LawF.pouch (W : LawF K mg) : FnOk P w K mg base CX0 1 W.fPouch W.dPouch ["script", "at"] (spPouch K) := ok_pouch W.FPouch W.T.toTxt0
theorem LawF.dip (W : LawF K mg) : FnOk P w K mg base CX0 1 W.fDip W.dDip ["pouch", "wide"] spDip := ok_dip W.FDip W.T.toTxt0
theorem LawF.items (W : LawF K mg) : FnOk P w K mg base CX0 2 W.fItems W.dItems ["pouch", "many"] spItems := ok_items W.FItems W.TD W.FDip W.bDip
theorem LawF.nest (W : LawF K mg) : FnOk P w K mg base CX0 23 W.fNest W.dNest ["items"] (spNest K) := ok_nest W.FNest W.T.toTxtP W.gPut W.FPut W.bPut (ok_put W.FPut W.T.toTxtP W.T.toTxt0 W.gPut W.bPut W.FFolk W.gFolk W.bFolk 19)
theorem LawF.lots (W : LawF K mg) : FnOk P w K mg base CX0 22 W.fLots W.dLots ["nest"] (spLots K 19) := ok_lots W.FLots W.T.toTxtP W.gLots W.bLots W.FFolk W.gFolk W.bFolk 19
theorem LawF.few (W : LawF K mg) : FnOk P w K mg base CX0 2 W.fFew W.dFew ["pouch", "lots"] spFew := ok_few W.FFew W.T.toTxtP W.TD W.FDip W.bDip
theorem LawF.lot (W : LawF K mg) : FnOk P w K mg base CX0 2 W.fLot W.dLot ["pouch", "many"] spLot := ok_lot W.FLot W.T.toTxtP W.TD W.FDip W.bDip
theorem LawF.crd (W : LawF K mg) : FnOk P w K mg base CX0 2 W.fCrd W.dCrd ["marked"] (spCrd K) := ok_crd W.FCrd W.T.toTxtP W.T.toTxt0 W.FCrL W.gCrL W.bCrL
end
/-! ### marked groups -/
structure Mkd (n : Int) (p : Addr) (H G : Hp) (f : Addr) (fs : List (Addr × List Int)) : Prop where
  top : G f = some (.lst (fs.map fun c => V.ref c.1))
  each : ∀ c ∈ fs, G c.1 = some (.lst (c.2.map V.int)) ∧ c.1 ≠ p ∧ H c.1 = none
  rows : Rows n (fs.map (·.2))
  len : fs.length ≤ 19
  nf : f ≠ p
  nH : H f = none
theorem Mkd.row {n : Int} {p f : Addr} {H G : Hp} {fs : List (Addr × List Int)} (k : Mkd n p H G f fs) {c : Addr × List Int} (h : c ∈ fs) : Row n c.2 := k.rows.each _ (List.mem_map.mpr ⟨c, h, rfl⟩)
theorem Mkd.lw {n : Int} {p f : Addr} {H G : Hp} {fs : List (Addr × List Int)} (k : Mkd n p H G f fs) : Lw G f fs := ⟨k.top, fun c h => (k.each c h).1⟩
theorem Mkd.gr {n : Int} {p f : Addr} {H G G' : Hp} {fs : List (Addr × List Int)} (k : Mkd n p H G f fs) (g : Gr p G G') : Mkd n p H G' f fs :=
  ⟨g _ _ k.nf k.top, fun c h => ⟨g _ _ (k.each c h).2.1 (k.each c h).1, (k.each c h).2⟩, k.rows, k.len, k.nf, k.nH⟩
theorem Mkd.back {n : Int} {p f : Addr} {H0 H G : Hp} {fs : List (Addr × List Int)} (k : Mkd n p H G f fs) (g : Gr p H0 H) : Mkd n p H0 G f fs :=
  ⟨k.top, fun c h => ⟨(k.each c h).1, (k.each c h).2.1, gr_none g (k.each c h).2.2 (k.each c h).2.1⟩, k.rows, k.len, k.nf, gr_none g k.nH k.nf⟩
theorem ins_perm {α : Type} (l : List α) (i : Nat) (x : α) : (l.take i ++ [x] ++ l.drop i).Perm (x :: l) := by
  have h : (l.take i ++ ([x] ++ l.drop i)).Perm ([x] ++ (l.take i ++ l.drop i)) := by
    rw [← List.append_assoc, ← List.append_assoc]
    exact (List.perm_append_comm).append_right _
  rw [List.take_append_drop] at h
  rw [List.append_assoc]
  exact h
theorem row_ne {n : Int} {r : List Int} (h : Row n r) : r ≠ [] := fun z => by
  have := h.two
  rw [z] at this
  exact absurd this (by decide)
theorem Mkd.ins {n : Int} {p f q : Addr} {H G : Hp} {fs : List (Addr × List Int)} {r : List Int} (k : Mkd n p H G f fs) (i : Nat) (hr : Row n r) (nr : r ∉ fs.map (·.2)) (eq : G q = some (.lst (r.map V.int))) (nq : q ≠ p) (hq : H q = none) (l : fs.length < 19) :
    Mkd n p H (upd G f (.lst ((fs.map fun c => V.ref c.1).take i ++ [V.ref q] ++ (fs.map fun c => V.ref c.1).drop i))) f (fs.take i ++ [(q, r)] ++ fs.drop i) := by
  have pm := ins_perm fs i (q, r)
  have nfq : ∀ c : Addr × List Int, Row n c.2 → G c.1 = some (.lst (c.2.map V.int)) → c.1 ≠ f := fun c h e => unlike (xs := fs.map (·.1)) (row_ne h) e (by rw [k.top, List.map_map]; rfl)
  refine ⟨?_, fun c hc => ?_, ⟨fun s hs => ?_, ?_⟩, by rw [pm.length_eq]; exact l, k.nf, k.nH⟩
  · rw [upd_same, List.map_append, List.map_append, List.map_take, List.map_drop]
    rfl
  · rcases List.mem_cons.mp (pm.mem_iff.mp hc) with z | z
    · rw [z]
      refine ⟨?_, nq, hq⟩
      rw [upd_ne (nfq (q, r) hr eq)]
      exact eq
    · obtain ⟨z1, z2⟩ := k.each c z
      refine ⟨?_, z2⟩
      rw [upd_ne (nfq c (k.row z) z1)]
      exact z1
  · obtain ⟨c, hc, rfl⟩ := List.mem_map.mp hs
    rcases List.mem_cons.mp (pm.mem_iff.mp hc) with z | z
    · rw [z]
      exact hr
    · exact k.row z
  · have pm2 := pm.map (·.2)
    rw [pm2.nodup_iff, List.map_cons]
    exact List.nodup_cons.mpr ⟨nr, k.rows.nd⟩
theorem any_rows (ns : List Int) : ∀ rs : List (List Int), ((rs.map fun r => PyData.list (r.map .int)).any fun z => PyData.eqv z (.list (ns.map .int))) = decide (ns ∈ rs)
  | [] => (decide_eq_false fun z => nomatch z).symm
  | r :: rs => by
    rw [List.map_cons, List.any_cons, any_rows ns rs, eqv_ints]
    by_cases h : r = ns
    · rw [decide_eq_true h, Bool.true_or, decide_eq_true (by rw [h]; exact List.mem_cons_self)]
    · rw [decide_eq_false h, Bool.false_or]
      by_cases m : ns ∈ rs
      · rw [decide_eq_true m, decide_eq_true (List.mem_cons_of_mem _ m)]
      · rw [decide_eq_false m, decide_eq_false fun z => (List.mem_cons.mp z).elim (fun q => h q.symm) m]
theorem lots_rows {t : Nest} {n : Nat} (f : t.Full n) : Rows (n : Int) t.lots := ⟨fun r hr => by
  obtain ⟨a, b, c⟩ := Nest.lot_ok t f.nodup r hr
  exact ⟨c, fun x hx => f.rng x (a x hx), b⟩, Nest.lots_nodup t f.nodup⟩
theorem Rows.sub {n : Int} {rs qs : List (List Int)} (h : Rows n rs) (l : qs.length ≤ rs.length) (pm : ∃ os, (qs ++ os).Perm rs) : Rows n qs := by
  obtain ⟨os, pm⟩ := pm
  exact ⟨fun r hr => h.each r (pm.mem_iff.mp (List.mem_append_left _ hr)), (List.nodup_append.mp (pm.nodup_iff.mpr h.nd)).1⟩
def spMrk : Sp := fun vs H Q _ => ∃ (p : Addr) (n m : Int), vs = [.ref p, .int n] ∧ Pch H p m ∧ m < 2 ^ 49 ∧ 2 ≤ n ∧ n ≤ 20 ∧
  ∀ (f : Addr) (fs : List (Addr × List Int)) (H' : Hp), Mkd n p H H' f fs → Pch H' p (m + 500) → Gr p H H' → Q (.ref f) H'
def spAnyM : Sp := fun vs H Q _ => ∃ (p : Addr) (n m : Int), vs = [.ref p, .int n] ∧ Pch H p m ∧ m < 2 ^ 48 ∧ 2 ≤ n ∧ n ≤ 20 ∧
  ∀ (f : Addr) (fs : List (Addr × List Int)) (H' : Hp), Mkd n p H H' f fs → Pch H' p (m + 2000) → Gr p H H' → Q (.ref f) H'
section
variable {P : Program} {w : World} {K : PySem.W.Frag} {mg : Str → Option Value} {base : Heap}
theorem scMrk : FnScope ["pouch", "many", "found", "turn", "lot"] ["pouch", "many"] (defScope sMrk) := ⟨rfl, rfl, rfl, by decide +kernel, rfl, by decide +kernel, by decide +kernel⟩
theorem scAny2 : FnScope ["pouch", "many", "found", "turn", "lot"] ["pouch", "many"] (defScope sAny2) := ⟨rfl, rfl, rfl, by decide +kernel, rfl, by decide +kernel, by decide +kernel⟩
theorem ok_mrk (W : LawF K mg) : FnOk P w K mg base CX0 24 W.fMrk W.dMrk ["pouch", "many"] spMrk := by
  have GD : FnOk P w K mg base CX0 1 W.fDip W.dDip ["pouch", "wide"] spDip := W.dip
  have GItems : FnOk P w K mg base CX0 2 W.fItems W.dItems ["pouch", "many"] spItems := W.items
  have GNest : FnOk P w K mg base CX0 23 W.fNest W.dNest ["items"] (spNest K) := W.nest
  have GLots : FnOk P w K mg base CX0 22 W.fLots W.dLots ["nest"] (spLots K 19) := W.lots
  have GFew : FnOk P w K mg base CX0 2 W.fFew W.dFew ["pouch", "lots"] spFew := W.few
  have GLot : FnOk P w K mg base CX0 2 W.fLot W.dLot ["pouch", "many"] spLot := W.lot
  refine W.FMrk.ok scMrk (fun vs H Q E h => ?_) (fun cdv A outer s H vs Q E hr h => ?_)
  · obtain ⟨p, n, m, rfl, _⟩ := h
    rfl
  · obtain ⟨p, n, m, rfl, hP, hm, n2, n20, k⟩ := h
    refine ⟨_, (pss_cons (ps_set (i := 2) scMrk.nd rfl (.inl rfl) (pe_call GFew (hr.mono (by decide)) rfl W.gFew W.FFew.kp W.bFew .nil pass0 (pa_cons (pv 0) (pa_cons (pe_call GLots (hr.mono (by decide)) rfl W.gLots W.FLots.kp W.bLots .nil pass0 (pa_cons (pe_call GNest (hr.mono (by decide)) rfl W.gNest W.FNest.kp W.bNest .nil pass0 (pa_cons (pe_call GItems (hr.mono (by decide)) rfl W.gItems W.FItems.kp W.bItems .nil pass0 (pa_cons (pv 0) (pa_cons (pv 1) pa_nil))) pa_nil)) pa_nil)) pa_nil))))
      (pss_cons (ps_for PassesOwn.never rfl (pi_range1 (by rfl) W.T.range (pa_cons (pe_op op_mul (pe_ix (r := rIxL K) ix_list (pe_lst (pa_cons pe_int (pa_cons pe_int (pa_cons pe_int (pa_cons pe_int pa_nil))))) (pe_call GD (hr.mono (by decide)) rfl W.gDip W.FDip.kp W.bDip .nil pass0 (pa_cons (pv 0) (pa_cons pe_int pa_nil))) (fun _ _ => rfl)) (pe_callTy call_int1 (by rfl) W.T.int (by decide +kernel) (pa_cons (pe_cmpR op_gt (pv 1) pe_int (nomark _)) pa_nil))) pa_nil)) (pg_name (i := 3) scMrk.nd rfl (.inl rfl))
      (pss_cons (ps_set (i := 4) scMrk.nd rfl (.inl rfl) (pe_call GLot (hr.mono (by decide)) rfl W.gLot W.FLot.kp W.bLot .nil pass0 (pa_cons (pv 0) (pa_cons (pv 1) pa_nil))))
      (pss_one (ps_if (PW.pt (pw_and (pt_cmpR (r := rNotInD K) (by exact op_notInD (units65 hr)) (pv 4) (pv 2) (by rfl)) (pw_and1 (pt_cmpR op_lt (pe_callB call_len_seq (by rfl) W.T.len (by decide +kernel) (pa_cons (pv 2) pa_nil)) pe_int (nomark _))))) (pss_one (ps_expr (pe_bm PySem.F.plainAttrs_list PySem.F.slot_list_insert PySem.F.type_list_insert mt_insert (pv 2) (pa_cons (pe_call GD (hr.mono (by decide)) rfl W.gDip W.FDip.kp W.bDip .nil pass0 (pa_cons (pv 0) (pa_cons (pe_op op_add (pe_callB call_len_seq (by rfl) W.T.len (by decide +kernel) (pa_cons (pv 2) pa_nil)) pe_int) pa_nil))) (pa_cons (pv 4) pa_nil))))) pss_nil))))
      (pss_one (ps_ret (pv 2))))), ?_⟩
    have big : (1000 : Nat) ≤ sizeLine := by decide
    refine ⟨_, rfl, _, rfl, _, rfl, p, n, m, rfl, hP, by omega, by omega, n20, fun l xs H1 xl hb hP1 g1 nl el => ⟨l, xs, rfl, SqL.of el, by omega, fun y H2 s2 nv => ?_⟩⟩
    have nlp : l ≠ p := fun z => by rw [z] at nl; exact pch_ne hP nl rfl
    have ht := nestN_ht xs xs.length
    have full := (nestN_full xs hb xs.length (Nat.le_refl _)).1
    have sz := full.size
    have en : ((xs.length + 1 : Nat) : Int) = n := by omega
    refine ⟨y, _, rfl, nv, by omega, by omega, fun a cs H3 ec s3 na nw nac ea => ?_⟩
    have hP2 := hP1.same (s2.trans s3)
    have lots_len := (nestN xs xs.length).lots_len
    have csl : cs.length + 1 = xs.length + 1 := by
      rw [← List.length_map (f := (·.2)) (as := cs), ec]
      omega
    have nap : a ≠ p := pch_ne (hP1.same s2) na
    have rws : Rows n (cs.map (·.2)) := by
      rw [ec, ← en]
      exact lots_rows full
    refine ⟨p, a, _, cs, rfl, hP2, by omega, nap, ea, by omega, fun f fs ls H4 pm hP4 g4 nf ef => ?_⟩
    have pl := pm.length_eq
    rw [List.length_append] at pl
    have g03 : Gr p H H3 := g1.trans (s2.trans s3).gr
    have K4 : Mkd n p H H4 f fs := by
      refine ⟨ef, fun c hc => ?_, rws.sub (by rw [List.length_map, List.length_map]; omega) ⟨ls.map (·.2), by rw [← List.map_append]; exact pm.map _⟩, by omega, fun z => ?_, ?_⟩
      · have cm := pm.mem_iff.mp (List.mem_append_left _ hc)
        have c2 := nw.new c cm
        have cp : c.1 ≠ p := pch_ne (hP1.same s2) c2
        exact ⟨g4 _ _ cp (nw.lists c cm), cp, gr_none (g1.trans s2.gr) c2 cp⟩
      · rw [z] at nf
        exact pch_ne hP2 nf rfl
      · exact gr_none g03 nf fun z => by rw [z] at nf; exact pch_ne hP2 nf rfl
    have g04 := g03.trans g4
    refine ⟨(by show 4 ≤ sizeLine; decide), fun q hq => ⟨_, rfl, p, 4, _, rfl, hP4.same (.new hq), by omega, by decide, by decide, fun v H5 v0 v1 hP5 but5 => ?_⟩⟩
    have nqp := pch_ne hP4 hq
    obtain ⟨z, hz, ez⟩ := at_in (xs := [V.int 0, V.int 0, V.int 1, V.int 2]) v0 v1
    have g5 : Gr p H4 H5 := (Gr.new hq).trans (but_gr but5)
    have pk : ∃ t : Int, z = .int t ∧ 0 ≤ t ∧ t ≤ 2 := by
      simp only [List.mem_cons, List.not_mem_nil, or_false] at hz
      rcases hz with rfl | rfl | rfl | rfl <;> exact ⟨_, rfl, by decide, by decide⟩
    obtain ⟨t, rfl, t0, t2⟩ := pk
    refine ⟨q, _, v, _, rfl, rfl, SqL.of (but_at but5 upd_same nqp), ez, _, rfl, _, _, rfl, rfl, .inr ⟨_, rfl, _, _, rfl, rfl, .inl ⟨by omega, by omega⟩, ?_⟩⟩
    rw [decide_eq_true (show n > 1 by omega), if_pos rfl]
    refine ⟨t * 1, rfl, by omega, by omega, for_range (lo := 0) (n := Int.toNat (t * 1)) (fun i σ G => ∃ (fs : List (Addr × List Int)) (o3 o4 : Option V), σ = [some (.ref p), some (.int n), some (.ref f), o3, o4] ∧ Mkd n p H G f fs ∧ Gr p H G ∧ Pch G p (m + 150 + 100 * i))
      ⟨fs, none, none, rfl, K4.gr g5, g04.trans g5, hP5.le (by omega)⟩ (fun i σ G hi ⟨fs, o3, o4, e, kk, g, hp⟩ => ?_) fun σ G ⟨fs, o3, o4, e, kk, g, hp⟩ => ?_⟩
    · subst e
      refine ⟨_, rfl, _, rfl, p, n, _, rfl, hp, by omega, n2, n20, fun u r G1 hr' hp1 gl nu eu => ?_⟩
      have nup : u ≠ p := fun z => by rw [z] at nu; exact pch_ne hp nu rfl
      have k1 := kk.gr gl
      have gg := g.trans gl
      refine ⟨_, rfl, _, rfl, .list (r.map .int), (fs.map (·.2)).map fun r => .list (r.map .int), .lst (SqL.of eu) (ints_dp _), .lst (SqL.of k1.top) (rows_data fun b hb => SqL.of (k1.each b hb).1), shaped_ints _, shaped_rows _, _, rfl, ?_⟩
      rw [any_rows]
      by_cases m1 : r ∈ fs.map (·.2)
      · rw [decide_eq_true m1]
        exact iteF ⟨fs, _, _, rfl, k1, gg, hp1.le (by omega)⟩
      · rw [decide_eq_false m1]
        refine iteT ⟨_, rfl, f, _, rfl, .inl (SqL.of k1.top), _, _, rfl, rfl, _, rfl, ?_⟩
        rw [List.length_map]
        refine ite2 (fun e => ?_) (fun e => ?_)
        · have l19 : fs.length < 19 := by
            have := of_decide_eq_true e
            omega
          refine ⟨_, rfl, .inl ⟨rfl, _, SqL.of k1.top⟩, _, rfl, _, rfl, f, _, rfl, .inl (SqL.of k1.top), _, _, rfl, rfl, p, _, _, rfl, hp1, by omega, ?_, ?_, fun x G2 x0 x1 hp2 but2 => ?_⟩
          · rw [List.length_map]
            omega
          · rw [List.length_map]
            omega
          · have k2 := k1.gr (but_gr but2)
            have eu2 := but_at but2 eu nup
            refine ⟨_, rfl, f, _, x, _, rfl, rfl, k2.top, ?_, x0, ?_, ?_⟩
            · rw [List.length_map]
              omega
            · rw [List.length_map] at x1
              omega
            · exact ⟨_, _, _, rfl, k2.ins x.toNat hr' m1 eu2 nup (gr_none g nu nup) l19, gr_own (gg.trans (but_gr but2)) kk.nH _, (hp2.off kk.nf _).le (by omega)⟩
        · exact ⟨fs, _, _, rfl, k1, gg, hp1.le (by omega)⟩
    · subst e
      exact ⟨_, rfl, k f fs G kk (hp.le (by omega)) g⟩
end
end K11

namespace K11
open PySem PySem.Spec PyProof.Rows L2 SortR LcM
theorem cut_take (xs : List V) {z : Int} (h : 0 ≤ z) : cutV xs none (some z) = xs.take z.toNat := by
  unfold cutV HT.sIx
  show List.take ((if z < 0 then (z + (xs.length : Nat)).toNat else min z.toNat xs.length) - 0) (List.drop 0 xs) = _
  rw [if_neg (by omega), List.drop_zero, Nat.sub_zero]
  rcases Nat.le_total z.toNat xs.length with l | l
  · rw [Nat.min_eq_left l]
  · rw [Nat.min_eq_right l, List.take_length, List.take_of_length_le l]
theorem Mkd.cut {n : Int} {p f q : Addr} {H G : Hp} {fs : List (Addr × List Int)} (k : Mkd n p H G f fs) (g : Gr p H G) (i : Nat) (nq : G q = none) (qp : q ≠ p) : Mkd n p H (upd G q (.lst ((fs.map fun c => V.ref c.1).take i))) q (fs.take i) := by
  refine ⟨?_, fun c hc => ?_, k.rows.sub ?_ ⟨(fs.drop i).map (·.2), ?_⟩, Nat.le_trans (by rw [List.length_take]; exact Nat.min_le_right _ _) k.len, qp, gr_none g nq qp⟩
  · rw [upd_same, List.map_take]
  · obtain ⟨c1, c2⟩ := k.each c (List.mem_of_mem_take hc)
    exact ⟨Grows.new nq _ _ c1, c2⟩
  · rw [List.length_map, List.length_map, List.length_take]
    exact Nat.min_le_right _ _
  · rw [← List.map_append, List.take_append_drop]
section
variable {P : Program} {w : World} {K : PySem.W.Frag} {mg : Str → Option Value} {base : Heap}
theorem ok_anyM (W : LawF K mg) : FnOk P w K mg base CX0 25 W.fAny W.dAny ["pouch", "many"] spAnyM := by
  have GD : FnOk P w K mg base CX0 1 W.fDip W.dDip ["pouch", "wide"] spDip := W.dip
  have GLot : FnOk P w K mg base CX0 2 W.fLot W.dLot ["pouch", "many"] spLot := W.lot
  have GMrk : FnOk P w K mg base CX0 24 W.fMrk W.dMrk ["pouch", "many"] spMrk := ok_mrk W
  refine W.FAny.ok scAny2 (fun vs H Q E h => ?_) (fun cdv A outer s H vs Q E hr h => ?_)
  · obtain ⟨p, n, m, rfl, _⟩ := h
    rfl
  · obtain ⟨p, n, m, rfl, hP, hm, n2, n20, k⟩ := h
    refine ⟨_, (pss_cons (ps_set (i := 2) scAny2.nd rfl (.inl rfl) (pe_slice sl_list (pe_call GMrk (hr.mono (by decide)) rfl W.gMrk W.FMrk.kp W.bMrk .nil pass0 (pa_cons (pv 0) (pa_cons (pv 1) pa_nil))) po_none (po_some (pe_ix (r := rIxL K) ix_list (pe_lst (pa_cons pe_int (pa_cons pe_int (pa_cons pe_int pa_nil)))) (pe_call GD (hr.mono (by decide)) rfl W.gDip W.FDip.kp W.bDip .nil pass0 (pa_cons (pv 0) (pa_cons pe_int pa_nil))) (fun _ _ => rfl)))))
      (pss_cons (ps_for PassesOwn.never rfl (pi_range1 (by rfl) W.T.range (pa_cons (pe_call GD (hr.mono (by decide)) rfl W.gDip W.FDip.kp W.bDip .nil pass0 (pa_cons (pv 0) (pa_cons pe_int pa_nil))) pa_nil)) (pg_name (i := 3) scAny2.nd rfl (.inl rfl))
      (pss_cons (ps_set (i := 4) scAny2.nd rfl (.inl rfl) (pe_call GLot (hr.mono (by decide)) rfl W.gLot W.FLot.kp W.bLot .nil pass0 (pa_cons (pv 0) (pa_cons (pv 1) pa_nil))))
      (pss_one (ps_if (PW.pt (pw_and (pt_cmpR (r := rNotInD K) (by exact op_notInD (units65 hr)) (pv 4) (pv 2) (by rfl)) (pw_and1 (pt_cmpR op_lt (pe_callB call_len_seq (by rfl) W.T.len (by decide +kernel) (pa_cons (pv 2) pa_nil)) pe_int (nomark _))))) (pss_one (ps_expr (pe_bm PySem.F.plainAttrs_list PySem.F.slot_list_insert PySem.F.type_list_insert mt_insert (pv 2) (pa_cons (pe_ix (r := rIxL K) ix_list (pe_lst (pa_cons (pe_callB call_len_seq (by rfl) W.T.len (by decide +kernel) (pa_cons (pv 2) pa_nil)) (pa_cons (pe_call GD (hr.mono (by decide)) rfl W.gDip W.FDip.kp W.bDip .nil pass0 (pa_cons (pv 0) (pa_cons (pe_op op_add (pe_callB call_len_seq (by rfl) W.T.len (by decide +kernel) (pa_cons (pv 2) pa_nil)) pe_int) pa_nil))) pa_nil))) (pe_call GD (hr.mono (by decide)) rfl W.gDip W.FDip.kp W.bDip .nil pass0 (pa_cons (pv 0) (pa_cons pe_int pa_nil))) (fun _ _ => rfl)) (pa_cons (pv 4) pa_nil))))) pss_nil))))
      (pss_one (ps_ret (pv 2))))), ?_⟩
    have big : (1000 : Nat) ≤ sizeLine := by decide
    refine ⟨_, rfl, _, rfl, p, n, m, rfl, hP, by omega, n2, n20, fun f0 fs0 H1 k0 hP1 g1 => ⟨(by show 3 ≤ sizeLine; decide), fun q hq => ⟨_, rfl, p, 3, _, rfl, hP1.same (.new hq), by omega, by decide, by decide, fun v H2 v0 v1 hP2 but2 => ?_⟩⟩⟩
    have nqp := pch_ne hP1 hq
    have g2 : Gr p H1 H2 := (Gr.new hq).trans (but_gr but2)
    obtain ⟨z, hz, ez⟩ := at_in (xs := [V.int 0, V.int 3, V.int 19]) v0 v1
    have pk : ∃ t : Int, z = .int t ∧ 0 ≤ t := by
      simp only [List.mem_cons, List.not_mem_nil, or_false] at hz
      rcases hz with rfl | rfl | rfl <;> exact ⟨_, rfl, by decide⟩
    obtain ⟨t, rfl, t0⟩ := pk
    have k2 := k0.gr g2
    refine ⟨q, _, v, _, rfl, rfl, SqL.of (but_at but2 upd_same nqp), ez, t, rfl, f0, _, rfl, SqL.of k2.top, fun f hf => ?_⟩
    rw [cut_take _ t0]
    have nfp := pch_ne hP2 hf
    have k3 := k2.cut (g1.trans g2) t.toNat hf nfp
    have g3 : Gr p H (upd H2 f (.lst ((fs0.map fun c => V.ref c.1).take t.toNat))) := (g1.trans g2).trans (.new hf)
    have hP3 := hP2.same (H' := upd H2 f (.lst ((fs0.map fun c => V.ref c.1).take t.toNat))) (.new hf)
    refine ⟨_, rfl, p, 8, _, rfl, hP3, by omega, by decide, by decide, fun v2 H4 v20 v21 hP4 but4 => ⟨v2, rfl, by omega, by omega, for_range (lo := 0) (n := v2.toNat) (fun i σ G => ∃ (fs : List (Addr × List Int)) (o3 o4 : Option V), σ = [some (.ref p), some (.int n), some (.ref f), o3, o4] ∧ Mkd n p H G f fs ∧ Gr p H G ∧ Pch G p (m + 510 + 100 * i))
      ⟨_, none, none, rfl, k3.gr (but_gr but4), g3.trans (but_gr but4), hP4.le (by omega)⟩ (fun i σ G hi ⟨fs, o3, o4, e, kk, g, hp⟩ => ?_) fun σ G ⟨fs, o3, o4, e, kk, g, hp⟩ => ?_⟩⟩
    · subst e
      refine ⟨_, rfl, _, rfl, p, n, _, rfl, hp, by omega, n2, n20, fun u r G1 hr' hp1 gl nu eu => ?_⟩
      have nup : u ≠ p := fun z => by rw [z] at nu; exact pch_ne hp nu rfl
      have k1 := kk.gr gl
      have gg := g.trans gl
      refine ⟨_, rfl, _, rfl, .list (r.map .int), (fs.map (·.2)).map fun r => .list (r.map .int), .lst (SqL.of eu) (ints_dp _), .lst (SqL.of k1.top) (rows_data fun b hb => SqL.of (k1.each b hb).1), shaped_ints _, shaped_rows _, _, rfl, ?_⟩
      rw [any_rows]
      by_cases m1 : r ∈ fs.map (·.2)
      · rw [decide_eq_true m1]
        exact iteF ⟨fs, _, _, rfl, k1, gg, hp1.le (by omega)⟩
      · rw [decide_eq_false m1]
        refine iteT ⟨_, rfl, f, _, rfl, .inl (SqL.of k1.top), _, _, rfl, rfl, _, rfl, ?_⟩
        rw [List.length_map]
        refine ite2 (fun e => ?_) (fun e => ?_)
        · have l19 : fs.length < 19 := by
            have := of_decide_eq_true e
            omega
          refine ⟨_, rfl, .inl ⟨rfl, _, SqL.of k1.top⟩, _, rfl, f, _, rfl, .inl (SqL.of k1.top), _, rfl, _, rfl, f, _, rfl, .inl (SqL.of k1.top), _, _, rfl, rfl, p, _, _, rfl, hp1, by omega, ?_, ?_, fun x G2 x0 x1 hp2 but3 => ?_⟩
          · rw [List.length_map]
            omega
          · rw [List.length_map]
            omega
          · rw [List.length_map] at x1
            refine ⟨(by show 2 ≤ sizeLine; decide), fun y hy => ⟨_, rfl, p, 2, _, rfl, hp2.same (.new hy), by omega, by decide, by decide, fun b G3 b0 b1 hp3 but5 => ?_⟩⟩
            have nyp := pch_ne hp2 hy
            obtain ⟨z6, hz6, ez6⟩ := at_in (xs := [V.int ((fs.map fun c => V.ref c.1).length : Nat), V.int x]) b0 b1
            have pk6 : ∃ t : Int, z6 = .int t ∧ 0 ≤ t ∧ t < 1000 := by
              simp only [List.mem_cons, List.not_mem_nil, or_false] at hz6
              rcases hz6 with rfl | rfl
              · exact ⟨_, rfl, by omega, by rw [List.length_map]; omega⟩
              · exact ⟨_, rfl, x0, by omega⟩
            obtain ⟨x6, rfl, x60, x61⟩ := pk6
            have g13 : Gr p G1 G3 := ((but_gr but3).trans (.new hy)).trans (but_gr but5)
            have k2 := k1.gr g13
            have eu2 := g13 _ _ nup eu
            refine ⟨y, _, b, _, rfl, rfl, SqL.of (but_at but5 upd_same nyp), ez6, _, rfl, f, _, x6, _, rfl, rfl, k2.top, ?_, x60, by omega, ?_⟩
            · rw [List.length_map]
              omega
            · exact ⟨_, _, _, rfl, k2.ins x6.toNat hr' m1 eu2 nup (gr_none g nu nup) l19, gr_own (gg.trans g13) kk.nH _, (hp3.off kk.nf _).le (by omega)⟩
        · exact ⟨fs, _, _, rfl, k1, gg, hp1.le (by omega)⟩
    · subst e
      exact ⟨_, rfl, k f fs G kk (hp.le (by omega)) g⟩
end
end K11

namespace K11
open PySem PySem.Spec PyProof.Rows L2 SortR LcM
abbrev wEq (k : Int) : TT := tTest (tOp rEq (tVar 0) (tC (.int k)))
abbrev tbR (K : PySem.W.Frag) (C : Addr) : WX → TS := fun W =>
  tIfS (wEq 0) (tDrop (tCallS (spUof K C) (WE W) (tCons (tVar 1) (tCons (tVar 2) (tCons (tLstRg (tRg1 (tVar 1))) tNil)))))
    (tIfS (wEq 1) (tDrop (tCallS (spGsh K C) (WE W) (tCons (tVar 1) (tCons (tVar 2) (tCons (tOp (rIxL K) (tVar 2) (tC (.int 0))) tNil)))))
      (tIfS (wEq 2) (tDrop (tCallS (spNth K C) (WE W) (tCons (tVar 1) (tCons (tVar 2) (tCons (tC (.int 0)) tNil)))))
        (tIfS (wEq 3) (tDrop (tCallS (spNth K C) (WE W) (tCons (tVar 1) (tCons (tVar 2) (tCons (tUn (rU fun i => .int (-i)) (tC (.int 1))) tNil)))))
          (tDrop (tCallS (spIdx K C) (WE W) (tCons (tVar 3) (tCons (tVar 2) tNil)))))))
abbrev tsR (C : Addr) : Addr → Value → Option Addr → TS := fun a cls d => tRet (tTup (tCons (tXf a cls d C "first" (tVar 4)) (tCons (tXf a cls d C "second" (tVar 4)) tNil)))
def spRai (K : PySem.W.Frag) : Sp := fun vs H Q _ => ∃ (way n : Int) (a l : Addr) (bs cs : List (Addr × List Int)) (f s : Nat), vs = [.int way, .int n, .ref a, .ref l] ∧ 0 ≤ way ∧ way < 5 ∧ 2 ≤ n ∧ Rw K H a bs ∧ Told n (bs.map (·.2)) ∧ fcR (bs.map (·.2)) = some (f, s) ∧
  Rw K H l cs ∧ Sz (cs.map (·.2)) ∧ isP (cs.map (·.2)) = true ∧ (cs.length : Int) + 1 = n ∧
  ∀ (t : Addr) (H' : Hp), Grows H H' → H t = none → H' t = some (.tup [.int (f : Nat), .int (s : Nat)]) → Q (.ref t) H'
section
variable {P : Program} {w : World} {K : PySem.W.Frag} {mg : Str → Option Value} {base : Heap}
theorem scRai : FnScope ["way", "many", "marked", "lots", "caught"] ["way", "many", "marked", "lots"] (defScope sRai) := ⟨rfl, rfl, rfl, by decide +kernel, rfl, by decide +kernel, by decide +kernel⟩
theorem ok_rai (W : LawF K mg) (CV : CroF P K mg) : FnOk P w K mg base CX0 8 W.fRai W.dRai ["way", "many", "marked", "lots"] (spRai K) := by
  have T := W.T.toTxtP
  have GUof : FnOk P w K mg base (L2.CX P w) 7 W.Y.fUof W.Y.dUof ["persons", "told", "group"] (spUof K CV.C) := ok_uof W.Z T W.Y CV
  have GGsh : FnOk P w K mg base (L2.CX P w) 7 W.Y.fGsh W.Y.dGsh ["persons", "told", "group"] (spGsh K CV.C) := ok_gsh W.Z T W.Y CV
  have GNth : FnOk P w K mg base (L2.CX P w) 7 W.Y.fNth W.Y.dNth ["persons", "told", "index"] (spNth K CV.C) := ok_nth W.Z T W.Y CV
  have GIdx : FnOk P w K mg base (L2.CX P w) 7 W.Y.fIdx W.Y.dIdx ["parting", "told"] (spIdx K CV.C) := ok_idx W.Z T W.Y CV
  refine W.FRai.ok scRai (fun vs H Q E h => ?_) (fun cdv A outer s H vs Q E hr h => ?_)
  · obtain ⟨way, n, a, l, bs, cs, f, s, rfl, _⟩ := h
    rfl
  · obtain ⟨way, n, a, l, bs, cs, f, s2, rfl, w0, w5, n2, hB, t, e, hL, hz, ip, en, k⟩ := h
    refine ⟨_, (pss_cons (ps_try_as (i := 4) (tb := tbR K CV.C) (ts := tsR CV.C) (Wout := fun _ _ _ _ => False) rfl rfl scRai.nd rfl rfl ⟨rfl, by decide, .inl CV.gC⟩ takes0 (fun W2 pn xe tk _ => (pss_one (ps_if (pt_cmpR op_eq (pv 0) pe_int (nomark _)) (pss_one (ps_expr (pe_callS GUof (hr.mono (by decide)) rfl W.Y.gUof W.Y.FUof.kp W.Y.bUof (fun σ => passAt tk σ) (pa_cons (pv 1) (pa_cons (pv 2) (pa_cons (pe_listRg rfl (by rfl) W.T.list (prg_1 (by rfl) W.T.range (pv 1))) pa_nil)))))) (pss_one (ps_if (pt_cmpR op_eq (pv 0) pe_int (nomark _)) (pss_one (ps_expr (pe_callS GGsh (hr.mono (by decide)) rfl W.Y.gGsh W.Y.FGsh.kp W.Y.bGsh (fun σ => passAt tk σ) (pa_cons (pv 1) (pa_cons (pv 2) (pa_cons (pe_ix (r := rIxL K) ix_list (pv 2) pe_int (fun _ _ => rfl)) pa_nil)))))) (pss_one (ps_if (pt_cmpR op_eq (pv 0) pe_int (nomark _)) (pss_one (ps_expr (pe_callS GNth (hr.mono (by decide)) rfl W.Y.gNth W.Y.FNth.kp W.Y.bNth (fun σ => passAt tk σ) (pa_cons (pv 1) (pa_cons (pv 2) (pa_cons pe_int pa_nil)))))) (pss_one (ps_if (pt_cmpR op_eq (pv 0) pe_int (nomark _)) (pss_one (ps_expr (pe_callS GNth (hr.mono (by decide)) rfl W.Y.gNth W.Y.FNth.kp W.Y.bNth (fun σ => passAt tk σ) (pa_cons (pv 1) (pa_cons (pv 2) (pa_cons (pe_un un_neg pe_int) pa_nil)))))) (pss_one (ps_expr (pe_callS GIdx (hr.mono (by decide)) rfl W.Y.gIdx W.Y.FIdx.kp W.Y.bIdx (fun σ => passAt tk σ) (pa_cons (pv 3) (pa_cons (pv 2) pa_nil)))))))))))))) (fun a oe cls d pn hz hf => (pss_one (ps_ret (pe_tup (pa_cons (pe_xf CV.xf CV.n1 hz hf (pv 4)) (pa_cons (pe_xf CV.xf CV.n2 hz hf (pv 4)) pa_nil))))))) (pss_one (ps_ret pe_non))), ?_⟩
    have fin : ∀ (v : V) (x d : Addr) (D : Ends) (H' : Hp), D.rt = Q → Grows H H' → H' d = some (.xd [(("second" : Str), V.int (s2 : Nat)), (("first" : Str), V.int (f : Nat))]) → tsR CV.C x (.ref CV.C) (some d) D [some v, some (.int n), some (.ref a), some (.ref l), some (.ref x)] H' := fun v x d D H' eD g ed => by
      have l1 : List.lookup ("first" : Str) [(("second" : Str), V.int (s2 : Nat)), (("first" : Str), V.int (f : Nat))] = some (.int (f : Nat)) := by rfl
      have l2 : List.lookup ("second" : Str) [(("second" : Str), V.int (s2 : Nat)), (("first" : Str), V.int (f : Nat))] = some (.int (s2 : Nat)) := by rfl
      refine ⟨_, rfl, rfl, rfl, d, _, _, rfl, ed, l1, _, rfl, rfl, rfl, d, _, _, rfl, ed, l2, (by show 2 ≤ sizeLine; decide), fun t ht => ?_⟩
      show D.rt (.ref t) _
      rw [eD]
      exact k t _ (g.trans (.new ht)) (none_back g ht) upd_same
    have bne : ∃ b0 br, bs = b0 :: br := by
      cases bs with
      | nil => exact nomatch e
      | cons b0 br => exact ⟨_, _, rfl⟩
    have five : way = 0 ∨ way = 1 ∨ way = 2 ∨ way = 3 ∨ way = 4 := by omega
    rcases five with rfl | rfl | rfl | rfl | rfl
    · refine ⟨_, rfl, rfl, _, rfl, ?_⟩
      rw [decide_eq_true rfl]
      refine iteT ⟨_, rfl, _, rfl, _, rfl, n, rfl, ⟨by decide, by decide, by omega, by have := t.le; omega⟩, fun g hg => ⟨a, g, n, bs, rfl, ⟨hB.keep (.new hg), t, f, s2, e, fun d H' g' ed => ?_⟩, n2, SqL.of (by rw [upd_same, rg_ints]; rfl)⟩⟩
      exact ⟨true, CV.te, fun _ x hx => fin _ x d _ H' rfl ((Grows.new hg).trans g') ed, fun q => nomatch q⟩
    · refine ⟨_, rfl, rfl, _, rfl, ?_⟩
      rw [decide_eq_false (fun z => by cases z)]
      refine iteF ⟨_, rfl, rfl, _, rfl, ?_⟩
      rw [decide_eq_true rfl]
      obtain ⟨b0, br, eb⟩ := bne
      have m0 : b0 ∈ bs := by rw [eb]; exact List.mem_cons_self
      refine iteT ⟨_, rfl, _, rfl, _, rfl, a, _, 0, V.ref b0.1, rfl, rfl, hB.top, ?_, a, b0.1, n, bs, b0.2, rfl, ⟨hB, t, f, s2, e, fun d H' g' ed => ?_⟩, hB.each b0 m0, t.grp _ (List.mem_map.mpr ⟨b0, m0, rfl⟩), by have := t.len _ (List.mem_map.mpr ⟨b0, m0, rfl⟩); omega⟩
      · rw [eb]
        exact atI_nat (j := 0) rfl
      · exact ⟨true, CV.te, fun _ x hx => fin _ x d _ H' rfl g' ed, fun q => nomatch q⟩
    · refine ⟨_, rfl, rfl, _, rfl, ?_⟩
      rw [decide_eq_false (fun z => by cases z)]
      refine iteF ⟨_, rfl, rfl, _, rfl, ?_⟩
      rw [decide_eq_false (fun z => by cases z)]
      refine iteF ⟨_, rfl, rfl, _, rfl, ?_⟩
      rw [decide_eq_true rfl]
      exact iteT ⟨_, rfl, _, rfl, a, n, _, bs, rfl, ⟨hB, t, f, s2, e, fun d H' g' ed => ⟨true, CV.te, fun _ x hx => fin _ x d _ H' rfl g' ed, fun q => nomatch q⟩⟩⟩
    · refine ⟨_, rfl, rfl, _, rfl, ?_⟩
      rw [decide_eq_false (fun z => by cases z)]
      refine iteF ⟨_, rfl, rfl, _, rfl, ?_⟩
      rw [decide_eq_false (fun z => by cases z)]
      refine iteF ⟨_, rfl, rfl, _, rfl, ?_⟩
      rw [decide_eq_false (fun z => by cases z)]
      refine iteF ⟨_, rfl, rfl, _, rfl, ?_⟩
      rw [decide_eq_true rfl]
      exact iteT ⟨_, rfl, _, rfl, _, rfl, a, n, _, bs, rfl, ⟨hB, t, f, s2, e, fun d H' g' ed => ⟨true, CV.te, fun _ x hx => fin _ x d _ H' rfl g' ed, fun q => nomatch q⟩⟩⟩
    · refine ⟨_, rfl, rfl, _, rfl, ?_⟩
      rw [decide_eq_false (fun z => by cases z)]
      refine iteF ⟨_, rfl, rfl, _, rfl, ?_⟩
      rw [decide_eq_false (fun z => by cases z)]
      refine iteF ⟨_, rfl, rfl, _, rfl, ?_⟩
      rw [decide_eq_false (fun z => by cases z)]
      refine iteF ⟨_, rfl, rfl, _, rfl, ?_⟩
      rw [decide_eq_false (fun z => by cases z)]
      exact iteF ⟨_, rfl, _, rfl, l, a, n, cs, bs, rfl, hL, hz, ip, en, ⟨hB, t, f, s2, e, fun d H' g' ed => ⟨true, CV.te, fun _ x hx => fin _ x d _ H' rfl g' ed, fun q => nomatch q⟩⟩⟩
end
end K11

namespace K11
open PySem PySem.Spec PyProof.Rows L2 SortR LcM RepA
theorem brief_one {a : PyData} {ds : List PyData} {m : Nat} (e : a = .list ds) (x : Brief m a) (l : m ≤ 100000) : PyData.showableAll ds = true ∧ PyData.depthAll ds ≤ 40 ∧ (listText (PyData.shownAll ds)).length ≤ sizeLine := by
  subst e
  refine ⟨?_, ?_, ?_⟩
  · have := x.sh
    simpa only [PyData.showable] using this
  · have := x.dp
    simp only [PyData.depth] at this
    omega
  · have e : (PyData.list ds).shown = listText (PyData.shownAll ds) := by simp only [PyData.shown]
    rw [← e]
    exact PyData.shown_fits (B := 13) (by decide) (by decide) x.lv (by have := x.wt; omega)
def pairD (i j : Nat) : PyData := .tuple [.int (i : Nat), .int (j : Nat)]
def textOk (ds : List PyData) : Bool := PyData.showableAll ds && decide (PyData.depthAll ds ≤ 40) && decide ((listText (PyData.shownAll ds)).length ≤ sizeLine)
theorem text_ok {ds : List PyData} (h : textOk ds = true) : PyData.showableAll ds = true ∧ PyData.depthAll ds ≤ 40 ∧ (listText (PyData.shownAll ds)).length ≤ sizeLine := by
  unfold textOk at h
  simp only [Bool.and_eq_true, decide_eq_true_eq] at h
  exact ⟨h.1.1, h.1.2, h.2⟩
theorem pair_text : ∀ i : Fin 20, ∀ j : Fin 20, (textOk [pairD i.val j.val, pairD i.val j.val] && textOk (List.replicate 5 (pairD i.val j.val))) = true := by decide +kernel
theorem none_text : textOk [PyData.none, PyData.none] = true := by decide +kernel
theorem pair_eqv (u v x y : Int) : PyData.eqv (.tuple [.int u, .int v]) (.tuple [.int x, .int y]) = (decide (u = x) && decide (v = y)) := by
  by_cases h1 : u = x <;> by_cases h2 : v = y <;> simp [PyData.eqv, PyData.eqvAll, h1, h2]
theorem pair_shaped (u v : Int) : SeqAt.shaped (.tuple [.int u, .int v]) = true := by rfl
theorem same_all {K : PySem.W.Frag} {G : Hp} {d : PyData} : ∀ ts : List Addr, (∀ x ∈ ts, Dp K G (.ref x) d) → DpAll K G (ts.map V.ref) (List.replicate ts.length d)
  | [], _ => .nil
  | x :: ts, h => .cons (h x List.mem_cons_self) (same_all ts fun y hy => h y (List.mem_cons_of_mem _ hy))
def spRight : Sp := fun vs H Q _ => ∃ (p : Addr) (n m : Int), vs = [.ref p, .int n] ∧ Pch H p m ∧ m < 2 ^ 40 ∧ 2 ≤ n ∧ n ≤ 20 ∧ ∀ H', Pch H' p (m + 3000) → Gr p H H' → Q (.bl true) H'
section
variable {P : Program} {w : World} {K : PySem.W.Frag} {mg : Str → Option Value} {base : Heap}
theorem scRight : FnScope ["pouch", "many", "marked", "lots", "kept", "due", "found", "way"] ["pouch", "many"] (defScope sRight) := ⟨rfl, rfl, rfl, by decide +kernel, rfl, by decide +kernel, by decide +kernel⟩
theorem ok_right (W : LawF K mg) (CV : CroF P K mg) : FnG P w K mg base CX0 26 W.fRight W.dRight ["pouch", "many"] spRight := by
  have T := W.T.toTxtP
  have GItems : FnOk P w K mg base CX0 2 W.fItems W.dItems ["pouch", "many"] spItems := W.items
  have GNest : FnOk P w K mg base CX0 23 W.fNest W.dNest ["items"] (spNest K) := W.nest
  have GLots : FnOk P w K mg base CX0 22 W.fLots W.dLots ["nest"] (spLots K 19) := W.lots
  have GAny : FnOk P w K mg base CX0 25 W.fAny W.dAny ["pouch", "many"] spAnyM := ok_anyM W
  have GCrd : FnOk P w K mg base CX0 2 W.fCrd W.dCrd ["marked"] (spCrd K) := W.crd
  have GCros : FnOk P w K mg base CX0 7 W.Y.fCros W.Y.dCros ["persons", "told"] (spCros K) := ok_cros W.Z T W.Y
  have GWith : FnOk P w K mg base CX0 7 W.Y.fWith W.Y.dWith ["persons", "told"] (spWith K) := ok_with W.Z T W.Y
  have GShare : FnOk P w K mg base CX0 8 W.Y.fShare W.Y.dShare ["persons", "told"] (spShare K) := ok_share W.Z T W.Y
  have GRai : FnOk P w K mg base CX0 8 W.fRai W.dRai ["way", "many", "marked", "lots"] (spRai K) := ok_rai W CV
  refine okG W.FRight scRight (fun vs H Q E h => ?_) (fun cdv A outer s H vs Q E hr noG h => ?_)
  · obtain ⟨p, n, m, rfl, _⟩ := h
    rfl
  · obtain ⟨p, n, m, rfl, hP, hm, n2, n20, kq⟩ := h
    refine ⟨_, (pss_cons (ps_asg (pe_tup (pa_cons (pe_call GAny (hr.mono (by decide)) rfl W.gAny W.FAny.kp W.bAny .nil pass0 (pa_cons (pv 0) (pa_cons (pv 1) pa_nil))) (pa_cons (pe_call GLots (hr.mono (by decide)) rfl W.gLots W.FLots.kp W.bLots .nil pass0 (pa_cons (pe_call GNest (hr.mono (by decide)) rfl W.gNest W.FNest.kp W.bNest .nil pass0 (pa_cons (pe_call GItems (hr.mono (by decide)) rfl W.gItems W.FItems.kp W.bItems .nil pass0 (pa_cons (pv 0) (pa_cons (pv 1) pa_nil))) pa_nil)) pa_nil)) pa_nil))) (pg_tup (by rfl) (pgs_cons (pg_name (i := 2) scRight.nd rfl (.inr rfl)) (pgs_cons (pg_name (i := 3) scRight.nd rfl (.inr rfl)) pgs_nil))))
      (pss_cons (ps_par (i := 4) (j := 5) (by rfl) scRight.nd rfl rfl (by decide) rfl rfl (pa_cons (pe_callB (call_reprL noG hr.units) (by rfl) W.T.repr (by decide +kernel) (pa_cons (pv 2) pa_nil)) (pa_cons (pe_call GCrd (hr.mono (by decide)) rfl W.gCrd W.FCrd.kp W.bCrd .nil pass0 (pa_cons (pv 2) pa_nil)) pa_nil)) (by rfl))
      (pss_cons (ps_if (pt_cmpR op_ne (pe_callB (call_reprL noG hr.units) (by rfl) W.T.repr (by decide +kernel) (pa_cons (pe_lst (pa_cons (pe_call GCros (hr.mono (by decide)) rfl W.Y.gCros W.Y.FCros.kp W.Y.bCros .nil pass0 (pa_cons (pv 1) (pa_cons (pv 2) pa_nil))) (pa_cons (pe_callKw GCros (hr.mono (by decide)) rfl W.Y.gCros W.Y.FCros.kp W.kbCros pass0 (pk_cons (pv 2) (pk_cons (pv 1) pk_nil))) pa_nil))) pa_nil)) (pe_callB (call_reprL noG hr.units) (by rfl) W.T.repr (by decide +kernel) (pa_cons (pe_lst (pa_cons (pv 5) (pa_cons (pv 5) pa_nil))) pa_nil)) (nomark _)) (pss_one (ps_ret pe_bl)) pss_nil)
      (pss_cons (ps_if (pt_cmpR op_ne (pe_cmpR op_eq (pe_call GWith (hr.mono (by decide)) rfl W.Y.gWith W.Y.FWith.kp W.Y.bWith .nil pass0 (pa_cons (pv 1) (pa_cons (pv 2) pa_nil))) pe_int (nomark _)) (pe_cmpR op_notN (pv 5) pe_non (nomark _)) (nomark _)) (pss_one (ps_ret pe_bl)) pss_nil)
      (pss_cons (ps_if (pt_cmpR op_ne (pe_cmpR (op_eqD hr.units) (pe_call GShare (hr.mono (by decide)) rfl W.Y.gShare W.Y.FShare.kp W.Y.bShare .nil pass0 (pa_cons (pv 1) (pa_cons (pv 2) pa_nil))) (pe_tup (pa_cons pe_int (pa_cons pe_int pa_nil))) (nomark _)) (pe_cmpR op_notN (pv 5) pe_non (nomark _)) (nomark _)) (pss_one (ps_ret pe_bl)) pss_nil)
      (pss_cons (ps_if (pt_cmpR op_isN (pv 5) pe_non (nomark _)) (pss_one (ps_ret (pe_cmpR op_eq (pe_callB (call_reprL noG hr.units) (by rfl) W.T.repr (by decide +kernel) (pa_cons (pv 2) pa_nil)) (pv 4) (nomark _)))) pss_nil)
      (pss_cons (ps_setLc (i := 6) (own := [("way", 7)]) (g := gName 7) (tt := tYes) rfl scRight.nd rfl rfl (sw_true rfl rfl rfl (by decide +kernel)) (pi_range1 (by rfl) W.T.range (pa_cons pe_int pa_nil)) (blkOk_by (own := [("way", 7)]) (N := ["pouch", "many", "marked", "lots", "kept", "due", "found", "way"]) (sc := defScope sRight) (by decide +kernel)) (fun _ _ _ _ _ => pg_name (i := 7) scRight.nd rfl (Or.inl rfl)) (fun _ _ _ _ _ => pts_nil) (fun _ _ _ _ _ => (pe_call GRai (hr.mono (by decide)) rfl W.gRai W.FRai.kp W.bRai .nil pass0 (pa_cons (pv 7) (pa_cons (pv 1) (pa_cons (pv 2) (pa_cons (pv 3) pa_nil)))))))
      (pss_one (ps_ret (pe_and (pe_cmpR op_eq (pe_callB (call_reprL noG hr.units) (by rfl) W.T.repr (by decide +kernel) (pa_cons (pv 6) pa_nil)) (pe_callB (call_reprL noG hr.units) (by rfl) W.T.repr (by decide +kernel) (pa_cons (pe_op op_rep (pe_lst (pa_cons (pv 5) pa_nil)) pe_int) pa_nil)) (nomark _)) (pe_one (pe_cmpR op_eq (pe_callB (call_reprL noG hr.units) (by rfl) W.T.repr (by decide +kernel) (pa_cons (pv 2) pa_nil)) (pv 4) (nomark _))))))))))))), ?_⟩
    refine ⟨_, rfl, _, rfl, p, n, m, rfl, hP, by omega, n2, n20, fun f fs H1 k1 hP1 g1 => ⟨_, rfl, _, rfl, p, n, _, rfl, hP1, by omega, by omega, n20, fun l xs H2 xl hb hP2 g2 nl el => ⟨l, xs, rfl, SqL.of el, by omega, fun y H3 s3 nv => ?_⟩⟩⟩
    have en : ((xs.length + 1 : Nat) : Int) = n := by omega
    have full := (nestN_full xs hb xs.length (Nat.le_refl _)).1
    have sz := full.size
    have ht := nestN_ht xs xs.length
    refine ⟨y, _, rfl, nv, by omega, by omega, fun a cs H4 ec s4 na nw nac ea => ⟨(by show 2 ≤ sizeLine; decide), fun tp htp => ⟨tp, _, rfl, SqT.of upd_same, rfl, _, _, rfl, _, _, rfl, rfl, ?_⟩⟩⟩
    have g34 := (s3.trans s4).trans (Grows.new (o := .tup [V.ref f, V.ref a]) htp)
    have g15 : Gr p H (upd H4 tp (.tup [V.ref f, V.ref a])) := (g1.trans g2).trans g34.gr
    have k5 := k1.gr (g2.trans g34.gr)
    have hP5 := hP2.same g34
    have lots_len := (nestN xs xs.length).lots_len
    have ea5 := Grows.new (o := .tup [V.ref f, V.ref a]) htp _ _ ea
    have each5 : ∀ c ∈ cs, (upd H4 tp (.tup [V.ref f, V.ref a])) c.1 = some (.lst (c.2.map V.int)) := fun c hc => Grows.new htp _ _ (nw.lists c hc)
    generalize upd H4 tp (.tup [V.ref f, V.ref a]) = H5 at g34 g15 k5 hP5 ea5 each5
    have csl : cs.length = xs.length := by
      rw [← List.length_map (f := (·.2)) (as := cs), ec]
      omega
    have rwL : Rw K H5 a cs := ⟨SqL.of ea5, fun c hc => SqL.of (each5 c hc)⟩
    have ipL : isP (cs.map (·.2)) = true := by
      rw [ec]
      exact isP_lots full (by omega)
    have rwsL : Rows n (cs.map (·.2)) := by
      rw [ec, ← en]
      exact lots_rows full
    have szL : Sz (cs.map (·.2)) := ⟨by rw [List.length_map]; omega, fun r hr => by have := (rwsL.each r hr).len n20; omega⟩
    have told : Told n (fs.map (·.2)) := k1.rows.told (by omega) n20 (by rw [List.length_map]; have := k1.len; omega)
    have rwM : Rw K H5 f fs := k5.lw.rw'
    have fl := k1.len
    have smalls : ∀ r ∈ fs.map (·.2), Smalls r ∧ r.length ≤ 20 := fun r hr => ⟨fun x hx => by
      have := (k1.rows.each r hr).rng x hx
      have : (20 : Nat) < 10 ^ 12 := by decide
      omega, (k1.rows.each r hr).len n20⟩
    have br := brief_rows smalls
    rw [List.length_map] at br
    obtain ⟨t1, t2', t3⟩ := brief_one rfl br (by
      have : fs.length * (20 * 42 + 1) ≤ 19 * (20 * 42 + 1) := Nat.mul_le_mul_right _ fl
      omega)
    have ddM : ∀ H6, Grows H5 H6 → SqL K H6 f (fs.map fun c => V.ref c.1) ∧ DdAll K H6 (fs.map fun c => V.ref c.1) (rowD (fs.map (·.2))) := fun H6 s => ⟨(rwM.keep s).top, .of_dp (rows_data (rwM.keep s).each)⟩
    have fce : fcR (fs.map (·.2)) = fcL (fs.map (·.2)) := k1.rows.fc
    have small : ∀ b ∈ fs, b.2.length ≤ 1000 := fun b hb => by
      have := (k1.row hb).len n20
      omega
    refine ⟨_, rfl, f, _, _, rfl, (ddM H5 .refl).1, (ddM H5 .refl).2, t1, t2', t3, ?_⟩
    cases efc : fcL (fs.map (·.2)) with
    | none =>
      refine ⟨_, rfl, f, fs, rfl, rwM, by omega, small, (fun _ H6 s6 => ?_), (fun i j z => by rw [efc] at z; cases z)⟩
      obtain ⟨u1, u2, u3⟩ := text_ok none_text
      have no : ∀ i j, ¬ fcR (fs.map (·.2)) = some (i, j) := fun i j z => by rw [fce, efc] at z; cases z
      have nn0 : fcR (fs.map (·.2)) = none := fce.trans efc
      refine ⟨_, _, rfl, _, rfl, _, rfl, f, n, fs, rfl, rwM.keep s6, told, (fun _ H7 s7 => ?_), fun i j z => absurd z (no i j)⟩
      refine ⟨_, rfl, _, rfl, f, n, fs, rfl, (rwM.keep s6).keep s7, told, (fun _ H8 s8 => ?_), fun i j z => absurd z (no i j)⟩
      have s58 := (s6.trans s7).trans s8
      refine ⟨(by show 2 ≤ sizeLine; decide), fun q hq => ⟨q, _, [.none, .none], rfl, SqL.of upd_same, .of_dp (.cons .non (.cons .non .nil)), u1, u2, u3, ?_⟩⟩
      refine ⟨_, rfl, _, rfl, (by show 2 ≤ sizeLine; decide), fun q2 hq2 => ⟨q2, _, [.none, .none], rfl, SqL.of upd_same, .of_dp (.cons .non (.cons .non .nil)), u1, u2, u3, rfl, _, rfl, ?_⟩⟩
      have s9 := s58.trans ((Grows.new (o := .lst [V.non, V.non]) hq).trans (Grows.new (o := .lst [V.non, V.non]) hq2))
      rw [decide_eq_true rfl]
      refine iteF ⟨_, rfl, _, rfl, f, n, fs, rfl, rwM.keep s9, told, fun v H10 v0 vb vz s10 => ⟨rfl, _, rfl, rfl, rfl, _, rfl, ?_⟩⟩
      have v1 : v ≠ 0 := fun z => vz.mp z nn0
      rw [decide_eq_false (fun z : V.int v = V.int 0 => v1 (V.int.inj z)), decide_eq_true (rfl : V.non = V.non)]
      show if (!decide (V.bl false = V.bl false)) = true then _ else _
      rw [decide_eq_true rfl]
      refine iteF ⟨_, rfl, _, rfl, f, n, fs, rfl, rwM.keep (s9.trans s10), told, fun x y t H11 hx hy s11 nt et => ⟨(by show 2 ≤ sizeLine; decide), fun t2 ht2 => ⟨.tuple [.int x, .int y], .tuple [.int 0, .int 1], .tup (SqT.of (Grows.new ht2 _ _ et)) (.cons (.int x) (.cons (.int y) .nil)), .tup (SqT.of upd_same) (.cons (.int 0) (.cons (.int 1) .nil)), pair_shaped _ _, pair_shaped _ _, _, rfl, rfl, rfl, _, rfl, ?_⟩⟩⟩
      rw [pair_eqv, decide_eq_false (hy nn0), Bool.false_and, decide_eq_true (rfl : V.non = V.non)]
      show if (!decide (V.bl false = V.bl false)) = true then _ else _
      rw [decide_eq_true rfl]
      have s12 := ((s9.trans s10).trans s11).trans (Grows.new (o := .tup [V.int 0, V.int 1]) ht2)
      refine iteF ⟨_, rfl, rfl, _, rfl, ?_⟩
      rw [decide_eq_true rfl]
      refine iteT ⟨_, rfl, f, _, _, rfl, (ddM _ s12).1, (ddM _ s12).2, t1, t2', t3, _, rfl, rfl, ?_⟩
      rw [decide_eq_true rfl]
      exact kq _ ((hP5.same s12).le (by omega)) (g15.trans s12.gr)
    | some ij =>
      obtain ⟨i, j⟩ := ij
      refine ⟨_, rfl, f, fs, rfl, rwM, by omega, small, (fun z => by rw [efc] at z; cases z), fun i' j' z t H6 s6 nt et => ?_⟩
      rw [efc] at z
      cases z
      have yes : fcR (fs.map (·.2)) = some (i, j) := fce.trans efc
      have lt := fc_lt yes
      rw [List.length_map] at lt
      have pt := pair_text ⟨i, by omega⟩ ⟨j, by omega⟩
      rw [Bool.and_eq_true] at pt
      obtain ⟨u1, u2, u3⟩ := text_ok pt.1
      obtain ⟨w1, w2, w3⟩ := text_ok pt.2
      have dp : ∀ (x : Addr) (G : Hp), G x = some (.tup [.int (i : Nat), .int (j : Nat)]) → Dp K G (.ref x) (pairD i j) := fun x G e => .tup (SqT.of e) (.cons (.int _) (.cons (.int _) .nil))
      have nn1 : ¬ fcR (fs.map (·.2)) = none := fun z => by rw [yes] at z; cases z
      refine ⟨_, _, rfl, _, rfl, _, rfl, f, n, fs, rfl, rwM.keep s6, told, (fun z => absurd z nn1), fun i2 j2 z2 ta H7 s7 nta eta => ?_⟩
      rw [yes] at z2
      cases z2
      refine ⟨_, rfl, _, rfl, f, n, fs, rfl, (rwM.keep s6).keep s7, told, (fun z => absurd z nn1), fun i3 j3 z3 tb H8 s8 ntb etb => ?_⟩
      rw [yes] at z3
      cases z3
      have s58 := (s6.trans s7).trans s8
      refine ⟨(by show 2 ≤ sizeLine; decide), fun q hq => ⟨q, _, [pairD i j, pairD i j], rfl, SqL.of upd_same, .of_dp (.cons (dp ta _ (Grows.new hq _ _ (s8 _ _ eta))) (.cons (dp tb _ (Grows.new hq _ _ etb)) .nil)), u1, u2, u3, ?_⟩⟩
      have etq : (upd H8 q (.lst [V.ref ta, V.ref tb])) t = some (.tup [.int (i : Nat), .int (j : Nat)]) := Grows.new hq _ _ ((s7.trans s8) _ _ et)
      refine ⟨_, rfl, _, rfl, (by show 2 ≤ sizeLine; decide), fun q2 hq2 => ⟨q2, _, [pairD i j, pairD i j], rfl, SqL.of upd_same, .of_dp (.cons (dp t _ (Grows.new hq2 _ _ etq)) (.cons (dp t _ (Grows.new hq2 _ _ etq)) .nil)), u1, u2, u3, rfl, _, rfl, ?_⟩⟩
      have s9 := s58.trans ((Grows.new (o := .lst [V.ref ta, V.ref tb]) hq).trans (Grows.new (o := .lst [V.ref t, V.ref t]) hq2))
      have et9 := Grows.new (o := .lst [V.ref t, V.ref t]) hq2 _ _ etq
      generalize upd (upd H8 q (.lst [V.ref ta, V.ref tb])) q2 (.lst [V.ref t, V.ref t]) = H9 at s9 et9
      rw [decide_eq_true rfl]
      have ntn : ¬ V.ref t = V.non := fun z => by cases z
      refine iteF ⟨_, rfl, _, rfl, f, n, fs, rfl, rwM.keep s9, told, fun v H10 v0 vb vz s10 => ⟨rfl, _, rfl, rfl, rfl, _, rfl, ?_⟩⟩
      rw [decide_eq_true (congrArg V.int (vz.mpr nn1)), decide_eq_false ntn]
      show if (!decide (V.bl true = V.bl true)) = true then _ else _
      rw [decide_eq_true rfl]
      refine iteF ⟨_, rfl, _, rfl, f, n, fs, rfl, rwM.keep (s9.trans s10), told, fun x y t33 H11 hx hy s11 nt3 et3 => ⟨(by show 2 ≤ sizeLine; decide), fun t2 ht2 => ⟨.tuple [.int x, .int y], .tuple [.int 0, .int 1], .tup (SqT.of (Grows.new ht2 _ _ et3)) (.cons (.int x) (.cons (.int y) .nil)), .tup (SqT.of upd_same) (.cons (.int 0) (.cons (.int 1) .nil)), pair_shaped _ _, pair_shaped _ _, _, rfl, rfl, rfl, _, rfl, ?_⟩⟩⟩
      rw [pair_eqv, decide_eq_true (hx nn1).1, decide_eq_true (hx nn1).2, decide_eq_false ntn]
      show if (!decide (V.bl true = V.bl true)) = true then _ else _
      rw [decide_eq_true rfl]
      have s12 := ((s9.trans s10).trans s11).trans (Grows.new (o := .tup [V.int 0, V.int 1]) ht2)
      have et12 := ((s10.trans s11).trans (Grows.new (o := .tup [V.int 0, V.int 1]) ht2)) _ _ et9
      generalize upd H11 t2 (.tup [V.int 0, V.int 1]) = H12 at s12 et12
      refine iteF ⟨_, rfl, rfl, _, rfl, ?_⟩
      rw [decide_eq_false ntn]
      refine iteF ⟨5, rfl, by decide, by decide, fun D hD => lc_range (lo := 0) (n := 5) (fun k G => Grows H12 G ∧ ∃ ts : List Addr, G D = some (.lst (ts.map V.ref)) ∧ ts.length = k ∧ ∀ x ∈ ts, G x = some (.tup [.int (i : Nat), .int (j : Nat)])) ⟨Grows.new hD, [], upd_same, rfl, fun _ z => nomatch z⟩ (fun k G hk ⟨g, ts, e1, l1, a1⟩ => ?_) fun G ⟨g, ts, e1, l1, a1⟩ => ?_⟩
      · have sg := s12.trans g
        refine ⟨rfl, _, rfl, _, rfl, _, rfl, _, rfl, _, n, f, a, fs, cs, i, j, rfl, by omega, by omega, n2, rwM.keep sg, told, yes, rwL.keep sg, szL, ipL, by omega, fun x G2 g2' nx ex => ?_⟩
        have e2 := g2' _ _ e1
        refine ⟨_, e2, ?_, fun c o z => ?_, ts ++ [x], ?_, ?_, fun u hu => ?_⟩
        · rw [List.length_map, l1]
          exact small1000 (by omega)
        · rw [upd_ne (ne_of_none z hD)]
          exact g2' _ _ (g _ _ z)
        · rw [upd_same, List.map_append]
          rfl
        · rw [List.length_append, l1]
          rfl
        · have eu : G2 u = some (.tup [.int (i : Nat), .int (j : Nat)]) := by
            rcases List.mem_append.mp hu with z | z
            · exact g2' _ _ (a1 u z)
            · rw [List.mem_singleton.mp z]
              exact ex
          rw [upd_ne (ne_of eu e2 fun z => nomatch z)]
          exact eu
      · have sg := s12.trans g
        have da := same_all ts fun x hx => dp x G (a1 x hx)
        rw [l1] at da
        have etG := g _ _ et12
        refine ⟨_, rfl, D, _, List.replicate 5 (pairD i j), rfl, SqL.of e1, .of_dp da, w1, w2, w3, _, rfl, (by show 1 ≤ sizeLine; decide), fun q hq => ⟨q, 5, _, rfl, rfl, upd_same, by decide, by decide, (by show 1 * 5 ≤ sizeLine; decide), fun q5 hq5 => ?_⟩⟩
        have etq5 := Grows.new (o := .lst (List.replicate (5 : Int).toNat [V.ref t]).flatten) hq5 _ _ (Grows.new (o := .lst [V.ref t]) hq _ _ etG)
        have d1 := dp t _ etq5
        have s13 := (sg.trans (Grows.new (o := .lst [V.ref t]) hq)).trans (Grows.new (o := .lst (List.replicate (5 : Int).toNat [V.ref t]).flatten) hq5)
        refine ⟨q5, [V.ref t, V.ref t, V.ref t, V.ref t, V.ref t], List.replicate 5 (pairD i j), rfl, SqL.of upd_same, .of_dp (.cons d1 (.cons d1 (.cons d1 (.cons d1 (.cons d1 .nil))))), w1, w2, w3, rfl, _, rfl, ?_⟩
        rw [decide_eq_true rfl, if_pos rfl]
        refine ⟨_, rfl, f, _, _, rfl, (ddM _ s13).1, (ddM _ s13).2, t1, t2', t3, _, rfl, rfl, ?_⟩
        rw [decide_eq_true rfl]
        exact kq _ ((hP5.same s13).le (by omega)) (g15.trans s13.gr)
end
end K11

namespace K11
open PySem PySem.Spec PyProof.Rows L2 SortR LcM RepA
abbrev sLaw : Stmt := top 73
def spLaw (K : PySem.W.Frag) : Sp := fun vs H Q _ => ∃ (a : Addr) (ns : List Int), vs = [.ref a] ∧ SqL K H a (ns.map V.int) ∧ ns.length ≤ 63 ∧ ∀ H', Q (.bl true) H'
theorem mm (k : Int) : ∃ J : Int, 1 ≤ J ∧ J ≤ 4 ∧ (if (if k < 4 then k else 4) > 1 then (if k < 4 then k else 4) else 1) = J := by
  refine ⟨_, ?_, ?_, rfl⟩
  · split <;> omega
  · split <;> split <;> omega
theorem gr_grows {sd : Addr} {H H0 H1 G : Hp} (g0 : Grows H H0) (n : H sd = none) (g : Gr sd H1 G) (g1 : Grows H0 H1) : Grows H G := fun b o e => g b o (fun z => by rw [z, n] at e; cases e) (g1 _ _ (g0 b o e))
abbrev dueD : PyData := .list [.tuple [.int 0, .int 2], .none, .none, .tuple [.int 1, .int 2], .tuple [.int 0, .int 1]]
theorem due_eq : PyData.eqv dueD dueD = true := by decide +kernel
theorem due_shaped : SeqAt.shaped dueD = true := by decide +kernel
abbrev r1 : List (List Int) := [[0, 1], [2, 3], [1, 2]]
abbrev r2 : List (List Int) := [[0, 1, 2], [1, 2], [0, 1, 2, 3]]
abbrev r4 : List (List Int) := [[0, 1], [0, 1, 2], [2, 3], [1, 3]]
abbrev r5 : List (List Int) := [[0, 1], [1, 2], [0, 2]]
theorem told1 : Told 4 r1 := ⟨by decide, by decide, by decide, by decide +kernel, by decide, by decide⟩
theorem told2 : Told 4 r2 := ⟨by decide, by decide, by decide, by decide +kernel, by decide, by decide⟩
theorem told3 : Told 1 [] := ⟨by decide, by decide, by decide, (fun _ h => nomatch h), (fun _ h => nomatch h), List.nodup_nil⟩
theorem told4 : Told 5 r4 := ⟨by decide, by decide, by decide, by decide +kernel, by decide, by decide⟩
theorem told5 : Told 3 r5 := ⟨by decide, by decide, by decide, by decide +kernel, by decide, by decide⟩
theorem fc1 : fcR r1 = some (0, 2) := by decide +kernel
theorem fc2 : fcR r2 = none := by decide +kernel
theorem fc3 : fcR [] = none := by decide +kernel
theorem fc4 : fcR r4 = some (1, 2) := by decide +kernel
theorem fc5 : fcR r5 = some (0, 1) := by decide +kernel
section
variable {P : Program} {w : World} {K : PySem.W.Frag} {mg : Str → Option Value} {base : Heap}
theorem scLaw : FnScope ["script", "at", "pouch", "many", "found"] ["script"] (defScope sLaw) := ⟨rfl, rfl, rfl, by decide +kernel, rfl, by decide +kernel, by decide +kernel⟩
theorem ok_law {f : Addr} {fd : FuncData} (F : Fun K "law" "law" sLaw f fd) (W : LawF K mg) (CV : CroF P K mg) : FnG P w K mg base CX0 27 f fd ["script"] (spLaw K) := by
  have T := W.T.toTxtP
  have GD : FnOk P w K mg base CX0 1 W.fDip W.dDip ["pouch", "wide"] spDip := W.dip
  have GR : FnG P w K mg base CX0 26 W.fRight W.dRight ["pouch", "many"] spRight := ok_right W CV
  have GCros : FnOk P w K mg base CX0 7 W.Y.fCros W.Y.dCros ["persons", "told"] (spCros K) := ok_cros W.Z T W.Y
  refine okG F scLaw (fun vs H Q E h => ?_) (fun cdv A outer s H vs Q E hr noG h => ?_)
  · obtain ⟨a, ns, rfl, _⟩ := h
    rfl
  · obtain ⟨a, ns, rfl, hS, hl, kq⟩ := h
    refine ⟨_, (pss_cons (ps_for PassesOwn.never rfl (pi_range1 (by rfl) W.T.range (pa_cons (pe_callB (call_max2 rfl) (by rfl) W.T.max (by decide +kernel) (pa_cons pe_int (pa_cons (pe_callB (call_min2 rfl) (by rfl) W.T.min (by decide +kernel) (pa_cons pe_int (pa_cons (pe_callB call_len_seq (by rfl) W.T.len (by decide +kernel) (pa_cons (pv 0) pa_nil)) pa_nil))) pa_nil))) pa_nil)) (pg_name (i := 1) scLaw.nd rfl (.inl rfl))
      (pss_cons (ps_set (i := 2) scLaw.nd rfl (.inl rfl) (pe_call W.pouch (hr.mono (by decide)) rfl W.gPouch W.FPouch.kp W.bPouch .nil pass0 (pa_cons (pv 0) (pa_cons (pv 1) pa_nil))))
      (pss_one (ps_for PassesOwn.never rfl (pi_tup (pe_tup (pa_cons pe_int (pa_cons pe_int (pa_cons pe_int (pa_cons pe_int (pa_cons pe_int (pa_cons (pe_op op_add pe_int (pe_call GD (hr.mono (by decide)) rfl W.gDip W.FDip.kp W.bDip .nil pass0 (pa_cons (pv 2) (pa_cons pe_int pa_nil)))) (pa_cons (pe_op op_add pe_int (pe_call GD (hr.mono (by decide)) rfl W.gDip W.FDip.kp W.bDip .nil pass0 (pa_cons (pv 2) (pa_cons pe_int pa_nil)))) pa_nil))))))))) (pg_name (i := 3) scLaw.nd rfl (.inl rfl))
      (pss_one (ps_if (pt_not (pt_val (pe_callG GR (hr.mono (by decide)) noG rfl W.gRight W.FRight.kp W.bRight .nil pass0 (pa_cons (pv 2) (pa_cons (pv 3) pa_nil))))) (pss_one (ps_ret pe_bl)) pss_nil))))))
      (pss_cons (ps_set (i := 4) scLaw.nd rfl (.inl rfl) (pe_lst (pa_cons (pe_call GCros (hr.mono (by decide)) rfl W.Y.gCros W.Y.FCros.kp W.Y.bCros .nil pass0 (pa_cons pe_int (pa_cons (pe_lst (pa_cons (pe_lst (pa_cons pe_int (pa_cons pe_int pa_nil))) (pa_cons (pe_lst (pa_cons pe_int (pa_cons pe_int pa_nil))) (pa_cons (pe_lst (pa_cons pe_int (pa_cons pe_int pa_nil))) pa_nil)))) pa_nil))) (pa_cons (pe_call GCros (hr.mono (by decide)) rfl W.Y.gCros W.Y.FCros.kp W.Y.bCros .nil pass0 (pa_cons pe_int (pa_cons (pe_lst (pa_cons (pe_lst (pa_cons pe_int (pa_cons pe_int (pa_cons pe_int pa_nil)))) (pa_cons (pe_lst (pa_cons pe_int (pa_cons pe_int pa_nil))) (pa_cons (pe_lst (pa_cons pe_int (pa_cons pe_int (pa_cons pe_int (pa_cons pe_int pa_nil))))) pa_nil)))) pa_nil))) (pa_cons (pe_call GCros (hr.mono (by decide)) rfl W.Y.gCros W.Y.FCros.kp W.Y.bCros .nil pass0 (pa_cons pe_int (pa_cons (pe_lst pa_nil) pa_nil))) pa_nil)))))
      (pss_cons (ps_set (i := 4) scLaw.nd rfl (.inl rfl) (pe_op op_cat (pv 4) (pe_lst (pa_cons (pe_call GCros (hr.mono (by decide)) rfl W.Y.gCros W.Y.FCros.kp W.Y.bCros .nil pass0 (pa_cons pe_int (pa_cons (pe_lst (pa_cons (pe_lst (pa_cons pe_int (pa_cons pe_int pa_nil))) (pa_cons (pe_lst (pa_cons pe_int (pa_cons pe_int (pa_cons pe_int pa_nil)))) (pa_cons (pe_lst (pa_cons pe_int (pa_cons pe_int pa_nil))) (pa_cons (pe_lst (pa_cons pe_int (pa_cons pe_int pa_nil))) pa_nil))))) pa_nil))) (pa_cons (pe_call GCros (hr.mono (by decide)) rfl W.Y.gCros W.Y.FCros.kp W.Y.bCros .nil pass0 (pa_cons pe_int (pa_cons (pe_lst (pa_cons (pe_lst (pa_cons pe_int (pa_cons pe_int pa_nil))) (pa_cons (pe_lst (pa_cons pe_int (pa_cons pe_int pa_nil))) (pa_cons (pe_lst (pa_cons pe_int (pa_cons pe_int pa_nil))) pa_nil)))) pa_nil))) pa_nil)))))
      (pss_one (ps_ret (pe_cmpR (op_eqD hr.units) (pv 4) (pe_lst (pa_cons (pe_tup (pa_cons pe_int (pa_cons pe_int pa_nil))) (pa_cons pe_non (pa_cons pe_non (pa_cons (pe_tup (pa_cons pe_int (pa_cons pe_int pa_nil))) (pa_cons (pe_tup (pa_cons pe_int (pa_cons pe_int pa_nil))) pa_nil)))))) (nomark _))))))), ?_⟩
    obtain ⟨J, J1, J4, eJ⟩ := mm ((ns.map V.int).length : Nat)
    refine ⟨_, rfl, a, _, rfl, .inl hS, 4, _, rfl, 1, _, rfl, J, congrArg (fun z => [V.int z]) eJ, by omega, by omega, for_range (fun i σ H' => ∃ o1 o2 o3, σ = [some (.ref a), o1, o2, o3, none] ∧ Grows H H') ⟨none, none, none, rfl, .refl⟩ (fun i σ H1 hi ⟨o1, o2, o3, e, g1⟩ => ?_) fun σ H1 ⟨o1, o2, o3, e, g1⟩ => ?_⟩
    · subst e
      refine ⟨_, rfl, _, rfl, a, _, ns, rfl, g1.seq hS, by omega, by omega, fun p H2 np g2 hP2 => ?_⟩
      have Hp0 : H p = none := none_back g1 np
      have g2' := g1.trans g2
      refine ⟨_, rfl, p, 18, 0, rfl, hP2, by decide, by decide, by decide +kernel, fun v H3 v0 v1 hP3 s3 => ?_⟩
      refine ⟨_, _, rfl, rfl, _, rfl, p, 5, 1, rfl, hP3, by decide, by decide, by decide +kernel, fun u H4 u0 u1 hP4 s4 => ⟨_, _, rfl, rfl, (by show 7 ≤ sizeLine; decide), fun t ht => ⟨t, rfl, ⟨_, SqT.of upd_same⟩, ?_⟩⟩⟩
      have tp : t ≠ p := fun z => by
        obtain ⟨_, _, _, eo, _⟩ := hP4
        rw [z, eo] at ht
        cases ht
      have gp : Gr p H4 (upd H4 t (.tup [V.int 2, V.int 3, V.int 4, V.int 5, V.int 20, V.int (3 + v), V.int (3 + u)])) := (Grows.new ht).gr
      have hPt := hP4.same (Grows.new (o := .tup [V.int 2, V.int 3, V.int 4, V.int 5, V.int 20, V.int (3 + v), V.int (3 + u)]) ht)
      have et : (upd H4 t (.tup [V.int 2, V.int 3, V.int 4, V.int 5, V.int 20, V.int (3 + v), V.int (3 + u)])) t = some (.tup [V.int 2, V.int 3, V.int 4, V.int 5, V.int 20, V.int (3 + v), V.int (3 + u)]) := upd_same
      generalize upd H4 t (.tup [V.int 2, V.int 3, V.int 4, V.int 5, V.int 20, V.int (3 + v), V.int (3 + u)]) = H5 at gp hPt et
      have g25 : Grows H H5 := gr_grows g2' Hp0 (Gr.trans (H1 := H3) (fun b o n e => (s3 b n).trans e) (Gr.trans (H1 := H4) (fun b o n e => (s4 b n).trans e) gp)) .refl
      refine for_tup (K := K) (xs := [V.int 2, V.int 3, V.int 4, V.int 5, V.int 20, V.int (3 + v), V.int (3 + u)]) (fun j σ G => ∃ o, σ = [some (.ref a), some (.int (0 + (i : Nat))), some (.ref p), o, none] ∧ Gr p H5 G ∧ Pch G p (2 + 3000 * j)) ⟨_, rfl, .refl, hPt.le (by omega)⟩ (fun j σ G _ ⟨_, _, g, _⟩ => SqT.of (g _ _ tp et)) (fun j x σ G hx ⟨o, e, g, hp⟩ => ?_) fun σ G ⟨o, e, g, hp⟩ => ?_
      · subst e
        have hj : j < 7 := (List.getElem?_eq_some_iff.mp hx).1
        obtain ⟨n, rfl, n2, n20⟩ : ∃ n, x = V.int n ∧ 2 ≤ n ∧ n ≤ 20 := by
          have hm := List.mem_of_getElem? hx
          simp only [List.mem_cons, List.not_mem_nil, or_false] at hm
          rcases hm with rfl | rfl | rfl | rfl | rfl | rfl | rfl <;> exact ⟨_, rfl, by omega, by omega⟩
        exact ⟨_, rfl, _, rfl, p, n, _, rfl, hp, by omega, n2, n20, fun G' hp' gg => ⟨_, rfl, _, rfl, g.trans gg, hp'.le (by omega)⟩⟩
      · exact ⟨_, _, _, e, gr_grows g25 Hp0 g .refl⟩
    · subst e
      refine ⟨(by show 2 ≤ sizeLine; decide), fun x00 h00 => ⟨(by show 2 ≤ sizeLine; decide), fun x01 h01 => ⟨(by show 2 ≤ sizeLine; decide), fun x02 h02 => ⟨(by show 3 ≤ sizeLine; decide), fun y0 k0 => ?_⟩⟩⟩⟩
      have g0 := Grows.new (o := .lst [V.ref x00, V.ref x01, V.ref x02]) k0
      have z02 := (Grows.new (o := .lst [V.int 1, V.int 2]) h02).trans g0
      have z01 := (Grows.new (o := .lst [V.int 2, V.int 3]) h01).trans z02
      have z00 := (Grows.new (o := .lst [V.int 0, V.int 1]) h00).trans z01
      have w0 : Rw K _ y0 [(x00, [0, 1]), (x01, [2, 3]), (x02, [1, 2])] := ⟨SqL.of upd_same, fun c hc => by
          simp only [List.mem_cons, List.not_mem_nil, or_false] at hc
          rcases hc with rfl | rfl | rfl
          · exact SqL.of (z01 _ _ upd_same)
          · exact SqL.of (z02 _ _ upd_same)
          · exact SqL.of (g0 _ _ upd_same)⟩
      refine ⟨y0, 4, [(x00, [0, 1]), (x01, [2, 3]), (x02, [1, 2])], rfl, w0, told1, (fun z => absurd (z.symm.trans fc1) (fun q => nomatch q)), fun i0 j0 f0 t0 G0 s0 n0 q0 => ?_⟩
      have b0 := z00.trans s0
      cases f0.symm.trans fc1
      refine ⟨(by show 3 ≤ sizeLine; decide), fun x10 h10 => ⟨(by show 2 ≤ sizeLine; decide), fun x11 h11 => ⟨(by show 4 ≤ sizeLine; decide), fun x12 h12 => ⟨(by show 3 ≤ sizeLine; decide), fun y1 k1 => ?_⟩⟩⟩⟩
      have g1 := Grows.new (o := .lst [V.ref x10, V.ref x11, V.ref x12]) k1
      have z12 := (Grows.new (o := .lst [V.int 0, V.int 1, V.int 2, V.int 3]) h12).trans g1
      have z11 := (Grows.new (o := .lst [V.int 1, V.int 2]) h11).trans z12
      have z10 := (Grows.new (o := .lst [V.int 0, V.int 1, V.int 2]) h10).trans z11
      have w1 : Rw K _ y1 [(x10, [0, 1, 2]), (x11, [1, 2]), (x12, [0, 1, 2, 3])] := ⟨SqL.of upd_same, fun c hc => by
          simp only [List.mem_cons, List.not_mem_nil, or_false] at hc
          rcases hc with rfl | rfl | rfl
          · exact SqL.of (z11 _ _ upd_same)
          · exact SqL.of (z12 _ _ upd_same)
          · exact SqL.of (g1 _ _ upd_same)⟩
      refine ⟨y1, 4, [(x10, [0, 1, 2]), (x11, [1, 2]), (x12, [0, 1, 2, 3])], rfl, w1, told2, (fun _ G1 s1 => ?_), fun i j z => absurd (z.symm.trans fc2) (fun q => nomatch q)⟩
      have b1 := z10.trans s1
      refine ⟨(by show 0 ≤ sizeLine; decide), fun y2 k2 => ?_⟩
      have g2 := Grows.new (o := .lst []) k2
      have w2 : Rw K (upd G1 y2 (.lst [])) y2 [] := ⟨SqL.of upd_same, fun c hc => nomatch hc⟩
      refine ⟨y2, 1, [], rfl, w2, told3, (fun _ G2 s2 => ?_), fun i j z => absurd (z.symm.trans fc3) (fun q => nomatch q)⟩
      have b2 := g2.trans s2
      refine ⟨(by show 3 ≤ sizeLine; decide), fun fo hfo => ?_⟩
      have gfo := Grows.new (o := .lst [V.ref t0, V.non, V.non]) hfo
      have efo : (upd G2 fo (.lst [V.ref t0, V.non, V.non])) fo = _ := upd_same
      refine ⟨_, rfl, ?_⟩
      refine ⟨(by show 2 ≤ sizeLine; decide), fun x30 h30 => ⟨(by show 3 ≤ sizeLine; decide), fun x31 h31 => ⟨(by show 2 ≤ sizeLine; decide), fun x32 h32 => ⟨(by show 2 ≤ sizeLine; decide), fun x33 h33 => ⟨(by show 4 ≤ sizeLine; decide), fun y3 k3 => ?_⟩⟩⟩⟩⟩
      have g3 := Grows.new (o := .lst [V.ref x30, V.ref x31, V.ref x32, V.ref x33]) k3
      have z33 := (Grows.new (o := .lst [V.int 1, V.int 3]) h33).trans g3
      have z32 := (Grows.new (o := .lst [V.int 2, V.int 3]) h32).trans z33
      have z31 := (Grows.new (o := .lst [V.int 0, V.int 1, V.int 2]) h31).trans z32
      have z30 := (Grows.new (o := .lst [V.int 0, V.int 1]) h30).trans z31
      have w3 : Rw K _ y3 [(x30, [0, 1]), (x31, [0, 1, 2]), (x32, [2, 3]), (x33, [1, 3])] := ⟨SqL.of upd_same, fun c hc => by
          simp only [List.mem_cons, List.not_mem_nil, or_false] at hc
          rcases hc with rfl | rfl | rfl | rfl
          · exact SqL.of (z31 _ _ upd_same)
          · exact SqL.of (z32 _ _ upd_same)
          · exact SqL.of (z33 _ _ upd_same)
          · exact SqL.of (g3 _ _ upd_same)⟩
      refine ⟨y3, 5, [(x30, [0, 1]), (x31, [0, 1, 2]), (x32, [2, 3]), (x33, [1, 3])], rfl, w3, told4, (fun z => absurd (z.symm.trans fc4) (fun q => nomatch q)), fun i3 j3 f3 t3 G3 s3 n3 q3 => ?_⟩
      have b3 := z30.trans s3
      cases f3.symm.trans fc4
      refine ⟨(by show 2 ≤ sizeLine; decide), fun x40 h40 => ⟨(by show 2 ≤ sizeLine; decide), fun x41 h41 => ⟨(by show 2 ≤ sizeLine; decide), fun x42 h42 => ⟨(by show 3 ≤ sizeLine; decide), fun y4 k4 => ?_⟩⟩⟩⟩
      have g4 := Grows.new (o := .lst [V.ref x40, V.ref x41, V.ref x42]) k4
      have z42 := (Grows.new (o := .lst [V.int 0, V.int 2]) h42).trans g4
      have z41 := (Grows.new (o := .lst [V.int 1, V.int 2]) h41).trans z42
      have z40 := (Grows.new (o := .lst [V.int 0, V.int 1]) h40).trans z41
      have w4 : Rw K _ y4 [(x40, [0, 1]), (x41, [1, 2]), (x42, [0, 2])] := ⟨SqL.of upd_same, fun c hc => by
          simp only [List.mem_cons, List.not_mem_nil, or_false] at hc
          rcases hc with rfl | rfl | rfl
          · exact SqL.of (z41 _ _ upd_same)
          · exact SqL.of (z42 _ _ upd_same)
          · exact SqL.of (g4 _ _ upd_same)⟩
      refine ⟨y4, 3, [(x40, [0, 1]), (x41, [1, 2]), (x42, [0, 2])], rfl, w4, told5, (fun z => absurd (z.symm.trans fc5) (fun q => nomatch q)), fun i4 j4 f4 t4 G4 s4 n4 q4 => ?_⟩
      have b4 := z40.trans s4
      cases f4.symm.trans fc5
      refine ⟨(by show 2 ≤ sizeLine; decide), fun f2 hf2 => ?_⟩
      have gf2 := Grows.new (o := .lst [V.ref t3, V.ref t4]) hf2
      have eo2 := (b3.trans (b4.trans gf2)) _ _ efo
      refine ⟨_, _, _, _, rfl, rfl, eo2, upd_same, (by show 5 ≤ sizeLine; decide), fun fu hfu => ?_⟩
      have gfu := Grows.new (o := .lst [V.ref t0, V.non, V.non, V.ref t3, V.ref t4]) hfu
      refine ⟨_, rfl, (by show 2 ≤ sizeLine; decide), fun u1 l1 => ⟨(by show 2 ≤ sizeLine; decide), fun u2 l2 => ⟨(by show 2 ≤ sizeLine; decide), fun u3 l3 => ⟨(by show 5 ≤ sizeLine; decide), fun u4 l4 => ?_⟩⟩⟩⟩
      have v4 := Grows.new (o := .lst [V.ref u1, V.non, V.non, V.ref u2, V.ref u3]) l4
      have v3 := (Grows.new (o := .tup [V.int 0, V.int 1]) l3).trans v4
      have v2 := (Grows.new (o := .tup [V.int 1, V.int 2]) l2).trans v3
      have v1 := (Grows.new (o := .tup [V.int 0, V.int 2]) l1).trans v2
      refine ⟨dueD, dueD, ?_, ?_, due_shaped, due_shaped, ?_⟩
      · have d5 := gf2.trans (gfu.trans v1)
        have d4 := b4.trans d5
        have d0 := b1.trans (b2.trans (gfo.trans (b3.trans d4)))
        refine .lst (SqL.of (v1 _ _ upd_same)) (.cons ?_ (.cons .non (.cons .non (.cons ?_ (.cons ?_ .nil)))))
        · exact .tup (SqT.of (d0 _ _ q0)) (.cons (.int _) (.cons (.int _) .nil))
        · exact .tup (SqT.of (d4 _ _ q3)) (.cons (.int _) (.cons (.int _) .nil))
        · exact .tup (SqT.of (d5 _ _ q4)) (.cons (.int _) (.cons (.int _) .nil))
      · refine .lst (SqL.of upd_same) (.cons ?_ (.cons .non (.cons .non (.cons ?_ (.cons ?_ .nil)))))
        · exact .tup (SqT.of (v2 _ _ upd_same)) (.cons (.int _) (.cons (.int _) .nil))
        · exact .tup (SqT.of (v3 _ _ upd_same)) (.cons (.int _) (.cons (.int _) .nil))
        · exact .tup (SqT.of (v4 _ _ upd_same)) (.cons (.int _) (.cons (.int _) .nil))
      · rw [due_eq]
        exact kq _
end
end K11

namespace K11
open PySem PySem.Spec PyProof.Rows L2 SortR LcM RepA NdefX
theorem vals_rev : ∀ {xs : List V} {us : List Value}, Vals xs us → Vals xs.reverse us.reverse
  | _, _, .nil => .nil
  | _, _, .cons r t => by
    rw [List.reverse_cons, List.reverse_cons]
    exact (vals_rev t).append (.cons r .nil)
def exB (K : PySem.W.Frag) (D : Addr) : Bool :=
  decide (PySem.W.findIn K (.ref D) "__getattribute__" = some (some (.builtin "BaseException.__getattribute__"))) && (decide (PySem.W.findIn K (.ref D) "__getattr__" = some none) && (decide (PySem.W.subIn K (.ref D) (.type "BaseException") = some true) &&
  (PySem.W.hasDictIn K D && (decide (PySem.W.findIn K (.ref D) "__class__" = some (some (.builtin "object.__class__"))) && (decide (PySem.W.specialIn K (.builtin "object.__class__") "__get__" = some (some (.builtin "getset_descriptor.__get__"))) &&
  (decide (PySem.W.takesIn K (.builtin "object.__class__") = some true) && decide (PySem.W.mroIn K D (.type "object") = some true)))))))
theorem exB_ok {K : PySem.W.Frag} {D : Addr} (h : exB K D = true) : ExcC K D := by
  unfold exB at h
  simp only [Bool.and_eq_true, decide_eq_true_eq] at h
  obtain ⟨h1, h2, h3, h4, h5, h6, h7, h8⟩ := h
  exact ⟨h1, h2, h3, h4, h5, h6, h7, h8⟩
def ownB (K : PySem.W.Frag) (C : Addr) : Bool :=
  decide (PySem.W.findIn K (.ref C) "__setattr__" = some (some (.builtin "object.__setattr__"))) && (decide (PySem.W.typeIn K (.ref C) = some (.type "type")) && (PySem.W.keepIn K (.ref C) &&
  (decide (PySem.W.ks_superIn K C C "__init__" = some (some (.builtin "ValueError.__init__"))) && (decide (PySem.W.subIn K (.ref C) (.type "ValueError") = some true) && decide (PySem.W.mroIn K C (.ref C) = some true)))))
theorem kb_two {K : PySem.W.Frag} {fd : FuncData} (h2 : ∀ (s : Shared) (a b : Value), BindsTo s fd ⟨[], [("told", a), ("persons", b)]⟩ [("persons", b), ("told", a)]) (h1 : ∀ (s : Shared) (a b : Value), BindsTo s fd ⟨[b], [("told", a)]⟩ [("persons", b), ("told", a)]) (h0 : ∀ (s : Shared) (a b : Value), BindsTo s fd ⟨[b, a], []⟩ [("persons", b), ("told", a)]) :
    KBinds K fd ["persons", "told"] ["told", "persons"] (fun us ws => us ++ ws.reverse) (fun vs zs => vs ++ zs.reverse) := by
  refine ⟨fun s us ws _ h => ?_, fun r r2 => r.append (vals_rev r2)⟩
  have e : us.length + ws.length = 2 := by simpa using h
  match us, ws, e with
  | [], [_, _], _ => exact h2 _ _ _
  | [_], [_], _ => exact h1 _ _ _
  | [_, _], [], _ => exact h0 _ _ _
  | [], [], e => simp at e
  | [], [_], e => simp at e
  | [], _ :: _ :: _ :: _, e => simp only [List.length_cons, List.length_nil] at e; omega
  | [_], [], e => simp at e
  | [_], _ :: _ :: _, e => simp only [List.length_cons, List.length_nil] at e; omega
  | [_, _], _ :: _, e => simp only [List.length_cons, List.length_nil] at e; omega
  | _ :: _ :: _ :: _, _, e => simp only [List.length_cons, List.length_nil] at e; omega
theorem all_mk {l : PySem.W.OpenLaw} {w : World} {K : PySem.W.Frag} {h : Heap} {mg : Str → Option Value} {fa cC pe fIC ccC coC NC fNum fPer fAsc fPL fGr fMask fCross fAny fIs fPs fNeedP fAre fNeedT fWays fCountP fFrac fCert fLies fFirst fFam fCros fUnits fAllU fGo fWith fShare fUof fGsh fNth fIdx fPouch fDip fItems fFolk fPut fNest fLots fFew fLot fCrL fCrd fMrk fAny2 fRai fRight fL : Addr} (X : K.In h) (G : h.Ns mainGlobals mg) (hfa : mg "law" = some (.ref fa))
    {odNum anNum odPer anPer odAsc anAsc odPL anPL odGr anGr odMask anMask odCross anCross odAny anAny odIs anIs odPs anPs odNeedP anNeedP odAre anAre odNeedT anNeedT odWays anWays odCountP anCountP odFrac anFrac odCert anCert odLies anLies odFirst anFirst odFam anFam odCros anCros odUnits anUnits odAllU anAllU odGo anGo odWith anWith odShare anShare odUof anUof odGsh anGsh odNth anNth odIdx anIdx odPouch anPouch odDip anDip odItems anItems odFolk anFolk odPut anPut odNest anNest odLots anLots odFew anFew odLot anLot odCrL anCrL odCrd anCrd odMrk anMrk odAny2 anAny2 odRai anRai odRight anRight odL anL : Option Addr} {slNum slPer slAsc slPL slGr slMask slCross slAny slIs slPs slNeedP slAre slNeedT slWays slCountP slFrac slCert slLies slFirst slFam slCros slUnits slAllU slGo slWith slShare slUof slGsh slNth slIdx slPouch slDip slItems slFolk slPut slNest slLots slFew slLot slCrL slCrd slMrk slAny2 slRai slRight slL : Array (Option Value)} {ocNum kVNum dcNum pmNum cvNum ctNum ocPer kVPer dcPer pmPer cvPer ctPer ocAsc kVAsc dcAsc pmAsc cvAsc ctAsc ocPL kVPL dcPL pmPL cvPL ctPL ocGr kVGr dcGr pmGr cvGr ctGr ocMask kVMask dcMask pmMask cvMask ctMask ocCross kVCross dcCross pmCross cvCross ctCross ocAny kVAny dcAny pmAny cvAny ctAny ocIs kVIs dcIs pmIs cvIs ctIs ocPs kVPs dcPs pmPs cvPs ctPs ocNeedP kVNeedP dcNeedP pmNeedP cvNeedP ctNeedP ocAre kVAre dcAre pmAre cvAre ctAre ocNeedT kVNeedT dcNeedT pmNeedT cvNeedT ctNeedT ocWays kVWays dcWays pmWays cvWays ctWays ocCountP kVCountP dcCountP pmCountP cvCountP ctCountP ocFrac kVFrac dcFrac pmFrac cvFrac ctFrac ocCert kVCert dcCert pmCert cvCert ctCert ocLies kVLies dcLies pmLies cvLies ctLies ocFirst kVFirst dcFirst pmFirst cvFirst ctFirst ocFam kVFam dcFam pmFam cvFam ctFam ocCros kVCros dcCros pmCros cvCros ctCros ocUnits kVUnits dcUnits pmUnits cvUnits ctUnits ocAllU kVAllU dcAllU pmAllU cvAllU ctAllU ocGo kVGo dcGo pmGo cvGo ctGo ocWith kVWith dcWith pmWith cvWith ctWith ocShare kVShare dcShare pmShare cvShare ctShare ocUof kVUof dcUof pmUof cvUof ctUof ocGsh kVGsh dcGsh pmGsh cvGsh ctGsh ocNth kVNth dcNth pmNth cvNth ctNth ocIdx kVIdx dcIdx pmIdx cvIdx ctIdx ocPouch kVPouch dcPouch pmPouch cvPouch ctPouch ocDip kVDip dcDip pmDip cvDip ctDip ocItems kVItems dcItems pmItems cvItems ctItems ocFolk kVFolk dcFolk pmFolk cvFolk ctFolk ocPut kVPut dcPut pmPut cvPut ctPut ocNest kVNest dcNest pmNest cvNest ctNest ocLots kVLots dcLots pmLots cvLots ctLots ocFew kVFew dcFew pmFew cvFew ctFew ocLot kVLot dcLot pmLot cvLot ctLot ocCrL kVCrL dcCrL pmCrL cvCrL ctCrL ocCrd kVCrd dcCrd pmCrd cvCrd ctCrd ocMrk kVMrk dcMrk pmMrk cvMrk ctMrk ocAny2 kVAny2 dcAny2 pmAny2 cvAny2 ctAny2 ocRai kVRai dcRai pmRai cvRai ctRai ocRight kVRight dcRight pmRight cvRight ctRight ocL kVL dcL pmL cvL ctL : Value} {mtok : Tok}
    (aNum : PySem.W.nsIn K mainGlobals "is_number" = some (some (.ref fNum))) (lNum : K.lookup fNum = some ⟨ocNum, odNum, .func (PySem.W.fnOf "is_number" "is_number" (defArgs sNumber) (defBody sNumber) (defScope sNumber) .none kVNum dcNum pmNum anNum cvNum ctNum), slNum⟩) (xNum : PySem.W.codeIn K cvNum "is_number" = true) (kNum : PySem.W.keepIn K (.ref fNum) = true)
    (aPer : PySem.W.nsIn K mainGlobals "is_person" = some (some (.ref fPer))) (lPer : K.lookup fPer = some ⟨ocPer, odPer, .func (PySem.W.fnOf "is_person" "is_person" (defArgs sPerson) (defBody sPerson) (defScope sPerson) .none kVPer dcPer pmPer anPer cvPer ctPer), slPer⟩) (xPer : PySem.W.codeIn K cvPer "is_person" = true) (kPer : PySem.W.keepIn K (.ref fPer) = true)
    (aAsc : PySem.W.nsIn K mainGlobals "is_ascending" = some (some (.ref fAsc))) (lAsc : K.lookup fAsc = some ⟨ocAsc, odAsc, .func (PySem.W.fnOf "is_ascending" "is_ascending" (defArgs sAsc) (defBody sAsc) (defScope sAsc) .none kVAsc dcAsc pmAsc anAsc cvAsc ctAsc), slAsc⟩) (xAsc : PySem.W.codeIn K cvAsc "is_ascending" = true) (kAsc : PySem.W.keepIn K (.ref fAsc) = true)
    (aPL : PySem.W.nsIn K mainGlobals "is_person_list" = some (some (.ref fPL))) (lPL : K.lookup fPL = some ⟨ocPL, odPL, .func (PySem.W.fnOf "is_person_list" "is_person_list" (defArgs sPList) (defBody sPList) (defScope sPList) .none kVPL dcPL pmPL anPL cvPL ctPL), slPL⟩) (xPL : PySem.W.codeIn K cvPL "is_person_list" = true) (kPL : PySem.W.keepIn K (.ref fPL) = true)
    (aGr : PySem.W.nsIn K mainGlobals "is_group" = some (some (.ref fGr))) (lGr : K.lookup fGr = some ⟨ocGr, odGr, .func (PySem.W.fnOf "is_group" "is_group" (defArgs sGroup) (defBody sGroup) (defScope sGroup) .none kVGr dcGr pmGr anGr cvGr ctGr), slGr⟩) (xGr : PySem.W.codeIn K cvGr "is_group" = true) (kGr : PySem.W.keepIn K (.ref fGr) = true)
    (aMask : PySem.W.nsIn K mainGlobals "mask_of" = some (some (.ref fMask))) (lMask : K.lookup fMask = some ⟨ocMask, odMask, .func (PySem.W.fnOf "mask_of" "mask_of" (defArgs sMask) (defBody sMask) (defScope sMask) .none kVMask dcMask pmMask anMask cvMask ctMask), slMask⟩) (xMask : PySem.W.codeIn K cvMask "mask_of" = true) (kMask : PySem.W.keepIn K (.ref fMask) = true)
    (aCross : PySem.W.nsIn K mainGlobals "masks_cross" = some (some (.ref fCross))) (lCross : K.lookup fCross = some ⟨ocCross, odCross, .func (PySem.W.fnOf "masks_cross" "masks_cross" (defArgs sCross) (defBody sCross) (defScope sCross) .none kVCross dcCross pmCross anCross cvCross ctCross), slCross⟩) (xCross : PySem.W.codeIn K cvCross "masks_cross" = true) (kCross : PySem.W.keepIn K (.ref fCross) = true)
    (aAny : PySem.W.nsIn K mainGlobals "any_cross" = some (some (.ref fAny))) (lAny : K.lookup fAny = some ⟨ocAny, odAny, .func (PySem.W.fnOf "any_cross" "any_cross" (defArgs sAny) (defBody sAny) (defScope sAny) .none kVAny dcAny pmAny anAny cvAny ctAny), slAny⟩) (xAny : PySem.W.codeIn K cvAny "any_cross" = true) (kAny : PySem.W.keepIn K (.ref fAny) = true)
    (aIs : PySem.W.nsIn K mainGlobals "is_parting" = some (some (.ref fIs))) (lIs : K.lookup fIs = some ⟨ocIs, odIs, .func (PySem.W.fnOf "is_parting" "is_parting" (defArgs sParting) (defBody sParting) (defScope sParting) .none kVIs dcIs pmIs anIs cvIs ctIs), slIs⟩) (xIs : PySem.W.codeIn K cvIs "is_parting" = true) (kIs : PySem.W.keepIn K (.ref fIs) = true)
    (aPs : PySem.W.nsIn K mainGlobals "persons_of" = some (some (.ref fPs))) (lPs : K.lookup fPs = some ⟨ocPs, odPs, .func (PySem.W.fnOf "persons_of" "persons_of" (defArgs sPersons) (defBody sPersons) (defScope sPersons) .none kVPs dcPs pmPs anPs cvPs ctPs), slPs⟩) (xPs : PySem.W.codeIn K cvPs "persons_of" = true) (kPs : PySem.W.keepIn K (.ref fPs) = true)
    (aNeedP : PySem.W.nsIn K mainGlobals "need_persons" = some (some (.ref fNeedP))) (lNeedP : K.lookup fNeedP = some ⟨ocNeedP, odNeedP, .func (PySem.W.fnOf "need_persons" "need_persons" (defArgs sNeedP) (defBody sNeedP) (defScope sNeedP) .none kVNeedP dcNeedP pmNeedP anNeedP cvNeedP ctNeedP), slNeedP⟩) (xNeedP : PySem.W.codeIn K cvNeedP "need_persons" = true) (kNeedP : PySem.W.keepIn K (.ref fNeedP) = true)
    (aAre : PySem.W.nsIn K mainGlobals "are_groups" = some (some (.ref fAre))) (lAre : K.lookup fAre = some ⟨ocAre, odAre, .func (PySem.W.fnOf "are_groups" "are_groups" (defArgs sAre) (defBody sAre) (defScope sAre) .none kVAre dcAre pmAre anAre cvAre ctAre), slAre⟩) (xAre : PySem.W.codeIn K cvAre "are_groups" = true) (kAre : PySem.W.keepIn K (.ref fAre) = true)
    (aNeedT : PySem.W.nsIn K mainGlobals "need_told" = some (some (.ref fNeedT))) (lNeedT : K.lookup fNeedT = some ⟨ocNeedT, odNeedT, .func (PySem.W.fnOf "need_told" "need_told" (defArgs sNeedT) (defBody sNeedT) (defScope sNeedT) .none kVNeedT dcNeedT pmNeedT anNeedT cvNeedT ctNeedT), slNeedT⟩) (xNeedT : PySem.W.codeIn K cvNeedT "need_told" = true) (kNeedT : PySem.W.keepIn K (.ref fNeedT) = true)
    (aWays : PySem.W.nsIn K mainGlobals "ways_of" = some (some (.ref fWays))) (lWays : K.lookup fWays = some ⟨ocWays, odWays, .func (PySem.W.fnOf "ways_of" "ways_of" (defArgs sWays) (defBody sWays) (defScope sWays) .none kVWays dcWays pmWays anWays cvWays ctWays), slWays⟩) (xWays : PySem.W.codeIn K cvWays "ways_of" = true) (kWays : PySem.W.keepIn K (.ref fWays) = true)
    (aCountP : PySem.W.nsIn K mainGlobals "count_partings" = some (some (.ref fCountP))) (lCountP : K.lookup fCountP = some ⟨ocCountP, odCountP, .func (PySem.W.fnOf "count_partings" "count_partings" (defArgs sCountP) (defBody sCountP) (defScope sCountP) .none kVCountP dcCountP pmCountP anCountP cvCountP ctCountP), slCountP⟩) (xCountP : PySem.W.codeIn K cvCountP "count_partings" = true) (kCountP : PySem.W.keepIn K (.ref fCountP) = true)
    (aFrac : PySem.W.nsIn K mainGlobals "fraction" = some (some (.ref fFrac))) (lFrac : K.lookup fFrac = some ⟨ocFrac, odFrac, .func (PySem.W.fnOf "fraction" "fraction" (defArgs sFrac) (defBody sFrac) (defScope sFrac) .none kVFrac dcFrac pmFrac anFrac cvFrac ctFrac), slFrac⟩) (xFrac : PySem.W.codeIn K cvFrac "fraction" = true) (kFrac : PySem.W.keepIn K (.ref fFrac) = true)
    (aCert : PySem.W.nsIn K mainGlobals "certain_groups" = some (some (.ref fCert))) (lCert : K.lookup fCert = some ⟨ocCert, odCert, .func (PySem.W.fnOf "certain_groups" "certain_groups" (defArgs sCert) (defBody sCert) (defScope sCert) .none kVCert dcCert pmCert anCert cvCert ctCert), slCert⟩) (xCert : PySem.W.codeIn K cvCert "certain_groups" = true) (kCert : PySem.W.keepIn K (.ref fCert) = true)
    (aLies : PySem.W.nsIn K mainGlobals "lies_within" = some (some (.ref fLies))) (lLies : K.lookup fLies = some ⟨ocLies, odLies, .func (PySem.W.fnOf "lies_within" "lies_within" (defArgs sLies) (defBody sLies) (defScope sLies) .none kVLies dcLies pmLies anLies cvLies ctLies), slLies⟩) (xLies : PySem.W.codeIn K cvLies "lies_within" = true) (kLies : PySem.W.keepIn K (.ref fLies) = true)
    (aFirst : PySem.W.nsIn K mainGlobals "first_crossing" = some (some (.ref fFirst))) (lFirst : K.lookup fFirst = some ⟨ocFirst, odFirst, .func (PySem.W.fnOf "first_crossing" "first_crossing" (defArgs sFirst) (defBody sFirst) (defScope sFirst) .none kVFirst dcFirst pmFirst anFirst cvFirst ctFirst), slFirst⟩) (xFirst : PySem.W.codeIn K cvFirst "first_crossing" = true) (kFirst : PySem.W.keepIn K (.ref fFirst) = true)
    (aFam : PySem.W.nsIn K mainGlobals "need_family" = some (some (.ref fFam))) (lFam : K.lookup fFam = some ⟨ocFam, odFam, .func (PySem.W.fnOf "need_family" "need_family" (defArgs sFam) (defBody sFam) (defScope sFam) .none kVFam dcFam pmFam anFam cvFam ctFam), slFam⟩) (xFam : PySem.W.codeIn K cvFam "need_family" = true) (kFam : PySem.W.keepIn K (.ref fFam) = true)
    (aCros : PySem.W.nsIn K mainGlobals "crossing" = some (some (.ref fCros))) (lCros : K.lookup fCros = some ⟨ocCros, odCros, .func (PySem.W.fnOf "crossing" "crossing" (defArgs sCros) (defBody sCros) (defScope sCros) .none kVCros dcCros pmCros anCros cvCros ctCros), slCros⟩) (xCros : PySem.W.codeIn K cvCros "crossing" = true) (kCros : PySem.W.keepIn K (.ref fCros) = true)
    (aUnits : PySem.W.nsIn K mainGlobals "units_in" = some (some (.ref fUnits))) (lUnits : K.lookup fUnits = some ⟨ocUnits, odUnits, .func (PySem.W.fnOf "units_in" "units_in" (defArgs sUnits) (defBody sUnits) (defScope sUnits) .none kVUnits dcUnits pmUnits anUnits cvUnits ctUnits), slUnits⟩) (xUnits : PySem.W.codeIn K cvUnits "units_in" = true) (kUnits : PySem.W.keepIn K (.ref fUnits) = true)
    (aAllU : PySem.W.nsIn K mainGlobals "all_units" = some (some (.ref fAllU))) (lAllU : K.lookup fAllU = some ⟨ocAllU, odAllU, .func (PySem.W.fnOf "all_units" "all_units" (defArgs sAllU) (defBody sAllU) (defScope sAllU) .none kVAllU dcAllU pmAllU anAllU cvAllU ctAllU), slAllU⟩) (xAllU : PySem.W.codeIn K cvAllU "all_units" = true) (kAllU : PySem.W.keepIn K (.ref fAllU) = true)
    (aGo : PySem.W.nsIn K mainGlobals "count_going_on" = some (some (.ref fGo))) (lGo : K.lookup fGo = some ⟨ocGo, odGo, .func (PySem.W.fnOf "count_going_on" "count_going_on" (defArgs sGo) (defBody sGo) (defScope sGo) .none kVGo dcGo pmGo anGo cvGo ctGo), slGo⟩) (xGo : PySem.W.codeIn K cvGo "count_going_on" = true) (kGo : PySem.W.keepIn K (.ref fGo) = true)
    (aWith : PySem.W.nsIn K mainGlobals "count_with" = some (some (.ref fWith))) (lWith : K.lookup fWith = some ⟨ocWith, odWith, .func (PySem.W.fnOf "count_with" "count_with" (defArgs sWith) (defBody sWith) (defScope sWith) .none kVWith dcWith pmWith anWith cvWith ctWith), slWith⟩) (xWith : PySem.W.codeIn K cvWith "count_with" = true) (kWith : PySem.W.keepIn K (.ref fWith) = true)
    (aShare : PySem.W.nsIn K mainGlobals "share_with" = some (some (.ref fShare))) (lShare : K.lookup fShare = some ⟨ocShare, odShare, .func (PySem.W.fnOf "share_with" "share_with" (defArgs sShare) (defBody sShare) (defScope sShare) .none kVShare dcShare pmShare anShare cvShare ctShare), slShare⟩) (xShare : PySem.W.codeIn K cvShare "share_with" = true) (kShare : PySem.W.keepIn K (.ref fShare) = true)
    (aUof : PySem.W.nsIn K mainGlobals "units_of" = some (some (.ref fUof))) (lUof : K.lookup fUof = some ⟨ocUof, odUof, .func (PySem.W.fnOf "units_of" "units_of" (defArgs sUof) (defBody sUof) (defScope sUof) .none kVUof dcUof pmUof anUof cvUof ctUof), slUof⟩) (xUof : PySem.W.codeIn K cvUof "units_of" = true) (kUof : PySem.W.keepIn K (.ref fUof) = true)
    (aGsh : PySem.W.nsIn K mainGlobals "group_share" = some (some (.ref fGsh))) (lGsh : K.lookup fGsh = some ⟨ocGsh, odGsh, .func (PySem.W.fnOf "group_share" "group_share" (defArgs sGsh) (defBody sGsh) (defScope sGsh) .none kVGsh dcGsh pmGsh anGsh cvGsh ctGsh), slGsh⟩) (xGsh : PySem.W.codeIn K cvGsh "group_share" = true) (kGsh : PySem.W.keepIn K (.ref fGsh) = true)
    (aNth : PySem.W.nsIn K mainGlobals "nth_with" = some (some (.ref fNth))) (lNth : K.lookup fNth = some ⟨ocNth, odNth, .func (PySem.W.fnOf "nth_with" "nth_with" (defArgs sNth) (defBody sNth) (defScope sNth) .none kVNth dcNth pmNth anNth cvNth ctNth), slNth⟩) (xNth : PySem.W.codeIn K cvNth "nth_with" = true) (kNth : PySem.W.keepIn K (.ref fNth) = true)
    (aIdx : PySem.W.nsIn K mainGlobals "index_with" = some (some (.ref fIdx))) (lIdx : K.lookup fIdx = some ⟨ocIdx, odIdx, .func (PySem.W.fnOf "index_with" "index_with" (defArgs sIdx) (defBody sIdx) (defScope sIdx) .none kVIdx dcIdx pmIdx anIdx cvIdx ctIdx), slIdx⟩) (xIdx : PySem.W.codeIn K cvIdx "index_with" = true) (kIdx : PySem.W.keepIn K (.ref fIdx) = true)
    (aPouch : PySem.W.nsIn K mainGlobals "_law_pouch" = some (some (.ref fPouch))) (lPouch : K.lookup fPouch = some ⟨ocPouch, odPouch, .func (PySem.W.fnOf "_law_pouch" "_law_pouch" (defArgs sPouch) (defBody sPouch) (defScope sPouch) .none kVPouch dcPouch pmPouch anPouch cvPouch ctPouch), slPouch⟩) (xPouch : PySem.W.codeIn K cvPouch "_law_pouch" = true) (kPouch : PySem.W.keepIn K (.ref fPouch) = true)
    (aDip : PySem.W.nsIn K mainGlobals "_law_dip" = some (some (.ref fDip))) (lDip : K.lookup fDip = some ⟨ocDip, odDip, .func (PySem.W.fnOf "_law_dip" "_law_dip" (defArgs sDip) (defBody sDip) (defScope sDip) .none kVDip dcDip pmDip anDip cvDip ctDip), slDip⟩) (xDip : PySem.W.codeIn K cvDip "_law_dip" = true) (kDip : PySem.W.keepIn K (.ref fDip) = true)
    (aItems : PySem.W.nsIn K mainGlobals "_law_items" = some (some (.ref fItems))) (lItems : K.lookup fItems = some ⟨ocItems, odItems, .func (PySem.W.fnOf "_law_items" "_law_items" (defArgs sItems) (defBody sItems) (defScope sItems) .none kVItems dcItems pmItems anItems cvItems ctItems), slItems⟩) (xItems : PySem.W.codeIn K cvItems "_law_items" = true) (kItems : PySem.W.keepIn K (.ref fItems) = true)
    (aFolk : PySem.W.nsIn K mainGlobals "_law_folk" = some (some (.ref fFolk))) (lFolk : K.lookup fFolk = some ⟨ocFolk, odFolk, .func (PySem.W.fnOf "_law_folk" "_law_folk" (defArgs sFolk) (defBody sFolk) (defScope sFolk) .none kVFolk dcFolk pmFolk anFolk cvFolk ctFolk), slFolk⟩) (xFolk : PySem.W.codeIn K cvFolk "_law_folk" = true) (kFolk : PySem.W.keepIn K (.ref fFolk) = true)
    (aPut : PySem.W.nsIn K mainGlobals "_law_put" = some (some (.ref fPut))) (lPut : K.lookup fPut = some ⟨ocPut, odPut, .func (PySem.W.fnOf "_law_put" "_law_put" (defArgs sPut) (defBody sPut) (defScope sPut) .none kVPut dcPut pmPut anPut cvPut ctPut), slPut⟩) (xPut : PySem.W.codeIn K cvPut "_law_put" = true) (kPut : PySem.W.keepIn K (.ref fPut) = true)
    (aNest : PySem.W.nsIn K mainGlobals "_law_nest" = some (some (.ref fNest))) (lNest : K.lookup fNest = some ⟨ocNest, odNest, .func (PySem.W.fnOf "_law_nest" "_law_nest" (defArgs sNest) (defBody sNest) (defScope sNest) .none kVNest dcNest pmNest anNest cvNest ctNest), slNest⟩) (xNest : PySem.W.codeIn K cvNest "_law_nest" = true) (kNest : PySem.W.keepIn K (.ref fNest) = true)
    (aLots : PySem.W.nsIn K mainGlobals "_law_lots" = some (some (.ref fLots))) (lLots : K.lookup fLots = some ⟨ocLots, odLots, .func (PySem.W.fnOf "_law_lots" "_law_lots" (defArgs sLots) (defBody sLots) (defScope sLots) .none kVLots dcLots pmLots anLots cvLots ctLots), slLots⟩) (xLots : PySem.W.codeIn K cvLots "_law_lots" = true) (kLots : PySem.W.keepIn K (.ref fLots) = true)
    (aFew : PySem.W.nsIn K mainGlobals "_law_few" = some (some (.ref fFew))) (lFew : K.lookup fFew = some ⟨ocFew, odFew, .func (PySem.W.fnOf "_law_few" "_law_few" (defArgs sFew) (defBody sFew) (defScope sFew) .none kVFew dcFew pmFew anFew cvFew ctFew), slFew⟩) (xFew : PySem.W.codeIn K cvFew "_law_few" = true) (kFew : PySem.W.keepIn K (.ref fFew) = true)
    (aLot : PySem.W.nsIn K mainGlobals "_law_lot" = some (some (.ref fLot))) (lLot : K.lookup fLot = some ⟨ocLot, odLot, .func (PySem.W.fnOf "_law_lot" "_law_lot" (defArgs sLot) (defBody sLot) (defScope sLot) .none kVLot dcLot pmLot anLot cvLot ctLot), slLot⟩) (xLot : PySem.W.codeIn K cvLot "_law_lot" = true) (kLot : PySem.W.keepIn K (.ref fLot) = true)
    (aCrL : PySem.W.nsIn K mainGlobals "_law_cross" = some (some (.ref fCrL))) (lCrL : K.lookup fCrL = some ⟨ocCrL, odCrL, .func (PySem.W.fnOf "_law_cross" "_law_cross" (defArgs sCrL) (defBody sCrL) (defScope sCrL) .none kVCrL dcCrL pmCrL anCrL cvCrL ctCrL), slCrL⟩) (xCrL : PySem.W.codeIn K cvCrL "_law_cross" = true) (kCrL : PySem.W.keepIn K (.ref fCrL) = true)
    (aCrd : PySem.W.nsIn K mainGlobals "_law_crossed" = some (some (.ref fCrd))) (lCrd : K.lookup fCrd = some ⟨ocCrd, odCrd, .func (PySem.W.fnOf "_law_crossed" "_law_crossed" (defArgs sCrd) (defBody sCrd) (defScope sCrd) .none kVCrd dcCrd pmCrd anCrd cvCrd ctCrd), slCrd⟩) (xCrd : PySem.W.codeIn K cvCrd "_law_crossed" = true) (kCrd : PySem.W.keepIn K (.ref fCrd) = true)
    (aMrk : PySem.W.nsIn K mainGlobals "_law_marked" = some (some (.ref fMrk))) (lMrk : K.lookup fMrk = some ⟨ocMrk, odMrk, .func (PySem.W.fnOf "_law_marked" "_law_marked" (defArgs sMrk) (defBody sMrk) (defScope sMrk) .none kVMrk dcMrk pmMrk anMrk cvMrk ctMrk), slMrk⟩) (xMrk : PySem.W.codeIn K cvMrk "_law_marked" = true) (kMrk : PySem.W.keepIn K (.ref fMrk) = true)
    (aAny2 : PySem.W.nsIn K mainGlobals "_law_any_marked" = some (some (.ref fAny2))) (lAny2 : K.lookup fAny2 = some ⟨ocAny2, odAny2, .func (PySem.W.fnOf "_law_any_marked" "_law_any_marked" (defArgs sAny2) (defBody sAny2) (defScope sAny2) .none kVAny2 dcAny2 pmAny2 anAny2 cvAny2 ctAny2), slAny2⟩) (xAny2 : PySem.W.codeIn K cvAny2 "_law_any_marked" = true) (kAny2 : PySem.W.keepIn K (.ref fAny2) = true)
    (aRai : PySem.W.nsIn K mainGlobals "_law_raised" = some (some (.ref fRai))) (lRai : K.lookup fRai = some ⟨ocRai, odRai, .func (PySem.W.fnOf "_law_raised" "_law_raised" (defArgs sRai) (defBody sRai) (defScope sRai) .none kVRai dcRai pmRai anRai cvRai ctRai), slRai⟩) (xRai : PySem.W.codeIn K cvRai "_law_raised" = true) (kRai : PySem.W.keepIn K (.ref fRai) = true)
    (aRight : PySem.W.nsIn K mainGlobals "_law_right" = some (some (.ref fRight))) (lRight : K.lookup fRight = some ⟨ocRight, odRight, .func (PySem.W.fnOf "_law_right" "_law_right" (defArgs sRight) (defBody sRight) (defScope sRight) .none kVRight dcRight pmRight anRight cvRight ctRight), slRight⟩) (xRight : PySem.W.codeIn K cvRight "_law_right" = true) (kRight : PySem.W.keepIn K (.ref fRight) = true)
    (aL : PySem.W.nsIn K mainGlobals "law" = some (some (.ref fL))) (lL : K.lookup fL = some ⟨ocL, odL, .func (PySem.W.fnOf "law" "law" (defArgs sLaw) (defBody sLaw) (defScope sLaw) .none kVL dcL pmL anL cvL ctL), slL⟩) (xL : PySem.W.codeIn K cvL "law" = true) (kL : PySem.W.keepIn K (.ref fL) = true)
    (y_isinstance : PySem.W.nsIn K mainGlobals "isinstance" = some none)
    (y_int : PySem.W.nsIn K mainGlobals "int" = some none)
    (y_bool : PySem.W.nsIn K mainGlobals "bool" = some none)
    (y_list : PySem.W.nsIn K mainGlobals "list" = some none)
    (y_len : PySem.W.nsIn K mainGlobals "len" = some none)
    (y_all : PySem.W.nsIn K mainGlobals "all" = some none)
    (y_any : PySem.W.nsIn K mainGlobals "any" = some none)
    (y_sum : PySem.W.nsIn K mainGlobals "sum" = some none)
    (y_zip : PySem.W.nsIn K mainGlobals "zip" = some none)
    (y_sorted : PySem.W.nsIn K mainGlobals "sorted" = some none)
    (y_tuple : PySem.W.nsIn K mainGlobals "tuple" = some none)
    (y_range : PySem.W.nsIn K mainGlobals "range" = some none)
    (y_enumerate : PySem.W.nsIn K mainGlobals "enumerate" = some none)
    (y_abs : PySem.W.nsIn K mainGlobals "abs" = some none)
    (y_max : PySem.W.nsIn K mainGlobals "max" = some none)
    (y_min : PySem.W.nsIn K mainGlobals "min" = some none)
    (y_repr : PySem.W.nsIn K mainGlobals "repr" = some none)
    {odIC anIC d1C d2C ddC : Option Addr} {slIC s1C s2C : Array (Option Value)} {vsC : Array Value} {ocIC kVIC dcIC pmIC ctIC o1C o2C : Value} {nmC qC fiC : Str} {bsC sbC : List Value} {snC : List Str} {abC : Bool} {colC : Option Bool} {g0C g1C g2C g3C g5C : Option Value} {tfC : Tok}
    (zComb : PySem.W.nsIn K mainGlobals "combinations" = some (some (.type "itertools.combinations"))) (zMost : PySem.W.nsIn K mainGlobals "MOST_PERSONS" = some (some (.int 20 mtok))) (zGcd : PySem.W.nsIn K mainGlobals "gcd" = some (some (.builtin "math.gcd")))
    (zC : PySem.W.nsIn K mainGlobals "Crossing" = some (some (.ref cC))) (xCC : K.lookup cC = some (excClassObj nmC qC cC NC bsC [.ref pe, .type "ValueError", .type "Exception", .type "BaseException", .type "object"] true snC sbC abC colC ddC g0C g1C g2C g3C g5C "ValueError.__new__"))
    (aIC : PySem.W.findIn K (.ref cC) "__init__" = some (some (.ref fIC))) (tIC : PySem.W.typeIn K (.ref fIC) = some (.type "function"))
    (lIC : K.lookup fIC = some ⟨ocIC, odIC, .func (PySem.W.fnX "__init__" "Crossing.__init__" (defArgs sInC) (defBody sInC) (defScope sInC) [(("__class__" : Str), ccC)] .none kVIC dcIC pmIC anIC (.ref coC) ctIC), slIC⟩) (xIC : PySem.W.codeIn K (.ref coC) "Crossing.__init__" = true)
    (ceC : K.lookup ccC = some ⟨o1C, d1C, .cell (some (.ref cC)), s1C⟩) (coC' : K.lookup coC = some ⟨o2C, d2C, .fields vsC, s2C⟩) (vvC : vsC[2]? = some (.str fiC tfC)) (ffC : ((l.prog.main.file : Str) == fiC) = true)
    (y_super : PySem.W.nsIn K mainGlobals "super" = some none) (yt : (l.prog.main.scope.names.lookup ("super" : Str)).isSome = false) (y3 : PySem.W.nsIn K cStatics "thirdparty.any" = some none)
    (zn1 : PySem.W.findIn K (.ref cC) "first" = some none) (zn2 : PySem.W.findIn K (.ref cC) "second" = some none) (hte : PySem.W.exmOne K (.ref cC) (.ref cC) = some true)
    (hex : exB K cC = true) (hown : ownB K cC = true) (hxf : xfB K cC = true) :
    ∃ fd : FuncData, (∀ (s : Shared) (v : Value), BindsTo s fd ⟨[v], []⟩ [("script", v)]) ∧ ∀ base : Heap, K.In base → base.Ns mainGlobals mg → FnG l.prog w K mg base CX0 27 fa fd ["script"] (spLaw K) := by
  have e := hfa.symm.trans (PySem.W.mg_of X G aL)
  cases e
  have FNum := fun_mk (st := sNumber) lNum xNum kNum
  have bNum := FNum.binds (ps := ["thing"]) fun _ _ _ _ _ _ us hl => match us, hl with | [_], _ => rfl
  have FPer := fun_mk (st := sPerson) lPer xPer kPer
  have bPer := FPer.binds (ps := ["thing", "persons"]) fun _ _ _ _ _ _ us hl => match us, hl with | [_, _], _ => rfl
  have FAsc := fun_mk (st := sAsc) lAsc xAsc kAsc
  have bAsc := FAsc.binds (ps := ["items"]) fun _ _ _ _ _ _ us hl => match us, hl with | [_], _ => rfl
  have FPL := fun_mk (st := sPList) lPL xPL kPL
  have bPL := FPL.binds (ps := ["thing", "persons"]) fun _ _ _ _ _ _ us hl => match us, hl with | [_, _], _ => rfl
  have FGr := fun_mk (st := sGroup) lGr xGr kGr
  have bGr := FGr.binds (ps := ["thing", "persons"]) fun _ _ _ _ _ _ us hl => match us, hl with | [_, _], _ => rfl
  have FMask := fun_mk (st := sMask) lMask xMask kMask
  have bMask := FMask.binds (ps := ["group"]) fun _ _ _ _ _ _ us hl => match us, hl with | [_], _ => rfl
  have FCross := fun_mk (st := sCross) lCross xCross kCross
  have bCross := FCross.binds (ps := ["one", "other"]) fun _ _ _ _ _ _ us hl => match us, hl with | [_, _], _ => rfl
  have FAny := fun_mk (st := sAny) lAny xAny kAny
  have bAny := FAny.binds (ps := ["groups"]) fun _ _ _ _ _ _ us hl => match us, hl with | [_], _ => rfl
  have FIs := fun_mk (st := sParting) lIs xIs kIs
  have bIs := FIs.binds (ps := ["thing"]) fun _ _ _ _ _ _ us hl => match us, hl with | [_], _ => rfl
  have FPs := fun_mk (st := sPersons) lPs xPs kPs
  have bPs := FPs.binds (ps := ["parting"]) fun _ _ _ _ _ _ us hl => match us, hl with | [_], _ => rfl
  have FNeedP := fun_mk (st := sNeedP) lNeedP xNeedP kNeedP
  have bNeedP := FNeedP.binds (ps := ["persons"]) fun _ _ _ _ _ _ us hl => match us, hl with | [_], _ => rfl
  have FAre := fun_mk (st := sAre) lAre xAre kAre
  have bAre := FAre.binds (ps := ["thing", "persons"]) fun _ _ _ _ _ _ us hl => match us, hl with | [_, _], _ => rfl
  have FNeedT := fun_mk (st := sNeedT) lNeedT xNeedT kNeedT
  have bNeedT := FNeedT.binds (ps := ["persons", "told"]) fun _ _ _ _ _ _ us hl => match us, hl with | [_, _], _ => rfl
  have FWays := fun_mk (st := sWays) lWays xWays kWays
  have bWays := FWays.binds (ps := ["many"]) fun _ _ _ _ _ _ us hl => match us, hl with | [_], _ => rfl
  have FCountP := fun_mk (st := sCountP) lCountP xCountP kCountP
  have bCountP := FCountP.binds (ps := ["persons"]) fun _ _ _ _ _ _ us hl => match us, hl with | [_], _ => rfl
  have FFrac := fun_mk (st := sFrac) lFrac xFrac kFrac
  have bFrac := FFrac.binds (ps := ["top", "bottom"]) fun _ _ _ _ _ _ us hl => match us, hl with | [_, _], _ => rfl
  have FCert := fun_mk (st := sCert) lCert xCert kCert
  have bCert := FCert.binds (ps := ["persons", "told"]) fun _ _ _ _ _ _ us hl => match us, hl with | [_, _], _ => rfl
  have FLies := fun_mk (st := sLies) lLies xLies kLies
  have bLies := FLies.binds (ps := ["one", "other"]) fun _ _ _ _ _ _ us hl => match us, hl with | [_, _], _ => rfl
  have FFirst := fun_mk (st := sFirst) lFirst xFirst kFirst
  have bFirst := FFirst.binds (ps := ["groups"]) fun _ _ _ _ _ _ us hl => match us, hl with | [_], _ => rfl
  have FFam := fun_mk (st := sFam) lFam xFam kFam
  have bFam := FFam.binds (ps := ["groups"]) fun _ _ _ _ _ _ us hl => match us, hl with | [_], _ => rfl
  have FCros := fun_mk (st := sCros) lCros xCros kCros
  have bCros := FCros.binds (ps := ["persons", "told"]) fun _ _ _ _ _ _ us hl => match us, hl with | [_, _], _ => rfl
  have FUnits := fun_mk (st := sUnits) lUnits xUnits kUnits
  have bUnits := FUnits.binds (ps := ["told", "group"]) fun _ _ _ _ _ _ us hl => match us, hl with | [_, _], _ => rfl
  have FAllU := fun_mk (st := sAllU) lAllU xAllU kAllU
  have bAllU := FAllU.binds (ps := ["persons", "told"]) fun _ _ _ _ _ _ us hl => match us, hl with | [_, _], _ => rfl
  have FGo := fun_mk (st := sGo) lGo xGo kGo
  have bGo := FGo.binds (ps := ["unit_lists", "come"]) fun _ _ _ _ _ _ us hl => match us, hl with | [_, _], _ => rfl
  have FWith := fun_mk (st := sWith) lWith xWith kWith
  have bWith := FWith.binds (ps := ["persons", "told"]) fun _ _ _ _ _ _ us hl => match us, hl with | [_, _], _ => rfl
  have FShare := fun_mk (st := sShare) lShare xShare kShare
  have bShare := FShare.binds (ps := ["persons", "told"]) fun _ _ _ _ _ _ us hl => match us, hl with | [_, _], _ => rfl
  have FUof := fun_mk (st := sUof) lUof xUof kUof
  have bUof := FUof.binds (ps := ["persons", "told", "group"]) fun _ _ _ _ _ _ us hl => match us, hl with | [_, _, _], _ => rfl
  have FGsh := fun_mk (st := sGsh) lGsh xGsh kGsh
  have bGsh := FGsh.binds (ps := ["persons", "told", "group"]) fun _ _ _ _ _ _ us hl => match us, hl with | [_, _, _], _ => rfl
  have FNth := fun_mk (st := sNth) lNth xNth kNth
  have bNth := FNth.binds (ps := ["persons", "told", "index"]) fun _ _ _ _ _ _ us hl => match us, hl with | [_, _, _], _ => rfl
  have FIdx := fun_mk (st := sIdx) lIdx xIdx kIdx
  have bIdx := FIdx.binds (ps := ["parting", "told"]) fun _ _ _ _ _ _ us hl => match us, hl with | [_, _], _ => rfl
  have FPouch := fun_mk (st := sPouch) lPouch xPouch kPouch
  have bPouch := FPouch.binds (ps := ["script", "at"]) fun _ _ _ _ _ _ us hl => match us, hl with | [_, _], _ => rfl
  have FDip := fun_mk (st := sDip) lDip xDip kDip
  have bDip := FDip.binds (ps := ["pouch", "wide"]) fun _ _ _ _ _ _ us hl => match us, hl with | [_, _], _ => rfl
  have FItems := fun_mk (st := sItems) lItems xItems kItems
  have bItems := FItems.binds (ps := ["pouch", "many"]) fun _ _ _ _ _ _ us hl => match us, hl with | [_, _], _ => rfl
  have FFolk := fun_mk (st := sFolk) lFolk xFolk kFolk
  have bFolk := FFolk.binds (ps := ["nest"]) fun _ _ _ _ _ _ us hl => match us, hl with | [_], _ => rfl
  have FPut := fun_mk (st := sPut) lPut xPut kPut
  have bPut := FPut.binds (ps := ["nest", "item", "fresh"]) fun _ _ _ _ _ _ us hl => match us, hl with | [_, _, _], _ => rfl
  have FNest := fun_mk (st := sNest) lNest xNest kNest
  have bNest := FNest.binds (ps := ["items"]) fun _ _ _ _ _ _ us hl => match us, hl with | [_], _ => rfl
  have FLots := fun_mk (st := sLots) lLots xLots kLots
  have bLots := FLots.binds (ps := ["nest"]) fun _ _ _ _ _ _ us hl => match us, hl with | [_], _ => rfl
  have FFew := fun_mk (st := sFew) lFew xFew kFew
  have bFew := FFew.binds (ps := ["pouch", "lots"]) fun _ _ _ _ _ _ us hl => match us, hl with | [_, _], _ => rfl
  have FLot := fun_mk (st := sLot) lLot xLot kLot
  have bLot := FLot.binds (ps := ["pouch", "many"]) fun _ _ _ _ _ _ us hl => match us, hl with | [_, _], _ => rfl
  have FCrL := fun_mk (st := sCrL) lCrL xCrL kCrL
  have bCrL := FCrL.binds (ps := ["lot", "rest"]) fun _ _ _ _ _ _ us hl => match us, hl with | [_, _], _ => rfl
  have FCrd := fun_mk (st := sCrd) lCrd xCrd kCrd
  have bCrd := FCrd.binds (ps := ["marked"]) fun _ _ _ _ _ _ us hl => match us, hl with | [_], _ => rfl
  have FMrk := fun_mk (st := sMrk) lMrk xMrk kMrk
  have bMrk := FMrk.binds (ps := ["pouch", "many"]) fun _ _ _ _ _ _ us hl => match us, hl with | [_, _], _ => rfl
  have FAny2 := fun_mk (st := sAny2) lAny2 xAny2 kAny2
  have bAny2 := FAny2.binds (ps := ["pouch", "many"]) fun _ _ _ _ _ _ us hl => match us, hl with | [_, _], _ => rfl
  have FRai := fun_mk (st := sRai) lRai xRai kRai
  have bRai := FRai.binds (ps := ["way", "many", "marked", "lots"]) fun _ _ _ _ _ _ us hl => match us, hl with | [_, _, _, _], _ => rfl
  have FRight := fun_mk (st := sRight) lRight xRight kRight
  have bRight := FRight.binds (ps := ["pouch", "many"]) fun _ _ _ _ _ _ us hl => match us, hl with | [_, _], _ => rfl
  have FL := fun_mk (st := sLaw) lL xL kL
  have bL := FL.binds (ps := ["script"]) fun _ _ _ _ _ _ us hl => match us, hl with | [_], _ => rfl
  have Tp : TxtP mg := ⟨PySem.W.mg_none_of X G y_isinstance, PySem.W.mg_none_of X G y_int, PySem.W.mg_none_of X G y_bool, PySem.W.mg_none_of X G y_list, PySem.W.mg_none_of X G y_len, PySem.W.mg_none_of X G y_all, PySem.W.mg_none_of X G y_any, PySem.W.mg_none_of X G y_sum, PySem.W.mg_none_of X G y_zip, PySem.W.mg_none_of X G y_sorted, PySem.W.mg_none_of X G y_tuple, PySem.W.mg_none_of X G y_range, PySem.W.mg_none_of X G y_enumerate⟩
  have T : TxtW mg := { toTxtP := Tp, abs := PySem.W.mg_none_of X G y_abs, max := PySem.W.mg_none_of X G y_max, min := PySem.W.mg_none_of X G y_min, repr := PySem.W.mg_none_of X G y_repr }
  have Z : ProgF K mg := { fNum := fNum, dNum := _, FNum := FNum, gNum := PySem.W.mg_of X G aNum, bNum := bNum, fPer := fPer, dPer := _, FPer := FPer, gPer := PySem.W.mg_of X G aPer, bPer := bPer, fAsc := fAsc, dAsc := _, FAsc := FAsc, gAsc := PySem.W.mg_of X G aAsc, bAsc := bAsc, fPL := fPL, dPL := _, FPL := FPL, gPL := PySem.W.mg_of X G aPL, bPL := bPL, fGr := fGr, dGr := _, FGr := FGr, gGr := PySem.W.mg_of X G aGr, bGr := bGr, fMask := fMask, dMask := _, FMask := FMask, gMask := PySem.W.mg_of X G aMask, bMask := bMask, fCross := fCross, dCross := _, FCross := FCross, gCross := PySem.W.mg_of X G aCross, bCross := bCross, fAny := fAny, dAny := _, FAny := FAny, gAny := PySem.W.mg_of X G aAny, bAny := bAny, fIs := fIs, dIs := _, FIs := FIs, gIs := PySem.W.mg_of X G aIs, bIs := bIs, fPs := fPs, dPs := _, FPs := FPs, gPs := PySem.W.mg_of X G aPs, bPs := bPs, gComb := PySem.W.mg_of X G zComb, mostT := _, gMost := PySem.W.mg_of X G zMost }
  have W : LawF K mg := { Z := Z, T := T, Y := { fNeedP := fNeedP, dNeedP := _, FNeedP := FNeedP, gNeedP := PySem.W.mg_of X G aNeedP, bNeedP := bNeedP, fAre := fAre, dAre := _, FAre := FAre, gAre := PySem.W.mg_of X G aAre, bAre := bAre, fNeedT := fNeedT, dNeedT := _, FNeedT := FNeedT, gNeedT := PySem.W.mg_of X G aNeedT, bNeedT := bNeedT, fWays := fWays, dWays := _, FWays := FWays, gWays := PySem.W.mg_of X G aWays, bWays := bWays, fCountP := fCountP, dCountP := _, FCountP := FCountP, gCountP := PySem.W.mg_of X G aCountP, bCountP := bCountP, fFrac := fFrac, dFrac := _, FFrac := FFrac, gFrac := PySem.W.mg_of X G aFrac, bFrac := bFrac, fCert := fCert, dCert := _, FCert := FCert, gCert := PySem.W.mg_of X G aCert, bCert := bCert, fLies := fLies, dLies := _, FLies := FLies, gLies := PySem.W.mg_of X G aLies, bLies := bLies, fFirst := fFirst, dFirst := _, FFirst := FFirst, gFirst := PySem.W.mg_of X G aFirst, bFirst := bFirst, fFam := fFam, dFam := _, FFam := FFam, gFam := PySem.W.mg_of X G aFam, bFam := bFam, fCros := fCros, dCros := _, FCros := FCros, gCros := PySem.W.mg_of X G aCros, bCros := bCros, fUnits := fUnits, dUnits := _, FUnits := FUnits, gUnits := PySem.W.mg_of X G aUnits, bUnits := bUnits, fAllU := fAllU, dAllU := _, FAllU := FAllU, gAllU := PySem.W.mg_of X G aAllU, bAllU := bAllU, fGo := fGo, dGo := _, FGo := FGo, gGo := PySem.W.mg_of X G aGo, bGo := bGo, fWith := fWith, dWith := _, FWith := FWith, gWith := PySem.W.mg_of X G aWith, bWith := bWith, fShare := fShare, dShare := _, FShare := FShare, gShare := PySem.W.mg_of X G aShare, bShare := bShare, fUof := fUof, dUof := _, FUof := FUof, gUof := PySem.W.mg_of X G aUof, bUof := bUof, fGsh := fGsh, dGsh := _, FGsh := FGsh, gGsh := PySem.W.mg_of X G aGsh, bGsh := bGsh, fNth := fNth, dNth := _, FNth := FNth, gNth := PySem.W.mg_of X G aNth, bNth := bNth, fIdx := fIdx, dIdx := _, FIdx := FIdx, gIdx := PySem.W.mg_of X G aIdx, bIdx := bIdx, gGcd := PySem.W.mg_of X G zGcd }, fPouch := fPouch, dPouch := _, FPouch := FPouch, gPouch := PySem.W.mg_of X G aPouch, bPouch := bPouch, fDip := fDip, dDip := _, FDip := FDip, gDip := PySem.W.mg_of X G aDip, bDip := bDip, fItems := fItems, dItems := _, FItems := FItems, gItems := PySem.W.mg_of X G aItems, bItems := bItems, fFolk := fFolk, dFolk := _, FFolk := FFolk, gFolk := PySem.W.mg_of X G aFolk, bFolk := bFolk, fPut := fPut, dPut := _, FPut := FPut, gPut := PySem.W.mg_of X G aPut, bPut := bPut, fNest := fNest, dNest := _, FNest := FNest, gNest := PySem.W.mg_of X G aNest, bNest := bNest, fLots := fLots, dLots := _, FLots := FLots, gLots := PySem.W.mg_of X G aLots, bLots := bLots, fFew := fFew, dFew := _, FFew := FFew, gFew := PySem.W.mg_of X G aFew, bFew := bFew, fLot := fLot, dLot := _, FLot := FLot, gLot := PySem.W.mg_of X G aLot, bLot := bLot, fCrL := fCrL, dCrL := _, FCrL := FCrL, gCrL := PySem.W.mg_of X G aCrL, bCrL := bCrL, fCrd := fCrd, dCrd := _, FCrd := FCrd, gCrd := PySem.W.mg_of X G aCrd, bCrd := bCrd, fMrk := fMrk, dMrk := _, FMrk := FMrk, gMrk := PySem.W.mg_of X G aMrk, bMrk := bMrk, fAny := fAny2, dAny := _, FAny := FAny2, gAny := PySem.W.mg_of X G aAny2, bAny := bAny2, fRai := fRai, dRai := _, FRai := FRai, gRai := PySem.W.mg_of X G aRai, bRai := bRai, fRight := fRight, dRight := _, FRight := FRight, gRight := PySem.W.mg_of X G aRight, bRight := bRight, kbCros := kb_two (fun s a b => .of_eq rfl) (fun s a b => .of_eq rfl) (fun s a b => .of_eq rfl) }
  have oC := hown
  unfold ownB at oC
  simp only [Bool.and_eq_true, decide_eq_true_eq] at oC
  have OC : OexC K cC := ⟨⟨_, _, _, _, _, _, _, _, _, _, _, _, _, _, _, xCC, (show PySem.HandSPX.refsVE PySem.HandSPX.veTail = true by decide +kernel)⟩, oC.1, (exB_ok hex).hs, oC.2.1, oC.2.2.1⟩
  have IC : InitTxt l.prog K mg cC fIC ccC (nfOf "Crossing.__init__" sInC ccC coC) (PySem.W.fnX "__init__" "Crossing.__init__" (defArgs sInC) (defBody sInC) (defScope sInC) [(("__class__" : Str), ccC)] .none kVIC dcIC pmIC anIC (.ref coC) ctIC) :=
    ⟨⟨ocIC, odIC, anIC, .none, kVIC, dcIC, pmIC, ctIC, slIC, rfl, lIC⟩, xIC, rfl, ⟨_, _, _, ceC⟩, ⟨_, _, _, _, _, _, coC', vvC, ffC⟩, PySem.W.mg_none_of X G y_super, yt, y3, oC.2.2.2.1, oC.2.2.2.2.1, oC.2.2.2.2.2, OC⟩
  have bIC : Binds K (PySem.W.fnX "__init__" "Crossing.__init__" (defArgs sInC) (defBody sInC) (defScope sInC) [(("__class__" : Str), ccC)] .none kVIC dcIC pmIC anIC (.ref coC) ctIC) ["self", "first", "second"] [] := .all fun us hl => match us, hl with | [_, _, _], _ => rfl
  have CV : CroF l.prog K mg := { C := cC, fI := fIC, cc := ccC, cI := coC, dI := _, init := IC, n1 := zn1, n2 := zn2, iC := aIC, tI := tIC, bI := bIC, gC := PySem.W.mg_of X G zC, xf := xfB_ok hxf, te := hte }
  refine ⟨PySem.W.fnOf "law" "law" (defArgs sLaw) (defBody sLaw) (defScope sLaw) .none kVL dcL pmL anL cvL ctL, fun s v => .of_eq rfl, fun base _ _ => ?_⟩
  exact ok_law FL W CV
theorem walk {l : PySem.W.OpenLaw} {q : Program} {loose : List Str} {XP : (Str → Option Value) → Heap → Prop} {YP : World → Heap → Prop} {d : DefRec} {K : Params → PySem.W.Frag} (hn : l.most = some 63) (hdf : d.params.defaults = [])
    (hY : ∀ (w : World) (h : Heap), YP w h → (K w.params).In h)
    (F : ∀ (w : World) (mg : Str → Option Value) (fa : Addr) (h : Heap), (K w.params).In h → h.Ns mainGlobals mg → mg d.name = some (.ref fa) →
      ∃ fd : FuncData, (∀ (s : Shared) (u : Value), BindsTo s fd ⟨[u], []⟩ [("script", u)]) ∧ ∀ base : Heap, (K w.params).In base → base.Ns mainGlobals mg → FnG l.prog w (K w.params) mg base CX0 27 fa fd ["script"] (spLaw (K w.params))) :
    PySem.W.WalkO q loose XP YP l.row.toRowW d [] (fun f vs => PySem.call f vs) :=
  walk_ofG (n := 63) (lv := 27) (x := "script") (cx := fun _ => CX0) (prom := fun w => spLaw (K w.params)) hn (by decide) hdf ⟨rfl, by decide, by decide⟩ hY F (fun _ _ a ns hl _ _ hS => ⟨a, ns, rfl, hS, hl, fun _ => rfl⟩) fun _ _ _ _ _ z => z
end K11


open PySem PySem.W PyProof.Rows in
set_option maxRecDepth 100000 in
set_option maxHeartbeats 0 in
theorem PySem.Challenge.cw_twopartings_k11_crossing_groups_holds : PySem.Challenge.rw_twopartings_k11_crossing_groups.Holds := by
  w_on; o_law; k_head; (case hw => w_witness2)
  k_fill
  refine K11.walk (l := PySem.Challenge.rw_twopartings_k11_crossing_groups) rfl rfl (fun w h Y => PySem.W.kIn_of Y) ?F
  case F =>
    intro w mg fa h KX G hmg
    refine' K11.all_mk KX G hmg ?aNum ?lNum ?xNum ?kNum ?aPer ?lPer ?xPer ?kPer ?aAsc ?lAsc ?xAsc ?kAsc ?aPL ?lPL ?xPL ?kPL ?aGr ?lGr ?xGr ?kGr ?aMask ?lMask ?xMask ?kMask ?aCross ?lCross ?xCross ?kCross ?aAny ?lAny ?xAny ?kAny ?aIs ?lIs ?xIs ?kIs ?aPs ?lPs ?xPs ?kPs ?aNeedP ?lNeedP ?xNeedP ?kNeedP ?aAre ?lAre ?xAre ?kAre ?aNeedT ?lNeedT ?xNeedT ?kNeedT ?aWays ?lWays ?xWays ?kWays ?aCountP ?lCountP ?xCountP ?kCountP ?aFrac ?lFrac ?xFrac ?kFrac ?aCert ?lCert ?xCert ?kCert ?aLies ?lLies ?xLies ?kLies ?aFirst ?lFirst ?xFirst ?kFirst ?aFam ?lFam ?xFam ?kFam ?aCros ?lCros ?xCros ?kCros ?aUnits ?lUnits ?xUnits ?kUnits ?aAllU ?lAllU ?xAllU ?kAllU ?aGo ?lGo ?xGo ?kGo ?aWith ?lWith ?xWith ?kWith ?aShare ?lShare ?xShare ?kShare ?aUof ?lUof ?xUof ?kUof ?aGsh ?lGsh ?xGsh ?kGsh ?aNth ?lNth ?xNth ?kNth ?aIdx ?lIdx ?xIdx ?kIdx ?aPouch ?lPouch ?xPouch ?kPouch ?aDip ?lDip ?xDip ?kDip ?aItems ?lItems ?xItems ?kItems ?aFolk ?lFolk ?xFolk ?kFolk ?aPut ?lPut ?xPut ?kPut ?aNest ?lNest ?xNest ?kNest ?aLots ?lLots ?xLots ?kLots ?aFew ?lFew ?xFew ?kFew ?aLot ?lLot ?xLot ?kLot ?aCrL ?lCrL ?xCrL ?kCrL ?aCrd ?lCrd ?xCrd ?kCrd ?aMrk ?lMrk ?xMrk ?kMrk ?aAny2 ?lAny2 ?xAny2 ?kAny2 ?aRai ?lRai ?xRai ?kRai ?aRight ?lRight ?xRight ?kRight ?aL ?lL ?xL ?kL ?y_isinstance ?y_int ?y_bool ?y_list ?y_len ?y_all ?y_any ?y_sum ?y_zip ?y_sorted ?y_tuple ?y_range ?y_enumerate ?y_abs ?y_max ?y_min ?y_repr ?zComb ?zMost ?zGcd ?zC ?xCC ?aIC ?tIC ?lIC ?xIC ?ceC ?coC' ?vvC ?ffC ?y_super ?yt ?y3 ?zn1 ?zn2 ?hte ?hex ?hown ?hxf
    (case aNum => k_is)
    (case lNum => k_is)
    (case xNum => k_is)
    (case kNum => k_is)
    (case aPer => k_is)
    (case lPer => k_is)
    (case xPer => k_is)
    (case kPer => k_is)
    (case aAsc => k_is)
    (case lAsc => k_is)
    (case xAsc => k_is)
    (case kAsc => k_is)
    (case aPL => k_is)
    (case lPL => k_is)
    (case xPL => k_is)
    (case kPL => k_is)
    (case aGr => k_is)
    (case lGr => k_is)
    (case xGr => k_is)
    (case kGr => k_is)
    (case aMask => k_is)
    (case lMask => k_is)
    (case xMask => k_is)
    (case kMask => k_is)
    (case aCross => k_is)
    (case lCross => k_is)
    (case xCross => k_is)
    (case kCross => k_is)
    (case aAny => k_is)
    (case lAny => k_is)
    (case xAny => k_is)
    (case kAny => k_is)
    (case aIs => k_is)
    (case lIs => k_is)
    (case xIs => k_is)
    (case kIs => k_is)
    (case aPs => k_is)
    (case lPs => k_is)
    (case xPs => k_is)
    (case kPs => k_is)
    (case aNeedP => k_is)
    (case lNeedP => k_is)
    (case xNeedP => k_is)
    (case kNeedP => k_is)
    (case aAre => k_is)
    (case lAre => k_is)
    (case xAre => k_is)
    (case kAre => k_is)
    (case aNeedT => k_is)
    (case lNeedT => k_is)
    (case xNeedT => k_is)
    (case kNeedT => k_is)
    (case aWays => k_is)
    (case lWays => k_is)
    (case xWays => k_is)
    (case kWays => k_is)
    (case aCountP => k_is)
    (case lCountP => k_is)
    (case xCountP => k_is)
    (case kCountP => k_is)
    (case aFrac => k_is)
    (case lFrac => k_is)
    (case xFrac => k_is)
    (case kFrac => k_is)
    (case aCert => k_is)
    (case lCert => k_is)
    (case xCert => k_is)
    (case kCert => k_is)
    (case aLies => k_is)
    (case lLies => k_is)
    (case xLies => k_is)
    (case kLies => k_is)
    (case aFirst => k_is)
    (case lFirst => k_is)
    (case xFirst => k_is)
    (case kFirst => k_is)
    (case aFam => k_is)
    (case lFam => k_is)
    (case xFam => k_is)
    (case kFam => k_is)
    (case aCros => k_is)
    (case lCros => k_is)
    (case xCros => k_is)
    (case kCros => k_is)
    (case aUnits => k_is)
    (case lUnits => k_is)
    (case xUnits => k_is)
    (case kUnits => k_is)
    (case aAllU => k_is)
    (case lAllU => k_is)
    (case xAllU => k_is)
    (case kAllU => k_is)
    (case aGo => k_is)
    (case lGo => k_is)
    (case xGo => k_is)
    (case kGo => k_is)
    (case aWith => k_is)
    (case lWith => k_is)
    (case xWith => k_is)
    (case kWith => k_is)
    (case aShare => k_is)
    (case lShare => k_is)
    (case xShare => k_is)
    (case kShare => k_is)
    (case aUof => k_is)
    (case lUof => k_is)
    (case xUof => k_is)
    (case kUof => k_is)
    (case aGsh => k_is)
    (case lGsh => k_is)
    (case xGsh => k_is)
    (case kGsh => k_is)
    (case aNth => k_is)
    (case lNth => k_is)
    (case xNth => k_is)
    (case kNth => k_is)
    (case aIdx => k_is)
    (case lIdx => k_is)
    (case xIdx => k_is)
    (case kIdx => k_is)
    (case aPouch => k_is)
    (case lPouch => k_is)
    (case xPouch => k_is)
    (case kPouch => k_is)
    (case aDip => k_is)
    (case lDip => k_is)
    (case xDip => k_is)
    (case kDip => k_is)
    (case aItems => k_is)
    (case lItems => k_is)
    (case xItems => k_is)
    (case kItems => k_is)
    (case aFolk => k_is)
    (case lFolk => k_is)
    (case xFolk => k_is)
    (case kFolk => k_is)
    (case aPut => k_is)
    (case lPut => k_is)
    (case xPut => k_is)
    (case kPut => k_is)
    (case aNest => k_is)
    (case lNest => k_is)
    (case xNest => k_is)
    (case kNest => k_is)
    (case aLots => k_is)
    (case lLots => k_is)
    (case xLots => k_is)
    (case kLots => k_is)
    (case aFew => k_is)
    (case lFew => k_is)
    (case xFew => k_is)
    (case kFew => k_is)
    (case aLot => k_is)
    (case lLot => k_is)
    (case xLot => k_is)
    (case kLot => k_is)
    (case aCrL => k_is)
    (case lCrL => k_is)
    (case xCrL => k_is)
    (case kCrL => k_is)
    (case aCrd => k_is)
    (case lCrd => k_is)
    (case xCrd => k_is)
    (case kCrd => k_is)
    (case aMrk => k_is)
    (case lMrk => k_is)
    (case xMrk => k_is)
    (case kMrk => k_is)
    (case aAny2 => k_is)
    (case lAny2 => k_is)
    (case xAny2 => k_is)
    (case kAny2 => k_is)
    (case aRai => k_is)
    (case lRai => k_is)
    (case xRai => k_is)
    (case kRai => k_is)
    (case aRight => k_is)
    (case lRight => k_is)
    (case xRight => k_is)
    (case kRight => k_is)
    (case aL => k_is)
    (case lL => k_is)
    (case xL => k_is)
    (case kL => k_is)
    (case y_isinstance => k_is)
    (case y_int => k_is)
    (case y_bool => k_is)
    (case y_list => k_is)
    (case y_len => k_is)
    (case y_all => k_is)
    (case y_any => k_is)
    (case y_sum => k_is)
    (case y_zip => k_is)
    (case y_sorted => k_is)
    (case y_tuple => k_is)
    (case y_range => k_is)
    (case y_enumerate => k_is)
    (case y_abs => k_is)
    (case y_max => k_is)
    (case y_min => k_is)
    (case y_repr => k_is)
    (case zComb => k_is)
    (case zMost => k_is)
    (case zGcd => k_is)
    (case zC => k_is)
    (case xCC => k_is)
    (case aIC => k_is)
    (case tIC => k_is)
    (case lIC => k_is)
    (case xIC => k_is)
    (case ceC => k_is)
    (case coC' => k_is)
    (case vvC => rfl)
    (case ffC => first | rfl | decide +kernel | kernel_rfl)
    (case y_super => k_is)
    (case yt => first | rfl | decide +kernel | kernel_rfl)
    (case y3 => k_is)
    (case zn1 => k_is)
    (case zn2 => k_is)
    (case hte => first | rfl | decide +kernel | kernel_rfl)
    (case hex => first | kernel_rfl | rfl)
    (case hown => first | kernel_rfl | rfl)
    (case hxf => first | kernel_rfl | rfl)
