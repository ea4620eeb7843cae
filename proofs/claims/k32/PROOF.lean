import PyProof.Rows.All
import Wide.All
import OpenK.AllK
import Wide.FinOn
import PySem.Challenge.RW_twopartings_k32_families_and_histories
import HandS.ForMost
import HandS.Wide
import HandS.WideBits
import PyProof.ReprRoads
import HandS.EndBits
import PyProof.ZipIter
import PyProof.CallType
import PyProof.Walk
import PyProof.WalkLemmas
import PyProof.RangeIter
import PyProof.RulesTry
import PyProof.TupleOfSeq
import KE.SortData
import KE.DataCmp
import HandS.DictComp
import HandS.Conv
import PyProof.ReprLen
import KE.GoesEnumKw
import KE.KRevSl
import KE.KDictZip
import KE.GoesEnum
import PyProof.Rows.BitMore
import HandS.Sort
import KE.KDictSum
import HandS.Gcd
import KE.KMathGC
import HandS.SetBool
import HandS.TupSets
import HandS.SetFor
import HandS.Strs
import HandS.Deep
import KE.DataFind
import HandS.IsInst
import HandS.More
import HandS.TupLe
set_option Elab.async false
set_option linter.all false
set_option maxRecDepth 100000
set_option maxHeartbeats 40000000
namespace RepA
open PySem PySem.Spec PyProof.Rows L2

/-! ### data without a dict -/
mutual
theorem dp_nodict {K : PySem.W.Frag} {H : Hp} : ∀ (d : PyData) (v : V), Dp K H v d → d.hasDict = false
  | .none, _, _ => by simp only [PyData.hasDict]
  | .bool _, _, _ => by simp only [PyData.hasDict]
  | .int _, _, _ => by simp only [PyData.hasDict]
  | .str _, _, _ => by simp only [PyData.hasDict]
  | .list ds, _, h => by
    cases h with
    | lst hs ha =>
      simp only [PyData.hasDict]
      exact dpAll_nodict ds _ ha
  | .tuple ds, _, h => by
    cases h with
    | tup hs ha =>
      simp only [PyData.hasDict]
      exact dpAll_nodict ds _ ha
  | .dict _, _, h => by cases h
theorem dpAll_nodict {K : PySem.W.Frag} {H : Hp} : ∀ (ds : List PyData) (vs : List V), DpAll K H vs ds → PyData.hasDictAll ds = false
  | [], _, _ => by simp only [PyData.hasDictAll]
  | d :: ds, _, h => by
    cases h with
    | cons h1 h2 => simp only [PyData.hasDictAll, dp_nodict d _ h1, dpAll_nodict ds _ h2, Bool.or_self]
end

/-! ### an item: data, or an empty dict -/
def Dd (K : PySem.W.Frag) (H : Hp) (v : V) (d : PyData) : Prop := Dp K H v d ∨ ∃ a, v = .ref a ∧ H a = some (.dK []) ∧ d = .dict []
inductive DdAll (K : PySem.W.Frag) (H : Hp) : List V → List PyData → Prop
  | nil : DdAll K H [] []
  | cons {v : V} {vs : List V} {d : PyData} {ds : List PyData} : Dd K H v d → DdAll K H vs ds → DdAll K H (v :: vs) (d :: ds)
theorem DdAll.of_dp {K : PySem.W.Frag} {H : Hp} : ∀ {vs : List V} {ds : List PyData}, DpAll K H vs ds → DdAll K H vs ds
  | _, _, .nil => .nil
  | _, _, .cons h r => .cons (.inl h) (.of_dp r)

section
variable {X : Cx} {pins : List (Addr × Obj)} {σ : L2.St} {H : Hp} {s : Shared}
theorem dd_reads (I : Inv X pins σ H s) {v : V} {u : Value} {d : PyData} (h : Dd X.K H v d) (r : RelV v u) : ∃ as, Reads s.heap u d as ∧ (d.hasDict = true → sysModules ∉ as) := by
  rcases h with h | ⟨a, rfl, ha, rfl⟩
  · obtain ⟨as, q⟩ := Dp.reads I d v u h r
    exact ⟨as, q, fun e => by rw [dp_nodict d v h] at e; cases e⟩
  · obtain rfl : u = Value.ref a := r
    obtain ⟨_, hn, vs, rel, dd⟩ := dk_of I.hok ha
    obtain ⟨o, es, ep, e1, e2, e3, e4⟩ := dd
    cases rel
    have hes : es.toList = [] := by
      have q := e4.2.1
      generalize es.toList = l at q
      cases q
      rfl
    refine ⟨[a], ?_, fun _ hm => ?_⟩
    · refine Reads.dict (as := []) (bs := []) e1 e2.1 e3 ?_ ?_
      · rw [hes]
        exact ReadsAll.nil
      · rw [hes]
        exact ReadsAll.nil
    · rcases List.mem_cons.mp hm with q | q
      · rw [q] at hn
        rw [beq_self_eq_true] at hn
        cases hn
      · cases q

/-- all items, each by itself -/
theorem dd_all (I : Inv X pins σ H s) : ∀ {vs : List V} {ds : List PyData} {us : List Value}, DdAll X.K H vs ds → Vals vs us → PyData.showableAll ds = true → (∀ t ∈ PyData.shownAll ds, t.length ≤ sizeLine) →
    (∃ as, ReadsAll s.heap us ds as) ∧ ∃ bs, ReadAtMost s.heap (PyData.depthAll ds) bs ∧ ReprAllK X.prog X.w bs s.heap (PyData.depthAll ds) us (PyData.shownAll ds)
  | _, _, _, .nil, .nil, _, _ => ⟨⟨_, .nil⟩, [], (fun _ h => nomatch h), by simp only [PyData.shownAll]; exact .nil⟩
  | _, _, _, .cons (d := d) (ds := ds) h hr, .cons r rr, hs, hz => by
    obtain ⟨s1, s2⟩ : d.showable = true ∧ PyData.showableAll ds = true := by simpa [PyData.showableAll] using hs
    obtain ⟨a1, q1, n1⟩ := dd_reads I h r
    obtain ⟨b1, m1, k1⟩ := ReprK.of_reads (prog := X.prog) (w := X.w) q1 s1 n1 (hz _ (by simp only [PyData.shownAll]; exact List.mem_cons_self ..))
    obtain ⟨⟨a2, q2⟩, b2, m2, k2⟩ := dd_all I hr rr s2 fun t ht => hz t (by simp only [PyData.shownAll]; exact List.mem_cons_of_mem _ ht)
    have l1 : d.depth ≤ PyData.depthAll (d :: ds) := by simp only [PyData.depthAll]; omega
    have l2 : PyData.depthAll ds ≤ PyData.depthAll (d :: ds) := by simp only [PyData.depthAll]; omega
    refine ⟨⟨_, .cons q1 q2⟩, b1 ++ b2, fun b hb => ?_, ?_⟩
    · rcases List.mem_append.mp hb with hb | hb
      · obtain ⟨d', as', r', z⟩ := m1 b hb
        exact ⟨d', as', r', Nat.le_trans z l1⟩
      · obtain ⟨d', as', r', z⟩ := m2 b hb
        exact ⟨d', as', r', Nat.le_trans z l2⟩
    · simp only [PyData.shownAll]
      exact .cons ((k1.more fun b hb => List.mem_append.mpr (.inl hb)).level_le l1) (k2.more_le (fun b hb => List.mem_append.mpr (.inr hb)) l2)

/-- repr of a list of data and empty dicts, where no guard stands -/
theorem call_reprL (hg : X.A.guards = some []) (hu : X.A.units + 64 < cLine) : CallR X (.builtin "repr") (fun xs H Q => ∃ a ys ds, xs = [V.ref a] ∧ SqL X.K H a ys ∧ DdAll X.K H ys ds ∧ PyData.showableAll ds = true ∧ PyData.depthAll ds ≤ 40 ∧
    (listText (PyData.shownAll ds)).length ≤ sizeLine ∧ Q (.str (PyData.list ds).shown) H) := by
  intro pins s σ H xs us Q I r h
  obtain ⟨a, ys, ds, rfl, hs, hd, hw, hdp, hz, q⟩ := h
  obtain ⟨u, rfl, ru⟩ := vals1 r
  obtain rfl : u = Value.ref a := ru
  obtain ⟨its, rv, ⟨o, n, ho, hc, hne, hda⟩, hsz⟩ := I.list hs
  obtain ⟨⟨as, hR⟩, bs, hb, hk⟩ := dd_all I hd rv hw fun t ht => Nat.le_trans (listText_mem_le ht) hz
  have rd : Reads s.heap (.ref a) (.list ds) (a :: as) := .list ho hc hda hR
  have hna : a ∉ bs := not_mem_of_deeper rd (by simp only [PyData.depth]; omega) hb
  have fin : ∀ (t tk : Nat) (h' : Heap), (∀ b o, s.heap.get? b = some o → h'.get? b = some o) → EP X pins σ Q (.str (listText (PyData.shownAll ds)) t) { s with heap := h', toks := tk } := fun t tk h' k =>
    ⟨.str _, H, I.kept k, ⟨t, rfl⟩, by simpa only [PyData.shown] using q⟩
  refine call_repr_slot (by omega) ⟨o, ho, hc⟩ F.slot_list_repr.toG ?_
  obtain ⟨l⟩ : ∃ l, l = its := ⟨_, rfl⟩
  cases its with
  | nil =>
    cases hR
    exact call_list_repr_empty ⟨o, ho, hc⟩ ho hda ⟨_, _, rfl, by simpa only [PyData.shownAll, listText_nil] using fin s.toks (s.toks + 1) s.heap fun _ _ e => e⟩
  | cons x l =>
    refine call_list_reprK (h₀ := s.heap) ho hc hda hna (by simpa using hk.length_eq) (fun i y e => hk.item i y (by simpa using e)) hg (fun b _ => Clear.nil b) (by show X.A.units + 1 + (PyData.depthAll ds + 1) < cLine; omega) (fun _ _ e => e) (fun h' t tk k => ⟨_, _, rfl, fin t tk h' k⟩) hz
end
end RepA

namespace RepA
open PySem PySem.Spec PyProof.Rows L2

/-! ### the promise of a def that is called where no guard stands -/
structure FnG (Pg : Program) (wd : World) (Kf : PySem.W.Frag) (gl : Str → Option Value) (bs : Heap) (cx : CXT) (lv : Nat) (fa : Addr) (dat : FuncData) (names : List Str) (prom : Sp) : Prop where
  cnt : ∀ xs G Qv Ex, prom xs G Qv Ex → xs.length = names.length
  go : ∀ (Ar : Around) (fr : List Env) (sh : Shared) (G : Hp) (ar : Args) (us : List Value) (xs : List V) (Qv : VK) (Ex : XK), Room lv Ar → Ar.guards = some [] →
    Env0 Pg wd Kf gl bs Ar fr sh G → BindsTo sh dat ar (names.zip us) → Vals xs us → prom xs G Qv Ex →
    codeAny (model Pg wd) Ar (.call (.ref fa) ar) (CR cx fr Pg wd G sh Qv Ex) sh

theorem FnG.of {Pg : Program} {wd : World} {Kf : PySem.W.Frag} {gl : Str → Option Value} {bs : Heap} {cx : CXT} {lv : Nat} {fa : Addr} {dat : FuncData} {names : List Str} {prom : Sp}
    (f : FnOk Pg wd Kf gl bs cx lv fa dat names prom) : FnG Pg wd Kf gl bs cx lv fa dat names prom :=
  ⟨f.len, fun Ar fr sh G ar us xs Qv Ex r _ e b v p => f.run Ar fr sh G ar us xs Qv Ex r e b v p⟩

/-- a def of the text by its body, where no guard stands -/
theorem okG {Pg : Program} {wd : World} {Kf : PySem.W.Frag} {gl : Str → Option Value} {bs : Heap} {nm qn : Str} {st : Stmt} {fa : Addr} {dat : FuncData} {slots names : List Str} {lv : Nat} {prom : Sp}
    (F : Fun Kf nm qn st fa dat) (S : FnScope slots names (defScope st)) (cnt : ∀ xs G Qv Ex, prom xs G Qv Ex → xs.length = names.length)
    (body : ∀ (cd : Value) (Ar : Around) (fr : List Env) (sh : Shared) (G : Hp) (xs : List V) (Qv : VK) (Ex : XK), Room lv (Ar.deeper (envOfC qn (defScope st) sh.heap.objs.size fa cd)) → Ar.guards = some [] → prom xs G Qv Ex →
      ∃ t, PSs (cxOf CX0 Pg wd Kf gl bs slots qn (defScope st) fa cd Ar fr sh G Ex).nox (defBody st) t ∧ t { nx := fun _ G' => Qv .non G', rt := Qv } (start slots xs) G) :
    FnG Pg wd Kf gl bs CX0 (lv + 1) fa dat names prom := by
  obtain ⟨oc, od, kV, doc, pm, an, cd, ct, osl, rfl, look, code⟩ := F.ex
  refine ⟨cnt, fun Ar fr sh G ar us xs Qv Ex room noG env bind vals hp => ?_⟩
  have sz := cnt _ _ _ _ hp
  have inK : Kf.In sh.heap := env.mod.kin.keeps fun b o q => (env.bs b o q).1
  have noL : sh.heap.NoLimit := env.mod.nolimit.keeps fun b o q => (env.bs b o q).1
  have kinds : ∀ y ∈ names.zip us, (defScope st).names.lookup y.1 = some .local ∨ ((defScope st).names.lookup y.1 = some .cell ∧ ((cellsFrom (sh.heap.objs.size + 1) (defScope st).names []).lookup y.1).isSome = true) := by
    rintro ⟨n, v⟩ hy
    rcases S.par n (List.of_mem_zip hy).1 with z | z
    · exact .inl z
    · exact .inr ⟨z, PySem.W.cellsFrom_some _ _ _ (.inl z)⟩
  refine codeAny_call_function room.depth (inK _ _ look) rfl S.co S.gen rfl (PySem.W.codeRec_of inK code) (bind _ _ _ _ ?_)
  refine wpAny_newFunctionEnv_cells S.kind kinds fun en hen sh1 inC => ?_
  subst hen
  refine ⟨noL.keeps inC.toInCall.keep, codeAny_func ?_⟩
  obtain ⟨t, walk, read⟩ := body cd Ar fr sh G xs Qv Ex (room.deeper _) noG hp
  have I0 := inv_start (CX := CX0) (P := Pg) (w := wd) (K := Kf) (mg := gl) (base := bs) (E := Ex) S room.hd env sz vals inC
  refine wpAny_mono (walk.nox.run [] sh1 _ G _ I0 read) (fun fl sh2 out => ?_) fun _ _ x => x
  cases fl with
  | ret u =>
    obtain ⟨v, σ2, G2, J, rel, q⟩ := out
    exact ⟨v, G2, J.os, J.bare, J.base, J.hok, rel, q⟩
  | next =>
    obtain ⟨σ2, G2, J, q⟩ := out
    exact ⟨V.non, G2, J.os, J.bare, J.base, J.hok, (rfl : RelV V.non Value.none), q⟩
  | brk => exact out.elim fun _ z => z.elim fun _ z => z.2.elim
  | cont => exact out.elim fun _ z => z.elim fun _ z => z.2.elim

section
variable {X : Cx} {x : Str} {p pos : Pos} {e : Expr} {es : List Expr} {t : TA} {CX : CXT} {k : Nat} {f : Addr} {fd : FuncData} {ps : List Str} {sp : Sp} {ds : List Value} {dvs : List V} {E : XK}
/-- f(e, ..), f such a def -/
theorem pe_callG (F : FnG X.prog X.w X.K X.mg X.base CX k f fd ps sp) (room : Room k X.A) (noG : X.A.guards = some []) (hg : Gl X x) (hm : X.mg x = some (.ref f)) (kp : PySem.W.keepIn X.K (.ref f) = true) (bd : Binds X.K fd ps ds) (dv : Vals dvs ds) (ps' : Passes CX X E)
    (args : PA X (e :: es) t) (hdb : (x == ("__debug__" : Str)) = false := by decide) (h1 : starEach (e :: es) X.env = (false, eval e X.env) :: starEach es X.env := by rfl) (h2 : (backTo pos (starEach es X.env)).any (·.1) = false := by rfl) :
    PE X (.Call (.Name x p) (e :: es) [] pos) (tCall sp dvs E t) := by
  refine ⟨fun pins s σ H Q I rd => ?_⟩
  refine wpAny_Call_Name_kw (ld_glob I hg hm ?_ hdb)
  refine PySem.W.callWith_K (h₀ := X.base) I.ok.mod.kin kp (thn (args.run pos pins s σ H _ I rd) fun us s1 ⟨vs, H1, I1, rv, q⟩ => ⟨I1.kIn, ?_⟩) h1 h2
  have rv2 : Vals (vs ++ dvs) (us ++ ds) := rv.append dv
  have sz : (us ++ ds).length = ps.length := rv2.length.symm.trans (F.cnt _ _ _ _ q)
  refine wpAny_call (codeAny_mono (F.go X.A X.stack s1 H1 ⟨us, []⟩ _ _ Q E room noG I1.env0 (bd s1 us I1.kIn sz) rv2 q) fun r s2 out => ?_)
  match r, out with
  | .error er, out => exact ps' pins σ H1 s1 er s2 I1 out
  | .ok (.ret u), out => exact I1.after out
  | .ok .next, out => exact out.elim
  | .ok .brk, out => exact out.elim
  | .ok .cont, out => exact out.elim
end
end RepA

namespace RepA
open PySem PySem.Spec PyProof.Rows L2

/-- the law's call from the caller, over an abstract heap that holds at most the script -/
theorem from_caller {Pg : Program} {wd : World} {Kf : PySem.W.Frag} {gl mb : Str → Option Value} {cx : CXT} {lv : Nat} {fa a : Addr} {dat : FuncData} {x : Str} {prom : Sp} {sh : Shared} {ob : Obj} {n0 : Nat} {vals : Array Value}
    (inK : Kf.In sh.heap) (nG : sh.heap.Ns mainGlobals gl) (nB : sh.heap.Ns builtinsNs mb) (isB : ∀ y : Str, y ≠ "__name__" → mb y = bootBuiltins y) (noL : sh.heap.NoLimit) (noGen : sh.gens = #[]) (at_a : sh.heap.get? a = some ob) (list_a : ob.data = .seq vals n0)
    (room : Room lv callerA) (F : ∀ bs : Heap, Kf.In bs → bs.Ns mainGlobals gl → FnG Pg wd Kf gl bs cx lv fa dat [x] prom) (bd : ∀ (s : Shared) (u : Value), BindsTo s dat ⟨[u], []⟩ [(x, u)])
    (noX : ∀ G e s', cx [] G sh (fun _ _ _ => False) e s' → False) (G : Hp) (only : Only G) (keeps : HOk Pg wd G sh.heap) (justA : ∀ b, G b ≠ none → b = a) (notK : G a ≠ none → Kf.lookup a = none)
    (hp : prom [.ref a] G (fun v _ => v = .bl true) fun _ _ _ => False) :
    codeAny (model Pg wd) callerA (.call (.ref fa) ⟨[.ref a], []⟩) (fun r s' => r = .ok (.ret (.bool true)) ∧ OldK sh.heap s'.heap ∧ s'.os = sh.os ∧ AllBare s'.gens) sh := by
  have free : ∀ {b : Addr}, b ≠ a → G b = none := fun {b} ne => Classical.byContradiction fun z => ne (justA b z)
  have hides : ∀ {b : Addr} {o : Obj}, sh.heap.get? b = some o → G b = none → (hidT sh.heap G).get? b = some o := fun q z => hidT_get q z
  have ns : ∀ {b : Addr} {m : Str → Option Value}, sh.heap.Ns b m → (hidT sh.heap G).Ns b m := fun {b m} h => by
    obtain ⟨o, es, ep, q, dd, rest⟩ := h
    refine ⟨o, es, ep, hides q (free fun z => ?_), dd, rest⟩
    rw [z, at_a] at q
    cases q
    rw [list_a] at dd
    cases dd
  have inK' : Kf.In (hidT sh.heap G) := fun b o q => hides (inK b o q) (by
    rcases Option.eq_none_or_eq_some (G b) with z | ⟨u, z⟩
    · exact z
    · have ne : G b ≠ none := by rw [z]; exact fun c => nomatch c
      have ba := justA b ne
      rw [ba] at q ne
      rw [notK ne] at q
      cases q)
  have md : Mod Kf gl (hidT sh.heap G) := ⟨inK', ns nG, ⟨mb, ns nB, isB⟩, let ⟨mc, z1, z2⟩ := noL; ⟨mc, ns z1, z2⟩⟩
  have env : Env0 Pg wd Kf gl (hidT sh.heap G) callerA [] sh G := ⟨rfl, md, fun _ _ q => of_hidT q, Nat.le_of_eq (hidT_size _ _), trivial, (fun b hb => nomatch hb), keeps, .of_eq noGen⟩
  refine codeAny_mono ((F _ inK' (ns nG)).go callerA [] sh G ⟨[.ref a], []⟩ [.ref a] [.ref a] _ _ room rfl env (bd sh (.ref a)) (.cons rfl .nil) hp) fun r s' out => ?_
  match r, out with
  | .error er, out => exact (noX G er s' out).elim
  | .ok .next, out => exact out.elim
  | .ok .brk, out => exact out.elim
  | .ok .cont, out => exact out.elim
  | .ok (.ret u), out =>
    obtain ⟨v, G', hos, hbare, un, keeps', rel, ev⟩ := out
    have ev' : v = .bl true := ev
    subst ev'
    obtain rfl : u = Value.bool true := rel
    refine ⟨rfl, OldK.of_keep fun b o q => ?_, hos, hbare⟩
    rcases only b with z | ⟨o2, ys, z⟩
    · exact un.keep b o q z (fun c => nomatch c) (fun c => nomatch c)
    · obtain ⟨w1, _⟩ := keeps b _ z
      obtain ⟨w2, _⟩ := keeps' b _ (un.frzs b o2 _ z)
      rw [q] at w1
      cases w1
      exact w2

theorem law_callG {Pg : Program} {wd : World} {Kf : PySem.W.Frag} {gl mb : Str → Option Value} {cx : CXT} {lv : Nat} {fa a : Addr} {dat : FuncData} {x : Str} {prom : Sp} {sh : Shared} {vals : List Value} {ns : List Int}
    (inK : Kf.In sh.heap) (nG : sh.heap.Ns mainGlobals gl) (nB : sh.heap.Ns builtinsNs mb) (isB : ∀ y : Str, y ≠ "__name__" → mb y = bootBuiltins y) (noL : sh.heap.NoLimit) (noGen : sh.gens = #[])
    (at_a : sh.heap.get? a = some { cls := .type "list", data := .seq vals.toArray }) (inz : IntsAre vals ns) (short : ns.length ≤ sizeLine) (room : Room lv callerA)
    (F : ∀ bs : Heap, Kf.In bs → bs.Ns mainGlobals gl → FnG Pg wd Kf gl bs cx lv fa dat [x] prom) (bd : ∀ (s : Shared) (u : Value), BindsTo s dat ⟨[u], []⟩ [(x, u)])
    (hp : ∀ G : Hp, Only G → SqL Kf G a (ns.map V.int) → prom [.ref a] G (fun v _ => v = .bl true) fun _ _ _ => False) (noX : ∀ G e s', cx [] G sh (fun _ _ _ => False) e s' → False) :
    codeAny (model Pg wd) callerA (.call (.ref fa) ⟨[.ref a], []⟩) (fun r s' => r = .ok (.ret (.bool true)) ∧ OldK sh.heap s'.heap ∧ s'.os = sh.os ∧ AllBare s'.gens) sh := by
  have rv := vals_ints inz
  rcases Option.eq_none_or_eq_some (Kf.lookup a) with nk | ⟨o, isK⟩
  · let G : Hp := fun b => if b = a then some (.frz { cls := .type "list", data := .seq vals.toArray } (.lst (ns.map V.int))) else none
    have ga : G a = some (.frz { cls := .type "list", data := .seq vals.toArray } (.lst (ns.map V.int))) := if_pos rfl
    have gb : ∀ {b : Addr}, b ≠ a → G b = none := fun ne => if_neg ne
    have justA : ∀ b, G b ≠ none → b = a := fun b z => Classical.byContradiction fun ne => z (gb ne)
    have only : Only G := fun b => by
      by_cases ne : b = a
      · subst ne
        exact .inr ⟨_, _, ga⟩
      · exact .inl (gb ne)
    refine from_caller inK nG nB isB noL noGen at_a rfl room F bd noX G only (fun b u z => ?_) justA (fun _ => nk) (hp G only (.inl (.inr ⟨_, ga⟩)))
    have ba := justA b (by rw [z]; exact fun c => nomatch c)
    subst ba
    rw [ga] at z
    cases z
    exact ⟨at_a, by rw [List.length_map]; exact short, vals, _, rv, at_a⟩
  · have e := inK a o isK
    rw [at_a] at e
    cases e
    exact from_caller inK nG nB isB noL noGen at_a rfl room F bd noX (fun _ => none) (fun _ => .inl rfl) (fun b u z => nomatch z) (fun b z => absurd rfl z) (fun z => absurd rfl z)
      (hp _ (fun _ => .inl rfl) (.inr ⟨_, vals.toArray, _, isK, rfl, rfl, rfl, by rw [List.size_toArray, inz.length]; exact short, by simpa using rv⟩))

/-- the end of a law row, for a law that asks where no guard stands; the script's bits told -/
theorem walk_ofG {l : PySem.W.OpenLaw} {n lv : Nat} {q : Program} {loose : List Str} {XP : (Str → Option Value) → Heap → Prop} {YP : World → Heap → Prop} {d : DefRec} {K : Params → PySem.W.Frag} {cx : World → CXT} {prom : World → Sp} {x : Str}
    (most : l.most = some n) (short : n ≤ sizeLine) (noD : d.params.defaults = []) (room : Room lv callerA) (hY : ∀ (w : World) (h : Heap), YP w h → (K w.params).In h)
    (F : ∀ (w : World) (gl : Str → Option Value) (fa : Addr) (h : Heap), (K w.params).In h → h.Ns mainGlobals gl → gl d.name = some (.ref fa) →
      ∃ dat : FuncData, (∀ (s : Shared) (u : Value), BindsTo s dat ⟨[u], []⟩ [(x, u)]) ∧ ∀ bs : Heap, (K w.params).In bs → bs.Ns mainGlobals gl → FnG l.prog w (K w.params) gl bs (cx w) lv fa dat [x] (prom w))
    (hp : ∀ (w : World) (G : Hp) (a : Addr) (ns : List Int), ns.length ≤ n → (∀ z ∈ ns, Builtin.Int.intBits z ≤ 1048576) → Only G → SqL (K w.params) G a (ns.map V.int) → prom w [.ref a] G (fun v _ => v = .bl true) fun _ _ _ => False)
    (noX : ∀ (w : World) (G : Hp) (s : Shared) (e : Value) (s' : Shared), cx w [] G s (fun _ _ _ => False) e s' → False) :
    PySem.W.WalkO q loose XP YP l.row.toRowW d [] (fun f vs => PySem.call f vs) := by
  refine Att.attach_callB most noD fun w _ sh gl mb fa _ _ _ _ a vals ns gr y _ _ _ named at_a inz few bits noGen => ?_
  obtain ⟨dat, bd, FG⟩ := F w gl fa _ (hY w _ y) gr.T.g named
  exact law_callG (hY w _ y) gr.T.g gr.T.b gr.T.builtins gr.T.nolimit noGen at_a inz (Nat.le_trans few short) room FG bd (fun G o s => hp w G a ns few bits o s) fun G e s' => noX w G sh e s'
end RepA

/-! repr of a list of data in which dicts of one text stand too. -/
namespace RepA
open PySem PySem.Spec PyProof.Rows L2
mutual
inductive Dq (K : PySem.W.Frag) (H : Hp) : V → PyData → Prop
  | base {v : V} {d : PyData} : Dd K H v d → Dq K H v d
  | one {a : Addr} {s : Str} {x : V} {e : PyData} : H a = some (.dK [(Sum.inr s, x)]) → Dq K H x e → Dq K H (.ref a) (.dict [(.str s, e)])
  | lst {a : Addr} {xs : List V} {ds : List PyData} : SqL K H a xs → DqAll K H xs ds → Dq K H (.ref a) (.list ds)
inductive DqAll (K : PySem.W.Frag) (H : Hp) : List V → List PyData → Prop
  | nil : DqAll K H [] []
  | cons {v : V} {vs : List V} {d : PyData} {ds : List PyData} : Dq K H v d → DqAll K H vs ds → DqAll K H (v :: vs) (d :: ds)
end
/-- how a value is shown, and where it stands -/
def Shw (prog : Program) (w : World) (h : Heap) (u : Value) (d : PyData) : Prop := ∃ as bs, Reads h u d as ∧ ReadAtMost h d.depth bs ∧ ReprK prog w bs h d.depth u d.shown
def ShwAll (prog : Program) (w : World) (h : Heap) (us : List Value) (ds : List PyData) : Prop := ∃ as bs, ReadsAll h us ds as ∧ ReadAtMost h (PyData.depthAll ds) bs ∧ ReprAllK prog w bs h (PyData.depthAll ds) us (PyData.shownAll ds)
section
variable {X : Cx} {pins : List (Addr × Obj)} {σ : L2.St} {H : Hp} {s : Shared}
theorem shw_dd (I : Inv X pins σ H s) {v : V} {u : Value} {d : PyData} (h : Dd X.K H v d) (r : RelV v u) (hs : d.showable = true) (hz : d.shown.length ≤ sizeLine) : Shw X.prog X.w s.heap u d := by
  obtain ⟨as, q, n⟩ := dd_reads I h r
  obtain ⟨bs, m, k⟩ := ReprK.of_reads (prog := X.prog) (w := X.w) q hs n hz
  exact ⟨as, bs, q, m, k⟩
mutual
theorem shw_dq (I : Inv X pins σ H s) : ∀ {v : V} {u : Value} {d : PyData}, Dq X.K H v d → RelV v u → d.showable = true → d.shown.length ≤ sizeLine → Shw X.prog X.w s.heap u d
  | _, _, _, .base h, r, hs, hz => shw_dd I h r hs hz
  | _, _, _, .one (a := a) (s := z) (x := x) (e := e) ha hx, r, hs, hz => by
    rename_i u
    obtain rfl : u = Value.ref a := r
    obtain ⟨_, hn, vs, rel, dd⟩ := dk_of I.hok ha
    obtain ⟨o, es, ep, e1, e2, e3, e4⟩ := dd
    obtain ⟨en, ux, ees, ekey, eval, rx⟩ : ∃ (en : DictEntry) (ux : Value), es.toList = [en] ∧ (∃ t, en.key = .str z t) ∧ en.val = ux ∧ RelV x ux := by
      cases rel with
      | cons hd tl =>
        cases tl
        have q := e4.2.1
        generalize es.toList = l at q
        rename_i b
        obtain ⟨kb, ux⟩ := b
        obtain ⟨e5, e6⟩ := hd
        cases e5
        cases q with
        | cons p1 p2 p3 =>
          cases p3
          refine ⟨_, ux, rfl, ?_, p2, e6⟩
          rcases keyIs_shape (show keyIs (Sum.inr z) _ = true from p1) with ⟨i, t, q1, q2⟩ | ⟨y, t, q1, q2⟩
          · cases q1
          · cases q1
            exact ⟨t, q2⟩
    obtain ⟨t, ek⟩ := ekey
    have hz' : (dictText (PyData.shownKv [(.str z, e)])).length ≤ sizeLine := by simpa only [PyData.shown] using hz
    have hs2 : e.showable = true := by
      have q := (PyData.showableKv_split [(.str z, e)] (by simpa [PyData.showable] using hs)).2
      simpa [PyData.showableAll] using q
    have hs1 : (PyData.str z).showable = true := by
      have q := (PyData.showableKv_split [(.str z, e)] (by simpa [PyData.showable] using hs)).1
      simpa [PyData.showableAll] using q
    have key_le : ∀ t ∈ PyData.shownAll [PyData.str z], t.length ≤ sizeLine := fun t ht => by
      obtain ⟨p, hp, l⟩ := PyData.shownKv_key_le [(.str z, e)] t ht
      exact Nat.le_trans l (Nat.le_trans (dictText_mem_le hp) hz')
    have val_le : ∀ t ∈ PyData.shownAll [e], t.length ≤ sizeLine := fun t ht => by
      obtain ⟨p, hp, l⟩ := PyData.shownKv_val_le [(.str z, e)] t ht
      exact Nat.le_trans l (Nat.le_trans (dictText_mem_le hp) hz')
    obtain ⟨b1, m1, k1⟩ := ReprK.of_reads (prog := X.prog) (w := X.w) (Reads.str (h := s.heap) z t) hs1 (fun _ h => nomatch h) (key_le _ (by simp only [PyData.shownAll]; exact List.mem_cons_self ..))
    obtain ⟨a2, b2, q2, m2, k2⟩ := shw_dq I hx rx hs2 (val_le _ (by simp only [PyData.shownAll]; exact List.mem_cons_self ..))
    have rd : Reads s.heap (.ref a) (.dict [(.str z, e)]) _ := .dict (kvs := [(PyData.str z, e)]) e1 e2.1 e3 (by rw [ees]; show ReadsAll s.heap [en.key] [PyData.str z] _; rw [ek]; exact .cons (.str z t) .nil) (by rw [ees]; show ReadsAll s.heap [en.val] [e] _; rw [eval]; exact .cons q2 .nil)
    have hd1 : (PyData.str z).depth ≤ PyData.depthKv [(.str z, e)] := by simp only [PyData.depthKv, PyData.depth]; omega
    have hd2 : e.depth ≤ PyData.depthKv [(.str z, e)] := by simp only [PyData.depthKv]; omega
    have hb : ReadAtMost s.heap (PyData.depthKv [(.str z, e)]) (b1 ++ b2) := (m1.mono hd1).append (m2.mono hd2)
    have hna : a ∉ b1 ++ b2 := not_mem_of_deeper rd (by simp only [PyData.depth]; omega) hb
    refine ⟨_, a :: (b1 ++ b2), rd, ReadAtMost.cons rd (by simp only [PyData.depth]; omega) hb, ?_⟩
    simp only [PyData.depth, PyData.shown, PyData.shownKv]
    refine ReprK.dict e1 e2.1 e3 hn hna ?_
    rw [ees]
    refine .cons ?_ ?_ .nil
    · rw [ek]
      exact (k1.more fun b hb => List.mem_append.mpr (.inl hb)).level_le hd1
    · rw [eval]
      exact (k2.more fun b hb => List.mem_append.mpr (.inr hb)).level_le hd2
  | _, _, _, .lst (a := a) (xs := xs) (ds := ds) hl hall, r, hs, hz => by
    rename_i u
    obtain rfl : u = Value.ref a := r
    obtain ⟨its, rv, ⟨o, n, ho, hc, hne, hda⟩, hsz⟩ := I.list hl
    have hz' : (listText (PyData.shownAll ds)).length ≤ sizeLine := by simpa only [PyData.shown] using hz
    obtain ⟨as, bs, q, m, k⟩ := shw_all I hall rv (by simpa [PyData.showable] using hs) fun t ht => Nat.le_trans (listText_mem_le ht) hz'
    have rd : Reads s.heap (.ref a) (.list ds) (a :: as) := .list ho hc hda q
    have hna : a ∉ bs := not_mem_of_deeper rd (by simp only [PyData.depth]; omega) m
    refine ⟨_, a :: bs, rd, ReadAtMost.cons rd (by simp only [PyData.depth]; omega) m, ?_⟩
    simp only [PyData.depth, PyData.shown]
    cases its with
    | nil =>
      cases q
      simp only [PyData.shownAll, listText_nil]
      exact ReprK.listEmpty ho hc hda
    | cons y l => exact ReprK.list ho hc hda hna (by simpa using k.length_eq) (fun i y e => k.item i y (by simpa using e))
theorem shw_all (I : Inv X pins σ H s) : ∀ {vs : List V} {ds : List PyData} {us : List Value}, DqAll X.K H vs ds → Vals vs us → PyData.showableAll ds = true → (∀ t ∈ PyData.shownAll ds, t.length ≤ sizeLine) → ShwAll X.prog X.w s.heap us ds
  | _, _, _, .nil, .nil, _, _ => ⟨_, [], .nil, (fun _ h => nomatch h), by simp only [PyData.shownAll]; exact .nil⟩
  | _, _, _, .cons (d := d) (ds := ds) h hr, .cons r rr, hs, hz => by
    obtain ⟨s1, s2⟩ : d.showable = true ∧ PyData.showableAll ds = true := by simpa [PyData.showableAll] using hs
    obtain ⟨a1, b1, q1, m1, k1⟩ := shw_dq I h r s1 (hz _ (by simp only [PyData.shownAll]; exact List.mem_cons_self ..))
    obtain ⟨a2, b2, q2, m2, k2⟩ := shw_all I hr rr s2 fun t ht => hz t (by simp only [PyData.shownAll]; exact List.mem_cons_of_mem _ ht)
    have l1 : d.depth ≤ PyData.depthAll (d :: ds) := by simp only [PyData.depthAll]; omega
    have l2 : PyData.depthAll ds ≤ PyData.depthAll (d :: ds) := by simp only [PyData.depthAll]; omega
    refine ⟨_, b1 ++ b2, .cons q1 q2, (m1.mono l1).append (m2.mono l2), ?_⟩
    simp only [PyData.shownAll]
    exact .cons ((k1.more fun b hb => List.mem_append.mpr (.inl hb)).level_le l1) (k2.more_le (fun b hb => List.mem_append.mpr (.inr hb)) l2)
end
/-- repr of such a list, where no guard stands -/
theorem call_reprQ (hg : X.A.guards = some []) (hu : X.A.units + 64 < cLine) : CallR X (.builtin "repr") (fun xs H Q => ∃ a ys ds, xs = [V.ref a] ∧ SqL X.K H a ys ∧ DqAll X.K H ys ds ∧ PyData.showableAll ds = true ∧ PyData.depthAll ds ≤ 40 ∧
    (listText (PyData.shownAll ds)).length ≤ sizeLine ∧ Q (.str (PyData.list ds).shown) H) := by
  intro pins s σ H xs us Q I r h
  obtain ⟨a, ys, ds, rfl, hs, hd, hw, hdp, hz, q⟩ := h
  obtain ⟨u, rfl, ru⟩ := vals1 r
  obtain rfl : u = Value.ref a := ru
  obtain ⟨its, rv, ⟨o, n, ho, hc, hne, hda⟩, hsz⟩ := I.list hs
  obtain ⟨as, bs, hR, hb, hk⟩ := shw_all I hd rv hw fun t ht => Nat.le_trans (listText_mem_le ht) hz
  have rd : Reads s.heap (.ref a) (.list ds) (a :: as) := .list ho hc hda hR
  have hna : a ∉ bs := not_mem_of_deeper rd (by simp only [PyData.depth]; omega) hb
  have fin : ∀ (t tk : Nat) (h' : Heap), (∀ b o, s.heap.get? b = some o → h'.get? b = some o) → EP X pins σ Q (.str (listText (PyData.shownAll ds)) t) { s with heap := h', toks := tk } := fun t tk h' k =>
    ⟨.str _, H, I.kept k, ⟨t, rfl⟩, by simpa only [PyData.shown] using q⟩
  refine call_repr_slot (by omega) ⟨o, ho, hc⟩ PySem.F.slot_list_repr.toG ?_
  cases its with
  | nil =>
    cases hR
    exact call_list_repr_empty ⟨o, ho, hc⟩ ho hda ⟨_, _, rfl, by simpa only [PyData.shownAll, listText_nil] using fin s.toks (s.toks + 1) s.heap fun _ _ e => e⟩
  | cons x l =>
    refine call_list_reprK (h₀ := s.heap) ho hc hda hna (by simpa using hk.length_eq) (fun i y e => hk.item i y (by simpa using e)) hg (fun b _ => Clear.nil b) (by show X.A.units + 1 + (PyData.depthAll ds + 1) < cLine; omega) (fun _ _ e => e) (fun h' t tk k => ⟨_, _, rfl, fin t tk h' k⟩) hz
end
end RepA

/-! itertools.combinations(list, 2), made and drawn. -/
namespace Comb
open PySem PySem.Spec
open Sem (wp)
abbrev cName : String := "itertools.combinations"
theorem cMro : mroOf (.type "itertools.combinations") = pure [.type "itertools.combinations", .type "object"] := by rw [mroOf_type]; kernel_rfl
theorem cNew : typeLookup (.type "itertools.combinations") "__new__" = pure (some (.builtin "itertools.combinations.__new__")) := by rw [typeLookup_type, builtinLookup_eq_fast]; kernel_rfl
theorem cInit : Slot "itertools.combinations" "__init__" "object.__init__" :=
  .of (owner := "object") (n := "__init__") (by rw [typeLookup_type, builtinLookup_eq_fast]; kernel_rfl) (by decide +kernel) (by decide +kernel) (by decide +kernel) (by first | exact .inl (by decide +kernel) | exact .inr (by decide +kernel)) (by rw [isSubtype_type]; kernel_rfl)
theorem cSub : isSubtype (.type "itertools.combinations") (.type "itertools.combinations") = pure true := by rw [isSubtype_type]; kernel_rfl
theorem cCalled : TypeCalled "itertools.combinations" "itertools.combinations.__new__" "object.__init__" :=
  ⟨by decide +kernel, by decide +kernel, ⟨_, _, cMro⟩, madeBy_type cMro cNew (by decide +kernel), by decide +kernel, cSub, cInit⟩
theorem cType2 (a b : Value) : checkTypeCall "itertools.combinations" ⟨[a, b], []⟩ = pure () := by kernel_rfl
theorem cNew2 (a b : Value) : checkBuiltinCall "itertools.combinations.__new__" ⟨[.type "itertools.combinations", a, b], []⟩ = pure () := by kernel_rfl
theorem cEntryNew : entryFor table "itertools.combinations.__new__" = some Builtin.«itertools.combinations.__new__» := entryFor_of_tree (by kernel_rfl)
theorem cEntryNext : entryFor table "itertools.combinations.__next__" = some Builtin.«itertools.combinations.__next__» := entryFor_of_tree (by kernel_rfl)
theorem cEntryIter : entryFor table "itertools.combinations.__iter__" = some Builtin.«dict_keyiterator.__iter__» :=
  entryFor_alias (id' := "dict_keyiterator.__iter__") (by kernel_rfl) (by first | rfl | decide +kernel | (unfold String.splitOn; simp +decide [String.splitOnAux])) (by decide +kernel) (by kernel_rfl)
theorem cIter : Slot "itertools.combinations" "__iter__" "itertools.combinations.__iter__" :=
  .of (owner := "itertools.combinations") (n := "__iter__") (by rw [typeLookup_type, builtinLookup_eq_fast]; kernel_rfl) (by decide +kernel) (by decide +kernel) (by decide +kernel) (by first | exact .inl (by decide +kernel) | exact .inr (by decide +kernel)) cSub
theorem cNext : Slot "itertools.combinations" "__next__" "itertools.combinations.__next__" :=
  .of (owner := "itertools.combinations") (n := "__next__") (by rw [typeLookup_type, builtinLookup_eq_fast]; kernel_rfl) (by decide +kernel) (by decide +kernel) (by decide +kernel) (by first | exact .inl (by decide +kernel) | exact .inr (by decide +kernel)) cSub
theorem cOwner : Manifest.owners.lookup (String.ofList "snoitanibmoc.slootreti".toList.reverse) = some Manifest.sig_itertools_combinations := by kernel_rfl
theorem cArgsIter (a : Value) : argsOk "itertools.combinations.__iter__" ⟨[a], []⟩ := by
  unfold argsOk
  rw [signature?_of (id := "itertools.combinations.__iter__") (n := ['_', '_', 'r', 'e', 't', 'i', '_', '_']) (o := "snoitanibmoc.slootreti".toList) (by kernel_rfl) cOwner]
  kernel_rfl
theorem cArgsNext (a : Value) : argsOk "itertools.combinations.__next__" ⟨[a], []⟩ := by
  unfold argsOk
  rw [signature?_of (id := "itertools.combinations.__next__") (n := ['_', '_', 't', 'x', 'e', 'n', '_', '_']) (o := "snoitanibmoc.slootreti".toList) (by kernel_rfl) cOwner]
  kernel_rfl
theorem cNoDict : typeHasDict (.type "itertools.combinations") = false := by decide +kernel

/-- such an object: its pool, its state, what it handed out last, its places -/
def recC (pool : Addr) (st : Int) (last : Value) (i j : Int) : Obj := { cls := .type "itertools.combinations", dict := none, data := .fields #[.ref pool, rawInt st, last, rawInt i, rawInt j], slots := #[] }
abbrev IsC (h : Heap) (it pool : Addr) (st : Int) (last : Value) (i j : Int) : Prop := h.get? it = some (recC pool st last i j)
def tupO (xs : Array Value) : Obj := { cls := .type "tuple", data := .seq xs }

end Comb

namespace Comb
open PySem PySem.Spec
open Sem (wp)
theorem joinName : "itertools." ++ "combinations" = "itertools.combinations" := by decide
theorem new_meets (l : Addr) (o : Obj) (items : Array Value) (n : Nat) (t : Tok) (hc : o.cls = .type "list") (hd : o.data = .seq items n) (hsz : items.size ≤ sizeLine) :
    Meets (Builtin.«itertools.combinations.__new__» ⟨[.type "itertools.combinations", .ref l, .int 2 t], []⟩)
      (fun _ R s => s.heap.get? l = some o ∧ ∀ h' : Heap, (∀ b u, s.heap.get? b = some u → h'.get? b = some u) → R (.ok (.ret (.ref (h'.objs.size + 1)))) { s with heap := (h'.push (tupO items)).push (recC h'.objs.size (if 2 > items.size then 2 else 0) .none 0 1) }) :=
  .of_wp fun prog w A R s h => by
    obtain ⟨hp, g, dd, tk, os⟩ := s
    obtain ⟨at_l, h⟩ := h
    have hsub := cSub
    have hdic := cNoDict
    have hT : Shared.TypeIs ⟨hp, g, dd, tk, os⟩ (.ref l) "list" := ⟨o, at_l, hc⟩
    unfold Builtin.«itertools.combinations.__new__»
    repeat (first
      | (with_reducible refine wpAny_collect_seq (hsz := hsz) l (.inl rfl) at_l hc hd fun h' keep => ?_)
      | wp_step
      | (rw [joinName]))
    refine ⟨_, rfl, ?_⟩
    have e1 : items.toList.toArray = items := by simp
    have e2 : (h'.push (tupO items)).objs.size = h'.objs.size + 1 := Heap.size_push ..
    have e3 : items.toList.length = items.size := by simp
    rw [e1, e3]
    have q := h h' keep
    rw [← e2] at q
    exact q

end Comb

namespace Comb
open PySem PySem.Spec
open Sem (wp)
section
variable {prog : Program} {w : World} {A : Around} {E : Value → Shared → Prop} {s : Shared}
/-- combinations(l, 2): the heap grows by what is kept, then by the pool and the record -/
theorem call_comb {l : Addr} {o : Obj} {items : Array Value} {n : Nat} {t : Tok} {Q : Value → Shared → Prop} (at_l : s.heap.get? l = some o) (hc : o.cls = .type "list") (hd : o.data = .seq items n) (hsz : items.size ≤ sizeLine)
    (h : ∀ h1 : Heap, (∀ b u, s.heap.get? b = some u → h1.get? b = some u) → Q (.ref (h1.objs.size + 1)) { s with heap := (h1.push (tupO items)).push (recC h1.objs.size (if 2 > items.size then 2 else 0) .none 0 1) }) :
    wpAny (model prog w) A (call (.type "itertools.combinations") [.ref l, .int 2 t]) Q E s := by
  refine callType_new cCalled (by decide +kernel) (cType2 _ _) (cNew2 _ _) (fun obj => F.args_object_init_3 obj _ _) cEntryNew (new_meets l o items n t hc hd hsz) ?_
  refine ⟨at_l, fun h1 keep => ⟨⟨recC h1.objs.size (if 2 > items.size then 2 else 0) .none 0 1, ?_, rfl⟩, h h1 keep⟩⟩
  have sz : (h1.push (tupO items)).objs.size = h1.objs.size + 1 := Heap.size_push ..
  show Heap.get? _ (h1.objs.size + 1) = some (recC h1.objs.size (if 2 > items.size then 2 else 0) .none 0 1)
  rw [← sz]
  exact Heap.get?_push_size _ rfl
theorem iter_comb {it pool : Addr} {st i j : Int} {last : Value} {Q : Value → Shared → Prop} (hit : IsC s.heap it pool st last i j) (h : Q (.ref it) s) : wpAny (model prog w) A (pyIter (.ref it)) Q E s := by
  have hT : s.TypeIs (.ref it) "itertools.combinations" := ⟨_, hit, rfl⟩
  refine wpAny_pyIter_slot hT cIter (wpAny_call_entry cIter hT cEntryIter ?_ (cArgsIter _))
  show wpAny _ _ (ret (.ref it)) _ _ s
  exact wpAny_pure ⟨_, rfl, "itertools.combinations", _, hT, cNext.lookup, h⟩

theorem apart {h : Heap} {it pool : Addr} {st i j : Int} {last : Value} {items : Array Value} (hit : IsC h it pool st last i j) (hp : h.get? pool = some (tupO items)) : it ≠ pool := fun e => by
  rw [e] at hit
  have z : Value.type "tuple" = Value.type "itertools.combinations" := congrArg Obj.cls (Option.some.inj (hp.symm.trans hit))
  exact absurd (Value.type.inj z) (by decide)
/-- what is handed out is laid, then held by the record -/
theorem handed {h U : Heap} {it pool : Addr} {last : Value} {i j : Int} {xs : Array Value} (hU : IsC U it pool 1 last i j) (keep : ∀ b, b ≠ it → U.get? b = h.get? b) (sz : U.objs.size = h.objs.size) :
    (∀ b, b ≠ it → ∀ u, h.get? b = some u → ((U.push (tupO xs)).update it (Obj.mapFields fun x => x.setIfInBounds 2 (.ref U.objs.size))).get? b = some u) ∧
    ((U.push (tupO xs)).update it (Obj.mapFields fun x => x.setIfInBounds 2 (.ref U.objs.size))).get? h.objs.size = some (tupO xs) ∧
    IsC ((U.push (tupO xs)).update it (Obj.mapFields fun x => x.setIfInBounds 2 (.ref U.objs.size))) it pool 1 (.ref h.objs.size) i j := by
  have lt : it < U.objs.size := Heap.lt_size hU
  refine ⟨fun b ne u q => ?_, ?_, ?_⟩
  · exact (Heap.get?_update_other _ _ ne.symm).trans (Heap.get?_push_of_some _ ((keep b ne).trans q))
  · rw [← sz]
    exact (Heap.get?_update_other _ _ (Nat.ne_of_lt lt)).trans (Heap.get?_push_size _ rfl)
  · rw [← sz]
    exact Heap.get?_update_self _ (Heap.get?_push_of_some _ hU) rfl
theorem next_first {it pool : Addr} {last : Value} {items : Array Value} {n : Nat} {Q : Option Value → Shared → Prop} (hit : IsC s.heap it pool 0 last 0 1) (hp : s.heap.get? pool = some (tupO items)) (h2 : 2 ≤ items.size)
    (hQ : ∀ h', (∀ b, b ≠ it → ∀ u, s.heap.get? b = some u → h'.get? b = some u) → h'.get? s.heap.objs.size = some (tupO #[items.getD 0 .none, items.getD 1 .none]) → IsC h' it pool 1 (.ref s.heap.objs.size) 0 1 → Q (some (.ref s.heap.objs.size)) { s with heap := h' }) :
    wpAny (model prog w) A (pyNext (.ref it)) Q E s := by
  have hT : s.TypeIs (.ref it) "itertools.combinations" := ⟨_, hit, rfl⟩
  unfold pyNext
  refine wpAny_bind (wpAny_attempt (wpAny_callSpecial?_slot (name := Str.ofString "__next__") hT cNext (wpAny_call_entry cNext hT cEntryNext ?_ (cArgsNext _))))
  unfold Builtin.«itertools.combinations.__next__»
  have nip := apart hit hp
  have hp1 : (s.heap.update it (Obj.mapFields fun x => x.setIfInBounds 1 (rawInt 1))).get? pool = some (tupO items) := (Heap.get?_update_other _ _ nip).trans hp
  have hit1 : IsC (s.heap.update it (Obj.mapFields fun x => x.setIfInBounds 1 (rawInt 1))) it pool 1 last 0 1 := Heap.get?_update_self _ hit rfl
  repeat wp_step
  obtain ⟨q1, q2, q3⟩ := handed (xs := #[items.getD 0 .none, items.getD 1 .none]) hit1 (h := s.heap) (fun b ne => Heap.get?_update_other _ _ ne.symm) (Heap.size_update ..)
  refine ⟨_, rfl, wpAny_pure ?_⟩
  have z := hQ _ q1 q2 q3
  rw [show (s.heap.update it (Obj.mapFields fun x => x.setIfInBounds 1 (rawInt 1))).objs.size = s.heap.objs.size from Heap.size_update ..] at z ⊢
  exact z
end
end Comb

namespace Comb
open PySem PySem.Spec
open Sem (wp)
section
variable {prog : Program} {w : World} {A : Around} {E : Value → Shared → Prop} {s : Shared}
theorem next_more {it pool : Addr} {last : Value} {items : Array Value} {i j i' j' : Nat} {Q : Option Value → Shared → Prop} (hit : IsC s.heap it pool 1 last i j) (hp : s.heap.get? pool = some (tupO items))
    (hn : (match (List.range 2).reverse.find? fun k => [i, j].getD k 0 != k + items.size - 2 with | none => none | some k => some ([i, j].take k ++ (List.range (2 - k)).map ([i, j].getD k 0 + 1 + ·))) = some [i', j'])
    (hQ : ∀ h', (∀ b, b ≠ it → ∀ u, s.heap.get? b = some u → h'.get? b = some u) → h'.get? s.heap.objs.size = some (tupO #[items.getD i' .none, items.getD j' .none]) → IsC h' it pool 1 (.ref s.heap.objs.size) i' j' → Q (some (.ref s.heap.objs.size)) { s with heap := h' }) :
    wpAny (model prog w) A (pyNext (.ref it)) Q E s := by
  have hT : s.TypeIs (.ref it) "itertools.combinations" := ⟨_, hit, rfl⟩
  unfold pyNext
  refine wpAny_bind (wpAny_attempt (wpAny_callSpecial?_slot (name := Str.ofString "__next__") hT cNext (wpAny_call_entry cNext hT cEntryNext ?_ (cArgsNext _))))
  unfold Builtin.«itertools.combinations.__next__»
  repeat wp_step
  split
  · rename_i next hnx
    obtain rfl : next = [i', j'] := Option.some.inj (hnx.symm.trans hn)
    have nip := apart hit hp
    have hp1 : (s.heap.update it (Obj.mapFields fun x => x.extract 0 3 ++ (List.map (fun (n : Nat) => rawInt n) [i', j']).toArray)).get? pool = some (tupO items) := (Heap.get?_update_other _ _ nip).trans hp
    have hit1 : IsC (s.heap.update it (Obj.mapFields fun x => x.extract 0 3 ++ (List.map (fun (n : Nat) => rawInt n) [i', j']).toArray)) it pool 1 last i' j' := Heap.get?_update_self _ hit rfl
    repeat wp_step
    obtain ⟨q1, q2, q3⟩ := handed (xs := #[items.getD i' .none, items.getD j' .none]) hit1 (h := s.heap) (fun b ne => Heap.get?_update_other _ _ ne.symm) (Heap.size_update ..)
    refine ⟨_, rfl, wpAny_pure ?_⟩
    have z := hQ _ q1 q2 q3
    rw [show (s.heap.update it (Obj.mapFields fun x => x.extract 0 3 ++ (List.map (fun (n : Nat) => rawInt n) [i', j']).toArray)).objs.size = s.heap.objs.size from Heap.size_update ..] at z ⊢
    exact z
  · rename_i hnx
    cases hnx.symm.trans hn
theorem next_end {it pool : Addr} {last : Value} {items : Array Value} {i j : Nat} {Q : Option Value → Shared → Prop} (hh : A.handled = none) (hit : IsC s.heap it pool 1 last i j) (hp : s.heap.get? pool = some (tupO items))
    (hn : (match (List.range 2).reverse.find? fun k => [i, j].getD k 0 != k + items.size - 2 with | none => none | some k => some ([i, j].take k ++ (List.range (2 - k)).map ([i, j].getD k 0 + 1 + ·))) = none)
    (hQ : ∀ h', Heap.ExtBut it s.heap h' → Q none { s with heap := h' }) : wpAny (model prog w) A (pyNext (.ref it)) Q E s := by
  have hT : s.TypeIs (.ref it) "itertools.combinations" := ⟨_, hit, rfl⟩
  unfold pyNext
  refine wpAny_bind (wpAny_attempt (wpAny_callSpecial?_slot (name := Str.ofString "__next__") hT cNext (wpAny_call_entry cNext hT cEntryNext ?_ (cArgsNext _))))
  unfold Builtin.«itertools.combinations.__next__»
  repeat wp_step
  split
  · rename_i next hnx
    cases hn.symm.trans hnx
  · repeat wp_step
    simp only [raiseNew]; refine wpAny_bind (wpAny_handled ?_); rw [show A.in1.handled = none from hh]
    refine wpAny_bind (wpAny_pure (wpAny_throw ?_)); refine wpAny_bind (wpAny_isInstance (T := "StopIteration") (b := true) ⟨_, Heap.get?_push_size _ rfl, rfl⟩ isSubtype_stop ?_)
    exact wpAny_pure (hQ _ (fun b u ne q => Heap.get?_push_of_some _ (Heap.get?_push_of_some _ ((Heap.get?_update_other _ _ (Ne.symm ne)).trans q))))
theorem next_none {it pool : Addr} {last : Value} {items : Array Value} {i j : Nat} {Q : Option Value → Shared → Prop} (hh : A.handled = none) (hit : IsC s.heap it pool 2 last i j) (hp : s.heap.get? pool = some (tupO items))
    (hQ : ∀ h', Heap.ExtBut it s.heap h' → Q none { s with heap := h' }) : wpAny (model prog w) A (pyNext (.ref it)) Q E s := by
  have hT : s.TypeIs (.ref it) "itertools.combinations" := ⟨_, hit, rfl⟩
  unfold pyNext
  refine wpAny_bind (wpAny_attempt (wpAny_callSpecial?_slot (name := Str.ofString "__next__") hT cNext (wpAny_call_entry cNext hT cEntryNext ?_ (cArgsNext _))))
  unfold Builtin.«itertools.combinations.__next__»
  repeat wp_step
  simp only [raiseNew]; refine wpAny_bind (wpAny_handled ?_); rw [show A.in1.handled = none from hh]
  refine wpAny_bind (wpAny_pure (wpAny_throw ?_)); refine wpAny_bind (wpAny_isInstance (T := "StopIteration") (b := true) ⟨_, Heap.get?_push_size _ rfl, rfl⟩ isSubtype_stop ?_)
  exact wpAny_pure (hQ _ (((Heap.ExtBut.refl it s.heap).push _).push _))
end
end Comb

namespace Comb
open PySem PySem.Spec PyProof.Rows L2
/-! ### the pairs of places, in their sequence -/
def rows : Nat → Nat → List (Nat × Nat)
  | 0, _ => []
  | k + 1, i => (List.range (k + 1)).map (fun d => (i, i + 1 + d)) ++ rows k (i + 1)
def prs (n : Nat) : List (Nat × Nat) := rows (n - 1) 0
def nx (n i j : Nat) : Option (Nat × Nat) := if j + 1 < n then some (i, j + 1) else if i + 2 < n then some (i + 1, i + 2) else none
theorem rows_zero (k i : Nat) : (rows (k + 1) i)[0]? = some (i, i + 1) := by
  unfold rows
  rw [List.getElem?_append_left (by rw [List.length_map, List.length_range]; omega), List.getElem?_map, List.getElem?_range (Nat.succ_pos k)]
  rfl
theorem rows_step : ∀ (k i t a b : Nat), (rows k i)[t]? = some (a, b) → a < b ∧ b < i + 1 + k ∧ (rows k i)[t + 1]? = nx (i + 1 + k) a b
  | 0, _, _, _, _, h => by
    unfold rows at h
    rw [List.getElem?_nil] at h
    cases h
  | k + 1, i, t, a, b, h => by
    unfold rows at h ⊢
    have len : ((List.range (k + 1)).map (fun d => (i, i + 1 + d))).length = k + 1 := by rw [List.length_map, List.length_range]
    rcases Nat.lt_or_ge t (k + 1) with lt | ge
    · rw [List.getElem?_append_left (by omega), List.getElem?_map, List.getElem?_range lt] at h
      have h' : (i, i + 1 + t) = (a, b) := Option.some.inj h
      obtain ⟨rfl, rfl⟩ := Prod.mk.inj h'
      refine ⟨by omega, by omega, ?_⟩
      rcases Nat.lt_or_ge (t + 1) (k + 1) with l2 | g2
      · rw [List.getElem?_append_left (by omega), List.getElem?_map, List.getElem?_range l2]
        unfold nx
        rw [if_pos (by omega)]
        rfl
      · have et : t = k := by omega
        subst et
        rw [List.getElem?_append_right (by omega), len, Nat.sub_self]
        unfold nx
        rw [if_neg (by omega)]
        cases t with
        | zero =>
          rw [if_neg (by omega)]
          rfl
        | succ m =>
          rw [if_pos (by omega)]
          exact rows_zero m (i + 1)
    · rw [List.getElem?_append_right (by omega), len] at h
      obtain ⟨h1, h2, h3⟩ := rows_step k (i + 1) (t - (k + 1)) a b h
      refine ⟨h1, by omega, ?_⟩
      rw [List.getElem?_append_right (by omega), len, show t + 1 - (k + 1) = t - (k + 1) + 1 by omega, h3]
      congr 1
      omega
theorem prs_step {n t a b : Nat} (h : (prs n)[t]? = some (a, b)) : a < b ∧ b < n ∧ (prs n)[t + 1]? = nx n a b := by
  obtain ⟨h1, h2, h3⟩ := rows_step (n - 1) 0 t a b h
  have hn : 0 + 1 + (n - 1) = n := by omega
  rw [hn] at h2 h3
  exact ⟨h1, h2, h3⟩
theorem rows_mem : ∀ (k i a b : Nat), (a, b) ∈ rows k i ↔ i ≤ a ∧ a < b ∧ b < i + 1 + k
  | 0, i, a, b => by
    unfold rows
    constructor
    · intro h
      cases h
    · rintro ⟨h1, h2, h3⟩
      omega
  | k + 1, i, a, b => by
    unfold rows
    rw [List.mem_append, rows_mem k (i + 1) a b, List.mem_map]
    constructor
    · rintro (⟨d, hd, e⟩ | h)
      · have := List.mem_range.mp hd
        obtain ⟨rfl, rfl⟩ := Prod.mk.inj e
        omega
      · omega
    · rintro ⟨h1, h2, h3⟩
      rcases Nat.eq_or_lt_of_le h1 with e | l
      · exact .inl ⟨b - (i + 1), List.mem_range.mpr (by omega), by rw [← e]; congr 1; omega⟩
      · exact .inr ⟨l, h2, by omega⟩
theorem prs_mem {n a b : Nat} : (a, b) ∈ prs n ↔ a < b ∧ b < n := by
  unfold prs
  rw [rows_mem]
  omega
theorem rows_len : ∀ k i, (rows k i).length ≤ k * k
  | 0, i => Nat.zero_le _
  | k + 1, i => by
    unfold rows
    rw [List.length_append, List.length_map, List.length_range]
    have := rows_len k (i + 1)
    have e : (k + 1) * (k + 1) = k * k + k + (k + 1) := by rw [Nat.succ_mul, Nat.mul_succ]
    omega
theorem prs_none {n : Nat} (h : n < 2) : prs n = [] := by
  unfold prs
  rw [show n - 1 = 0 by omega]
  rfl
theorem prs_zero {n : Nat} (h : 2 ≤ n) : (prs n)[0]? = some (0, 1) := by
  unfold prs
  obtain ⟨m, rfl⟩ : ∃ m, n = m + 2 := ⟨n - 2, by omega⟩
  exact rows_zero m 0
/-- the model's own step is this one -/
theorem nx_some {n i j a b : Nat} (hi : i < j) (hj : j < n) (h : nx n i j = some (a, b)) :
    (match (List.range 2).reverse.find? fun k => [i, j].getD k 0 != k + n - 2 with | none => none | some k => some ([i, j].take k ++ (List.range (2 - k)).map ([i, j].getD k 0 + 1 + ·))) = some [a, b] := by
  have e : (List.range 2).reverse = [1, 0] := rfl
  rw [e]
  unfold nx at h
  by_cases h1 : j + 1 < n
  · rw [if_pos h1] at h
    cases h
    have z : ([i, j].getD 1 0 != 1 + n - 2) = true := by
      show (j != 1 + n - 2) = true
      rw [bne_iff_ne]
      omega
    rw [List.find?_cons_of_pos (p := fun k => [i, j].getD k 0 != k + n - 2) (a := 1) z]
    rfl
  · rw [if_neg h1] at h
    have z : ¬ ([i, j].getD 1 0 != 1 + n - 2) = true := by
      show ¬ (j != 1 + n - 2) = true
      rw [bne_iff_ne]
      omega
    by_cases h2 : i + 2 < n
    · rw [if_pos h2] at h
      cases h
      have z2 : ([i, j].getD 0 0 != 0 + n - 2) = true := by
        show (i != 0 + n - 2) = true
        rw [bne_iff_ne]
        omega
      rw [List.find?_cons_of_neg (p := fun k => [i, j].getD k 0 != k + n - 2) (a := 1) z, List.find?_cons_of_pos (p := fun k => [i, j].getD k 0 != k + n - 2) (a := 0) z2]
      rfl
    · rw [if_neg h2] at h
      cases h
theorem nx_none {n i j : Nat} (hi : i < j) (hj : j < n) (h : nx n i j = none) :
    (match (List.range 2).reverse.find? fun k => [i, j].getD k 0 != k + n - 2 with | none => none | some k => some ([i, j].take k ++ (List.range (2 - k)).map ([i, j].getD k 0 + 1 + ·))) = none := by
  have e : (List.range 2).reverse = [1, 0] := rfl
  rw [e]
  unfold nx at h
  by_cases h1 : j + 1 < n
  · rw [if_pos h1] at h
    cases h
  · rw [if_neg h1] at h
    by_cases h2 : i + 2 < n
    · rw [if_pos h2] at h
      cases h
    · have z : ¬ ([i, j].getD 1 0 != 1 + n - 2) = true := by
        show ¬ (j != 1 + n - 2) = true
        rw [bne_iff_ne]
        omega
      have z2 : ¬ ([i, j].getD 0 0 != 0 + n - 2) = true := by
        show ¬ (i != 0 + n - 2) = true
        rw [bne_iff_ne]
        omega
      rw [List.find?_cons_of_neg (p := fun k => [i, j].getD k 0 != k + n - 2) (a := 1) z, List.find?_cons_of_neg (p := fun k => [i, j].getD k 0 != k + n - 2) (a := 0) z2]
      rfl
end Comb

namespace Comb
open PySem PySem.Spec PyProof.Rows L2
/-- the pairs of these values, as new tuples -/
def Itcb (xs : List V) : It :=
  ⟨fun t _ => t < (prs xs.length).length,
    fun t H v H' => ∃ T i j x y, v = .ref T ∧ H T = none ∧ H' = upd H T (.tup [x, y]) ∧ (prs xs.length)[t]? = some (i, j) ∧ xs[i]? = some x ∧ xs[j]? = some y,
    fun t _ => (prs xs.length).length ≤ t⟩
def Stt (it pool : Addr) (items : Array Value) (t : Nat) (h : Heap) : Prop :=
  h.get? pool = some (tupO items) ∧ ((t = 0 ∧ IsC h it pool (if 2 > items.size then 2 else 0) .none 0 1) ∨ ∃ (u i j : Nat) (last : Value), t = u + 1 ∧ (prs items.size)[u]? = some (i, j) ∧ IsC h it pool 1 last i j)
theorem turn_comb {P : Program} {w : World} {K : PySem.W.Frag} {tg : Expr} {xs : List V} {its : List Value} (rv : Vals xs its) (it pool : Addr) (lt : pool < it) : Turn P w K tg (Itcb xs) [it, pool] it (Stt it pool its.toArray) where
  mem := by simp
  obj := fun t h st b hb => by
    obtain ⟨hp, st⟩ := st
    have e : b = it ∨ b = pool := by simpa using hb
    rcases e with e | e
    · rw [e]
      rcases st with ⟨_, c⟩ | ⟨_, _, _, _, _, _, c⟩ <;> exact ⟨_, c, fun v q => nomatch q⟩
    · rw [e]
      exact ⟨_, hp, fun v q => nomatch q⟩
  keep := fun t h h' st k => by
    obtain ⟨hp, st⟩ := st
    refine ⟨k pool (by simp) _ hp, ?_⟩
    rcases st with ⟨e, c⟩ | ⟨u, i, j, last, e, hu, c⟩
    · exact .inl ⟨e, k it (by simp) _ c⟩
    · exact .inr ⟨u, i, j, last, e, hu, k it (by simp) _ c⟩
  item := by
    intro X hP hw hK hc t pins s σ H E I hf st hg
    subst hP hw hK
    obtain ⟨hp, st⟩ := st
    have len := rv.length
    have sz : its.toArray.size = xs.length := by rw [List.size_toArray, len]
    -- what comes of the pair (i, j)
    have out : ∀ (i j : Nat) (h' : Heap), (prs xs.length)[t]? = some (i, j) → (∀ b, b ≠ it → ∀ u, s.heap.get? b = some u → h'.get? b = some u) → h'.get? s.heap.objs.size = some (tupO #[its.toArray.getD i .none, its.toArray.getD j .none]) →
        IsC h' it pool 1 (.ref s.heap.objs.size) i j → ∃ u, some (Value.ref s.heap.objs.size) = some u ∧
        wpAny (model X.prog X.w) X.A (letOwnedTupleGo tg (.ref it) u) (fun _ s2 => ∃ x H', Inv X pins σ H' s2 ∧ RelV x u ∧ (Itcb xs).yld t H x H' ∧ Stt it pool its.toArray (t + 1) s2.heap ∧ ∀ b ∈ [it, pool], H' b = none) E { s with heap := h' } := by
      intro i j h' ht keep new rec
      obtain ⟨l1, l2, _⟩ := prs_step ht
      have hx : xs[i]? = some xs[i] := List.getElem?_eq_getElem (by omega)
      have hy : xs[j]? = some xs[j] := List.getElem?_eq_getElem (by omega)
      obtain ⟨u1, hu1, r1⟩ := rv.get hx
      obtain ⟨u2, hu2, r2⟩ := rv.get hy
      have g1 : its.toArray.getD i .none = u1 := by
        rw [Array.getD_eq_getD_getElem?, List.getElem?_toArray, hu1]
        rfl
      have g2 : its.toArray.getD j .none = u2 := by
        rw [Array.getD_eq_getD_getElem?, List.getElem?_toArray, hu2]
        rfl
      rw [g1, g2] at new
      have obj : ObjOk X.prog X.w (upd H s.heap.objs.size (.tup [xs[i], xs[j]])) h' s.heap.objs.size (.tup [xs[i], xs[j]]) :=
        ⟨by show 2 ≤ sizeLine; decide, [u1, u2], .cons r1 (.cons r2 .nil), ⟨_, new, rfl, _, rfl⟩⟩
      have I1 : Inv X pins σ (upd H s.heap.objs.size (.tup [xs[i], xs[j]])) { s with heap := h' } :=
        I.turnedNew (t' := s.toks) (ch := [it, pool]) (fun c o hb q => keep c (fun z => hb (by simp [z])) o q) hf (Nat.le_refl _) obj
      refine ⟨_, rfl, go_of (s := { s with heap := h' }) rec rfl rfl (by decide) ⟨.ref s.heap.objs.size, _, I1, rfl, ⟨_, i, j, _, _, rfl, I.hok.fresh (Nat.le_refl _), rfl, ht, hx, hy⟩, ⟨keep pool (Nat.ne_of_lt lt) _ hp, .inr ⟨t, i, j, _, rfl, by rw [sz]; exact ht, rec⟩⟩, fun c hcm => ?_⟩⟩
      have small : c < s.heap.objs.size := by
        have e : c = it ∨ c = pool := by simpa using hcm
        have hit : it < s.heap.objs.size := by
          rcases st with ⟨_, c⟩ | ⟨_, _, _, _, _, _, c⟩ <;> exact Heap.lt_size c
        rcases e with e | e
        · rw [e]; exact hit
        · rw [e]; exact Nat.lt_trans lt hit
      rw [upd_ne (Nat.ne_of_lt small)]
      exact (hf c hcm).1
    have hg' : t < (prs xs.length).length := hg
    obtain ⟨⟨i, j⟩, hij⟩ : ∃ q, (prs xs.length)[t]? = some q := ⟨_, List.getElem?_eq_getElem hg'⟩
    rcases st with ⟨e, c⟩ | ⟨u, i0, j0, last, e, hu, c⟩
    · subst e
      have h2 : 2 ≤ xs.length := by
        rcases Nat.lt_or_ge xs.length 2 with z | z
        · rw [prs_none z] at hg'
          cases hg'
        · exact z
      rw [prs_zero h2] at hij
      cases hij
      rw [sz, if_neg (by omega)] at c
      exact next_first (n := 0) c hp (by rw [sz]; exact h2) fun h' k new rec => out 0 1 h' (prs_zero h2) k new rec
    · subst e
      rw [sz] at hu
      obtain ⟨l1, l2, l3⟩ := prs_step hu
      refine next_more c hp (nx_some l1 (by rw [sz]; exact l2) (by rw [sz, ← l3]; exact hij)) fun h' k new rec => out i j h' hij k new rec
  done := by
    intro X hP hw hK hc t pins s σ H E I hf st hg
    subst hP hw hK
    obtain ⟨hp, st⟩ := st
    have len := rv.length
    have sz : its.toArray.size = xs.length := by rw [List.size_toArray, len]
    have hg' : (prs xs.length).length ≤ t := hg
    obtain ⟨f0, f1, f2, f3, f4, f5⟩ := hf it (by simp)
    have fin : ∀ h', Heap.ExtBut it s.heap h' → (none : Option Value) = none ∧ Inv X pins σ H { s with heap := h' } := fun h' eb => ⟨rfl, I.turned (t' := s.toks) (fun b o hb e => eb b o hb e) f0 f1 f3 f4 f5⟩
    rcases st with ⟨e, c⟩ | ⟨u, i0, j0, last, e, hu, c⟩
    · subst e
      have h2 : xs.length < 2 := by
        rcases Nat.lt_or_ge xs.length 2 with z | z
        · exact z
        · have := prs_zero z
          rw [List.getElem?_eq_none hg'] at this
          cases this
      rw [sz, if_pos (by omega)] at c
      exact next_none (i := 0) (j := 1) (I.ok.hd hc) c hp fin
    · subst e
      rw [sz] at hu
      obtain ⟨l1, l2, l3⟩ := prs_step hu
      rw [List.getElem?_eq_none hg'] at l3
      exact next_end (I.ok.hd hc) c hp (nx_none l1 (by rw [sz]; exact l2) (by rw [sz]; exact l3.symm)) fin
  self := fun A t s Q E st h => by
    obtain ⟨hp, st⟩ := st
    rcases st with ⟨_, c⟩ | ⟨_, _, _, _, _, _, c⟩ <;> exact iter_comb c h

section
variable {X : Cx} {tg : Expr}
def iComb (K : PySem.W.Frag) (ta : TA) : TI := fun σ H R => ta σ H fun vs H1 => ∃ a xs, vs = [.ref a, .int 2] ∧ SqL K H1 a xs ∧ R (Itcb xs) H1
theorem pi_comb {x : Str} {e e2 : Expr} {ta : TA} {p pos : Pos} (hg : Gl X x) (hm : X.mg x = some (.type "itertools.combinations")) (ha : PA X [e, e2] ta) (hdb : (x == ("__debug__" : Str)) = false := by decide)
    (hs : starEach [e, e2] X.env = (false, eval e X.env) :: starEach [e2] X.env := by rfl) (hpl : (backTo pos (starEach [e2] X.env)).any (·.1) = false := by rfl) :
    PI X tg (.Call (.Name x p) [e, e2] [] pos) (iComb X.K ta) := by
  refine ⟨fun pins s σ H R I h => ?_⟩
  refine wpAny_Call_Name_kw (ld_glob I hg hm ?_ hdb)
  refine PyProof.Rows.callWith_type1 (thn (ha.run pos pins s σ H _ I h) fun us s1 ⟨vs, H1, I1, r1, q1⟩ => ?_) hs hpl
  obtain ⟨a, xs, rfl, hq, q⟩ := q1
  obtain ⟨u1, u2, rfl, e1, ⟨t, rfl⟩⟩ := vals2 r1
  obtain rfl : u1 = Value.ref a := e1
  obtain ⟨its, rv, ⟨o, n, ho, hcl, hne, hda⟩, hz⟩ := I1.list hq
  have len := rv.length
  refine call_comb ho hcl hda (by rw [List.size_toArray, ← len]; exact hz) fun h1 keep => ?_
  have J0 : Inv X pins σ H1 { s1 with heap := h1 } := I1.kept (t' := s1.toks) keep
  have sz1 : (h1.push (tupO its.toArray)).objs.size = h1.objs.size + 1 := Heap.size_push ..
  have g1 : ((h1.push (tupO its.toArray)).push (recC h1.objs.size (if 2 > its.toArray.size then 2 else 0) .none 0 1)).get? h1.objs.size = some (tupO its.toArray) := Heap.get?_push_of_some _ (Heap.get?_push_size _ rfl)
  have g2 : ((h1.push (tupO its.toArray)).push (recC h1.objs.size (if 2 > its.toArray.size then 2 else 0) .none 0 1)).get? (h1.objs.size + 1) = some (recC h1.objs.size (if 2 > its.toArray.size then 2 else 0) .none 0 1) := by
    rw [← sz1]
    exact Heap.get?_push_size _ rfl
  refine iter_comb (s := { s1 with heap := _ }) g2 ?_
  have J1 : Inv X pins σ H1 { s1 with heap := (h1.push (tupO its.toArray)).push (recC h1.objs.size (if 2 > its.toArray.size then 2 else 0) .none 0 1) } :=
    I1.kept (t' := s1.toks) fun b o z => Heap.get?_push_of_some _ (Heap.get?_push_of_some _ (keep b o z))
  refine ⟨h1.objs.size + 1, [h1.objs.size + 1, h1.objs.size], _, _, H1, rfl, J1, turn_comb rv (h1.objs.size + 1) h1.objs.size (Nat.lt_succ_self _), ⟨g1, .inl ⟨rfl, g2⟩⟩, fun b hb => ?_, q⟩
  have low : h1.objs.size ≤ b := by
    have e : b = h1.objs.size + 1 ∨ b = h1.objs.size := by simpa using hb
    rcases e with e | e
    · rw [e]; exact Nat.le_succ _
    · rw [e]; exact Nat.le_refl _
  exact J0.fpOk low (J0.hok.fresh low)

/-- a comprehension over the pairs -/
theorem lc_comb {xs : List V} {g : TG} {tt : TT} {te : TE} {vs : List Nat} {σ : L2.St} {H1 : Hp} {D : Addr} {Qd : Hp → Prop} (Pv : Nat → Hp → Prop) (h0 : Pv 0 (upd H1 D (.lst [])))
    (hs : ∀ (t i j : Nat) (x y : V) (T : Addr) (H : Hp), (prs xs.length)[t]? = some (i, j) → xs[i]? = some x → xs[j]? = some y → Pv t H → H T = none → g (.ref T) (wipe σ vs) (upd H T (.tup [x, y])) fun σ2 H2 => wipe σ2 vs = wipe σ vs ∧ tt σ2 H2 fun b H3 =>
      if b = true then te σ2 H3 fun y H4 => ∃ acc, H4 D = some (.lst acc) ∧ acc.length < sizeLine ∧ Pv (t + 1) (upd H4 D (.lst (acc ++ [y]))) else Pv (t + 1) H3) (hd : ∀ H, Pv (prs xs.length).length H → Qd H) :
    ∃ W : Nat → Nat → Hp → Prop, (∃ m, W 0 m (upd H1 D (.lst []))) ∧ ∀ t m H, W t m H →
      ((Itcb xs).stop t H ∧ Qd H) ∨ ((Itcb xs).go t H ∧ ∃ Nx : Hp → Prop, (∀ H', Nx H' → ∃ m', m' < m ∧ W (t + 1) m' H') ∧ ∀ x H', (Itcb xs).yld t H x H' → g x (wipe σ vs) H' fun σ2 H2 => wipe σ2 vs = wipe σ vs ∧ tt σ2 H2 fun b H3 =>
        if b = true then te σ2 H3 fun y H4 => ∃ acc, H4 D = some (.lst acc) ∧ acc.length < sizeLine ∧ Nx (upd H4 D (.lst (acc ++ [y]))) else Nx H3) := by
  refine ⟨fun t m H => m = (prs xs.length).length - t ∧ t ≤ (prs xs.length).length ∧ Pv t H, ⟨_, rfl, Nat.zero_le _, h0⟩, ?_⟩
  rintro t m H ⟨rfl, ht, pv⟩
  rcases Nat.lt_or_ge t (prs xs.length).length with lt | ge
  · refine .inr ⟨lt, Pv (t + 1), fun H' p' => ⟨(prs xs.length).length - (t + 1), by omega, rfl, lt, p'⟩, fun v H' y => ?_⟩
    obtain ⟨T, i, j, a, b, rfl, hT, rfl, h1, h2, h3⟩ := y
    exact hs t i j a b T H h1 h2 h3 pv hT
  · have e : t = (prs xs.length).length := by omega
    subst e
    exact .inl ⟨Nat.le_refl _, hd H pv⟩
end
end Comb

namespace SortR
open PySem PySem.Spec PyProof.Rows L2 PySem.W
/-- lists of ints by their sequence -/
def rowLe (p q : Addr × List Int) : Bool := decide (p.2 ≤ q.2)
theorem enc_alike (p q : Addr × List Int) : alike (PyData.list (p.2.map .int)) (PyData.list (q.2.map .int)) = true := by
  simp only [alike]
  exact alike_ints p.2 q.2
theorem rows_dp {K : PySem.W.Frag} {H : Hp} : ∀ ns : List Int, DpAll K H (ns.map V.int) (ns.map PyData.int)
  | [] => .nil
  | n :: ns => .cons (.int n) (rows_dp ns)
theorem vals_each {h : Heap} {K : PySem.W.Frag} {H : Hp} {P : Addr × List Int → Prop} : ∀ {bs : List (Addr × List Int)} {us : List Value}, Vals (bs.map fun b => V.ref b.1) us → (∀ b ∈ bs, P b) → EachIs (fun v b => v = Value.ref b.1 ∧ P b) us bs
  | [], us, r, _ => by
    cases r
    exact .nil
  | b :: bs, us, r, hp => by
    cases r with
    | cons r1 r2 =>
      have e : _ = Value.ref b.1 := r1
      exact .cons ⟨e, hp b List.mem_cons_self⟩ (vals_each (h := h) (K := K) (H := H) r2 fun c hc => hp c (List.mem_cons_of_mem _ hc))
theorem each_back {P : Addr × List Int → Prop} : ∀ {us : List Value} {bs : List (Addr × List Int)}, EachIs (fun v b => v = Value.ref b.1 ∧ P b) us bs → Vals (bs.map fun b => V.ref b.1) us
  | _, _, .nil => .nil
  | _, _, .cons h t => .cons h.1 (each_back t)
theorem each_mono {α β : Type} {R S : α → β → Prop} : ∀ {as : List α} {bs : List β}, EachIs R as bs → (∀ a b, R a b → S a b) → EachIs S as bs
  | _, _, .nil, _ => .nil
  | _, _, .cons h t, f => .cons (f _ _ h) (each_mono t f)
section
variable {X : Cx}
/-- sorted(xs), xs a list of lists of ints, of any length -/
theorem call_sortedR (hu : X.A.units + 64 < cLine) : CallR X (.builtin "sorted") (fun xs H Q => ∃ (a : Addr) (bs : List (Addr × List Int)), xs = [V.ref a] ∧ SqL X.K H a (bs.map fun b => V.ref b.1) ∧ (∀ b ∈ bs, SqL X.K H b.1 (b.2.map V.int)) ∧
    ∀ p, H p = none → Q (.ref p) (upd H p (.lst ((bs.mergeSort rowLe).map fun b => V.ref b.1)))) := by
  intro pins s σ H xs us Q I r h
  obtain ⟨a, bs, rfl, hs, hb, q⟩ := h
  obtain ⟨u, rfl, ru⟩ := vals1 r
  obtain rfl : u = Value.ref a := ru
  obtain ⟨its, rv, hl, hz⟩ := I.list hs
  have each : EachIs (fun v b => v = Value.ref b.1 ∧ SqL X.K H b.1 (b.2.map V.int)) its bs := vals_each (h := s.heap) (K := X.K) (H := H) rv hb
  have len : its.length = bs.length := by rw [← rv.length, List.length_map]
  have each2 : EachIs (fun v (b : Addr × List Int) => ∃ as, Reads s.heap v (PyData.list (b.2.map .int)) as) its bs := each_mono each fun v b ⟨e, hq⟩ => by
    rw [e]
    exact Dp.reads I (PyData.list (b.2.map .int)) (.ref b.1) (.ref b.1) (.lst hq (rows_dp b.2)) rfl
  have le : dataLe false (fun b : Addr × List Int => PyData.list (b.2.map .int)) = rowLe := dataLe_rows (fun b : Addr × List Int => b.2)
  refine sorted_data (enc := fun b : Addr × List Int => PyData.list (b.2.map .int)) hl.isList each each2 (AllAlike.of enc_alike) (Sortable.others fun b => ⟨(fun z => nomatch z), fun xs z => nomatch z⟩) (by rw [← len]; rw [List.length_map] at hz; rw [len]; exact hz) (fun b _ => by
    have d : (PyData.list (b.2.map .int)).depth = 1 := by
      simp only [PyData.depth, depth_ints]
    rw [d]
    omega) fun out ho each3 => ?_
  rw [le] at each3
  have back := each_back each3
  obtain ⟨n, hn⟩ := sortedAll_at s.heap its out.toArray
  refine ⟨.ref (s.heap.objs.size + 1), upd H (s.heap.objs.size + 1) (.lst ((bs.mergeSort rowLe).map fun b => V.ref b.1)), I.laid (t' := s.toks) (fun b o e => sortedAll_old e) (Nat.le_succ _) ⟨?_, out, n, back, hn⟩, rfl, q _ (I.hok.fresh (Nat.le_succ _))⟩
  rw [List.length_map, List.length_mergeSort]
  rw [List.length_map] at hz
  exact hz
end
end SortR

namespace SortR
open PySem PySem.Spec PyProof.Rows L2 PySem.W
section
variable {X : Cx}
def rLtR (K : PySem.W.Frag) : R2 := fun x y H Q => ∃ (a b : Addr) (ns ms : List Int), x = .ref a ∧ y = .ref b ∧ SqL K H a (ns.map V.int) ∧ SqL K H b (ms.map V.int) ∧ Q (.bl (decide (ns < ms))) H
/-- xs < ys, two lists of ints -/
theorem op_ltR (hu : X.A.units + 64 < cLine) : OpR X (compareOp .Lt) (rLtR X.K) := by
  intro pins s σ H x y v u Q I rx ry h
  obtain ⟨a, b, ns, ms, rfl, rfl, hs, hm, q⟩ := h
  obtain ⟨as, r1⟩ := Dp.reads I (PyData.list (ns.map .int)) (.ref a) v (.lst hs (rows_dp ns)) rx
  obtain ⟨bs, r2⟩ := Dp.reads I (PyData.list (ms.map .int)) (.ref b) u (.lst hm (rows_dp ms)) ry
  have dep : (PyData.list (ns.map .int)).depth = 1 := by simp only [PyData.depth, depth_ints]
  have lt := rcLt_alike (PyData.list (ns.map .int)) (PyData.list (ms.map .int)) X.A s v u as bs r1 r2 (enc_alike (a, ns) (b, ms)) (fun z => nomatch z) (by rw [dep]; omega)
  have e : dataLt (PyData.list (ns.map .int)) (PyData.list (ms.map .int)) = decide (ns < ms) := by
    rw [dataLt_list]
    exact dataLt_ints ns ms
  rw [e] at lt
  exact lt _ _ _ _ ⟨.bl _, H, I, rfl, q⟩
/-- a comprehension over zip of two lists that stand still -/
theorem lc_zipL {K : PySem.W.Frag} {a b : Addr} {xs ys : List V} {g : TG} {tt : TT} {te : TE} {vs : List Nat} {σ : L2.St} {H1 : Hp} {D : Addr} {Qd : Hp → Prop} (Pv : Nat → Hp → Prop) (h0 : Pv 0 (upd H1 D (.lst []))) (hl : ∀ i H, Pv i H → SqL K H a xs ∧ SqL K H b ys)
    (hs : ∀ (i : Nat) (x y : V) (T : Addr) (H : Hp), xs[i]? = some x → ys[i]? = some y → Pv i H → H T = none → g (.ref T) (wipe σ vs) (upd H T (.tup [x, y])) fun σ2 H2 => wipe σ2 vs = wipe σ vs ∧ tt σ2 H2 fun b H3 =>
      if b = true then te σ2 H3 fun y H4 => ∃ acc, H4 D = some (.lst acc) ∧ acc.length < sizeLine ∧ Pv (i + 1) (upd H4 D (.lst (acc ++ [y]))) else Pv (i + 1) H3) (hd : ∀ H, Pv (min xs.length ys.length) H → Qd H) :
    ∃ W : Nat → Nat → Hp → Prop, (∃ m, W 0 m (upd H1 D (.lst []))) ∧ ∀ i m H, W i m H →
      ((Itz K a b).stop i H ∧ Qd H) ∨ ((Itz K a b).go i H ∧ ∃ Nx : Hp → Prop, (∀ H', Nx H' → ∃ m', m' < m ∧ W (i + 1) m' H') ∧ ∀ x H', (Itz K a b).yld i H x H' → g x (wipe σ vs) H' fun σ2 H2 => wipe σ2 vs = wipe σ vs ∧ tt σ2 H2 fun b H3 =>
        if b = true then te σ2 H3 fun y H4 => ∃ acc, H4 D = some (.lst acc) ∧ acc.length < sizeLine ∧ Nx (upd H4 D (.lst (acc ++ [y]))) else Nx H3) := by
  refine ⟨fun i m H => m = min xs.length ys.length - i ∧ i ≤ min xs.length ys.length ∧ Pv i H, ⟨_, rfl, Nat.zero_le _, h0⟩, ?_⟩
  rintro i m H ⟨rfl, hi, pv⟩
  obtain ⟨qx, qy⟩ := hl i H pv
  rcases Nat.lt_or_ge i (min xs.length ys.length) with lt | ge
  · have ex : xs[i]? = some xs[i] := List.getElem?_eq_getElem (by omega)
    have ey : ys[i]? = some ys[i] := List.getElem?_eq_getElem (by omega)
    refine .inr ⟨⟨xs, ys, _, _, qx, qy, ex, ey⟩, Pv (i + 1), fun H' p' => ⟨min xs.length ys.length - (i + 1), by omega, rfl, lt, p'⟩, fun v H' y => ?_⟩
    obtain ⟨T, x', y', rfl, hT, rfl, f1, f2⟩ := y
    exact hs i x' y' T H (f1 xs qx) (f2 ys qy) pv hT
  · have e : i = min xs.length ys.length := by omega
    subst e
    exact .inl ⟨⟨xs, ys, qx, qy, by omega⟩, hd H pv⟩
/-- a comprehension over enumerate of a list that stands still -/
theorem lc_enumL {K : PySem.W.Frag} {a : Addr} {xs : List V} {g : TG} {tt : TT} {te : TE} {vs : List Nat} {σ : L2.St} {H1 : Hp} {D : Addr} {Qd : Hp → Prop} (Pv : Nat → Hp → Prop) (h0 : Pv 0 (upd H1 D (.lst []))) (hl : ∀ i H, Pv i H → SqL K H a xs)
    (hs : ∀ (i : Nat) (x : V) (T : Addr) (H : Hp), xs[i]? = some x → Pv i H → H T = none → g (.ref T) (wipe σ vs) (upd H T (.tup [.int (i : Nat), x])) fun σ2 H2 => wipe σ2 vs = wipe σ vs ∧ tt σ2 H2 fun b H3 =>
      if b = true then te σ2 H3 fun y H4 => ∃ acc, H4 D = some (.lst acc) ∧ acc.length < sizeLine ∧ Pv (i + 1) (upd H4 D (.lst (acc ++ [y]))) else Pv (i + 1) H3) (hd : ∀ H, Pv xs.length H → Qd H) :
    ∃ W : Nat → Nat → Hp → Prop, (∃ m, W 0 m (upd H1 D (.lst []))) ∧ ∀ i m H, W i m H →
      ((Ite K a).stop i H ∧ Qd H) ∨ ((Ite K a).go i H ∧ ∃ Nx : Hp → Prop, (∀ H', Nx H' → ∃ m', m' < m ∧ W (i + 1) m' H') ∧ ∀ x H', (Ite K a).yld i H x H' → g x (wipe σ vs) H' fun σ2 H2 => wipe σ2 vs = wipe σ vs ∧ tt σ2 H2 fun b H3 =>
        if b = true then te σ2 H3 fun y H4 => ∃ acc, H4 D = some (.lst acc) ∧ acc.length < sizeLine ∧ Nx (upd H4 D (.lst (acc ++ [y]))) else Nx H3) := by
  refine ⟨fun i m H => m = xs.length - i ∧ i ≤ xs.length ∧ Pv i H, ⟨_, rfl, Nat.zero_le _, h0⟩, ?_⟩
  rintro i m H ⟨rfl, hi, pv⟩
  have qx := hl i H pv
  rcases Nat.lt_or_ge i xs.length with lt | ge
  · have ex : xs[i]? = some xs[i] := List.getElem?_eq_getElem lt
    refine .inr ⟨⟨xs, _, qx, ex⟩, Pv (i + 1), fun H' p' => ⟨xs.length - (i + 1), by omega, rfl, lt, p'⟩, fun v H' y => ?_⟩
    obtain ⟨T, x', rfl, hT, rfl, f1⟩ := y
    exact hs i x' T H (f1 xs qx) pv hT
  · have e : i = xs.length := by omega
    subst e
    exact .inl ⟨⟨xs, qx, Nat.le_refl _⟩, hd H pv⟩
end
end SortR

/-! Comprehensions without a test, by the value of each turn: what stood stands. -/
namespace LcM
open PySem PySem.Spec PyProof.Rows L2
/-- all that stood stands -/
def Grows (H H' : Hp) : Prop := ∀ b o, H b = some o → H' b = some o
theorem Grows.refl {H : Hp} : Grows H H := fun _ _ e => e
theorem Grows.trans {H H1 H2 : Hp} (x : Grows H H1) (y : Grows H1 H2) : Grows H H2 := fun b o e => y b o (x b o e)
theorem Grows.new {a : Addr} {H : Hp} {o : HO} (h : H a = none) : Grows H (upd H a o) := fun b u e => by
  rw [upd_ne (ne_of_none e h)]
  exact e
theorem Grows.seq {K : PySem.W.Frag} {H H' : Hp} {a : Addr} {xs : List V} (s : Grows H H') (h : SqL K H a xs) : SqL K H' a xs := by
  rcases h with (h | ⟨o, h⟩) | h
  · exact .inl (.inl (s _ _ h))
  · exact .inl (.inr ⟨o, s _ _ h⟩)
  · exact .inr h
theorem Grows.tup {K : PySem.W.Frag} {H H' : Hp} {a : Addr} {xs : List V} (s : Grows H H') (h : SqT K H a xs) : SqT K H' a xs := by
  rcases h with (h | ⟨o, h⟩) | h
  · exact .inl (.inl (s _ _ h))
  · exact .inl (.inr ⟨o, s _ _ h⟩)
  · exact .inr h
/-- the list that is made -/
def Ma (H0 : Hp) (D : Addr) (F : Nat → V) (i : Nat) (H : Hp) : Prop := Grows H0 H ∧ H D = some (.lst ((List.range i).map F))
theorem Ma.start {H0 : Hp} {D : Addr} {F : Nat → V} (hD : H0 D = none) : Ma H0 D F 0 (upd H0 D (.lst [])) := ⟨Grows.new hD, upd_same⟩
theorem yes_eq {te : TE} {A : L2.St → Prop} {R : V → Hp → Prop} {Y : Hp → Prop} :
    (fun (σ2 : L2.St) (H2 : Hp) => A σ2 ∧ tYes σ2 H2 fun b H3 => if b = true then te σ2 H3 R else Y H3) = fun σ2 H2 => A σ2 ∧ te σ2 H2 R := by
  funext σ2 H2
  unfold tYes
  dsimp only
  rw [if_pos rfl]
/-- one more -/
theorem Ma.more {H0 H H4 : Hp} {D : Addr} {F : Nat → V} {i : Nat} (hD : H0 D = none) (m : Ma H0 D F i H) (s : Grows H H4) (small : i < 1000000) :
    ∃ acc, H4 D = some (.lst acc) ∧ acc.length < sizeLine ∧ Ma H0 D F (i + 1) (upd H4 D (.lst (acc ++ [F i]))) := by
  refine ⟨_, s _ _ m.2, ?_, fun b o e => ?_, ?_⟩
  · rw [List.length_map, List.length_range]
    exact Nat.lt_trans small (by decide)
  · rw [upd_ne (ne_of_none e hD)]
    exact s _ _ (m.1 _ _ e)
  · rw [upd_same, List.range_succ, List.map_append]
    rfl
section
variable {K : PySem.W.Frag} {a b : Addr} {xs ys : List V} {g : TG} {te : TE} {vs : List Nat} {σ : L2.St} {H0 : Hp} {D : Addr} {Qd : Hp → Prop}
theorem lc_listM (F : Nat → V) (hD : H0 D = none) (hx : SqL K H0 a xs) (small : xs.length ≤ 1000000)
    (turn : ∀ (i : Nat) (x : V) (H : Hp) (R : V → Hp → Prop), xs[i]? = some x → Grows H0 H → (∀ H4, Grows H H4 → R (F i) H4) → g x (wipe σ vs) H fun σ2 H2 => wipe σ2 vs = wipe σ vs ∧ te σ2 H2 R)
    (done : ∀ H, Grows H0 H → H D = some (.lst ((List.range xs.length).map F)) → Qd H) :
    ∃ W : Nat → Nat → Hp → Prop, (∃ m, W 0 m (upd H0 D (.lst []))) ∧ ∀ i m H, W i m H →
      ((Itl K a).stop i H ∧ Qd H) ∨ ((Itl K a).go i H ∧ ∃ Nx : Hp → Prop, (∀ H', Nx H' → ∃ m', m' < m ∧ W (i + 1) m' H') ∧ ∀ x H', (Itl K a).yld i H x H' → g x (wipe σ vs) H' fun σ2 H2 => wipe σ2 vs = wipe σ vs ∧ tYes σ2 H2 fun b H3 =>
        if b = true then te σ2 H3 fun y H4 => ∃ acc, H4 D = some (.lst acc) ∧ acc.length < sizeLine ∧ Nx (upd H4 D (.lst (acc ++ [y]))) else Nx H3) := by
  refine lc_list (Ma H0 D F) (Ma.start hD) (fun i H _ m => m.1.seq hx) (fun i x H ex m => ?_) fun H m => done H m.1 m.2
  rw [yes_eq (A := fun σ2 => wipe σ2 vs = wipe σ vs)]
  exact turn i x H _ ex m.1 fun H4 s => m.more hD s (Nat.lt_of_lt_of_le (List.getElem?_eq_some_iff.mp ex).1 small)
theorem lc_zipM (F : Nat → V) (hD : H0 D = none) (hx : SqL K H0 a xs) (hy : SqL K H0 b ys) (small : xs.length ≤ 1000000)
    (turn : ∀ (i : Nat) (x y : V) (T : Addr) (H : Hp) (R : V → Hp → Prop), xs[i]? = some x → ys[i]? = some y → Grows H0 H → H T = none → (∀ H4, Grows (upd H T (.tup [x, y])) H4 → R (F i) H4) → g (.ref T) (wipe σ vs) (upd H T (.tup [x, y])) fun σ2 H2 => wipe σ2 vs = wipe σ vs ∧ te σ2 H2 R)
    (done : ∀ H, Grows H0 H → H D = some (.lst ((List.range (min xs.length ys.length)).map F)) → Qd H) :
    ∃ W : Nat → Nat → Hp → Prop, (∃ m, W 0 m (upd H0 D (.lst []))) ∧ ∀ i m H, W i m H →
      ((Itz K a b).stop i H ∧ Qd H) ∨ ((Itz K a b).go i H ∧ ∃ Nx : Hp → Prop, (∀ H', Nx H' → ∃ m', m' < m ∧ W (i + 1) m' H') ∧ ∀ x H', (Itz K a b).yld i H x H' → g x (wipe σ vs) H' fun σ2 H2 => wipe σ2 vs = wipe σ vs ∧ tYes σ2 H2 fun b H3 =>
        if b = true then te σ2 H3 fun y H4 => ∃ acc, H4 D = some (.lst acc) ∧ acc.length < sizeLine ∧ Nx (upd H4 D (.lst (acc ++ [y]))) else Nx H3) := by
  refine SortR.lc_zipL (Ma H0 D F) (Ma.start hD) (fun i H m => ⟨m.1.seq hx, m.1.seq hy⟩) (fun i x y T H ex ey m hT => ?_) fun H m => done H m.1 m.2
  rw [yes_eq (A := fun σ2 => wipe σ2 vs = wipe σ vs)]
  exact turn i x y T H _ ex ey m.1 hT fun H4 s => m.more hD ((Grows.new hT).trans s) (Nat.lt_of_lt_of_le (List.getElem?_eq_some_iff.mp ex).1 small)
theorem lc_enumM (F : Nat → V) (hD : H0 D = none) (hx : SqL K H0 a xs) (small : xs.length ≤ 1000000)
    (turn : ∀ (i : Nat) (x : V) (T : Addr) (H : Hp) (R : V → Hp → Prop), xs[i]? = some x → Grows H0 H → H T = none → (∀ H4, Grows (upd H T (.tup [.int (i : Nat), x])) H4 → R (F i) H4) → g (.ref T) (wipe σ vs) (upd H T (.tup [.int (i : Nat), x])) fun σ2 H2 => wipe σ2 vs = wipe σ vs ∧ te σ2 H2 R)
    (done : ∀ H, Grows H0 H → H D = some (.lst ((List.range xs.length).map F)) → Qd H) :
    ∃ W : Nat → Nat → Hp → Prop, (∃ m, W 0 m (upd H0 D (.lst []))) ∧ ∀ i m H, W i m H →
      ((Ite K a).stop i H ∧ Qd H) ∨ ((Ite K a).go i H ∧ ∃ Nx : Hp → Prop, (∀ H', Nx H' → ∃ m', m' < m ∧ W (i + 1) m' H') ∧ ∀ x H', (Ite K a).yld i H x H' → g x (wipe σ vs) H' fun σ2 H2 => wipe σ2 vs = wipe σ vs ∧ tYes σ2 H2 fun b H3 =>
        if b = true then te σ2 H3 fun y H4 => ∃ acc, H4 D = some (.lst acc) ∧ acc.length < sizeLine ∧ Nx (upd H4 D (.lst (acc ++ [y]))) else Nx H3) := by
  refine SortR.lc_enumL (Ma H0 D F) (Ma.start hD) (fun i H m => m.1.seq hx) (fun i x T H ex m hT => ?_) fun H m => done H m.1 m.2
  rw [yes_eq (A := fun σ2 => wipe σ2 vs = wipe σ vs)]
  exact turn i x T H _ ex m.1 hT fun H4 s => m.more hD ((Grows.new hT).trans s) (Nat.lt_of_lt_of_le (List.getElem?_eq_some_iff.mp ex).1 small)
theorem lc_combM (F : Nat → V) (hD : H0 D = none) (small : xs.length ≤ 1000)
    (turn : ∀ (t i j : Nat) (x y : V) (T : Addr) (H : Hp) (R : V → Hp → Prop), (Comb.prs xs.length)[t]? = some (i, j) → xs[i]? = some x → xs[j]? = some y → Grows H0 H → H T = none → (∀ H4, Grows (upd H T (.tup [x, y])) H4 → R (F t) H4) → g (.ref T) (wipe σ vs) (upd H T (.tup [x, y])) fun σ2 H2 => wipe σ2 vs = wipe σ vs ∧ te σ2 H2 R)
    (done : ∀ H, Grows H0 H → H D = some (.lst ((List.range (Comb.prs xs.length).length).map F)) → Qd H) :
    ∃ W : Nat → Nat → Hp → Prop, (∃ m, W 0 m (upd H0 D (.lst []))) ∧ ∀ t m H, W t m H →
      ((Comb.Itcb xs).stop t H ∧ Qd H) ∨ ((Comb.Itcb xs).go t H ∧ ∃ Nx : Hp → Prop, (∀ H', Nx H' → ∃ m', m' < m ∧ W (t + 1) m' H') ∧ ∀ x H', (Comb.Itcb xs).yld t H x H' → g x (wipe σ vs) H' fun σ2 H2 => wipe σ2 vs = wipe σ vs ∧ tYes σ2 H2 fun b H3 =>
        if b = true then te σ2 H3 fun y H4 => ∃ acc, H4 D = some (.lst acc) ∧ acc.length < sizeLine ∧ Nx (upd H4 D (.lst (acc ++ [y]))) else Nx H3) := by
  refine Comb.lc_comb (Ma H0 D F) (Ma.start hD) (fun t i j x y T H et ex ey m hT => ?_) fun H m => done H m.1 m.2
  rw [yes_eq (A := fun σ2 => wipe σ2 vs = wipe σ vs)]
  refine turn t i j x y T H _ et ex ey m.1 hT fun H4 s => m.more hD ((Grows.new hT).trans s) ?_
  have l1 := (List.getElem?_eq_some_iff.mp et).1
  have l2 := Comb.rows_len (xs.length - 1) 0
  have l3 : (xs.length - 1) * (xs.length - 1) ≤ 999 * 999 := Nat.mul_le_mul (by omega) (by omega)
  unfold Comb.prs at l1
  omega
end
/-- xs[1:] -/
theorem cut_tail (xs : List V) : cutV xs (some 1) none = xs.tail := by
  unfold cutV
  rw [HT.sIx_none, show (some (1 : Int)) = some ((1 : Nat) : Int) from rfl, HT.sIx_nat]
  cases xs with
  | nil => rfl
  | cons x l =>
    have e : min 1 (x :: l).length = 1 := by rw [List.length_cons]; omega
    rw [e, List.drop_one, List.tail_cons, List.length_cons, Nat.add_sub_cancel, List.take_length]
end LcM

/-! {key: value for target in iterable if test}, the keys tuples. -/
namespace DcT
open PySem PySem.Spec PyProof.Rows L2
section
variable {X : Cx} {pins : List (Addr × Obj)} {σ : L2.St} {H : Hp} {s : Shared}
/-- one entry is laid by the comprehension -/
theorem set_tup {Er : Value → Shared → Prop} {d b : Addr} {kvs : List (List L2.Key × V)} {k : List L2.Key} {v : V} {u r : Value} {Qu : Unit → Shared → Prop} (room : X.A.units + 1 < cLine) (I : Inv X pins σ H s) (at_d : H d = some (.dT kvs)) (few : kvs.length < sizeLine)
    (at_b : H b = some (.tup (k.map kV))) (ru : RelV (.ref b) u) (rr : RelV v r) (go : ∀ s', Inv X pins σ (upd H d (.dT (putK kvs k v))) s' → Qu () s') : wpAny (model X.prog X.w) X.A (dictSet d u r) Qu Er s := by
  obtain rfl : u = Value.ref b := ru
  obtain ⟨fits, notSys, xs, rel, raw⟩ := dt_of I.hok at_d
  have n1 : xs.length ≤ sizeLine := Paired.length rel ▸ fits
  have n2 : (putK kvs k v).length ≤ sizeLine := Nat.le_trans (length_putK kvs k v) few
  refine wpAny_dictSet_heap (hsz := n1) (show X.A.units < cLine from Nat.lt_of_succ_lt room) (key_of I.hok at_b) raw fun hp raw' same => go _ ?_
  obtain ⟨o, es, ep, g1, g2, g3, g4, _, g5⟩ := raw'
  refine d_write I (by rw [at_d]; exact True.intro) same ⟨o, g1⟩ ⟨n2, notSys, _, (rel.put k at_b rr).keeps fun c ys ec => ?_, o, es, ep, g1, g2, g3, g4, g5⟩
  rw [upd_ne (ne_of ec at_d fun z => nomatch z)]
  exact ec
end
section
variable {X : Cx}
def tDcT (wi : TI) (g : TG) (tt : TT) (tk tv : TE) (vs : List Nat) : TE := fun σ H Q => wi σ H fun J H1 => ∀ D, H1 D = none → ∃ W : Nat → Nat → Hp → Prop, (∃ m, W 0 m (upd H1 D (.dT []))) ∧ ∀ i m H, W i m H →
  (J.stop i H ∧ Q (.ref D) H) ∨ (J.go i H ∧ ∃ Nx : Hp → Prop, (∀ H', Nx H' → ∃ m', m' < m ∧ W (i + 1) m' H') ∧ ∀ x H', J.yld i H x H' → g x (wipe σ vs) H' fun σ2 H2 => wipe σ2 vs = wipe σ vs ∧ tt σ2 H2 fun t H3 =>
    if t = true then tk σ2 H3 fun y H4 => tv σ2 H4 fun z H5 => ∃ b kvs k, y = .ref b ∧ H5 b = some (.tup (k.map kV)) ∧ H5 D = some (.dT kvs) ∧ kvs.length < sizeLine ∧ Nx (upd H5 D (.dT (putK kvs k z))) else Nx H3)
theorem dcT_core {pins : List (Addr × Obj)} {s0 : Shared} {σ : L2.St} {H0 : Hp} {Q : VK} {kx vx tg iter : Expr} {ifs : List Expr} {scope : Scope} {own : List (Str × Nat)} {pos pos' : Pos} {wi : TI} {g : TG} {tt : TT} {tk tv : TE} {use : Option (Value → Sem Unit)} {Qf : Value → Shared → Prop}
    (room : X.A.units + 64 < cLine) (calm : X.calm = true) (nd : X.N.Nodup) (I0 : Inv X pins σ H0 s0) (pi : PI X tg iter wi) (ok : BlkOk X.N X.env.scope scope own)
    (pgs : ∀ (s : Shared) (H : Hp) (C : Addr) (cl : List (Str × Addr)) (fp : List Addr), PG (X.blk s H scope (compEnvC scope cl C X.env) fp) tg g) (pts : ∀ (s : Shared) (H : Hp) (C : Addr) (cl : List (Str × Addr)) (fp : List Addr), PTs (X.blk s H scope (compEnvC scope cl C X.env) fp) ifs tt)
    (pks : ∀ (s : Shared) (H : Hp) (C : Addr) (cl : List (Str × Addr)) (fp : List Addr), PE (X.blk s H scope (compEnvC scope cl C X.env) fp) kx tk) (pvs : ∀ (s : Shared) (H : Hp) (C : Addr) (cl : List (Str × Addr)) (fp : List Addr), PE (X.blk s H scope (compEnvC scope cl C X.env) fp) vx tv)
    (fold : ∀ x, foldedSetIterable iter X.env x = pure x) (rd : tDcT wi g tt tk tv (own.map (·.2)) σ H0 Q)
    (post : ∀ D C t ns G, Inv X pins σ G t → Q (.ref D) G → t.heap.Ns C ns → FpOk X pins G C → compPost (model X.prog X.w) X.A X.xe use Qf (.ref D) C (.ok .next) t) :
    wpAny (model X.prog X.w) X.A (comprehension (.DictComp kx vx [⟨tg, iter, ifs, 0⟩] scope pos) scope X.env pos' newDict false (eval iter X.env) use) Qf X.xe s0 := by
  have isFree : ∀ y ∈ scope.names, y.2 = .free → ∃ c, X.env.cells.lookup y.1 = some c := fun y hy ey => (ok.free y hy ey).elim (fun z => I0.ok.has _ (.inl z)) fun z => I0.ok.has _ (.inr z)
  refine wpAny_comprehension_free (use := use) rfl fold (closure_ok isFree) ok.kind (fun y hy ey => (ok.uniq y hy).trans (congrArg some ey)) (thn (pi.run pins s0 σ H0 _ I0 rd) fun _ sa ha => thn ha fun _ sb hb => ?_)
  obtain ⟨it, fp, tn, J, Hb, rfl, Ib, Tn, tn0, fb, q⟩ := hb
  refine wpAny_newObj_type (newEnv_comp ?_)
  have free0 : Hb sb.heap.objs.size = none := Ib.hok.fresh (Nat.le_refl _)
  obtain ⟨W, ⟨m0, w0⟩, turn⟩ := q _ free0
  -- with the dict, empty
  obtain ⟨sc, esc⟩ : ∃ z : Shared, z = { sb with heap := sb.heap.push { cls := .type "dict", data := .dict #[] } } := ⟨_, rfl⟩
  obtain ⟨Hc, eHc⟩ : ∃ z : Hp, z = upd Hb sb.heap.objs.size (.dT []) := ⟨_, rfl⟩
  have Ic : Inv X pins σ Hc sc := by
    rw [esc, eHc]
    exact Ib.laid (t' := sb.toks) (fun b o z => Heap.get?_push_of_some _ z) (Nat.le_refl _) (dt_empty sb.heap Ib.big)
  have up : ∀ b o, sb.heap.get? b = some o → sc.heap.get? b = some o := fun b o z => by
    rw [esc]
    exact Heap.get?_push_of_some _ z
  have below : ∀ b ∈ fp, b < sb.heap.objs.size := fun b hb => let ⟨_, z, _⟩ := Tn.obj _ _ tn0 b hb; Heap.lt_size z
  have fc : ∀ b ∈ fp, FpOk X pins Hc b ∧ b < sc.heap.objs.size := fun b hb => by
    obtain ⟨o, z, _⟩ := Tn.obj _ _ tn0 b hb
    refine ⟨⟨?_, (fb b hb).2⟩, Heap.lt_size (up b o z)⟩
    rw [eHc, upd_ne (Nat.ne_of_lt (below b hb))]
    exact (fb b hb).1
  have tnc : tn 0 sc.heap := Tn.keep _ _ _ tn0 fun b _ o z => up b o z
  have Ie := block_start Ic ok nd fc
  obtain ⟨cells, ecl⟩ : ∃ z, z = cellsFrom (sc.heap.objs.size + 1) scope.names (cloFrom X.env.cells scope.names []) := ⟨_, rfl⟩
  have pg := pgs sc Hc sc.heap.objs.size cells fp
  have pt := pts sc Hc sc.heap.objs.size cells fp
  have pk := pks sc Hc sc.heap.objs.size cells fp
  have pv := pvs sc Hc sc.heap.objs.size cells fp
  rw [← ecl] at Ie
  rw [← esc]
  show codeAny _ _ (.compStart _ 0 (.ref it) (.ref sb.heap.objs.size) (compEnvC scope (cellsFrom (sc.heap.objs.size + 1) scope.names (cloFrom X.env.cells scope.names [])) sc.heap.objs.size X.env)) (compPost _ _ X.xe use Qf (.ref sb.heap.objs.size) sc.heap.objs.size) _
  rw [← ecl]
  have loc : (compEnvC scope cells sc.heap.objs.size X.env).locals = sc.heap.objs.size := rfl
  rw [← eHc] at w0
  have empty : ∀ b ∈ fp, Hc b = none := fun b hb => (fc b hb).1.1
  obtain ⟨sd, esd⟩ : ∃ z : Shared, z = { sc with heap := pushCells (sc.heap.push { cls := .type "dict", data := .dict #[] }) scope.names } := ⟨_, rfl⟩
  have tnd : tn 0 sd.heap := Tn.keep _ _ _ tnc fun b _ o z => by
    rw [esd]
    exact pushCells_keeps _ _ _ _ (Heap.get?_push_of_some _ z)
  rw [← esd] at Ie ⊢
  generalize compEnvC scope cells sc.heap.objs.size X.env = ce at Ie pg pt pk pv loc ⊢
  -- the iterator's own objects in the block
  have own_ok : ∀ {ρ : L2.St} {G : Hp} {t : Shared}, Inv (X.blk sc Hc scope ce fp) [] ρ G t → (∀ b ∈ fp, G b = none) → ∀ b ∈ fp, FpOk (X.blk sc Hc scope ce fp) [] G b := fun {ρ G t} J hn b hb =>
    ⟨hn b hb, (J.ok.exf b hb).1, J.ok.exfs b hb, .inl hb, fun y c z => (J.ok.exf b hb).2 y c z, fun p hp => (nomatch hp)⟩
  have run : codeAny (model X.prog X.w) X.A (.compLoop (.DictComp kx vx [⟨tg, iter, ifs, 0⟩] scope pos) 0 (.ref it) (.ref sb.heap.objs.size) ce) (compPost (model X.prog X.w) X.A X.xe use Qf (.ref sb.heap.objs.size) sc.heap.objs.size) sd := by
    refine compLoop_anyD (fun m t => ∃ i G, Inv (X.blk sc Hc scope ce fp) [] (wipe σ (own.map (·.2))) G t ∧ tn i t.heap ∧ (∀ b ∈ fp, G b = none) ∧ W i m G) ?_ m0 ⟨0, Hc, Ie, tnd, empty, w0⟩
    rintro m t ⟨i, G, J, tni, none_, wi_⟩
    rcases turn i m G wi_ with ⟨stop, fin⟩ | ⟨go, Nx, less, step⟩
    · refine thnF (Tn.done (X.blk sc Hc scope ce fp) rfl rfl rfl calm i [] t _ G (fun _ _ => False) J (own_ok J none_) tni stop) fun r t2 ⟨er, J2⟩ => ?_
      subst er
      have back : Inv X pins σ G t2 := Ic.call' (ch := fp) J2.os J2.base J2.hok J2.bare fun b hb => ⟨(fc b hb).1.2.2.2.1, (fc b hb).1.2.1, (fc b hb).1.2.2.2.2.1, (fc b hb).1.2.2.2.2.2⟩
      have noC : G sc.heap.objs.size = none := by
        have z : G ce.locals = none := J2.free
        rwa [loc] at z
      obtain ⟨ns, isNs, _⟩ := J2.loc
      have isNs' : t2.heap.Ns ce.locals ns := isNs
      rw [loc] at isNs'
      exact post _ _ t2 ns G back fin isNs' (Ic.fpOk (Nat.le_refl _) noC)
    · refine thnF (Tn.item (X.blk sc Hc scope ce fp) rfl rfl rfl calm i [] t _ G (fun _ _ => False) J (own_ok J none_) tni go) fun r t2 ⟨u, er, h2⟩ => ?_
      subst er
      refine thnF h2 fun _ t3 ⟨x, G3, J3, r3, y3, tn3, none3⟩ => ?_
      have K3 := J3.pinned (own_ok J3 none3) (Tn.obj _ _ tn3)
      refine thnF (pg.run _ t3 _ G3 x u _ K3 r3 (step x G3 y3)) fun _ t4 ⟨ρ4, G4, J4, same4, q4⟩ => ?_
      refine thnF (pt.run _ t4 ρ4 G4 _ J4 q4) fun yes t5 ⟨G5, J5, q5⟩ => ?_
      have next : ∀ {t' : Shared} {G' : Hp}, Inv (X.blk sc Hc scope ce fp) ([] ++ pinsAt fp t3.heap) ρ4 G' t' → Nx G' → ∃ m', m' < m ∧ ∃ i G, Inv (X.blk sc Hc scope ce fp) [] (wipe σ (own.map (·.2))) G t' ∧ tn i t'.heap ∧ (∀ b ∈ fp, G b = none) ∧ W i m' G := fun {t' G'} J' nx => by
        obtain ⟨m', lt, w'⟩ := less G' nx
        have held : ∀ b ∈ fp, ∀ o, t3.heap.get? b = some o → t'.heap.get? b = some o ∧ G' b = none := fun b hb o z =>
          have p := J'.pin (b, o) (List.mem_append_right _ (List.mem_append_right _ (mem_pinsAt hb z)))
          ⟨p.1, p.2.1⟩
        have len : (wipe σ (own.map (·.2))).length = ρ4.length := by rw [← same4, wipe_length]
        refine ⟨m', lt, i + 1, G', (J'.unpinned (pins := [])).weak len (fun j v z => ?_), Tn.keep _ _ _ tn3 fun b hb o z => (held b hb o z).1, fun b hb => ?_, w'⟩
        · rw [← same4] at z
          exact (wipe_some z).1
        · obtain ⟨o, z, _⟩ := Tn.obj _ _ tn3 b hb
          exact (held b hb o z).2
      cases yes with
      | false =>
        simp only [Bool.false_eq_true, if_false] at q5 ⊢
        exact next J5 q5
      | true =>
        simp only [if_true] at q5 ⊢
        refine thnF (pk.run _ t5 ρ4 G5 _ J5 q5) fun ku t6 ⟨yk, G6, J6, r6, q6⟩ => thnF (pv.run _ t6 ρ4 G6 _ J6 q6) fun vu t7 ⟨yv, G7, J7, r7, b, kvs, k, ek, at_b, at_d, few, nx⟩ => ?_
        subst ek
        exact set_tup (X := X.blk sc Hc scope ce fp) (show X.A.units + 1 < cLine by omega) J7 at_d few at_b r6 r7 fun t8 J8 => next J8 nx
  exact codeAny_compStart_dict run (Tn.self X.A 0 _ _ _ tnd run)
/-- as a value -/
theorem pe_dcT {kx vx tg iter : Expr} {ifs : List Expr} {scope : Scope} {own : List (Str × Nat)} {pos : Pos} {wi : TI} {g : TG} {tt : TT} {tk tv : TE} (room : X.A.units + 64 < cLine) (calm : X.calm = true) (nd : X.N.Nodup) (pi : PI X tg iter wi) (ok : BlkOk X.N X.env.scope scope own)
    (pgs : ∀ (s : Shared) (H : Hp) (C : Addr) (cl : List (Str × Addr)) (fp : List Addr), PG (X.blk s H scope (compEnvC scope cl C X.env) fp) tg g) (pts : ∀ (s : Shared) (H : Hp) (C : Addr) (cl : List (Str × Addr)) (fp : List Addr), PTs (X.blk s H scope (compEnvC scope cl C X.env) fp) ifs tt)
    (pks : ∀ (s : Shared) (H : Hp) (C : Addr) (cl : List (Str × Addr)) (fp : List Addr), PE (X.blk s H scope (compEnvC scope cl C X.env) fp) kx tk) (pvs : ∀ (s : Shared) (H : Hp) (C : Addr) (cl : List (Str × Addr)) (fp : List Addr), PE (X.blk s H scope (compEnvC scope cl C X.env) fp) vx tv)
    (fold : ∀ x, foldedSetIterable iter X.env x = pure x := by intro _; rfl) : PE X (.DictComp kx vx [⟨tg, iter, ifs, 0⟩] scope pos) (tDcT wi g tt tk tv (own.map (·.2))) := by
  refine ⟨fun pins s0 σ H0 Q I0 rd => ?_⟩
  rw [arm_eval_DictComp]
  refine dcT_core room calm nd I0 pi ok pgs pts pks pvs fold rd fun D C t ns G J fin isNs ⟨f0, f1, f2, f3, f4, f5⟩ => ⟨ns, isNs, fun h2 sb2 => ⟨.ref D, G, J.turned (t' := t.toks) (fun b o ne z => (sb2.2 b ne).trans z) f0 f1 f3 f4 f5, rfl, fin⟩⟩
/-- name = {..} on one line, the name a local -/
theorem ps_setDcT {i : Nat} {y : Str} {py : Pos} {kx vx tg iter : Expr} {ifs : List Expr} {scope : Scope} {own : List (Str × Nat)} {pos spos : Pos} {wi : TI} {g : TG} {tt : TT} {tk tv : TE} (room : X.A.units + 64 < cLine) (calm : X.calm = true) (nd : X.N.Nodup) (at_y : X.N[i]? = some y) (loc : X.env.scope.names.lookup y = some .local)
    (sw : swapsWith (.DictComp kx vx [⟨tg, iter, ifs, 0⟩] scope pos) (some (.Name y py)) spos.line X.env = pure true) (pi : PI X tg iter wi) (ok : BlkOk X.N X.env.scope scope own)
    (pgs : ∀ (s : Shared) (H : Hp) (C : Addr) (cl : List (Str × Addr)) (fp : List Addr), PG (X.blk s H scope (compEnvC scope cl C X.env) fp) tg g) (pts : ∀ (s : Shared) (H : Hp) (C : Addr) (cl : List (Str × Addr)) (fp : List Addr), PTs (X.blk s H scope (compEnvC scope cl C X.env) fp) ifs tt)
    (pks : ∀ (s : Shared) (H : Hp) (C : Addr) (cl : List (Str × Addr)) (fp : List Addr), PE (X.blk s H scope (compEnvC scope cl C X.env) fp) kx tk) (pvs : ∀ (s : Shared) (H : Hp) (C : Addr) (cl : List (Str × Addr)) (fp : List Addr), PE (X.blk s H scope (compEnvC scope cl C X.env) fp) vx tv)
    (fold : ∀ x, foldedSetIterable iter X.env x = pure x := by intro _; rfl) : PS X (.Assign [.Name y py] (.DictComp kx vx [⟨tg, iter, ifs, 0⟩] scope pos) spos) (tAsg (tDcT wi g tt tk tv (own.map (·.2))) (gName i)) := by
  refine ⟨fun pins s0 σ H0 D I0 rd => ?_⟩
  rw [exec_Assign_Name_used _ _ _ _ sw]
  refine wpAny_bind (wpAny_standAt (wpAny_bind ?_))
  show wpAny _ X.A (do let _ ← comprehension (.DictComp kx vx [⟨tg, iter, ifs, 0⟩] scope pos) scope X.env (firstIterPos [⟨tg, iter, ifs, 0⟩] pos) newDict false (eval iter X.env) (some (assign (.Name y py) X.env))) _ _ s0
  have rd' : tDcT wi g tt tk tv (own.map (·.2)) σ H0 (fun x G => gName i x σ G D.nx) := rd
  refine wpAny_bind (thn (dcT_core (Qf := fun _ t => SP X pins D .next t) room calm nd I0 pi ok pgs pts pks pvs fold rd' fun L C t ns G J fin isNs fo => ?_) fun _ _ z => wpAny_pure (wpAny_pure z))
  obtain ⟨f0, f1, f2, f3, f4, f5⟩ := fo
  show wpAny _ _ (assign (.Name y py) X.env (.ref L)) _ _ _
  refine wpAny_assign_Name (store_ok2 (v := V.ref L) J nd at_y (.inl loc) rfl (fun t2 J2 ⟨c, sb, hc⟩ => ?_) (.inr loc))
  have ne : C ≠ c := hc.elim (fun z => z ▸ f1) fun z e => f4 y c z e.symm
  exact ⟨ns, isNs.sameBut sb ne, fun h3 sb3 => ⟨_, G, J2.turned (t' := t2.toks) (fun b o hb e => (sb3.2 b hb).trans e) f0 f1 f3 f4 f5, fin⟩⟩
theorem sw_dict {kx vx : Expr} {gs : List Comprehension} {scope : Scope} {pos py : Pos} {y : Str} {l : Nat} {env : Env} (fn : env.scope.kind = .function) (loc : env.scope.names.lookup y = some .local) (row : (py.line == pos.line) = true)
    (other : (scope.names.any fun (n, k) => n == y && (k == .local || k == .cell)) = false) : swapsWith (.DictComp kx vx gs scope pos) (some (.Name y py)) l env = pure true := by
  have k1 : env.kindOf y = some .local := loc
  have k2 : env.blockKind = .function := by
    unfold Env.blockKind
    rw [fn]
    rfl
  unfold swapsWith
  simp only [k1, k2, other, Expr.pos, row]
  rfl
end
end DcT

/-! sorted(d), the keys of d tuples of ints, of any number. -/
namespace SortR
open PySem PySem.Spec PyProof.Rows L2 PySem.W
theorem enc_alikeT (p q : Addr × List Int) : alike (PyData.tuple (p.2.map .int)) (PyData.tuple (q.2.map .int)) = true := by
  simp only [alike]
  exact alike_ints p.2 q.2
theorem le_tuples : dataLe false (fun b : Addr × List Int => PyData.tuple (b.2.map .int)) = rowLe := by
  have e : dataLe false (fun b : Addr × List Int => PyData.tuple (b.2.map .int)) = dataLe false (fun b : Addr × List Int => PyData.list (b.2.map .int)) := by
    funext p q
    simp only [dataLe_eq, dataLt_tuple, dataLt_list]
  rw [e]
  exact dataLe_rows (fun b : Addr × List Int => b.2)
/-- the keys' tuples, in the dict's sequence -/
theorem key_rows {H : Hp} : ∀ {kvs : List (List L2.Key × V)} {ks : List (List L2.Key × Addr × Value)} {bs : List (List Int)},
    Paired (fun (p : List L2.Key × V) (q : List L2.Key × Addr × Value) => p.1 = q.1 ∧ H q.2.1 = some (.tup (p.1.map kV)) ∧ RelV p.2 q.2.2) kvs ks → kvs.map (·.1) = bs.map (fun ns => ns.map Sum.inl) →
    ∃ as : List (Addr × List Int), as.map (·.1) = ks.map (·.2.1) ∧ as.map (·.2) = bs ∧ ∀ b ∈ as, H b.1 = some (.tup (b.2.map V.int))
  | _, _, [], .nil, _ => ⟨[], rfl, rfl, fun _ m => nomatch m⟩
  | _, _, n :: bs, .cons (a := p) (b := q) h t, e => by
    rw [List.map_cons, List.map_cons] at e
    obtain ⟨e1, e2⟩ := List.cons.inj e
    obtain ⟨as, f1, f2, f3⟩ := key_rows t e2
    refine ⟨(q.2.1, n) :: as, by rw [List.map_cons, List.map_cons, f1], by rw [List.map_cons, f2], fun b m => ?_⟩
    rcases List.mem_cons.mp m with z | z
    · rw [z]
      have g := h.2.1
      rw [e1, List.map_map] at g
      exact g
    · exact f3 b z
  | _, _, [], .cons _ _, e => by cases e
  | _, _, _ :: _, .nil, e => by cases e
section
variable {X : Cx}
theorem call_sortedDT (hu : X.A.units + 64 < cLine) (calm : X.calm = true) : CallR X (.builtin "sorted") (fun xs H Q => ∃ (d : Addr) (kvs : List (List L2.Key × V)) (bs : List (List Int)), xs = [V.ref d] ∧ H d = some (.dT kvs) ∧ kvs.map (·.1) = bs.map (fun ns => ns.map Sum.inl) ∧ (∀ k ∈ bs, k ≠ []) ∧
    ∀ as : List (Addr × List Int), as.map (·.2) = bs → (∀ b ∈ as, H b.1 = some (.tup (b.2.map V.int))) → ∀ p, H p = none → Q (.ref p) (upd H p (.lst ((as.mergeSort rowLe).map fun b => V.ref b.1)))) := by
  intro pins s σ H xs us Q I r h
  obtain ⟨d, kvs, bs, rfl, hd, hk, hne, q⟩ := h
  obtain ⟨u, rfl, ru⟩ := vals1 r
  obtain rfl : u = Value.ref d := ru
  obtain ⟨z, hs, ks, pr, o, es, ep, ho, hx, hdt, he, hn⟩ := (show ObjOk X.prog X.w H s.heap d (.dT kvs) from I.hok d _ hd)
  obtain ⟨as, a1, a2, a3⟩ := key_rows pr hk
  have l0 : es.size = ks.length := size_of_entries he
  have l1 : kvs.length = ks.length := Paired.length pr
  have l2 : as.length = ks.length := by rw [← List.length_map (f := (·.1)), a1, List.length_map]
  have fits : ks.length ≤ sizeLine := l1 ▸ z
  refine Calls.call_function_entry PyProof.Rows.kind_sorted PyProof.Rows.plain_sorted PyProof.Rows.entry_sorted (PyProof.Rows.args_sorted1 _) ?_
  unfold Builtin.«sorted»
  refine wpAny_bind (m := checkCount "sorted" 1 1 _) (wpAny_pure (wpAny_bind (kdu_collect (A := X.A.in1) (kdl_raw hs hx hdt) (I.ok.hd calm) ho (l0 ▸ fits) fun h1 tk acc keep it => ?_)))
  have ea : acc.toList = as.map fun b => Value.ref b.1 := by
    have e1 : acc.toList = ks.map fun x => Value.ref x.2.1 := by
      have len : acc.toList.length = ks.length := by rw [Array.length_toList, it.1, l0]
      refine List.ext_getElem (by rw [List.length_map, len]) fun j j1 j2 => ?_
      obtain ⟨en, hen, hv⟩ := it.2 j acc.toList[j] (by rw [← Array.getElem?_toList, List.getElem?_eq_getElem j1])
      have at_j := entry_at he j
      rw [hen, List.getElem?_eq_getElem (len ▸ j1)] at at_j
      have e2 : en = entryOfKey (tupleKind (mixKind X.prog X.w)) (ks[j]'(len ▸ j1)) := Option.some.inj at_j
      rw [hv, e2, List.getElem_map]
      rfl
    rw [e1]
    have e3 := congrArg (List.map Value.ref) a1
    rw [List.map_map, List.map_map] at e3
    exact e3.symm
  have len : acc.toList.length = as.length := by rw [ea, List.length_map]
  have I1 : Inv X pins σ H { s with heap := h1, toks := tk } := I.kept keep
  refine wpAny_bind (wpAny_newList ?_ (by rw [len, l2]; exact fits))
  have at_p : (h1.push (seqObj "list" acc.toList.toArray 0)).get? h1.objs.size = some (seqObj "list" acc.toList.toArray 0) := Heap.get?_push_size _ rfl
  have old : ∀ b u, h1.get? b = some u → b ≠ h1.objs.size ∧ (h1.push (seqObj "list" acc.toList.toArray 0)).get? b = some u := fun b u e => ⟨Nat.ne_of_lt (Heap.lt_size e), Heap.get?_push_of_some _ e⟩
  have each : EachIs (fun v (b : Addr × List Int) => v = Value.ref b.1 ∧ True) acc.toList as := by
    have vr : Vals (as.map fun b => V.ref b.1) acc.toList := by
      rw [ea]
      clear ea a1 a2 a3 l2 len q it
      induction as with
      | nil => exact .nil
      | cons b as ih => exact .cons rfl ih
    exact vals_each (h := s.heap) (K := X.K) (H := H) (P := fun _ => True) vr fun _ _ => trivial
  obtain ⟨hS, ehS⟩ : ∃ z, z = sortingHeap (h1.push (seqObj "list" acc.toList.toArray 0)) h1.objs.size acc.toList := ⟨_, rfl⟩
  have reads : EachIs (fun v (b : Addr × List Int) => ∃ rs, Reads hS v (PyData.tuple (b.2.map .int)) rs) acc.toList as := by
    have each2 : EachIs (fun v (b : Addr × List Int) => v = Value.ref b.1 ∧ H b.1 = some (.tup (b.2.map V.int))) acc.toList as := by
      have vr : Vals (as.map fun b => V.ref b.1) acc.toList := each_back each
      exact vals_each (h := s.heap) (K := X.K) (H := H) vr a3
    refine each_mono each2 fun v b ⟨ev, hb⟩ => ?_
    rw [ev]
    obtain ⟨rs, rr⟩ := Dp.reads I1 (PyData.tuple (b.2.map .int)) (.ref b.1) (.ref b.1) (.tup (SqT.of hb) (rows_dp b.2)) rfl
    refine ⟨rs, PyProof.Rows.Reads.keeps (fun c u e => ?_) rr⟩
    rw [ehS]
    obtain ⟨n1, n2⟩ := old c u e
    exact sortingHeap_old n1 n2
  have alikeAll_ : AllAlike (as.map fun b => PyData.tuple (b.2.map .int)) := AllAlike.of enc_alikeT
  have sortable : Sortable (as.map fun b => PyData.tuple (b.2.map .int)) := .inl fun dd hm => by
    obtain ⟨b, hb, rfl⟩ := List.mem_map.mp hm
    have mem : b.2 ∈ bs := a2 ▸ List.mem_map.mpr ⟨b, hb, rfl⟩
    cases e : b.2 with
    | nil => exact absurd e (hne _ mem)
    | cons x l => exact ⟨_, _, rfl⟩
  have shallow : ∀ dd ∈ as.map (fun b => PyData.tuple (b.2.map .int)), dd.depth = 1 := fun dd hm => by
    obtain ⟨b, _, rfl⟩ := List.mem_map.mp hm
    simp only [PyData.depth, depth_ints]
  show wpAny _ _ _ _ _ { s with heap := h1.push (seqObj "list" acc.toList.toArray 0), toks := tk }
  have sorts : ∀ Ar : Around, Ar.units ≤ X.A.units + 8 → SortsAt X.prog X.w Ar { s with heap := hS, toks := tk } (dataKind hS (as.map fun b => PyData.tuple (b.2.map .int))) acc.toList := fun Ar hA =>
    SortsAt.data (s := { s with heap := hS, toks := tk }) (each_map (R := fun v dd => ∃ rs, Reads hS v dd rs) (fun b : Addr × List Int => PyData.tuple (b.2.map .int)) reads) alikeAll_ sortable fun dd hm => by rw [shallow dd hm]; omega
  rw [ehS] at sorts reads
  have each3 := sortVals_data (R := fun v (b : Addr × List Int) => v = Value.ref b.1 ∧ True) (enc := fun b : Addr × List Int => PyData.tuple (b.2.map .int)) false each reads alikeAll_
  rw [le_tuples] at each3
  have back := each_back each3
  have short : ((as.mergeSort rowLe).map fun b => V.ref b.1).length ≤ sizeLine := by
    rw [List.length_map, List.length_mergeSort, l2]
    exact fits
  refine wpAny_bind (wpAny_holding (wpAny_call_entry PyProof.Rows.slot_list_sort ⟨_, at_p, rfl⟩ PyProof.Rows.entry_list_sort
    (list_sort_vals (s := { s with heap := h1.push (seqObj "list" acc.toList.toArray 0), toks := tk }) at_p (sorts _ (by show X.A.units + 1 + 1 ≤ X.A.units + 8; omega)) (by rw [len, l2]; exact fits) ⟨_, rfl, ?_⟩) (PyProof.Rows.args_list_sort _)))
  obtain ⟨n2, at2⟩ := PyProof.Rows.sortedHeap_at (vs := acc.toList) (out := (sortVals (dataKind (sortingHeap (h1.push (seqObj "list" acc.toList.toArray 0)) h1.objs.size acc.toList) (as.map fun b => PyData.tuple (b.2.map .int))) false acc.toList acc.toList).toArray) at_p
  refine wpAny_pure ⟨_, rfl, .ref h1.objs.size, upd H h1.objs.size (.lst ((as.mergeSort rowLe).map fun b => V.ref b.1)), I1.laid (t' := tk) (fun b u e => ?_) (Nat.le_refl _) ⟨short, _, n2, back, at2⟩, rfl, q as a2 a3 _ (I1.hok.fresh (Nat.le_refl _))⟩
  obtain ⟨n1, g⟩ := old b u e
  rw [PyProof.Rows.sortedHeap_old n1 (Heap.lt_size g)]
  exact g
end
end SortR

/-! Comprehensions with a test, and dict comprehensions, by the value of each turn. -/
namespace LcM
open PySem PySem.Spec PyProof.Rows L2
/-- what is kept -/
def kept (p : Nat → Bool) (F : Nat → V) (n : Nat) : List V := ((List.range n).filter p).map F
theorem kept_yes {p : Nat → Bool} {F : Nat → V} {n : Nat} (h : p n = true) : kept p F (n + 1) = kept p F n ++ [F n] := by
  unfold kept
  rw [List.range_succ, List.filter_append, List.map_append, List.filter_cons_of_pos h]
  rfl
theorem kept_no {p : Nat → Bool} {F : Nat → V} {n : Nat} (h : p n = false) : kept p F (n + 1) = kept p F n := by
  unfold kept
  rw [List.range_succ, List.filter_append, List.map_append, List.filter_cons_of_neg (by rw [h]; exact Bool.false_ne_true)]
  exact List.append_nil _
theorem kept_le (p : Nat → Bool) (F : Nat → V) (n : Nat) : (kept p F n).length ≤ n := by
  unfold kept
  rw [List.length_map]
  exact Nat.le_trans (List.length_filter_le _ _) (Nat.le_of_eq List.length_range)
section
variable {K : PySem.W.Frag} {a : Addr} {xs : List V} {g : TG} {tt : TT} {te tk tv : TE} {vs : List Nat} {σ : L2.St} {H0 : Hp} {D : Addr} {Qd : Hp → Prop}
theorem lc_listT (p : Nat → Bool) (F : Nat → V) (hD : H0 D = none) (hx : SqL K H0 a xs) (small : xs.length ≤ 1000000)
    (turn : ∀ (i : Nat) (x : V) (H : Hp) (Ry : V → Hp → Prop) (Rn : Hp → Prop), xs[i]? = some x → Grows H0 H → (p i = true → ∀ H4, Grows H H4 → Ry (F i) H4) → (p i = false → ∀ H4, Grows H H4 → Rn H4) →
      g x (wipe σ vs) H fun σ2 H2 => wipe σ2 vs = wipe σ vs ∧ tt σ2 H2 fun t H3 => if t = true then te σ2 H3 Ry else Rn H3)
    (done : ∀ H, Grows H0 H → H D = some (.lst (kept p F xs.length)) → Qd H) :
    ∃ W : Nat → Nat → Hp → Prop, (∃ m, W 0 m (upd H0 D (.lst []))) ∧ ∀ i m H, W i m H →
      ((Itl K a).stop i H ∧ Qd H) ∨ ((Itl K a).go i H ∧ ∃ Nx : Hp → Prop, (∀ H', Nx H' → ∃ m', m' < m ∧ W (i + 1) m' H') ∧ ∀ x H', (Itl K a).yld i H x H' → g x (wipe σ vs) H' fun σ2 H2 => wipe σ2 vs = wipe σ vs ∧ tt σ2 H2 fun b H3 =>
        if b = true then te σ2 H3 fun y H4 => ∃ acc, H4 D = some (.lst acc) ∧ acc.length < sizeLine ∧ Nx (upd H4 D (.lst (acc ++ [y]))) else Nx H3) := by
  refine lc_list (fun i H => Grows H0 H ∧ H D = some (.lst (kept p F i))) ⟨Grows.new hD, upd_same⟩ (fun i H _ m => m.1.seq hx) (fun i x H ex m => ?_) fun H m => done H m.1 m.2
  have il := Nat.lt_of_lt_of_le (List.getElem?_eq_some_iff.mp ex).1 small
  refine turn i x H _ _ ex m.1 (fun hp H4 s => ⟨_, s _ _ m.2, ?_, fun b o e => ?_, ?_⟩) fun hp H4 s => ⟨m.1.trans s, ?_⟩
  · exact Nat.lt_of_le_of_lt (kept_le p F i) (Nat.lt_trans il (by decide))
  · rw [upd_ne (ne_of_none e hD)]
    exact s _ _ (m.1 _ _ e)
  · rw [upd_same, kept_yes hp]
  · rw [kept_no hp]
    exact s _ _ m.2
/-- a dict's entries, laid one after another -/
def laid {κ : Type} [DecidableEq κ] (p : Nat → Bool) (G : Nat → κ) (F : Nat → V) : Nat → List (κ × V)
  | 0 => []
  | n + 1 => if p n = true then putK (laid p G F n) (G n) (F n) else laid p G F n
theorem laid_le {κ : Type} [DecidableEq κ] (p : Nat → Bool) (G : Nat → κ) (F : Nat → V) : ∀ n, (laid p G F n).length ≤ n
  | 0 => Nat.le_refl _
  | n + 1 => by
    have ih := laid_le p G F n
    unfold laid
    by_cases h : p n = true
    · rw [if_pos h]
      exact Nat.le_trans (length_putK _ _ _) (Nat.succ_le_succ ih)
    · rw [if_neg h]
      exact Nat.le_succ_of_le ih
/-- over enumerate, keys ints or texts, no test -/
theorem dc_enumM (G : Nat → L2.Key) (F : Nat → V) (hD : H0 D = none) (hx : SqL K H0 a xs) (small : xs.length ≤ 1000000)
    (turn : ∀ (i : Nat) (x : V) (T : Addr) (H : Hp) (R : V → Hp → V → Hp → Prop), xs[i]? = some x → Grows H0 H → H T = none → (∀ H4 H5, Grows (upd H T (.tup [.int (i : Nat), x])) H4 → Grows H4 H5 → R (kV (G i)) H4 (F i) H5) →
      g (.ref T) (wipe σ vs) (upd H T (.tup [.int (i : Nat), x])) fun σ2 H2 => wipe σ2 vs = wipe σ vs ∧ tk σ2 H2 fun y H4 => tv σ2 H4 fun z H5 => R y H4 z H5)
    (done : ∀ H, Grows H0 H → H D = some (.dK (laid (fun _ => true) G F xs.length)) → Qd H) :
    ∃ W : Nat → Nat → Hp → Prop, (∃ m, W 0 m (upd H0 D (.dK []))) ∧ ∀ i m H, W i m H →
      ((Ite K a).stop i H ∧ Qd H) ∨ ((Ite K a).go i H ∧ ∃ Nx : Hp → Prop, (∀ H', Nx H' → ∃ m', m' < m ∧ W (i + 1) m' H') ∧ ∀ x H', (Ite K a).yld i H x H' → g x (wipe σ vs) H' fun σ2 H2 => wipe σ2 vs = wipe σ vs ∧ tYes σ2 H2 fun b H3 =>
        if b = true then tk σ2 H3 fun y H4 => tv σ2 H4 fun z H5 => ∃ kvs k, y = kV k ∧ H5 D = some (.dK kvs) ∧ kvs.length < sizeLine ∧ Nx (upd H5 D (.dK (putK kvs k z))) else Nx H3) := by
  let inv : Nat → Hp → Prop := fun i H => Grows H0 H ∧ H D = some (.dK (laid (fun _ => true) G F i))
  refine ⟨fun i m H => m = xs.length - i ∧ i ≤ xs.length ∧ inv i H, ⟨_, rfl, Nat.zero_le _, Grows.new hD, upd_same⟩, ?_⟩
  rintro i m H ⟨rfl, hi, pv⟩
  rcases Nat.lt_or_ge i xs.length with lt | ge
  · have ex : xs[i]? = some xs[i] := List.getElem?_eq_getElem lt
    refine .inr ⟨⟨xs, _, pv.1.seq hx, ex⟩, inv (i + 1), fun H' p' => ⟨xs.length - (i + 1), by omega, rfl, lt, p'⟩, fun v H' y => ?_⟩
    obtain ⟨T, x, rfl, hT, rfl, f1⟩ := y
    have e0 : (fun (σ2 : L2.St) (H2 : Hp) => wipe σ2 vs = wipe σ vs ∧ tYes σ2 H2 fun b H3 => if b = true then tk σ2 H3 fun y H4 => tv σ2 H4 fun z H5 => ∃ kvs k, y = kV k ∧ H5 D = some (.dK kvs) ∧ kvs.length < sizeLine ∧ inv (i + 1) (upd H5 D (.dK (putK kvs k z))) else inv (i + 1) H3) =
        fun σ2 H2 => wipe σ2 vs = wipe σ vs ∧ tk σ2 H2 fun y H4 => tv σ2 H4 fun z H5 => ∃ kvs k, y = kV k ∧ H5 D = some (.dK kvs) ∧ kvs.length < sizeLine ∧ inv (i + 1) (upd H5 D (.dK (putK kvs k z))) := by
      funext σ2 H2
      unfold tYes
      dsimp only
      rw [if_pos rfl]
    rw [e0]
    refine turn i x T H (fun y _ z H5 => ∃ kvs k, y = kV k ∧ H5 D = some (.dK kvs) ∧ kvs.length < sizeLine ∧ inv (i + 1) (upd H5 D (.dK (putK kvs k z)))) (f1 xs (pv.1.seq hx)) pv.1 hT fun H4 H5 s4 s5 => ⟨_, G i, rfl, s5 _ _ (s4 _ _ (Grows.new hT _ _ pv.2)), ?_, fun b o e => ?_, ?_⟩
    · exact Nat.lt_of_le_of_lt (laid_le _ G F i) (Nat.lt_of_lt_of_le lt (Nat.le_trans small (by decide)))
    · rw [upd_ne (ne_of_none e hD)]
      exact s5 _ _ (s4 _ _ (Grows.new hT _ _ (pv.1 _ _ e)))
    · rw [upd_same]
      rfl
  · have e : i = xs.length := by omega
    subst e
    exact .inl ⟨⟨xs, pv.1.seq hx, Nat.le_refl _⟩, done H pv.1 pv.2⟩
/-- over a list, the keys tuples, with a test -/
theorem dc_listTT (p : Nat → Bool) (G : Nat → List L2.Key) (F : Nat → V) (hD : H0 D = none) (hx : SqL K H0 a xs) (small : xs.length ≤ 1000000)
    (turn : ∀ (i : Nat) (x : V) (H : Hp) (R : V → V → Hp → Prop) (Rn : Hp → Prop), xs[i]? = some x → Grows H0 H → (p i = true → ∀ b H5, Grows H H5 → H5 b = some (.tup ((G i).map kV)) → R (.ref b) (F i) H5) → (p i = false → ∀ H4, Grows H H4 → Rn H4) →
      g x (wipe σ vs) H fun σ2 H2 => wipe σ2 vs = wipe σ vs ∧ tt σ2 H2 fun t H3 => if t = true then tk σ2 H3 fun y H4 => tv σ2 H4 fun z H5 => R y z H5 else Rn H3)
    (done : ∀ H, Grows H0 H → H D = some (.dT (laid p G F xs.length)) → Qd H) :
    ∃ W : Nat → Nat → Hp → Prop, (∃ m, W 0 m (upd H0 D (.dT []))) ∧ ∀ i m H, W i m H →
      ((Itl K a).stop i H ∧ Qd H) ∨ ((Itl K a).go i H ∧ ∃ Nx : Hp → Prop, (∀ H', Nx H' → ∃ m', m' < m ∧ W (i + 1) m' H') ∧ ∀ x H', (Itl K a).yld i H x H' → g x (wipe σ vs) H' fun σ2 H2 => wipe σ2 vs = wipe σ vs ∧ tt σ2 H2 fun t H3 =>
        if t = true then tk σ2 H3 fun y H4 => tv σ2 H4 fun z H5 => ∃ b kvs k, y = .ref b ∧ H5 b = some (.tup (k.map kV)) ∧ H5 D = some (.dT kvs) ∧ kvs.length < sizeLine ∧ Nx (upd H5 D (.dT (putK kvs k z))) else Nx H3) := by
  let inv : Nat → Hp → Prop := fun i H => Grows H0 H ∧ H D = some (.dT (laid p G F i))
  refine ⟨fun i m H => m = xs.length - i ∧ i ≤ xs.length ∧ inv i H, ⟨_, rfl, Nat.zero_le _, Grows.new hD, upd_same⟩, ?_⟩
  rintro i m H ⟨rfl, hi, pv⟩
  rcases Nat.lt_or_ge i xs.length with lt | ge
  · have ex : xs[i]? = some xs[i] := List.getElem?_eq_getElem lt
    refine .inr ⟨⟨xs, _, pv.1.seq hx, ex⟩, inv (i + 1), fun H' p' => ⟨xs.length - (i + 1), by omega, rfl, lt, p'⟩, fun v H' y => ?_⟩
    obtain ⟨rfl, y⟩ := y
    refine turn i v _ (fun y z H5 => ∃ b kvs k, y = .ref b ∧ H5 b = some (.tup (k.map kV)) ∧ H5 D = some (.dT kvs) ∧ kvs.length < sizeLine ∧ inv (i + 1) (upd H5 D (.dT (putK kvs k z)))) (inv (i + 1)) (y xs (pv.1.seq hx)) pv.1 (fun hp b H5 s5 hb => ⟨b, _, G i, rfl, hb, s5 _ _ pv.2, ?_, fun c o e => ?_, ?_⟩) fun hp H4 s4 => ⟨pv.1.trans s4, ?_⟩
    · exact Nat.lt_of_le_of_lt (laid_le _ G F i) (Nat.lt_of_lt_of_le lt (Nat.le_trans small (by decide)))
    · rw [upd_ne (ne_of_none e hD)]
      exact s5 _ _ (pv.1 _ _ e)
    · rw [upd_same]
      show _ = some (HO.dT (if p i = true then _ else _))
      rw [if_pos hp]
    · rw [s4 _ _ pv.2]
      show _ = some (HO.dT (if p i = true then _ else _))
      rw [if_neg (by rw [hp]; exact Bool.false_ne_true)]
  · have e : i = xs.length := by omega
    subst e
    exact .inl ⟨⟨xs, pv.1.seq hx, Nat.le_refl _⟩, done H pv.1 pv.2⟩
end
end LcM

/-! A comprehension that makes new lists of ints. -/
namespace LcM
open PySem PySem.Spec PyProof.Rows L2
/-- new lists of ints -/
structure Nw (H0 H : Hp) (cs : List (Addr × List Int)) : Prop where
  lists : ∀ c ∈ cs, H c.1 = some (.lst (c.2.map V.int))
  new : ∀ c ∈ cs, H0 c.1 = none
  nodup : (cs.map (·.1)).Nodup
theorem Nw.keep {H0 H H' : Hp} {cs : List (Addr × List Int)} (n : Nw H0 H cs) (s : Grows H H') : Nw H0 H' cs := ⟨fun c m => s _ _ (n.lists c m), n.new, n.nodup⟩
section
variable {K : PySem.W.Frag} {a : Addr} {xs : List V} {g : TG} {te : TE} {vs : List Nat} {σ : L2.St} {H0 : Hp} {D : Addr} {Qd : Hp → Prop}
theorem lc_listR (R : Nat → List Int) (hD : H0 D = none) (hx : SqL K H0 a xs) (small : xs.length ≤ 1000000)
    (turn : ∀ (i : Nat) (x : V) (H : Hp) (Rk : V → Hp → Prop), xs[i]? = some x → Grows H0 H → (∀ q H4, Grows H H4 → H q = none → H4 q = some (.lst ((R i).map V.int)) → Rk (.ref q) H4) → g x (wipe σ vs) H fun σ2 H2 => wipe σ2 vs = wipe σ vs ∧ te σ2 H2 Rk)
    (done : ∀ H cs, Grows H0 H → cs.map (·.2) = (List.range xs.length).map R → Nw H0 H cs → (∀ c ∈ cs, c.1 ≠ D) → H D = some (.lst (cs.map fun c => V.ref c.1)) → Qd H) :
    ∃ W : Nat → Nat → Hp → Prop, (∃ m, W 0 m (upd H0 D (.lst []))) ∧ ∀ i m H, W i m H →
      ((Itl K a).stop i H ∧ Qd H) ∨ ((Itl K a).go i H ∧ ∃ Nx : Hp → Prop, (∀ H', Nx H' → ∃ m', m' < m ∧ W (i + 1) m' H') ∧ ∀ x H', (Itl K a).yld i H x H' → g x (wipe σ vs) H' fun σ2 H2 => wipe σ2 vs = wipe σ vs ∧ tYes σ2 H2 fun b H3 =>
        if b = true then te σ2 H3 fun y H4 => ∃ acc, H4 D = some (.lst acc) ∧ acc.length < sizeLine ∧ Nx (upd H4 D (.lst (acc ++ [y]))) else Nx H3) := by
  refine lc_list (fun i H => ∃ cs : List (Addr × List Int), Grows H0 H ∧ cs.map (·.2) = (List.range i).map R ∧ Nw H0 H cs ∧ (∀ c ∈ cs, c.1 ≠ D) ∧ H D = some (.lst (cs.map fun c => V.ref c.1)))
    ⟨[], Grows.new hD, rfl, ⟨(fun _ m => nomatch m), (fun _ m => nomatch m), List.Pairwise.nil⟩, (fun _ m => nomatch m), upd_same⟩ (fun i H _ ⟨_, s, _⟩ => s.seq hx) (fun i x H ex ⟨cs, s, e, n, apart, top⟩ => ?_) fun H ⟨cs, s, e, n, apart, top⟩ => done H cs s e n apart top
  rw [yes_eq (A := fun σ2 => wipe σ2 vs = wipe σ vs)]
  refine turn i x H _ ex s fun q H4 s4 hq at_q => ?_
  have il := Nat.lt_of_lt_of_le (List.getElem?_eq_some_iff.mp ex).1 small
  have len : cs.length = i := by
    have := congrArg List.length e
    rw [List.length_map, List.length_map, List.length_range] at this
    exact this
  have qD : q ≠ D := fun z => by
    rw [z, top] at hq
    cases hq
  have all : Grows H0 (upd H4 D (.lst (cs.map (fun c => V.ref c.1) ++ [.ref q]))) := fun b o eb => by
    rw [upd_ne (ne_of_none eb hD)]
    exact s4 _ _ (s _ _ eb)
  have q0 : H0 q = none := by
    rcases Option.eq_none_or_eq_some (H0 q) with z | ⟨o, z⟩
    · exact z
    · have := s _ _ z
      rw [hq] at this
      cases this
  refine ⟨_, s4 _ _ top, ?_, cs ++ [(q, R i)], all, ?_, ⟨?_, ?_, ?_⟩, ?_, ?_⟩
  · rw [List.length_map, len]
    exact Nat.lt_trans il (by decide)
  · rw [List.map_append, e, List.range_succ, List.map_append]
    rfl
  · intro c m
    rcases List.mem_append.mp m with m | m
    · rw [upd_ne (apart c m)]
      exact s4 _ _ (n.lists c m)
    · rw [List.mem_singleton.mp m, upd_ne qD]
      exact at_q
  · intro c m
    rcases List.mem_append.mp m with m | m
    · exact n.new c m
    · rw [List.mem_singleton.mp m]
      exact q0
  · rw [List.map_append, List.nodup_append]
    refine ⟨n.nodup, List.nodup_cons.mpr ⟨(fun z => nomatch z), List.Pairwise.nil⟩, fun b mb d md => ?_⟩
    obtain ⟨c, mc, rfl⟩ := List.mem_map.mp mb
    have ed : d = q := by simpa using md
    rw [ed]
    intro z
    have := n.lists c mc
    rw [z, hq] at this
    cases this
  · intro c m
    rcases List.mem_append.mp m with m | m
    · exact apart c m
    · rw [List.mem_singleton.mp m]
      exact qD
  · rw [upd_same, List.map_append]
    rfl
end
end LcM

/-! Rules with their readings named by K, for use within comprehensions. -/
namespace LcM
open PySem PySem.Spec PyProof.Rows L2
def rLenS (K : PySem.W.Frag) : List V → Hp → VK → Prop := fun xs H Q => ∃ p ys, xs = [.ref p] ∧ (SqL K H p ys ∨ SqT K H p ys) ∧ Q (.int ys.length) H
def rLst (K : PySem.W.Frag) : List V → Hp → VK → Prop := fun xs H Q => ∃ p ys, xs = [.ref p] ∧ (SqL K H p ys ∨ SqT K H p ys) ∧ ∀ l, H l = none → Q (.ref l) (upd H l (.lst ys))
def rTup (K : PySem.W.Frag) : List V → Hp → VK → Prop := fun xs H Q => ∃ p ys, xs = [.ref p] ∧ SqL K H p ys ∧ ∀ t, H t = none → Q (.ref t) (upd H t (.tup ys))
section
variable {X : Cx}
theorem call_lenK : CallR X (.builtin "len") (rLenS X.K) := fun pins s σ H xs us Q I r ⟨p, ys, e, h, q⟩ => call_len_seq pins s σ H xs us Q I r ⟨p, ys, e, h, q⟩
theorem call_lstK : CallR X (.type "list") (rLst X.K) := fun pins s σ H xs us Q I r ⟨p, ys, e, h, q⟩ => call_list_of pins s σ H xs us Q I r ⟨p, ys, e, h, q⟩
theorem call_tupK : CallR X (.type "tuple") (rTup X.K) := fun pins s σ H xs us Q I r ⟨p, ys, e, h, q⟩ => call_tuple_of pins s σ H xs us Q I r ⟨p, ys, e, .inl ⟨h, q⟩⟩
end
end LcM

/-! What cut gives, on lists of lists of ints. -/
namespace LcM
open PySem PySem.Spec PyProof.Rows L2 SortR
/-- the last place of x among the first n -/
def plcN (ns : List Int) (x : Int) : Nat → Option Nat
  | 0 => none
  | n + 1 => if ns.getD n 0 = x then some n else plcN ns x n
def plc (ns : List Int) (x : Int) : Option Nat := plcN ns x ns.length
theorem valV_laid (ns : List Int) (x : Int) : ∀ n, valV (laid (fun _ => true) (fun i => (Sum.inl (ns.getD i 0) : L2.Key)) (fun i => V.int (i : Nat)) n) (Sum.inl x) = (plcN ns x n).map fun j => V.int (j : Nat)
  | 0 => rfl
  | n + 1 => by
    have ih := valV_laid ns x n
    unfold laid plcN
    rw [if_pos rfl, valV_put]
    by_cases e : ns.getD n 0 = x
    · rw [if_pos e, if_pos (by rw [e])]
      rfl
    · rw [if_neg e, if_neg (fun z => e (Sum.inl.inj z).symm)]
      exact ih
/-- a group's persons who stay, by their places -/
def meet (ns r : List Int) : List Int := ((List.range r.length).filter fun i => (plc ns (r.getD i 0)).isSome).map fun i => (((plc ns (r.getD i 0)).getD 0 : Nat) : Int)
def two (m : List Int) : Bool := decide (2 ≤ (m.length : Int))
/-- unlike rows, in the sequence in which they come first -/
def firsts (p : Nat → Bool) (M : Nat → List Int) : Nat → List (List Int)
  | 0 => []
  | n + 1 => if p n = true then (if M n ∈ firsts p M n then firsts p M n else firsts p M n ++ [M n]) else firsts p M n
theorem put_keys {κ : Type} [DecidableEq κ] (kvs : List (κ × V)) (k : κ) (v : V) : (putK kvs k v).map (·.1) = if k ∈ kvs.map (·.1) then kvs.map (·.1) else kvs.map (·.1) ++ [k] := by
  unfold putK
  by_cases h : (kvs.any fun kv => decide (kv.1 = k)) = true
  · rw [if_pos h]
    obtain ⟨kv, hm, e⟩ := List.any_eq_true.mp h
    rw [if_pos (List.mem_map.mpr ⟨kv, hm, of_decide_eq_true e⟩), List.map_map]
    refine List.map_congr_left fun q _ => ?_
    show (if q.1 = k then (q.1, v) else q).1 = q.1
    split <;> rfl
  · rw [if_neg h, if_neg fun z => ?_, List.map_append]
    · rfl
    · obtain ⟨kv, hm, e⟩ := List.mem_map.mp z
      exact h (List.any_eq_true.mpr ⟨kv, hm, decide_eq_true e⟩)
theorem inl_inj {m n : List Int} (h : (m.map Sum.inl : List L2.Key) = n.map Sum.inl) : m = n := by
  induction m generalizing n with
  | nil =>
    cases n with
    | nil => rfl
    | cons _ _ => cases h
  | cons x m ih =>
    cases n with
    | nil => cases h
    | cons y n =>
      rw [List.map_cons, List.map_cons] at h
      obtain ⟨h1, h2⟩ := List.cons.inj h
      rw [Sum.inl.inj h1, ih h2]
theorem keys_laid (p : Nat → Bool) (M : Nat → List Int) (F : Nat → V) : ∀ n, (laid p (fun i => ((M i).map Sum.inl : List L2.Key)) F n).map (·.1) = (firsts p M n).map fun m => m.map Sum.inl
  | 0 => rfl
  | n + 1 => by
    have ih := keys_laid p M F n
    unfold laid firsts
    by_cases h : p n = true
    · rw [if_pos h, if_pos h, put_keys, ih]
      by_cases m : M n ∈ firsts p M n
      · rw [if_pos m, if_pos (List.mem_map.mpr ⟨_, m, rfl⟩)]
      · rw [if_neg m, if_neg fun z => ?_, List.map_append]
        · rfl
        · obtain ⟨r, hr, e⟩ := List.mem_map.mp z
          rw [inl_inj e] at hr
          exact m hr
    · rw [if_neg h, if_neg h]
      exact ih
theorem firsts_of (p : Nat → Bool) (M : Nat → List Int) : ∀ n, ∀ r ∈ firsts p M n, ∃ i, i < n ∧ p i = true ∧ r = M i
  | 0, _, h => nomatch h
  | n + 1, r, h => by
    have ih := firsts_of p M n r
    unfold firsts at h
    have old : r ∈ firsts p M n → ∃ i, i < n + 1 ∧ p i = true ∧ r = M i := fun z => let ⟨i, a, b, c⟩ := ih z; ⟨i, Nat.lt_succ_of_lt a, b, c⟩
    by_cases hp : p n = true
    · rw [if_pos hp] at h
      split at h
      · exact old h
      · rcases List.mem_append.mp h with z | z
        · exact old z
        · exact ⟨n, Nat.lt_succ_self n, hp, List.mem_singleton.mp z⟩
    · rw [if_neg hp] at h
      exact old h
theorem firsts_le (p : Nat → Bool) (M : Nat → List Int) : ∀ n, (firsts p M n).length ≤ n
  | 0 => Nat.le_refl _
  | n + 1 => by
    have ih := firsts_le p M n
    unfold firsts
    split
    · split
      · omega
      · rw [List.length_append, List.length_singleton]
        omega
    · omega
def cutR (rs : List (List Int)) (ns : List Int) : List (List Int) := (firsts (fun i => two (meet ns (rs.getD i []))) (fun i => meet ns (rs.getD i [])) rs.length).mergeSort fun p q => decide (p ≤ q)
theorem sort_rows (as : List (Addr × List Int)) : (as.mergeSort rowLe).map (·.2) = (as.map (·.2)).mergeSort fun p q => decide (p ≤ q) := List.map_mergeSort fun _ _ _ _ => rfl
end LcM

/-! Lists of ints and lists of such, as data. -/
namespace LcM
open PySem PySem.Spec PyProof.Rows L2 SortR
theorem eqvAll_ints : ∀ ns ms : List Int, PyData.eqvAll (ns.map .int) (ms.map .int) = decide (ns = ms)
  | [], [] => by
    simp only [List.map_nil, PyData.eqvAll]
    exact (decide_eq_true (rfl : ([] : List Int) = [])).symm
  | x :: ns, y :: ms => by
    rw [List.map_cons, List.map_cons, PyData.eqvAll, eqvAll_ints ns ms, PyData.eqv]
    by_cases e : x = y
    · rw [e, beq_self_eq_true, Bool.true_and]
      by_cases e2 : ns = ms
      · rw [decide_eq_true e2, decide_eq_true (by rw [e2])]
      · rw [decide_eq_false e2, decide_eq_false fun z => e2 (List.cons.inj z).2]
    · rw [beq_eq_false_iff_ne.mpr e, Bool.false_and, decide_eq_false fun z => e (List.cons.inj z).1]
  | [], _ :: _ => by
    rw [List.map_nil, List.map_cons, PyData.eqvAll]
    exact (decide_eq_false fun z => nomatch z).symm
  | _ :: _, [] => by
    rw [List.map_nil, List.map_cons, PyData.eqvAll]
    exact (decide_eq_false fun z => nomatch z).symm
theorem eqv_ints (ns ms : List Int) : PyData.eqv (PyData.list (ns.map .int)) (PyData.list (ms.map .int)) = decide (ns = ms) := by
  rw [PyData.eqv]
  exact eqvAll_ints ns ms
theorem eqvAll_rows : ∀ rs qs : List (List Int), PyData.eqvAll (rs.map fun r => .list (r.map .int)) (qs.map fun r => .list (r.map .int)) = decide (rs = qs)
  | [], [] => by
    simp only [List.map_nil, PyData.eqvAll]
    exact (decide_eq_true (rfl : ([] : List (List Int)) = [])).symm
  | x :: ns, y :: ms => by
    rw [List.map_cons, List.map_cons, PyData.eqvAll, eqvAll_rows ns ms, eqv_ints]
    by_cases e : x = y
    · rw [decide_eq_true e, Bool.true_and]
      by_cases e2 : ns = ms
      · rw [decide_eq_true e2, decide_eq_true (by rw [e, e2])]
      · rw [decide_eq_false e2, decide_eq_false fun z => e2 (List.cons.inj z).2]
    · rw [decide_eq_false e, Bool.false_and, decide_eq_false fun z => e (List.cons.inj z).1]
  | [], _ :: _ => by
    rw [List.map_nil, List.map_cons, PyData.eqvAll]
    exact (decide_eq_false fun z => nomatch z).symm
  | _ :: _, [] => by
    rw [List.map_nil, List.map_cons, PyData.eqvAll]
    exact (decide_eq_false fun z => nomatch z).symm
theorem eqv_rows (rs qs : List (List Int)) : PyData.eqv (PyData.list (rs.map fun r => .list (r.map .int))) (PyData.list (qs.map fun r => .list (r.map .int))) = decide (rs = qs) := by
  rw [PyData.eqv]
  exact eqvAll_rows rs qs
theorem lay_ints : ∀ ns : List Int, PyData.canLayAll0 (ns.map .int) = true
  | [] => by simp only [List.map_nil, PyData.canLayAll0]
  | n :: ns => by simp only [List.map_cons, PyData.canLayAll0, PyData.canLay0, lay_ints ns, Bool.and_self]
theorem lay_rows : ∀ rs : List (List Int), PyData.canLayAll0 (rs.map fun r => .list (r.map .int)) = true
  | [] => by simp only [List.map_nil, PyData.canLayAll0]
  | r :: rs => by simp only [List.map_cons, PyData.canLayAll0, PyData.canLay0, lay_ints r, lay_rows rs, Bool.and_self]
theorem depth_rows : ∀ rs : List (List Int), PyData.depthAll (rs.map fun r => .list (r.map .int)) ≤ 1
  | [] => by simp only [List.map_nil, PyData.depthAll]; omega
  | r :: rs => by
    have := depth_rows rs
    simp only [List.map_cons, PyData.depthAll, PyData.depth, PySem.W.depth_ints]
    omega
theorem shaped_ints (ns : List Int) : SeqAt.shaped (PyData.list (ns.map .int)) = true := by
  unfold SeqAt.shaped
  simp only [PyData.canLay0, lay_ints, PyData.depth, PySem.W.depth_ints]
  decide
theorem shaped_rows (rs : List (List Int)) : SeqAt.shaped (PyData.list (rs.map fun r => .list (r.map .int))) = true := by
  have d := depth_rows rs
  have e : (PyData.list (rs.map fun r => .list (r.map .int))).depth ≤ 64 := by
    simp only [PyData.depth]
    omega
  unfold SeqAt.shaped
  rw [decide_eq_true e, Bool.and_true]
  simp only [PyData.canLay0, lay_rows]
/-- lists of lists as data -/
theorem rows_data {K : PySem.W.Frag} {H : Hp} : ∀ {bs : List (Addr × List Int)}, (∀ b ∈ bs, SqL K H b.1 (b.2.map V.int)) → DpAll K H (bs.map fun b => V.ref b.1) ((bs.map (·.2)).map fun r => .list (r.map .int))
  | [], _ => .nil
  | b :: bs, h => .cons (.lst (h b List.mem_cons_self) (rows_dp b.2)) (rows_data fun c m => h c (List.mem_cons_of_mem _ m))
end LcM

/-! sorted(xs), xs ints, THE sorted list. -/
namespace SortR
open PySem PySem.Spec PyProof.Rows L2 PySem.W
def intLe (p q : Int) : Bool := decide (p ≤ q)
theorem ints_each {h : Heap} : ∀ {ns : List Int} {us : List Value}, Vals (ns.map V.int) us → EachIs (fun v (n : Int) => ∃ t, v = Value.int n t) us ns
  | [], _, .nil => .nil
  | _ :: _, _, .cons h1 h2 => .cons h1 (ints_each (h := h) h2)
theorem each_ints : ∀ {us : List Value} {ns : List Int}, EachIs (fun v (n : Int) => ∃ t, v = Value.int n t) us ns → Vals (ns.map V.int) us
  | _, _, .nil => .nil
  | _, _, .cons h t => .cons h (each_ints t)
section
variable {X : Cx}
theorem call_sortedInts (hu : X.A.units + 64 < cLine) : CallR X (.builtin "sorted") (fun xs H Q => ∃ (a : Addr) (ns : List Int), xs = [V.ref a] ∧ SqL X.K H a (ns.map V.int) ∧ ∀ p, H p = none → Q (.ref p) (upd H p (.lst ((ns.mergeSort intLe).map V.int)))) := by
  intro pins s σ H xs us Q I r h
  obtain ⟨a, ns, rfl, hs, q⟩ := h
  obtain ⟨u, rfl, ru⟩ := vals1 r
  obtain rfl : u = Value.ref a := ru
  obtain ⟨its, rv, hl, hz⟩ := I.list hs
  have each := ints_each (h := s.heap) rv
  have len : its.length = ns.length := by rw [← rv.length, List.length_map]
  have reads : EachIs (fun v (n : Int) => ∃ as, Reads s.heap v (PyData.int n) as) its ns := each_mono each fun v n ⟨t, e⟩ => by
    rw [e]
    exact ⟨_, Reads.int n t⟩
  have le : dataLe false (fun n : Int => PyData.int n) = intLe := dataLe_int fun n : Int => n
  refine sorted_data (enc := fun n : Int => PyData.int n) hl.isList each reads (AllAlike.of fun p q => by simp only [alike]) (Sortable.others fun b => ⟨(fun z => nomatch z), fun xs z => nomatch z⟩) (by rw [List.length_map] at hz; exact hz) (fun b _ => by
    have d : (PyData.int b).depth = 0 := by simp only [PyData.depth]
    rw [d]
    omega) fun out ho each3 => ?_
  rw [le] at each3
  have back := each_ints each3
  obtain ⟨n, hn⟩ := sortedAll_at s.heap its out.toArray
  refine ⟨.ref (s.heap.objs.size + 1), upd H (s.heap.objs.size + 1) (.lst ((ns.mergeSort intLe).map V.int)), I.laid (t' := s.toks) (fun b o e => sortedAll_old e) (Nat.le_succ _) ⟨?_, out, n, back, hn⟩, rfl, q _ (I.hok.fresh (Nat.le_succ _))⟩
  rw [List.length_map, List.length_mergeSort]
  rw [List.length_map] at hz
  exact hz
end
end SortR

/-! Comprehensions over a tuple or a list, each turn's value by a relation that lasts. -/
namespace LcM
open PySem PySem.Spec PyProof.Rows L2
/-- so far -/
structure Mx (H0 : Hp) (D : Addr) (Rel : Nat → V → Hp → Prop) (i : Nat) (H : Hp) (ys : List V) : Prop where
  grow : Grows H0 H
  top : H D = some (.lst ys)
  len : ys.length = i
  rel : ∀ j y, ys[j]? = some y → Rel j y H
theorem Mx.more {H0 H H4 : Hp} {D : Addr} {Rel : Nat → V → Hp → Prop} {i : Nat} {ys : List V} {y : V} (last : ∀ j y H H', Grows H H' → Rel j y H → Rel j y H') (free : ∀ j y H zs, Rel j y H → H D = some (.lst zs) → ∀ u, Rel j y (upd H D u)) (hD : H0 D = none) (m : Mx H0 D Rel i H ys) (s : Grows H H4) (r : Rel i y H4) (small : i < 1000000) :
    ∃ acc, H4 D = some (.lst acc) ∧ acc.length < sizeLine ∧ ∃ ys', Mx H0 D Rel (i + 1) (upd H4 D (.lst (acc ++ [y]))) ys' := by
  have at_D := s _ _ m.top
  refine ⟨ys, at_D, ?_, ys ++ [y], fun b o e => ?_, upd_same, ?_, fun j z e => ?_⟩
  · rw [m.len]
    exact Nat.lt_trans small (by decide)
  · rw [upd_ne (ne_of_none e hD)]
    exact s _ _ (m.grow _ _ e)
  · rw [List.length_append, m.len]
    rfl
  · rcases Nat.lt_or_ge j ys.length with l | g
    · rw [List.getElem?_append_left l] at e
      exact free j z H4 _ (last j z H H4 s (m.rel j z e)) at_D _
    · rw [List.getElem?_append_right g] at e
      have zero : j - ys.length = 0 := by
        rcases Nat.eq_zero_or_pos (j - ys.length) with q | q
        · exact q
        · rw [List.getElem?_eq_none (by show 1 ≤ j - ys.length; omega)] at e
          cases e
      rw [zero] at e
      obtain rfl : y = z := Option.some.inj e
      obtain rfl : j = i := by rw [← m.len]; omega
      exact free j y H4 _ r at_D _
section
variable {K : PySem.W.Frag} {a : Addr} {xs : List V} {g : TG} {te : TE} {vs : List Nat} {σ : L2.St} {H0 : Hp} {D : Addr} {Qd : Hp → Prop}
theorem lc_tupX (Rel : Nat → V → Hp → Prop) (last : ∀ j y H H', Grows H H' → Rel j y H → Rel j y H') (free : ∀ j y H zs, Rel j y H → H D = some (.lst zs) → ∀ u, Rel j y (upd H D u)) (hD : H0 D = none) (hx : SqT K H0 a xs) (small : xs.length ≤ 1000000)
    (turn : ∀ (i : Nat) (x : V) (H : Hp) (Rk : V → Hp → Prop), xs[i]? = some x → Grows H0 H → H D ≠ none → (∀ y H4, Grows H H4 → Rel i y H4 → Rk y H4) → g x (wipe σ vs) H fun σ2 H2 => wipe σ2 vs = wipe σ vs ∧ te σ2 H2 Rk)
    (done : ∀ H ys, Mx H0 D Rel xs.length H ys → Qd H) :
    ∃ W : Nat → Nat → Hp → Prop, (∃ m, W 0 m (upd H0 D (.lst []))) ∧ ∀ i m H, W i m H →
      ((Itt K a).stop i H ∧ Qd H) ∨ ((Itt K a).go i H ∧ ∃ Nx : Hp → Prop, (∀ H', Nx H' → ∃ m', m' < m ∧ W (i + 1) m' H') ∧ ∀ x H', (Itt K a).yld i H x H' → g x (wipe σ vs) H' fun σ2 H2 => wipe σ2 vs = wipe σ vs ∧ tYes σ2 H2 fun b H3 =>
        if b = true then te σ2 H3 fun y H4 => ∃ acc, H4 D = some (.lst acc) ∧ acc.length < sizeLine ∧ Nx (upd H4 D (.lst (acc ++ [y]))) else Nx H3) := by
  refine lc_tup (fun i H => ∃ ys, Mx H0 D Rel i H ys) ⟨[], Grows.new hD, upd_same, rfl, fun j y e => by rw [List.getElem?_nil] at e; cases e⟩ (fun i H _ ⟨_, m⟩ => m.grow.tup hx) (fun i x H ex ⟨ys, m⟩ => ?_) fun H ⟨ys, m⟩ => done H ys m
  rw [yes_eq (A := fun σ2 => wipe σ2 vs = wipe σ vs)]
  exact turn i x H _ ex m.grow (by rw [m.top]; exact fun z => nomatch z) fun y H4 s r => m.more last free hD s r (Nat.lt_of_lt_of_le (List.getElem?_eq_some_iff.mp ex).1 small)
theorem lc_listX (Rel : Nat → V → Hp → Prop) (last : ∀ j y H H', Grows H H' → Rel j y H → Rel j y H') (free : ∀ j y H zs, Rel j y H → H D = some (.lst zs) → ∀ u, Rel j y (upd H D u)) (hD : H0 D = none) (hx : SqL K H0 a xs) (small : xs.length ≤ 1000000)
    (turn : ∀ (i : Nat) (x : V) (H : Hp) (Rk : V → Hp → Prop), xs[i]? = some x → Grows H0 H → H D ≠ none → (∀ y H4, Grows H H4 → Rel i y H4 → Rk y H4) → g x (wipe σ vs) H fun σ2 H2 => wipe σ2 vs = wipe σ vs ∧ te σ2 H2 Rk)
    (done : ∀ H ys, Mx H0 D Rel xs.length H ys → Qd H) :
    ∃ W : Nat → Nat → Hp → Prop, (∃ m, W 0 m (upd H0 D (.lst []))) ∧ ∀ i m H, W i m H →
      ((Itl K a).stop i H ∧ Qd H) ∨ ((Itl K a).go i H ∧ ∃ Nx : Hp → Prop, (∀ H', Nx H' → ∃ m', m' < m ∧ W (i + 1) m' H') ∧ ∀ x H', (Itl K a).yld i H x H' → g x (wipe σ vs) H' fun σ2 H2 => wipe σ2 vs = wipe σ vs ∧ tYes σ2 H2 fun b H3 =>
        if b = true then te σ2 H3 fun y H4 => ∃ acc, H4 D = some (.lst acc) ∧ acc.length < sizeLine ∧ Nx (upd H4 D (.lst (acc ++ [y]))) else Nx H3) := by
  refine lc_list (fun i H => ∃ ys, Mx H0 D Rel i H ys) ⟨[], Grows.new hD, upd_same, rfl, fun j y e => by rw [List.getElem?_nil] at e; cases e⟩ (fun i H _ ⟨_, m⟩ => m.grow.seq hx) (fun i x H ex ⟨ys, m⟩ => ?_) fun H ⟨ys, m⟩ => done H ys m
  rw [yes_eq (A := fun σ2 => wipe σ2 vs = wipe σ vs)]
  exact turn i x H _ ex m.grow (by rw [m.top]; exact fun z => nomatch z) fun y H4 s r => m.more last free hD s r (Nat.lt_of_lt_of_le (List.getElem?_eq_some_iff.mp ex).1 small)
/-- a loop over enumerate of a list that stands still -/
theorem for_enumL {tb : TS} {Dn : Ends} (Pv : Nat → L2.St → Hp → Prop) (h0 : Pv 0 σ H0) (hl : ∀ i σ H, Pv i σ H → SqL K H a xs)
    (hs : ∀ (i : Nat) (x : V) (T : Addr) (σ : L2.St) (H : Hp), xs[i]? = some x → Pv i σ H → H T = none → g (.ref T) σ (upd H T (.tup [.int (i : Nat), x])) fun σ2 H2 => tb { Dn with nx := Pv (i + 1), ct := Pv (i + 1), bk := Dn.nx } σ2 H2) (hd : ∀ σ H, Pv xs.length σ H → Dn.nx σ H) :
    ∃ W : Nat → Nat → L2.St → Hp → Prop, (∃ m, W 0 m σ H0) ∧ ∀ i m σ H, W i m σ H →
      ((Ite K a).stop i H ∧ Dn.nx σ H) ∨ ((Ite K a).go i H ∧ ∃ N : L2.St → Hp → Prop, (∀ σ' H', N σ' H' → ∃ m', m' < m ∧ W (i + 1) m' σ' H') ∧ ∀ v H', (Ite K a).yld i H v H' → g v σ H' fun σ2 H2 => tb { Dn with nx := N, ct := N, bk := Dn.nx } σ2 H2) := by
  refine ⟨fun i m σ H => m = xs.length - i ∧ i ≤ xs.length ∧ Pv i σ H, ⟨_, rfl, Nat.zero_le _, h0⟩, ?_⟩
  rintro i m σ H ⟨rfl, hi, pv⟩
  have qx := hl i σ H pv
  rcases Nat.lt_or_ge i xs.length with lt | ge
  · have ex : xs[i]? = some xs[i] := List.getElem?_eq_getElem lt
    refine .inr ⟨⟨xs, _, qx, ex⟩, Pv (i + 1), fun σ' H' p' => ⟨xs.length - (i + 1), by omega, rfl, lt, p'⟩, fun v H' y => ?_⟩
    obtain ⟨T, x', rfl, hT, rfl, f1⟩ := y
    exact hs i x' T σ H (f1 xs qx) pv hT
  · have e : i = xs.length := by omega
    subst e
    exact .inl ⟨⟨xs, qx, Nat.le_refl _⟩, hd σ H pv⟩
end
end LcM

/-! f(k = v, ..): a def called by keywords alone. -/
namespace LcM
open PySem PySem.Spec PyProof.Rows L2
section
variable {X : Cx} {CX : CXT} {k : Nat} {f : Addr} {fd : FuncData} {ps ks : List Str} {sp : Sp} {E : XK} {x : Str} {p pos : Pos} {kws : List Keyword} {tk : TA} {g : List Value → List Value → List Value} {gV : List V → List V → List V}
theorem pe_callKw (F : FnOk X.prog X.w X.K X.mg X.base CX k f fd ps sp) (room : Room k X.A) (hg : Gl X x) (hm : X.mg x = some (.ref f)) (kp : PySem.W.keepIn X.K (.ref f) = true) (bd : KBinds X.K fd ps ks g gV) (ps' : Passes CX X E) (args : PK X kws tk)
    (all : (backToKw pos (keywordEach kws X.env)).all (·.1.isSome) = true := by rfl) (names : (backToKw pos (keywordEach kws X.env)).filterMap (·.1) = ks := by rfl) (hdb : (x == ("__debug__" : Str)) = false := by decide)
    (plain : ((backTo pos (starEach [] X.env)).any (·.1) || (backToKw pos (keywordEach kws X.env)).any (·.1.isNone)) = false := by rfl) :
    PE X (.Call (.Name x p) [] kws pos) (tCallK sp gV E tNil tk) := by
  refine ⟨fun pins s σ H Q I rd => ?_⟩
  refine wpAny_Call_Name_kw (ld_glob I hg hm ?_ hdb)
  refine PySem.W.callWith_KW0 (h₀ := X.base) I.ok.mod.kin kp all (thn (args.run pos pins s σ H _ I rd) fun ws s2 ⟨zs, H2, I2, rz, q2⟩ => ⟨I2.kIn, ?_⟩) plain
  rw [names]
  exact run_fnk (us := []) (vs := []) F room bd ps' I2 .nil rz q2
end
end LcM

/-! Data whose text is short. -/
namespace LcM
open PySem PySem.Spec PyProof.Rows L2
structure Brief (n : Nat) (d : PyData) : Prop where
  sh : d.showable = true
  dp : d.depth ≤ 10
  lv : PyData.leavesShort 13 d = true
  wt : d.weight ≤ n
def Smalls (ns : List Int) : Prop := ∀ x ∈ ns, x.natAbs < 10 ^ 12
theorem small_bits {n : Int} (h : n.natAbs < 10 ^ 12) : n.natAbs.log2 < 40 := by
  by_cases z : n.natAbs = 0
  · rw [z]
    decide
  · exact (Nat.log2_lt z).mpr (Nat.lt_trans h (by decide))
theorem show_ints : ∀ ns : List Int, Smalls ns → PyData.showableAll (ns.map .int) = true
  | [], _ => by simp only [List.map_nil, PyData.showableAll]
  | n :: ns, h => by
    have b := small_bits (h n List.mem_cons_self)
    simp only [List.map_cons, PyData.showableAll, PyData.showable, show_ints ns fun x m => h x (List.mem_cons_of_mem _ m), Bool.and_true]
    exact decide_eq_true (by omega)
theorem weight_ints : ∀ ns : List Int, Smalls ns → PyData.weightAll (ns.map .int) ≤ ns.length * 42
  | [], _ => by simp only [List.map_nil, PyData.weightAll]; exact Nat.zero_le _
  | n :: ns, h => by
    have b := small_bits (h n List.mem_cons_self)
    have ih := weight_ints ns fun x m => h x (List.mem_cons_of_mem _ m)
    simp only [List.map_cons, PyData.weightAll, PyData.weight, List.length_cons]
    split <;> omega
theorem brief_ints {ns : List Int} (h : Smalls ns) : Brief (ns.length * 42) (PyData.list (ns.map .int)) := by
  refine ⟨?_, ?_, ?_, ?_⟩
  · simp only [PyData.showable, show_ints ns h]
  · simp only [PyData.depth, PySem.W.depth_ints]
    decide
  · refine PyData.leavesShort_of_canLay0 13 _ ?_ ?_
    · simp only [PyData.canLay0, lay_ints]
    · simp only [PyData.intsShort]
      exact PyData.intsShortAll_ints ns h
  · simp only [PyData.weight]
    exact weight_ints ns h
def rowD (rs : List (List Int)) : List PyData := rs.map fun r => .list (r.map .int)
theorem show_rows : ∀ rs : List (List Int), (∀ r ∈ rs, Smalls r) → PyData.showableAll (rowD rs) = true
  | [], _ => by simp only [rowD, List.map_nil, PyData.showableAll]
  | r :: rs, h => by
    have ih := show_rows rs fun q m => h q (List.mem_cons_of_mem _ m)
    unfold rowD at ih ⊢
    simp only [List.map_cons, PyData.showableAll, PyData.showable, show_ints r (h r List.mem_cons_self), ih, Bool.and_self]
theorem short_rows : ∀ rs : List (List Int), (∀ r ∈ rs, Smalls r) → PyData.intsShortAll 13 (rowD rs) = true
  | [], _ => by simp only [rowD, List.map_nil, PyData.intsShortAll]
  | r :: rs, h => by
    have ih := short_rows rs fun q m => h q (List.mem_cons_of_mem _ m)
    unfold rowD at ih ⊢
    simp only [List.map_cons, PyData.intsShortAll, PyData.intsShort, ih, PyData.intsShortAll_ints r (h r List.mem_cons_self), Bool.and_self]
theorem weight_rows {m : Nat} : ∀ rs : List (List Int), (∀ r ∈ rs, Smalls r ∧ r.length ≤ m) → PyData.weightAll (rowD rs) ≤ rs.length * (m * 42 + 1)
  | [], _ => by simp only [rowD, List.map_nil, PyData.weightAll]; exact Nat.zero_le _
  | r :: rs, h => by
    have ih := weight_rows rs fun q m => h q (List.mem_cons_of_mem _ m)
    have l := (h r List.mem_cons_self).2
    have w := weight_ints r (h r List.mem_cons_self).1
    unfold rowD at ih ⊢
    simp only [List.map_cons, PyData.weightAll, PyData.weight, List.length_cons]
    rw [Nat.add_mul]
    omega
theorem brief_rows {rs : List (List Int)} {m : Nat} (h : ∀ r ∈ rs, Smalls r ∧ r.length ≤ m) : Brief (rs.length * (m * 42 + 1)) (PyData.list (rowD rs)) := by
  refine ⟨?_, ?_, ?_, ?_⟩
  · simp only [PyData.showable, show_rows rs fun r m => (h r m).1]
  · have := depth_rows rs
    unfold rowD
    simp only [PyData.depth]
    omega
  · refine PyData.leavesShort_of_canLay0 13 _ ?_ ?_
    · have := lay_rows rs
      unfold rowD
      simp only [PyData.canLay0, this]
    · simp only [PyData.intsShort]
      exact short_rows rs fun r m => (h r m).1
  · simp only [PyData.weight]
    exact weight_rows rs h
theorem brief_two {a b : PyData} {m n : Nat} (x : Brief m a) (y : Brief n b) (l : m + n ≤ 100000) :
    PyData.showableAll [a, b] = true ∧ PyData.depthAll [a, b] ≤ 40 ∧ (listText (PyData.shownAll [a, b])).length ≤ sizeLine := by
  refine ⟨?_, ?_, ?_⟩
  · simp only [PyData.showableAll, x.sh, y.sh, Bool.and_self]
  · have := x.dp
    have := y.dp
    simp only [PyData.depthAll]
    omega
  · have e : (PyData.list [a, b]).shown = listText (PyData.shownAll [a, b]) := by simp only [PyData.shown]
    rw [← e]
    refine PyData.shown_fits (B := 13) (by decide) (by decide) ?_ ?_
    · simp only [PyData.leavesShort, PyData.leavesShortAll, x.lv, y.lv, Bool.and_self]
    · have := x.wt
      have := y.wt
      simp only [PyData.weight, PyData.weightAll]
      omega
end LcM

/-! for i, x in enumerate(list, start=k). -/
namespace LcM
open PySem PySem.Spec PyProof PyProof.Rows L2
def ItS (K : PySem.W.Frag) (a : Addr) (k : Int) : It where
  go := fun i H => ∃ xs x, SqL K H a xs ∧ xs[i]? = some x
  yld := fun i H v H' => ∃ T x, v = .ref T ∧ H T = none ∧ H' = upd H T (.tup [.int (k + (i : Nat)), x]) ∧ ∀ xs, SqL K H a xs → xs[i]? = some x
  stop := fun i H => ∃ xs, SqL K H a xs ∧ xs.length = i
theorem turn_enumS {P : Program} {w : World} {K : PySem.W.Frag} {elts : List Expr} {kk : Nat} {tpos : Pos} (a e it : Addr) (k : Int) :
    Turn P w K (.Tuple elts kk tpos) (ItS K a k) [e, it] e (fun i h => (∃ old, IsEnum h e it (k + (i : Nat)) old) ∧ h.IsListIter it a i ∧ e ≠ it) where
  mem := by simp
  obj := fun t h st b hb => by
    obtain ⟨⟨old, ie⟩, ⟨o, ho, _, hd⟩, _⟩ := st
    have q : b = e ∨ b = it := by simpa using hb
    rcases q with q | q
    · rw [q]
      exact ⟨_, ie, fun v z => nomatch z⟩
    · rw [q]
      exact ⟨o, ho, fun v z => by rw [hd] at z; cases z⟩
  keep := fun t h h' st kp => by
    obtain ⟨⟨old, ie⟩, ⟨o, ho, hc, hd⟩, ne⟩ := st
    exact ⟨⟨old, kp e (by simp) _ ie⟩, ⟨o, kp it (by simp) _ ho, hc, hd⟩, ne⟩
  item := by
    intro X hP hw hK hc i pins s σ H E I hf st hg
    subst hP hw hK
    obtain ⟨⟨old, ie⟩, li, ne⟩ := st
    obtain ⟨xs, x, hS, hx⟩ := hg
    obtain ⟨its, rv, pl, hz⟩ := I.list hS
    have hli := li
    obtain ⟨oi, hoi, hci, hdi⟩ := hli
    have ha_e : a ≠ e := fun z => by
      obtain ⟨o, ho, hcl, _⟩ := pl.isList
      rw [z, ie] at ho
      cases ho
      exact absurd (Value.type.inj hcl) (by decide)
    have ha_it : a ≠ it := fun z => by
      obtain ⟨o, ho, hcl, _⟩ := pl.isList
      rw [z, hoi] at ho
      cases ho
      rw [hci] at hcl
      exact absurd (Value.type.inj hcl) (by decide)
    have il : i < its.toArray.size := by
      rw [List.size_toArray, ← rv.length]
      exact (List.getElem?_eq_some_iff.mp hx).1
    obtain ⟨u, hu, ru⟩ := rv.get hx
    have W := WalksT.enumFrom (prog := X.prog) (w := X.w) (A := X.A) k (Draws.list (A := X.A.in1) (by exact I.ok.hd hc) it a ha_it its.toArray) e ne (fun z => by simp at z; exact z.elim ne ha_e.symm) (List.mem_cons_self)
    refine W.item i s _ E il ⟨⟨old, ie⟩, li, pl.isList⟩ fun T vals h' tk pt big isT mid keep => ⟨.ref T, rfl, W.go elts kk tpos i T { s with heap := h', toks := tk } _ E mid fun h2 st2 keep2 => ?_⟩
    obtain ⟨t, y, py, rfl⟩ := pt
    have ey : y = u := by
      have q : its.toArray[i]? = some y := py
      rw [List.getElem?_toArray, hu] at q
      cases q
      rfl
    subst ey
    have nT := W.apart i T h' mid
    obtain ⟨oT, gT, cT, n, dT⟩ := isT
    have gT2 := keep2 T oT nT gT
    have obj : ObjOk X.prog X.w (upd H T (.tup [.int (k + (i : Nat)), x])) h2 T (.tup [.int (k + (i : Nat)), x]) :=
      ⟨by show 2 ≤ sizeLine; decide, [_, y], .cons ⟨t, rfl⟩ (.cons ru .nil), ⟨oT, gT2, cT, n, dT⟩⟩
    have I1 : Inv X pins σ (upd H T (.tup [.int (k + (i : Nat)), x])) { s with heap := h2, toks := tk } :=
      I.turnedNew (t' := tk) (ch := [e, it]) (fun c o hb q => keep2 c o hb (keep c o hb q)) hf big obj
    refine ⟨.ref T, _, I1, rfl, ⟨T, x, rfl, I.hok.fresh big, rfl, fun xs' h' => ?_⟩, ⟨?_, st2.2.1, ne⟩, fun b hb => ?_⟩
    · rw [I.list_inj h' hS]
      exact hx
    · obtain ⟨⟨old', ie'⟩, _⟩ := st2
      exact ⟨old', ie'⟩
    · have low : b < s.heap.objs.size := by
        have q : b = e ∨ b = it := by simpa using hb
        rcases q with q | q
        · rw [q]; exact Heap.lt_size ie
        · rw [q]; exact Heap.lt_size hoi
      rw [upd_ne (Nat.ne_of_lt (Nat.lt_of_lt_of_le low big))]
      exact (hf b hb).1
  done := by
    intro X hP hw hK hc i pins s σ H E I hf st hg
    subst hP hw hK
    obtain ⟨⟨old, ie⟩, li, ne⟩ := st
    obtain ⟨xs, hS, rfl⟩ := hg
    obtain ⟨its, rv, pl, hz⟩ := I.list hS
    have hli := li
    obtain ⟨oi, hoi, hci, hdi⟩ := hli
    have ha_e : a ≠ e := fun z => by
      obtain ⟨o, ho, hcl, _⟩ := pl.isList
      rw [z, ie] at ho
      cases ho
      exact absurd (Value.type.inj hcl) (by decide)
    have ha_it : a ≠ it := fun z => by
      obtain ⟨o, ho, hcl, _⟩ := pl.isList
      rw [z, hoi] at ho
      cases ho
      rw [hci] at hcl
      exact absurd (Value.type.inj hcl) (by decide)
    have sz : its.toArray.size = xs.length := by rw [List.size_toArray, ← rv.length]
    have W := WalksT.enumFrom (prog := X.prog) (w := X.w) (A := X.A) k (Draws.list (A := X.A.in1) (by exact I.ok.hd hc) it a ha_it its.toArray) e ne (fun z => by simp at z; exact z.elim ne ha_e.symm) (List.mem_cons_self)
    refine W.done s _ E (by rw [sz]; exact ⟨⟨old, ie⟩, li, pl.isList⟩) fun h' tk keep => ⟨rfl, ?_⟩
    exact I.turnedL (t' := tk) (ch := [e, it]) keep hf
  self := fun A i s Q E st q => by
    obtain ⟨⟨old, ie⟩, _⟩ := st
    exact wpAny_pyIter_enum ie q
section
variable {X : Cx} {K : PySem.W.Frag} {a : Addr} {xs : List V} {g : TG} {tb : TS} {Dn : Ends} {σ : L2.St} {H0 : Hp}
def iEnumS (K : PySem.W.Frag) (k : Int) (ta : TA) : TI := fun σ H R => ta σ H fun vs H1 => ∃ a xs, vs = [.ref a] ∧ SqL K H1 a xs ∧ R (ItS K a k) H1
theorem pi_enumS {elts : List Expr} {kk : Nat} {tpos p p2 pos kp : Pos} {e : Expr} {ta : TA} {k : Int} {j : Nat} (hg : Gl X "enumerate") (hm : X.mg "enumerate" = none) (h0 : -2 ^ 63 ≤ k) (h1 : k < 2 ^ 63) (ha : PA X [e] ta) (calm : X.calm = true)
    (hs : starEach [e] X.env = (false, eval e X.env) :: starEach [] X.env := by rfl) (hb : backTo pos (starEach [e] X.env) = (false, eval e X.env) :: backTo pos (starEach [] X.env) := by rfl) (hpl : (backTo pos (starEach [e] X.env)).any (·.1) = false := by rfl) :
    PI X (.Tuple elts kk tpos) (.Call (.Name "enumerate" p) [e] [⟨some "start", .Constant (.int k) j p2, kp⟩] pos) (iEnumS X.K k ta) := by
  refine ⟨fun pins s σ H R I h => ?_⟩
  refine wpAny_Call_Name_kw (ld_blt (u := Value.type "enumerate") I hg hm (by decide +kernel) ?_)
  refine PySem.W.callWith_of (P := fun _ => True) (by rw [hpl]; rfl) (fun _ _ => ⟨.machine, .inr (.inl rfl), fun _ _ _ _ _ q => wpAny_pure q⟩) ?_
  refine Rows.evalArgs_kw2 (by rfl) (thn (ha.run pos pins s σ H _ I h) fun us s1 ⟨vs, H1, I1, r1, q1⟩ => ?_) hs
  obtain ⟨a, xs, rfl, hq, q⟩ := q1
  obtain ⟨u1, rfl, e1⟩ := vals1 r1
  obtain rfl : u1 = Value.ref a := e1
  refine thn ((pk_cons (nm := some "start") pe_int pk_nil).run pos pins s1 σ H1 (fun zs G => zs = [V.int k] ∧ G = H1) I1 ⟨rfl, rfl⟩) fun ks s2 ⟨zs, G, I2, r2, ez, eG⟩ => ⟨trivial, ?_⟩
  subst ez eG
  obtain ⟨u2, rfl, ⟨t, rfl⟩⟩ := vals1 r2
  obtain ⟨its, rv, pl, hz⟩ := I2.list hq
  refine enum_begins_start (begins_list a its.toArray) pl.isList h0 h1 fun h' ie git size keep => ?_
  have J : Inv X pins σ G { s2 with heap := h' } := I2.kept (t' := s2.toks) keep
  refine wpAny_pyIter_enum (s := { s2 with heap := h' }) ie ⟨s2.heap.objs.size + 1, [s2.heap.objs.size + 1, s2.heap.objs.size], _, _, G, rfl, J, turn_enumS a (s2.heap.objs.size + 1) s2.heap.objs.size k, ⟨⟨.none, ?_⟩, ⟨_, git, rfl, rfl⟩, Nat.succ_ne_self _⟩, fun b hb => ?_, q⟩
  · show IsEnum h' (s2.heap.objs.size + 1) s2.heap.objs.size (k + ((0 : Nat) : Int)) .none
    rw [Int.natCast_zero, Int.add_zero]
    exact ie
  · have low : s2.heap.objs.size ≤ b := by
      have e : b = s2.heap.objs.size + 1 ∨ b = s2.heap.objs.size := by simpa using hb
      rcases e with e | e
      · rw [e]; exact Nat.le_succ _
      · rw [e]; exact Nat.le_refl _
    have q' := I2.fpOk low (I2.hok.fresh low)
    exact q'
/-- for i, x in enumerate(list, start=k) -/
theorem for_enumS {k : Int} (Pv : Nat → L2.St → Hp → Prop) (h0 : Pv 0 σ H0) (hl : ∀ i σ H, Pv i σ H → SqL K H a xs)
    (hs : ∀ (i : Nat) (x : V) (T : Addr) (σ : L2.St) (H : Hp), xs[i]? = some x → Pv i σ H → H T = none → g (.ref T) σ (upd H T (.tup [.int (k + (i : Nat)), x])) fun σ2 H2 => tb { Dn with nx := Pv (i + 1), ct := Pv (i + 1), bk := Dn.nx } σ2 H2) (hd : ∀ σ H, Pv xs.length σ H → Dn.nx σ H) :
    ∃ W : Nat → Nat → L2.St → Hp → Prop, (∃ m, W 0 m σ H0) ∧ ∀ i m σ H, W i m σ H →
      ((ItS K a k).stop i H ∧ Dn.nx σ H) ∨ ((ItS K a k).go i H ∧ ∃ N : L2.St → Hp → Prop, (∀ σ' H', N σ' H' → ∃ m', m' < m ∧ W (i + 1) m' σ' H') ∧ ∀ v H', (ItS K a k).yld i H v H' → g v σ H' fun σ2 H2 => tb { Dn with nx := N, ct := N, bk := Dn.nx } σ2 H2) := by
  refine ⟨fun i m σ H => m = xs.length - i ∧ i ≤ xs.length ∧ Pv i σ H, ⟨_, rfl, Nat.zero_le _, h0⟩, ?_⟩
  rintro i m σ H ⟨rfl, hi, pv⟩
  have qx := hl i σ H pv
  rcases Nat.lt_or_ge i xs.length with lt | ge
  · have ex : xs[i]? = some xs[i] := List.getElem?_eq_getElem lt
    refine .inr ⟨⟨xs, _, qx, ex⟩, Pv (i + 1), fun σ' H' p' => ⟨xs.length - (i + 1), by omega, rfl, lt, p'⟩, fun v H' y => ?_⟩
    obtain ⟨T, x, rfl, hT, rfl, same⟩ := y
    exact hs i x T σ H (same xs qx) pv hT
  · have e : i = xs.length := by omega
    subst e
    exact .inl ⟨⟨xs, qx, rfl⟩, hd σ H pv⟩
end
end LcM

/-! xs[::-1] of a list. -/
namespace LcM
open PySem PySem.Spec PyProof PyProof.Rows L2
theorem vals_revE : ∀ {xs : List V} {us : List Value}, Vals xs us → Vals xs.reverse us.reverse
  | _, _, .nil => .nil
  | _, _, .cons r t => by
    rw [List.reverse_cons, List.reverse_cons]
    exact (vals_revE t).append (.cons r .nil)
def tRev (K : PySem.W.Frag) (te : TE) : TE := fun σ H Q => te σ H fun x H1 => ∃ (a : Addr) (xs : List V), x = .ref a ∧ SqL K H1 a xs ∧ ∀ D, H1 D = none → Q (.ref D) (upd H1 D (.lst xs.reverse))
section
variable {X : Cx} {te : TE} {x : Str} {p p2 p3 p4 pos : Pos} {j : Nat}
theorem pe_rev (he : PE X (.Name x p) te) : PE X (.Subscript (.Name x p) (.Slice none none (some (.UnaryOp .USub (.Constant (.int 1) j p2) p3)) p4) pos) (tRev X.K te) := by
  refine ⟨fun pins s σ H Q I rd => ?_⟩
  refine Rows.Subscript_ (thn (he.run pins s σ H _ I rd) fun v s1 ⟨y, H1, I1, rv, a, xs, ey, hS, k⟩ => ?_)
  subst ey
  obtain rfl : v = Value.ref a := rv
  refine wpAny_Slice (wpAny_pure (wpAny_pure (thn ((po_some (pe_un un_neg pe_int)).run pins s1 σ H1 (fun o G => o = some (-1) ∧ G = H1) I1 ?_) fun st s2 ⟨o, G, I2, ip, eo, eG⟩ => ?_)))
  · exact ⟨1, rfl, -1, rfl, rfl, rfl⟩
  · subst eo eG
    obtain ⟨its, rvs, pl, hz⟩ := I2.list hS
    have up : ∀ b o, s2.heap.get? b = some o → (s2.heap.push { cls := .type "slice", data := .fields #[.none, .none, st] }).get? b = some o := fun b o q => Heap.get?_push_of_some _ q
    have isl := (pl.keeps up).isList
    have gs : (s2.heap.push { cls := .type "slice", data := .fields #[.none, .none, st] }).get? s2.heap.objs.size = some { cls := .type "slice", data := .fields #[.none, .none, st] } := Heap.get?_push_size _ rfl
    refine Rows.subscriptTail_ops (T := "list") (id := "list.__getitem__") ?_ PySem.F.slot_list_getitem.lookup (wpAny_getItem_list_slice isl ⟨_, gs, rfl, rfl⟩ .none .none ip (by decide) ?_ (by rw [List.size_toArray, ← rvs.length]; exact hz)) rfl fun _ => rfl
    · exact isl.typeIs (s := { s2 with heap := s2.heap.push { cls := .type "slice", data := .fields #[.none, .none, st] } })
    · rw [PySem.W.krv_pick]
      have big : s2.heap.objs.size ≤ (s2.heap.push { cls := .type "slice", data := .fields #[.none, .none, st] }).objs.size := by
        rw [Heap.size_push]
        exact Nat.le_succ _
      refine ⟨.ref _, upd G _ (.lst xs.reverse), I2.laid (t' := s2.toks) (fun b o q => Heap.get?_push_of_some _ (up b o q)) big ⟨?_, its.reverse, 0, ?_, ?_⟩, rfl, k _ (I2.hok.fresh big)⟩
      · rw [List.length_reverse]
        exact hz
      · exact vals_revE rvs
      · exact Heap.get?_push_size _ rfl
end
end LcM

/-! for i, (a, b) in enumerate(zip(xs, ys)): a zip that an enumerate walks. -/
namespace EnZ
open PySem PySem.Spec PyProof PyProof.Rows L2 LcM
/-- a zip, whatever it says of the tuple that it gave out -/
abbrev ZAt (h : Heap) (z TI TO : Addr) (o : Value) (f : Bool) : Prop :=
  h.get? z = some { cls := .type "zip", dict := none, data := .fields #[o, .bool f, .bool false, .ref TI, .ref TO], slots := #[] }
section
variable {prog : Program} {w : World} {A : Around} {E : Value → Shared → Prop} {s : Shared}
def Free (prog : Program) (w : World) (z : Addr) (s : Shared) : Prop := ∀ (A : Around) (Q : Bool → Shared → Prop) (E : Value → Shared → Prop), Q true s → wpAny (model prog w) A (Builtin.SmallTypes.ownedTupleIsFree (.ref z)) Q E s
theorem free_none {z TI TO : Addr} {f : Bool} (az : ZAt s.heap z TI TO .none f) : Free prog w z s := fun A Q E q => by
  unfold Builtin.SmallTypes.ownedTupleIsFree
  exact wpAny_bind (wpAny_field az rfl (x := .none) rfl (wpAny_pure q))
theorem free_dead {z TI TO T : Addr} {f : Bool} (az : ZAt s.heap z TI TO (rawInt T) f) (gone : s.heap.get? T = none) : Free prog w z s := fun A Q E q => by
  unfold Builtin.SmallTypes.ownedTupleIsFree
  refine wpAny_bind (wpAny_field az rfl (x := rawInt T) rfl ?_)
  have look : wpAny (model prog w) A (loadIfAlive T) (fun r s' => r = none ∧ s' = s) E s := fun _ _ _ => ⟨gone, rfl⟩
  show wpAny _ _ (loadIfAlive ((T : Int).toNat) >>= fun r => _) _ _ _
  rw [Int.toNat_natCast]
  refine wpAny_bind (wpAny_mono look (fun r s' h => ?_) fun _ _ x => x)
  obtain ⟨rfl, rfl⟩ := h
  exact wpAny_pure q
/-- the next pair, where the own tuple is free -/
theorem item_free {z TI TO i1 i2 a b : Addr} {m n : Nat} {xs ys : Array Value} {x y p q o : Value} {f : Bool} {R : Value → Shared → Prop} (D : ZipApart z TI TO i1 i2 a b) (free : Free prog w z s) (az : ZAt s.heap z TI TO o f) (aI : IsPair s.heap TI (.ref i1) (.ref i2)) (aO : IsPair s.heap TO p q)
    (l1 : s.heap.IsListIter i1 a m) (l2 : s.heap.IsListIter i2 b n) (ls1 : s.heap.IsList a xs) (ls2 : s.heap.IsList b ys) (ex : xs[m]? = some x) (ey : ys[n]? = some y)
    (then_ : ∀ h', ZAt h' z TI TO (rawInt s.heap.objs.size) false → IsPair h' TO x y → h'.IsListIter i1 a (m + 1) → h'.IsListIter i2 b (n + 1) → IsPair h' s.heap.objs.size x y → h'.objs.size = s.heap.objs.size + 1 →
      (∀ c u, c ≠ z → c ≠ TO → c ≠ i1 → c ≠ i2 → s.heap.get? c = some u → h'.get? c = some u) → R (.ref s.heap.objs.size) { s with heap := h' }) :
    wpAny (model prog w) A (Builtin.«zip.__next__» ⟨[.ref z], []⟩) (fun fin s' => ∃ v, fin = .done (.ret v) ∧ R v s') E s := by
  show wpAny _ _ (field (.ref z) 2 >>= fun t => _) _ _ _
  refine wpAny_bind (wpAny_field az rfl (x := .bool false) rfl ?_)
  show wpAny _ _ (field (.ref z) 3 >>= fun t => _) _ _ _
  refine wpAny_bind (wpAny_field az rfl (x := .ref TI) rfl (wpAny_bind (wpAny_seqItems aI rfl ?_)))
  show wpAny _ _ (Builtin.SmallTypes.ownedTupleIsFree (.ref z) >>= fun t => _) _ _ _
  refine wpAny_bind (free _ _ _ ?_)
  simp only [if_true]
  refine wpAny_bind (wpAny_rule (wpAny_bind (wpAny_field az rfl (x := .ref TO) rfl (wpAny_bind (wpAny_setField_rec az (by simp) fun g1 z1 s1 => ?_)))))
  replace z1 : ZAt g1 z TI TO .ellipsis f := z1
  simp only [List.zipIdx_cons, List.zipIdx_nil, List.forIn_cons, List.forIn_nil]
  refine wpAny_bind (wpAny_bind (wpAny_bind (wpAny_onRaise ?_)))
  show wpAny _ _ (Builtin.SmallTypes.nextOf (.ref i1) >>= fun t => _) _ _ _
  refine wpAny_bind (wpAny_nextOf_list_item (l1.extBut s1.extBut D.i1z) (ls1.extBut s1.extBut D.l1z) ex fun g2 j1 s2 => wpAny_pure ?_)
  have o2 : IsPair g2 TO p q := s2.extBut _ _ D.TOi1 (s1.extBut _ _ D.TOz aO)
  refine wpAny_bind (wpAny_seqItems o2 rfl (wpAny_bind (wpAny_updateSeq_pair o2 fun g3 o3 s3 => ?_)))
  replace o3 : IsPair g3 TO x q := o3
  refine wpAny_bind (wpAny_letGo (wpAny_pure ?_))
  refine wpAny_bind (wpAny_bind (wpAny_onRaise ?_))
  show wpAny _ _ (Builtin.SmallTypes.nextOf (.ref i2) >>= fun t => _) _ _ _
  have l2' := ((l2.extBut s1.extBut D.i2z).extBut s2.extBut D.i12.symm).extBut s3.extBut D.TOi2.symm
  have ls2' := ((ls2.extBut s1.extBut D.l2z).extBut s2.extBut D.l2i1).extBut s3.extBut D.l2TO
  refine wpAny_bind (wpAny_nextOf_list_item l2' ls2' ey fun g4 j2 s4 => wpAny_pure ?_)
  have o4 : IsPair g4 TO x q := s4.extBut _ _ D.TOi2 o3
  refine wpAny_bind (wpAny_seqItems o4 rfl (wpAny_bind (wpAny_updateSeq_pair o4 fun g5 o5 s5 => ?_)))
  replace o5 : IsPair g5 TO x y := o5
  refine wpAny_bind (wpAny_letGo (wpAny_pure (wpAny_pure ?_)))
  refine wpAny_bind (wpAny_seqItems o5 rfl (wpAny_bind (wpAny_newTuple ?_)))
  have size : g5.objs.size = s.heap.objs.size := by rw [s5.1, s4.1, s3.1, s2.1, s1.1]
  have z5 : ZAt g5 z TI TO .ellipsis f := s5.extBut _ _ D.TOz.symm (s4.extBut _ _ D.i2z.symm (s3.extBut _ _ D.TOz.symm (s2.extBut _ _ D.i1z.symm z1)))
  have stays : ∀ c u, c ≠ z → c ≠ TO → c ≠ i1 → c ≠ i2 → s.heap.get? c = some u → g5.get? c = some u := fun c u n1 n2 n3 n4 e =>
    s5.extBut _ _ n2 (s4.extBut _ _ n4 (s3.extBut _ _ n2 (s2.extBut _ _ n3 (s1.extBut _ _ n1 e))))
  have m1 : g5.IsListIter i1 a (m + 1) := ((j1.extBut s3.extBut D.TOi1.symm).extBut s4.extBut D.i12).extBut s5.extBut D.TOi1.symm
  have m2 : g5.IsListIter i2 b (n + 1) := j2.extBut s5.extBut D.TOi2.symm
  have low : z < g5.objs.size := Heap.lt_size z5
  show wpAny _ _ (Builtin.SmallTypes.ownedTupleHandOut (.ref z) (.ref g5.objs.size) >>= fun t => _) _ _ _
  refine wpAny_bind ?_
  unfold Builtin.SmallTypes.ownedTupleHandOut
  have z6 : ZAt (g5.push { cls := .type "tuple", data := .seq #[x, y] }) z TI TO .ellipsis f := Heap.get?_push_of_some _ z5
  refine wpAny_bind (wpAny_setField_rec z6 (by simp) fun g7 z7 s7 => ?_)
  replace z7 : ZAt g7 z TI TO (rawInt g5.objs.size) f := z7
  refine wpAny_setField_rec z7 (by simp) fun g8 z8 s8 => ?_
  replace z8 : ZAt g8 z TI TO (rawInt g5.objs.size) false := z8
  have up : ∀ c u, c ≠ z → g5.get? c = some u → g8.get? c = some u := fun c u n1 e => s8.extBut _ _ n1 (s7.extBut _ _ n1 (Heap.get?_push_of_some _ e))
  have new : IsPair g8 g5.objs.size x y := s8.extBut _ _ (Nat.ne_of_gt low) (s7.extBut _ _ (Nat.ne_of_gt low) (Heap.get?_push_size _ rfl))
  have one : g8.objs.size = g5.objs.size + 1 := by rw [s8.1, s7.1, Heap.size_push]
  rw [size] at z8 new one
  refine wpAny_pure ⟨_, rfl, ?_⟩
  show R (.ref g5.objs.size) _
  rw [size]
  exact then_ g8 z8 (up _ _ D.TOz o5) (m1.at fun u e => up _ u D.i1z e) (m2.at fun u e => up _ u D.i2z e) new one fun c u n1 n2 n3 n4 e => up c u n1 (stays c u n1 n2 n3 n4 e)
/-- no more pairs, where the own tuple is free -/
theorem end_free {z TI TO i1 i2 a b : Addr} {m n : Nat} {xs ys : Array Value} {p q o : Value} {f : Bool} {R : Fin → Shared → Prop} (calm : A.handled = none) (D : ZipApart z TI TO i1 i2 a b) (free : Free prog w z s) (az : ZAt s.heap z TI TO o f) (aI : IsPair s.heap TI (.ref i1) (.ref i2)) (aO : IsPair s.heap TO p q)
    (l1 : s.heap.IsListIter i1 a m) (l2 : s.heap.IsListIter i2 b n) (ls1 : s.heap.IsList a xs) (ls2 : s.heap.IsList b ys) (no : xs[m]? = none ∨ ys[n]? = none)
    (out : ∀ h' e, (∀ c u, c ≠ z → c ≠ TO → c ≠ i1 → c ≠ i2 → s.heap.get? c = some u → h'.get? c = some u) → (∃ u, h'.get? e = some u ∧ u.cls = .type "StopIteration") → E (.ref e) { s with heap := h' }) :
    wpAny (model prog w) A (Builtin.«zip.__next__» ⟨[.ref z], []⟩) R E s := by
  show wpAny _ _ (field (.ref z) 2 >>= fun t => _) _ _ _
  refine wpAny_bind (wpAny_field az rfl (x := .bool false) rfl ?_)
  show wpAny _ _ (field (.ref z) 3 >>= fun t => _) _ _ _
  refine wpAny_bind (wpAny_field az rfl (x := .ref TI) rfl (wpAny_bind (wpAny_seqItems aI rfl ?_)))
  show wpAny _ _ (Builtin.SmallTypes.ownedTupleIsFree (.ref z) >>= fun t => _) _ _ _
  refine wpAny_bind (free _ _ _ ?_)
  simp only [if_true]
  refine wpAny_bind (wpAny_rule (wpAny_bind (wpAny_field az rfl (x := .ref TO) rfl (wpAny_bind (wpAny_setField_rec az (by simp) fun g1 z1 s1 => ?_)))))
  replace z1 : ZAt g1 z TI TO .ellipsis f := z1
  simp only [List.zipIdx_cons, List.zipIdx_nil, List.forIn_cons, List.forIn_nil]
  refine wpAny_bind (wpAny_bind (wpAny_bind (wpAny_onRaise ?_)))
  show wpAny _ _ (Builtin.SmallTypes.nextOf (.ref i1) >>= fun t => _) _ _ _
  rcases Option.eq_none_or_eq_some xs[m]? with hx | ⟨x, hx⟩
  · refine wpAny_bind (wpAny_nextOf_list_end calm (l1.extBut s1.extBut D.i1z) (ls1.extBut s1.extBut D.l1z) hx fun g2 e s2 he => ?_)
    obtain ⟨oe, ge, ce⟩ := he
    have z2 : ZAt g2 z TI TO .ellipsis f := s2 _ _ D.i1z.symm z1
    have ez : e ≠ z := fun t => by
      rw [t, z2] at ge
      cases ge
      simp at ce
    exact wpAny_setField_rec z2 (by simp) fun g3 _ s3 => out g3 e (fun c u n1 _ n3 _ t => s3.extBut _ _ n1 (s2 _ _ n3 (s1.extBut _ _ n1 t))) ⟨oe, s3.extBut _ _ ez ge, ce⟩
  · have hy : ys[n]? = none := no.resolve_left fun t => by
      rw [hx] at t
      cases t
    refine wpAny_bind (wpAny_nextOf_list_item (l1.extBut s1.extBut D.i1z) (ls1.extBut s1.extBut D.l1z) hx fun g2 j1 s2 => wpAny_pure ?_)
    have o2 : IsPair g2 TO p q := s2.extBut _ _ D.TOi1 (s1.extBut _ _ D.TOz aO)
    refine wpAny_bind (wpAny_seqItems o2 rfl (wpAny_bind (wpAny_updateSeq_pair o2 fun g3 o3 s3 => ?_)))
    refine wpAny_bind (wpAny_letGo (wpAny_pure ?_))
    refine wpAny_bind (wpAny_bind (wpAny_onRaise ?_))
    show wpAny _ _ (Builtin.SmallTypes.nextOf (.ref i2) >>= fun t => _) _ _ _
    have l2' := ((l2.extBut s1.extBut D.i2z).extBut s2.extBut D.i12.symm).extBut s3.extBut D.TOi2.symm
    have ls2' := ((ls2.extBut s1.extBut D.l2z).extBut s2.extBut D.l2i1).extBut s3.extBut D.l2TO
    refine wpAny_bind (wpAny_nextOf_list_end calm l2' ls2' hy fun g4 e s4 he => ?_)
    obtain ⟨oe, ge, ce⟩ := he
    have z4 : ZAt g4 z TI TO .ellipsis f := s4 _ _ D.i2z.symm (s3.extBut _ _ D.TOz.symm (s2.extBut _ _ D.i1z.symm z1))
    have ez : e ≠ z := fun t => by
      rw [t, z4] at ge
      cases ge
      simp at ce
    exact wpAny_setField_rec z4 (by simp) fun g5 _ s5 => out g5 e (fun c u n1 n2 n3 n4 t => s5.extBut _ _ n1 (s4 _ _ n4 (s3.extBut _ _ n2 (s2.extBut _ _ n3 (s1.extBut _ _ n1 t))))) ⟨oe, s5.extBut _ _ ez ge, ce⟩
/-- a zip between two pairs -/
def ZSt (h : Heap) (z TI TO i1 i2 a b : Addr) (k : Nat) : Prop :=
  (∃ o f, ZAt h z TI TO o f ∧ (o = .none ∨ ∃ T : Addr, o = rawInt T)) ∧ IsPair h TI (.ref i1) (.ref i2) ∧ (∃ x y, IsPair h TO x y) ∧ h.IsListIter i1 a k ∧ h.IsListIter i2 b k
theorem next_item {z TI TO i1 i2 a b : Addr} {k : Nat} {xs ys : Array Value} {x y : Value} {R : Value → Shared → Prop} (D : ZipApart z TI TO i1 i2 a b) (st : ZSt s.heap z TI TO i1 i2 a b k) (ls1 : s.heap.IsList a xs) (ls2 : s.heap.IsList b ys) (ex : xs[k]? = some x) (ey : ys[k]? = some y)
    (then_ : ∀ h', ZSt h' z TI TO i1 i2 a b (k + 1) → IsPair h' s.heap.objs.size x y → h'.objs.size = s.heap.objs.size + 1 →
      (∀ c u, c ≠ z → c ≠ TO → c ≠ i1 → c ≠ i2 → s.heap.get? c = some u → h'.get? c = some u) → R (.ref s.heap.objs.size) { s with heap := h' }) :
    wpAny (model prog w) A (Builtin.SmallTypes.nextOf (.ref z)) R E s := by
  obtain ⟨⟨o, f, az, ho⟩, aI, ⟨p, q, aO⟩, l1, l2⟩ := st
  have ty : s.TypeIs (.ref z) "zip" := ⟨_, az, rfl⟩
  unfold Builtin.SmallTypes.nextOf
  refine wpAny_bind (wpAny_callSpecial?_slot (name := Str.ofString "__next__") ty F.slot_zip_next (wpAny_call_entry F.slot_zip_next ty F.entry_zip_next ?_ (F.args_zip_next_1 _)))
  have byFree : Free prog w z s → wpAny (model prog w) A.in1 (Builtin.«zip.__next__» ⟨[.ref z], []⟩) (fun fin s' => ∃ v, fin = .done (.ret v) ∧ wpAny (model prog w) A (pure v) R E s') E s := fun fr =>
    item_free D fr az aI aO l1 l2 ls1 ls2 ex ey fun h' b1 b2 b3 b4 b5 b6 b7 => wpAny_pure (then_ h' ⟨⟨_, _, b1, .inr ⟨_, rfl⟩⟩, b7 _ _ D.TIz D.TITO D.TIi1 D.TIi2 aI, ⟨_, _, b2⟩, b3, b4⟩ b5 b6 b7)
  rcases ho with rfl | ⟨T, rfl⟩
  · exact byFree (free_none az)
  · rcases Option.eq_none_or_eq_some (s.heap.get? T) with gone | ⟨oT, here⟩
    · exact byFree (free_dead az gone)
    · exact zip_next_item_held D az here aI l1 l2 ls1 ls2 ex ey fun h' b1 b3 b4 b5 b6 b7 => wpAny_pure (then_ h' ⟨⟨_, _, b1, .inr ⟨_, rfl⟩⟩, b7 _ _ D.TIz D.TIi1 D.TIi2 aI, ⟨p, q, b7 _ _ D.TOz D.TOi1 D.TOi2 aO⟩, b3, b4⟩ b5 b6 fun c u n1 _ n3 n4 e => b7 c u n1 n3 n4 e)
theorem next_end {z TI TO i1 i2 a b : Addr} {k : Nat} {xs ys : Array Value} {R : Value → Shared → Prop} (calm : A.handled = none) (D : ZipApart z TI TO i1 i2 a b) (st : ZSt s.heap z TI TO i1 i2 a b k) (ls1 : s.heap.IsList a xs) (ls2 : s.heap.IsList b ys) (no : xs[k]? = none ∨ ys[k]? = none)
    (out : ∀ h' e, (∀ c u, c ≠ z → c ≠ TO → c ≠ i1 → c ≠ i2 → s.heap.get? c = some u → h'.get? c = some u) → (∃ u, h'.get? e = some u ∧ u.cls = .type "StopIteration") → E (.ref e) { s with heap := h' }) :
    wpAny (model prog w) A (Builtin.SmallTypes.nextOf (.ref z)) R E s := by
  obtain ⟨⟨o, f, az, ho⟩, aI, ⟨p, q, aO⟩, l1, l2⟩ := st
  have ty : s.TypeIs (.ref z) "zip" := ⟨_, az, rfl⟩
  unfold Builtin.SmallTypes.nextOf
  refine wpAny_bind (wpAny_callSpecial?_slot (name := Str.ofString "__next__") ty F.slot_zip_next (wpAny_call_entry F.slot_zip_next ty F.entry_zip_next ?_ (F.args_zip_next_1 _)))
  rcases ho with rfl | ⟨T, rfl⟩
  · exact end_free calm D (free_none az) az aI aO l1 l2 ls1 ls2 no out
  · rcases Option.eq_none_or_eq_some (s.heap.get? T) with gone | ⟨oT, here⟩
    · exact end_free calm D (free_dead az gone) az aI aO l1 l2 ls1 ls2 no out
    · exact zip_next_end_held calm D az here aI l1 l2 ls1 ls2 no fun h' e kp he => out h' e (fun c u n1 _ n3 n4 t => kp c u n1 n3 n4 t) he
end
end EnZ

namespace EnZ
open PySem PySem.Spec PyProof PyProof.Rows L2 LcM
section
variable {prog : Program} {w : World} {A : Around} {E : Value → Shared → Prop} {s : Shared}
/-- enumerate's next, over an iterator that makes an object at each turn -/
theorem enum_next {e it : Addr} {c : Int} {old : Value} {P : Value → Heap → Prop} {R : Value → Shared → Prop} (ae : IsEnum s.heap e it c old)
    (inner : ∀ F : Value → Shared → Prop, (∀ x h', P x h' → s.heap.objs.size ≤ h'.objs.size → h'.get? e = s.heap.get? e → F x { s with heap := h' }) → wpAny (model prog w) A (Builtin.SmallTypes.nextOf (.ref it)) F E s)
    (then_ : ∀ x g1 h', P x g1 → s.heap.objs.size ≤ g1.objs.size → IsEnumOut h' e it (c + 1) x g1.objs.size → h'.get? g1.objs.size = some { cls := .type "tuple", data := .seq #[.int c s.toks, x] } →
      h'.objs.size = g1.objs.size + 1 → (∀ b u, b ≠ e → g1.get? b = some u → h'.get? b = some u) → R (.ref g1.objs.size) { s with heap := h', toks := s.toks + 1 }) :
    wpAny (model prog w) A (Builtin.«enumerate.__next__» ⟨[.ref e], []⟩) (fun fin s' => ∃ v, fin = .done (.ret v) ∧ R v s') E s := by
  obtain ⟨hp, g, d, t0, os⟩ := s
  show wpAny _ _ (field (.ref e) 2 >>= fun t => _) _ _ _
  refine wpAny_bind (wpAny_field ae rfl (x := .ref it) rfl (wpAny_bind (inner _ fun x g1 px le same => ?_)))
  have e1 : IsEnum g1 e it c old := same.trans ae
  replace le : hp.objs.size ≤ g1.objs.size := le
  have low : e < g1.objs.size := Heap.lt_size e1
  show wpAny _ _ (field (.ref e) 3 >>= fun t => _) _ _ ⟨g1, g, d, t0, os⟩
  refine wpAny_bind (wpAny_field e1 rfl (x := rawInt c) rfl ?_)
  show wpAny _ _ (field (.ref e) 4 >>= fun t => _) _ _ ⟨g1, g, d, t0, os⟩
  refine wpAny_bind (wpAny_field e1 rfl (x := .none) rfl ?_)
  show wpAny _ _ (mkInt c >>= fun t => _) _ _ ⟨g1, g, d, t0, os⟩
  refine wpAny_bind (wpAny_mkInt ?_)
  show wpAny _ _ (setField (.ref e) 3 (rawInt (c + 1)) >>= fun t => _) _ _ ⟨g1, g, d, t0 + 1, os⟩
  refine wpAny_bind (wpAny_setField_rec e1 (by simp) fun g2 e2 s2 => ?_)
  replace s2 : Heap.SameBut e g1 g2 := s2
  replace e2 : IsEnum g2 e it (c + 1) old := e2
  show wpAny _ _ (setField (.ref e) 4 .none >>= fun t => _) _ _ ⟨g2, g, d, t0 + 1, os⟩
  refine wpAny_bind (wpAny_setField_rec e2 (by simp) fun g3 e3 s3 => ?_)
  replace s3 : Heap.SameBut e g2 g3 := s3
  replace e3 : IsEnum g3 e it (c + 1) old := e3
  show wpAny _ _ (newTuple [.int c t0, x] >>= fun t => _) _ _ ⟨g3, g, d, t0 + 1, os⟩
  refine wpAny_bind (wpAny_newTuple ?_)
  have size : g3.objs.size = g1.objs.size := by rw [s3.1, s2.1]
  obtain ⟨g4, h4⟩ : ∃ g4, g4 = g3.push { cls := .type "tuple", data := .seq #[.int c t0, x] } := ⟨_, rfl⟩
  have e4 : IsEnum g4 e it (c + 1) old := by
    rw [h4]
    exact Heap.get?_push_of_some _ e3
  have t4 : g4.get? g1.objs.size = some { cls := .type "tuple", data := .seq #[.int c t0, x] } := by
    rw [h4, ← size]
    exact Heap.get?_push_size _ rfl
  have n4 : g4.objs.size = g1.objs.size + 1 := by rw [h4, Heap.size_push, size]
  have k4 : ∀ b u, b ≠ e → g1.get? b = some u → g4.get? b = some u := fun b u n q => by
    rw [h4]
    exact Heap.get?_push_of_some _ (s3.extBut b u n (s2.extBut b u n q))
  show wpAny _ _ (Builtin.SmallTypes.ownedTupleIsFree (.ref e) >>= fun t => _) _ _ ⟨g3.push { cls := .type "tuple", data := .seq #[.int c t0, x] }, g, d, t0 + 1, os⟩
  rw [size, ← h4]
  refine wpAny_bind ?_
  unfold Builtin.SmallTypes.ownedTupleIsFree
  refine wpAny_bind (wpAny_field e4 rfl (x := .none) rfl (wpAny_pure ?_))
  simp only [if_true]
  refine wpAny_bind (wpAny_rule (wpAny_bind (wpAny_field e4 rfl (x := old) rfl (wpAny_bind (wpAny_setField_rec e4 (by simp) fun g5 e5 s5 => ?_)))))
  replace s5 : Heap.SameBut e g4 g5 := s5
  replace e5 : IsEnum g5 e it (c + 1) x := e5
  show wpAny _ _ (Builtin.SmallTypes.ownedTupleHandOut (.ref e) (.ref g1.objs.size) >>= fun t => _) _ _ ⟨g5, g, d, t0 + 1, os⟩
  refine wpAny_bind ?_
  unfold Builtin.SmallTypes.ownedTupleHandOut
  refine wpAny_bind (wpAny_setField_rec e5 (by simp) fun g6 e6 s6 => ?_)
  replace s6 : Heap.SameBut e g5 g6 := s6
  replace e6 : IsEnumOut g6 e it (c + 1) x g1.objs.size := e6
  refine wpAny_setField_rec e6 (by simp) fun g7 e7 s7 => ?_
  replace s7 : Heap.SameBut e g6 g7 := s7
  replace e7 : IsEnumOut g7 e it (c + 1) x g1.objs.size := e7
  have up : ∀ b u, b ≠ e → g4.get? b = some u → g7.get? b = some u := fun b u n q => s7.extBut b u n (s6.extBut b u n (s5.extBut b u n q))
  refine wpAny_bind (wpAny_letGo (wpAny_pure ⟨_, rfl, then_ x g1 g7 px le e7 (up _ _ (Nat.ne_of_gt low) t4) ?_ fun b u n q => up b u n (k4 b u n q)⟩))
  rw [s7.1, s6.1, s5.1, n4]
theorem py_next {e it : Addr} {c : Int} {old : Value} {P : Value → Heap → Prop} {R : Option Value → Shared → Prop} (ae : IsEnum s.heap e it c old)
    (inner : ∀ F : Value → Shared → Prop, ∀ E' : Value → Shared → Prop, (∀ x h', P x h' → s.heap.objs.size ≤ h'.objs.size → h'.get? e = s.heap.get? e → F x { s with heap := h' }) → wpAny (model prog w) A.in1 (Builtin.SmallTypes.nextOf (.ref it)) F E' s)
    (then_ : ∀ x g1 h', P x g1 → s.heap.objs.size ≤ g1.objs.size → IsEnumOut h' e it (c + 1) x g1.objs.size → h'.get? g1.objs.size = some { cls := .type "tuple", data := .seq #[.int c s.toks, x] } →
      h'.objs.size = g1.objs.size + 1 → (∀ b u, b ≠ e → g1.get? b = some u → h'.get? b = some u) → R (some (.ref g1.objs.size)) { s with heap := h', toks := s.toks + 1 }) :
    wpAny (model prog w) A (pyNext (.ref e)) R E s := by
  have ty : s.TypeIs (.ref e) "enumerate" := ⟨_, ae, rfl⟩
  unfold pyNext
  refine wpAny_bind (wpAny_attempt (wpAny_callSpecial?_slot (name := Str.ofString "__next__") ty F.slot_enumerate_next (wpAny_call_entry F.slot_enumerate_next ty F.entry_enumerate_next ?_ (F.args_enumerate_next_1 _))))
  exact enum_next ae (fun F => inner F _) fun x g1 h' a1 a2 a3 a4 a5 a6 => wpAny_pure (then_ x g1 h' a1 a2 a3 a4 a5 a6)
theorem py_end {e it : Addr} {c : Int} {old : Value} {P : Heap → Prop} {R : Option Value → Shared → Prop} (ae : IsEnum s.heap e it c old)
    (inner : ∀ F E' : Value → Shared → Prop, (∀ h' x, P h' → (∃ u, h'.get? x = some u ∧ u.cls = .type "StopIteration") → E' (.ref x) { s with heap := h' }) → wpAny (model prog w) A.in1 (Builtin.SmallTypes.nextOf (.ref it)) F E' s)
    (then_ : ∀ h', P h' → R none { s with heap := h' }) : wpAny (model prog w) A (pyNext (.ref e)) R E s := by
  have ty : s.TypeIs (.ref e) "enumerate" := ⟨_, ae, rfl⟩
  unfold pyNext
  refine wpAny_bind (wpAny_attempt (wpAny_callSpecial?_slot (name := Str.ofString "__next__") ty F.slot_enumerate_next (wpAny_call_entry F.slot_enumerate_next ty F.entry_enumerate_next ?_ (F.args_enumerate_next_1 _))))
  show wpAny _ _ (field (.ref e) 2 >>= fun t => _) _ _ _
  refine wpAny_bind (wpAny_field ae rfl (x := .ref it) rfl (wpAny_bind (inner _ _ fun h' x ph hx => ?_)))
  obtain ⟨u, gu, cu⟩ := hx
  exact wpAny_bind (wpAny_isInstance (T := "StopIteration") (b := true) ⟨u, gu, cu⟩ isSubtype_stop (wpAny_pure (then_ _ ph)))
/-- enumerate(z), z a zip: one new cell -/
theorem new_over {z TI TO : Addr} {o : Value} (az : IsZip s.heap z TI TO o) {R : Value → Shared → Prop}
    (then_ : ∀ h', IsEnum h' s.heap.objs.size z 0 .none → h'.objs.size = s.heap.objs.size + 1 → (∀ b u, s.heap.get? b = some u → h'.get? b = some u) → R (.ref s.heap.objs.size) { s with heap := h' }) :
    wpAny (model prog w) A (call (.type "enumerate") [.ref z]) R E s := by
  have M : Meets (Builtin.«enumerate.__new__» ⟨[.type "enumerate", .ref z], []⟩) (fun _ R s => IsZip s.heap z TI TO o ∧ R (.ok (.ret (.ref s.heap.objs.size))) { s with heap := s.heap.push { cls := .type "enumerate", data := .fields #[.none, .bool false, .ref z, rawInt 0, .none, .none] } }) :=
    .of_wp fun prog w A R s h => by
      obtain ⟨hp, g, d, tk, os⟩ := s
      obtain ⟨h1, h⟩ := h
      have hsub := sub_enumerate
      have q1 : ∀ {A' : Around} {E : Value → Shared → Prop} {Q : Value → Shared → Prop}, Q (.ref z) ⟨hp, g, d, tk, os⟩ → wpAny (model prog w) A' (pyIter (.ref z)) Q E ⟨hp, g, d, tk, os⟩ := fun q => wpAny_pyIter_zip (s := ⟨hp, g, d, tk, os⟩) h1 q
      wp_walk using q1
      refine wpAny_stack_any fun top => wpAny_pure ?_
      split <;> first
        | (wp_walk using q1; exact ⟨_, rfl, h⟩)
        | (rename_i own _ _ _ _ _
           cases (own == Value.type "enumerate") <;> (wp_walk using q1; exact ⟨_, rfl, h⟩))
  refine callType_new F.called_enumerate (by decide) (F.typeCall_enumerate_1 _) (F.newCall_enumerate_1 _) (fun obj => F.args_object_init_2 obj _) F.entry_enumerate_new M ⟨az, ?_⟩
  have he : IsEnum (s.heap.push { cls := .type "enumerate", data := .fields #[.none, .bool false, .ref z, rawInt 0, .none, .none] }) s.heap.objs.size z 0 .none := Heap.get?_push_size _ rfl
  refine ⟨⟨_, he, rfl⟩, then_ _ he (Heap.size_push ..) fun b u q => Heap.get?_push_of_some _ q⟩
end
end EnZ

namespace EnZ
open PySem PySem.Spec PyProof PyProof.Rows L2 LcM
/-- enumerate(zip(a, b)): each pair new, and the place and the pair in a new tuple -/
def ItZ (K : PySem.W.Frag) (a b : Addr) : It where
  go := fun i H => ∃ (xs ys : List V) (x y : V), SqL K H a xs ∧ SqL K H b ys ∧ xs[i]? = some x ∧ ys[i]? = some y
  yld := fun i H v H' => ∃ S T x y, v = .ref T ∧ H S = none ∧ H T = none ∧ S ≠ T ∧ H' = upd (upd H S (.tup [x, y])) T (.tup [.int (i : Nat), .ref S]) ∧ (∀ xs, SqL K H a xs → xs[i]? = some x) ∧ ∀ ys, SqL K H b ys → ys[i]? = some y
  stop := fun i H => ∃ xs ys : List V, SqL K H a xs ∧ SqL K H b ys ∧ (xs.length ≤ i ∨ ys.length ≤ i)
theorem turn_enZ {P : Program} {w : World} {K : PySem.W.Frag} {elts : List Expr} {kk : Nat} {tpos : Pos} {a b e z TI TO i1 i2 : Addr} (D : ZipApart z TI TO i1 i2 a b) (ez : e ≠ z) (eI : e ≠ TI) (eO : e ≠ TO) (e1 : e ≠ i1) (e2 : e ≠ i2) :
    Turn P w K (.Tuple elts kk tpos) (ItZ K a b) [e, z, TI, TO, i1, i2] e (fun i h => (∃ old, IsEnum h e z (i : Nat) old) ∧ ZSt h z TI TO i1 i2 a b i) where
  mem := by simp
  obj := fun i h st c hc => by
    obtain ⟨⟨old, ie⟩, ⟨o, f, az, _⟩, aI, ⟨x, y, aO⟩, ⟨o1, g1, _, d1⟩, ⟨o2, g2, _, d2⟩⟩ := st
    have q : c = e ∨ c = z ∨ c = TI ∨ c = TO ∨ c = i1 ∨ c = i2 := by simpa using hc
    rcases q with q | q | q | q | q | q <;> rw [q]
    · exact ⟨_, ie, fun v t => nomatch t⟩
    · exact ⟨_, az, fun v t => nomatch t⟩
    · exact ⟨_, aI, fun v t => nomatch t⟩
    · exact ⟨_, aO, fun v t => nomatch t⟩
    · exact ⟨o1, g1, fun v t => by rw [d1] at t; cases t⟩
    · exact ⟨o2, g2, fun v t => by rw [d2] at t; cases t⟩
  keep := fun i h h' st k => by
    obtain ⟨⟨old, ie⟩, ⟨o, f, az, ho⟩, aI, ⟨x, y, aO⟩, l1, l2⟩ := st
    exact ⟨⟨old, k e (by simp) _ ie⟩, ⟨o, f, k z (by simp) _ az, ho⟩, k TI (by simp) _ aI, ⟨x, y, k TO (by simp) _ aO⟩, l1.at fun u q => k i1 (by simp) u q, l2.at fun u q => k i2 (by simp) u q⟩
  item := by
    intro X hP hw hK hc i pins s σ H E I hf st hg
    subst hP hw hK
    obtain ⟨⟨old, ie⟩, zs⟩ := st
    obtain ⟨xs, ys, x, y, qx, qy, hx, hy⟩ := hg
    obtain ⟨its, rv, p1, _⟩ := I.list qx
    obtain ⟨its2, rv2, p2, _⟩ := I.list qy
    obtain ⟨u, hu, ru⟩ := rv.get hx
    obtain ⟨u2, hu2, ru2⟩ := rv2.get hy
    have lowE : e < s.heap.objs.size := Heap.lt_size ie
    have lowAll : ∀ c ∈ [e, z, TI, TO, i1, i2], c < s.heap.objs.size := fun c hc => by
      obtain ⟨⟨o, f, az, _⟩, aI, ⟨x0, y0, aO⟩, ⟨o1, g1, _, d1⟩, ⟨o2, g2, _, d2⟩⟩ := zs
      have q : c = e ∨ c = z ∨ c = TI ∨ c = TO ∨ c = i1 ∨ c = i2 := by simpa using hc
      rcases q with q | q | q | q | q | q <;> rw [q]
      · exact lowE
      · exact Heap.lt_size az
      · exact Heap.lt_size aI
      · exact Heap.lt_size aO
      · exact Heap.lt_size g1
      · exact Heap.lt_size g2
    refine py_next (P := fun v g1 => v = .ref s.heap.objs.size ∧ ZSt g1 z TI TO i1 i2 a b (i + 1) ∧ IsPair g1 s.heap.objs.size u u2 ∧ g1.objs.size = s.heap.objs.size + 1 ∧ ∀ c o, c ≠ z → c ≠ TO → c ≠ i1 → c ≠ i2 → s.heap.get? c = some o → g1.get? c = some o) ie
      (fun F E' k => next_item D zs p1.isList p2.isList (by simpa using hu) (by simpa using hu2) fun h' b1 b2 b3 b4 => k _ h' ⟨rfl, b1, b2, b3, b4⟩ (by omega) ((b4 e _ ez eO e1 e2 ie).trans ie.symm)) fun v g1 h' pv le eo tup sz up => ?_
    obtain ⟨rfl, zs1, pair, size, kp⟩ := pv
    refine ⟨_, rfl, wpAny_letOwnedTupleGo_enum (s := { s with heap := h', toks := s.toks + 1 }) eo fun h2 ie2 sb => ?_⟩
    replace sb : Heap.SameBut e h' h2 := sb
    have nS : s.heap.objs.size ≠ g1.objs.size := by omega
    have hS : H s.heap.objs.size = none := I.hok.fresh (Nat.le_refl _)
    have hT : H g1.objs.size = none := I.hok.fresh le
    have up2 : ∀ c o, c ≠ e → g1.get? c = some o → h2.get? c = some o := fun c o n q => (sb.2 c n).trans (up c o n q)
    have I1 : Inv X pins σ (upd H s.heap.objs.size (.tup [x, y])) { s with heap := g1 } :=
      I.turnedNew (t' := s.toks) (ch := [z, TO, i1, i2]) (fun c o hb q => kp c o (fun t => hb (by simp [t])) (fun t => hb (by simp [t])) (fun t => hb (by simp [t])) (fun t => hb (by simp [t])) q) (fun c hc => hf c (by
        have q : c = z ∨ c = TO ∨ c = i1 ∨ c = i2 := by simpa using hc
        rcases q with q | q | q | q <;> rw [q] <;> simp)) (Nat.le_refl _) ⟨by show 2 ≤ sizeLine; decide, [u, u2], .cons ru (.cons ru2 .nil), ⟨_, pair, rfl, _, rfl⟩⟩
    have tup2 : h2.get? g1.objs.size = some { cls := .type "tuple", data := .seq #[.int (i : Nat) s.toks, .ref s.heap.objs.size] } := (sb.2 _ (Nat.ne_of_gt (Nat.lt_of_lt_of_le lowE le))).trans tup
    have fe := hf e (by simp)
    have I2 : Inv X pins σ (upd (upd H s.heap.objs.size (.tup [x, y])) g1.objs.size (.tup [.int (i : Nat), .ref s.heap.objs.size])) { s with heap := h2, toks := s.toks + 1 } :=
      I1.turnedNew (t' := s.toks + 1) (ch := [e]) (fun c o hb q => up2 c o (fun t => hb (by simp [t])) q) (fun c hc => by
        have q : c = e := by simpa using hc
        rw [q]
        exact ⟨by rw [upd_ne (Nat.ne_of_lt lowE)]; exact fe.1, fe.2⟩) (Nat.le_refl _) ⟨by show 2 ≤ sizeLine; decide, [.int (i : Nat) s.toks, .ref s.heap.objs.size], .cons ⟨_, rfl⟩ (.cons rfl .nil), ⟨_, tup2, rfl, _, rfl⟩⟩
    refine ⟨.ref g1.objs.size, _, I2, rfl, ⟨_, _, x, y, rfl, hS, hT, nS, rfl, fun l hl => by rw [I.list_inj hl qx]; exact hx, fun l hl => by rw [I.list_inj hl qy]; exact hy⟩, ⟨⟨_, ie2⟩, ?_⟩, fun c hc => ?_⟩
    · obtain ⟨⟨o, f, az, ho⟩, aI, ⟨x0, y0, aO⟩, l1, l2⟩ := zs1
      exact ⟨⟨o, f, up2 _ _ ez.symm az, ho⟩, up2 _ _ eI.symm aI, ⟨x0, y0, up2 _ _ eO.symm aO⟩, l1.at fun u q => up2 _ u e1.symm q, l2.at fun u q => up2 _ u e2.symm q⟩
    · have low := lowAll c hc
      rw [upd_ne (Nat.ne_of_lt (Nat.lt_of_lt_of_le low le)), upd_ne (Nat.ne_of_lt low)]
      exact (hf c hc).1
  done := by
    intro X hP hw hK hc i pins s σ H E I hf st hg
    subst hP hw hK
    obtain ⟨⟨old, ie⟩, zs⟩ := st
    obtain ⟨xs, ys, qx, qy, no⟩ := hg
    obtain ⟨its, rv, p1, _⟩ := I.list qx
    obtain ⟨its2, rv2, p2, _⟩ := I.list qy
    have l1 := rv.length
    have l2 := rv2.length
    have he : its.toArray[i]? = none ∨ its2.toArray[i]? = none := no.imp (fun q => by simp; omega) fun q => by simp; omega
    exact py_end (P := fun h' => ∀ c o, c ≠ z → c ≠ TO → c ≠ i1 → c ≠ i2 → s.heap.get? c = some o → h'.get? c = some o) ie (fun F E' k => next_end (by exact I.ok.hd hc) D zs p1.isList p2.isList he fun h' x kp hx => k h' x kp hx) fun h' kp =>
      ⟨rfl, I.turnedL (t' := s.toks) (ch := [z, TO, i1, i2]) (fun c o hb q => kp c o (fun t => hb (by simp [t])) (fun t => hb (by simp [t])) (fun t => hb (by simp [t])) (fun t => hb (by simp [t])) q) fun c hc => hf c (by
        have q : c = z ∨ c = TO ∨ c = i1 ∨ c = i2 := by simpa using hc
        rcases q with q | q | q | q <;> rw [q] <;> simp)⟩
  self := fun A i s Q E st q => by
    obtain ⟨⟨old, ie⟩, _⟩ := st
    exact wpAny_pyIter_enum ie q
def iEnZ (K : PySem.W.Frag) (ta : TA) : TI := fun σ H R => ta σ H fun vs H1 => ∃ a b xs ys, vs = [.ref a, .ref b] ∧ SqL K H1 a xs ∧ SqL K H1 b ys ∧ R (ItZ K a b) H1
/-- an expression that gives a new zip of two lists -/
def EvZ (X : Cx) (ze : Expr) (ta : TA) : Prop := ∀ (pins : List (Addr × Obj)) (s : Shared) (σ : L2.St) (H : Hp) (R : It → Hp → Prop), Inv X pins σ H s → iEnZ X.K ta σ H R → wpAny (model X.prog X.w) X.A (eval ze X.env) (fun v s1 => ∃ (n a b : Nat) (H1 : Hp), v = .ref (n + 4) ∧ Inv X pins σ H1 s1 ∧ s1.heap.objs.size = n + 5 ∧ a < n ∧ b < n ∧
  IsZip s1.heap (n + 4) (n + 2) (n + 3) .none ∧ IsPair s1.heap (n + 2) (.ref n) (.ref (n + 1)) ∧ (∃ x y, IsPair s1.heap (n + 3) x y) ∧ s1.heap.IsListIter n a 0 ∧ s1.heap.IsListIter (n + 1) b 0 ∧ (∀ c : Nat, n ≤ c → FpOk X pins H1 c) ∧ R (ItZ X.K a b) H1) X.xe s
theorem ev_zip {X : Cx} {e e2 : Expr} {ta : TA} {zp zpos : Pos} (gz : Gl X "zip") (mz : X.mg "zip" = none) (ha : PA X [e, e2] ta)
    (hs : starEach [e, e2] X.env = (false, eval e X.env) :: starEach [e2] X.env := by rfl) (hpl : (backTo zpos (starEach [e2] X.env)).any (·.1) = false := by rfl) : EvZ X (.Call (.Name "zip" zp) [e, e2] [] zpos) ta := by
  intro pins s σ H R I h
  refine Call_ (ld_blt I gz mz PyProof.Rows.boot_zip (PyProof.Rows.callWith_type1 (thn (ha.run zpos pins s σ H _ I h) fun us s1 ⟨vs, H1, I1, r1, q1⟩ => ?_) hs hpl))
  obtain ⟨a, b, xs, ys, rfl, hqx, hqy, q⟩ := q1
  cases r1 with
  | cons ra rr =>
  cases rr with
  | cons rb rr =>
    cases rr
    cases ra
    cases rb
    obtain ⟨its, rv, p1, _⟩ := I1.list hqx
    obtain ⟨its2, rv2, p2, _⟩ := I1.list hqy
    refine call_zip_2 p1.isList p2.isList fun h' hz hI hO h1 h2 size kp => ?_
    exact ⟨s1.heap.objs.size, a, b, H1, rfl, I1.kept (t' := s1.toks) kp, size, p1.lt, p2.lt, hz, hI, ⟨_, _, hO⟩, h1, h2, fun c low => I1.fpOk low (I1.hok.fresh low), q⟩
theorem pi_enZ {X : Cx} {ze : Expr} {ta : TA} {p pos tpos : Pos} {elts : List Expr} {kk : Nat} (ge : Gl X "enumerate") (me : X.mg "enumerate" = none) (hz : EvZ X ze ta)
    (hs : starEach [ze] X.env = (false, eval ze X.env) :: starEach [] X.env := by rfl) : PI X (.Tuple elts kk tpos) (.Call (.Name "enumerate" p) [ze] [] pos) (iEnZ X.K ta) := by
  refine ⟨fun pins s σ H R I h => ?_⟩
  refine Call_ (ld_blt (u := Value.type "enumerate") I ge me (by decide +kernel) (PyProof.Rows.callWith_type1 ?_ hs rfl))
  rw [hs]
  show wpAny _ _ (spliced ((false, eval ze X.env) :: backTo pos (starEach [] X.env))) _ _ s
  refine Calls.spliced_cons (thn (hz pins s σ H R I h) fun v s1 hv => ?_)
  obtain ⟨n, a, b, H1, rfl, I1, size, la, lb, az, aI, aO, h1, h2, fp, q⟩ := hv
  refine Calls.spliced_nil ?_
  refine new_over az fun h2' he size2 kp2 => ?_
  have I2 : Inv X pins σ H1 { s1 with heap := h2' } := I1.kept (t' := s1.toks) kp2
  refine wpAny_pyIter_enum (s := { s1 with heap := h2' }) he ?_
  obtain ⟨x0, y0, aO⟩ := aO
  have ne : ∀ j : Nat, j < 5 → s1.heap.objs.size ≠ n + j := fun j hj t => by
    rw [size] at t
    omega
  refine ⟨s1.heap.objs.size, [s1.heap.objs.size, n + 4, n + 2, n + 3, n, n + 1], _, _, H1, rfl, I2,
    turn_enZ (PySem.W.ktu_apart n a b la lb) (ne 4 (by decide)) (ne 2 (by decide)) (ne 3 (by decide)) (ne 0 (by decide)) (ne 1 (by decide)), ⟨⟨_, he⟩, ⟨_, _, kp2 _ _ az, .inl rfl⟩, kp2 _ _ aI, ⟨x0, y0, kp2 _ _ aO⟩, h1.at fun u t => kp2 _ u t, h2.at fun u t => kp2 _ u t⟩, fun c hc => ?_, q⟩
  have z : c = s1.heap.objs.size ∨ c = n + 4 ∨ c = n + 2 ∨ c = n + 3 ∨ c = n ∨ c = n + 1 := by simpa using hc
  have low : n ≤ c := by
    rcases z with z | z | z | z | z | z <;> rw [z]
    · rw [size]
      exact Nat.le_add_right _ _
    · exact Nat.le_add_right _ _
    · exact Nat.le_add_right _ _
    · exact Nat.le_add_right _ _
    · exact Nat.le_refl _
    · exact Nat.le_add_right _ _
  exact fp c low
end EnZ

namespace EnZ
open PySem PySem.Spec PyProof PyProof.Rows L2 LcM
section
variable {K : PySem.W.Frag} {a b : Addr} {xs ys : List V} {g : TG} {te : TE} {vs : List Nat} {σ : L2.St} {H0 : Hp} {D : Addr} {Qd : Hp → Prop}
/-- [e for i, (x, y) in enumerate(zip(xs, ys))], by the value of each turn -/
theorem lc_enZM (F : Nat → V) (hD : H0 D = none) (hx : SqL K H0 a xs) (hy : SqL K H0 b ys) (small : xs.length ≤ 1000000)
    (turn : ∀ (i : Nat) (x y : V) (S T : Addr) (H : Hp) (R : V → Hp → Prop), xs[i]? = some x → ys[i]? = some y → Grows H0 H → H S = none → H T = none → S ≠ T → (∀ H4, Grows (upd (upd H S (.tup [x, y])) T (.tup [.int (i : Nat), .ref S])) H4 → R (F i) H4) →
      g (.ref T) (wipe σ vs) (upd (upd H S (.tup [x, y])) T (.tup [.int (i : Nat), .ref S])) fun σ2 H2 => wipe σ2 vs = wipe σ vs ∧ te σ2 H2 R)
    (done : ∀ H, Grows H0 H → H D = some (.lst ((List.range (min xs.length ys.length)).map F)) → Qd H) :
    ∃ W : Nat → Nat → Hp → Prop, (∃ m, W 0 m (upd H0 D (.lst []))) ∧ ∀ i m H, W i m H →
      ((ItZ K a b).stop i H ∧ Qd H) ∨ ((ItZ K a b).go i H ∧ ∃ Nx : Hp → Prop, (∀ H', Nx H' → ∃ m', m' < m ∧ W (i + 1) m' H') ∧ ∀ x H', (ItZ K a b).yld i H x H' → g x (wipe σ vs) H' fun σ2 H2 => wipe σ2 vs = wipe σ vs ∧ tYes σ2 H2 fun b H3 =>
        if b = true then te σ2 H3 fun y H4 => ∃ acc, H4 D = some (.lst acc) ∧ acc.length < sizeLine ∧ Nx (upd H4 D (.lst (acc ++ [y]))) else Nx H3) := by
  refine ⟨fun i m H => m = min xs.length ys.length - i ∧ i ≤ min xs.length ys.length ∧ Ma H0 D F i H, ⟨_, rfl, Nat.zero_le _, Ma.start hD⟩, ?_⟩
  rintro i m H ⟨rfl, hi, ma⟩
  have qx : SqL K H a xs := ma.1.seq hx
  have qy : SqL K H b ys := ma.1.seq hy
  rcases Nat.lt_or_ge i (min xs.length ys.length) with lt | ge
  · have l1 : i < xs.length := Nat.lt_of_lt_of_le lt (Nat.min_le_left _ _)
    have l2 : i < ys.length := Nat.lt_of_lt_of_le lt (Nat.min_le_right _ _)
    refine .inr ⟨⟨xs, ys, _, _, qx, qy, List.getElem?_eq_getElem l1, List.getElem?_eq_getElem l2⟩, Ma H0 D F (i + 1), fun H' p => ⟨min xs.length ys.length - (i + 1), by omega, rfl, lt, p⟩, fun v H' yy => ?_⟩
    obtain ⟨S, T, x, y, rfl, hS, hT, ne, rfl, sx, sy⟩ := yy
    rw [yes_eq (A := fun σ2 => wipe σ2 vs = wipe σ vs)]
    have gr : Grows H (upd (upd H S (.tup [x, y])) T (.tup [.int (i : Nat), .ref S])) := (Grows.new hS).trans (Grows.new (by rw [upd_ne ne.symm]; exact hT))
    exact turn i x y S T H _ (sx xs qx) (sy ys qy) ma.1 hS hT ne fun H4 s => ma.more hD (gr.trans s) (Nat.lt_of_lt_of_le l1 small)
  · have e : i = min xs.length ys.length := by omega
    subst e
    refine .inl ⟨⟨xs, ys, qx, qy, ?_⟩, done H ma.1 ma.2⟩
    rcases Nat.le_total xs.length ys.length with q | q
    · exact .inl (by rw [Nat.min_eq_left q]; exact Nat.le_refl _)
    · exact .inr (by rw [Nat.min_eq_right q]; exact Nat.le_refl _)
end
end EnZ

/-! Masks of ascending lists, bit by bit. -/
namespace LcM
open PySem
def mk (ns : List Nat) : Nat := (ns.map (2 ^ ·)).sum
theorem mk_cons (x : Nat) (xs : List Nat) : mk (x :: xs) = 2 ^ x + mk xs := by
  unfold mk
  rw [List.map_cons, List.sum_cons]
theorem mk_dvd (y : Nat) : ∀ xs : List Nat, (∀ z ∈ xs, y ≤ z) → 2 ^ y ∣ mk xs
  | [], _ => ⟨0, rfl⟩
  | x :: xs, h => by
    rw [mk_cons]
    exact Nat.dvd_add (Nat.pow_dvd_pow 2 (h x List.mem_cons_self)) (mk_dvd y xs fun z hz => h z (List.mem_cons_of_mem _ hz))
theorem mk_bit : ∀ (xs : List Nat) (i : Nat), xs.Pairwise (· < ·) → (mk xs).testBit i = decide (i ∈ xs)
  | [], i, _ => by
    show Nat.testBit 0 i = _
    rw [Nat.zero_testBit]
    rfl
  | x :: xs, i, h => by
    obtain ⟨h1, h2⟩ := List.pairwise_cons.mp h
    have ih := mk_bit xs i h2
    obtain ⟨k, hk⟩ := mk_dvd (x + 1) xs fun z hz => h1 z hz
    rw [mk_cons, Nat.add_comm, hk, Nat.testBit_two_pow_mul_add k (Nat.pow_lt_pow_right (by decide) (Nat.lt_succ_self x))]
    rw [hk] at ih
    by_cases l : i < x + 1
    · rw [if_pos l, Nat.testBit_two_pow]
      have no : i ∉ xs := fun z => by
        have := h1 i z
        omega
      by_cases e : x = i
      · rw [decide_eq_true e, e, decide_eq_true List.mem_cons_self]
      · rw [decide_eq_false e, decide_eq_false fun z => (List.mem_cons.mp z).elim (fun q => e q.symm) no]
    · rw [if_neg l]
      have z := Nat.testBit_two_pow_mul_add k (b := 0) (i := x + 1) (Nat.two_pow_pos _) i
      rw [if_neg l, Nat.add_zero] at z
      rw [← z, ih]
      have ne : i ≠ x := by omega
      by_cases m : i ∈ xs
      · rw [decide_eq_true m, decide_eq_true (List.mem_cons_of_mem _ m)]
      · rw [decide_eq_false m, decide_eq_false fun q => (List.mem_cons.mp q).elim ne m]
/-- masks of lists that do not cross -/
theorem mk_and {xs ys : List Nat} (hx : xs.Pairwise (· < ·)) (hy : ys.Pairwise (· < ·)) (h : (∀ z ∈ xs, z ∉ ys) ∨ (∀ z ∈ xs, z ∈ ys) ∨ ∀ z ∈ ys, z ∈ xs) : mk xs &&& mk ys = 0 ∨ mk xs &&& mk ys = mk xs ∨ mk xs &&& mk ys = mk ys := by
  have bit : ∀ i, (mk xs &&& mk ys).testBit i = (decide (i ∈ xs) && decide (i ∈ ys)) := fun i => by rw [Nat.testBit_and, mk_bit xs i hx, mk_bit ys i hy]
  rcases h with h | h | h
  · refine .inl (Nat.eq_of_testBit_eq fun i => ?_)
    rw [bit, Nat.zero_testBit]
    by_cases m : i ∈ xs
    · rw [decide_eq_false (h i m), Bool.and_false]
    · rw [decide_eq_false m, Bool.false_and]
  · refine .inr (.inl (Nat.eq_of_testBit_eq fun i => ?_))
    rw [bit, mk_bit xs i hx]
    by_cases m : i ∈ xs
    · rw [decide_eq_true m, decide_eq_true (h i m)]
      rfl
    · rw [decide_eq_false m, Bool.false_and]
  · refine .inr (.inr (Nat.eq_of_testBit_eq fun i => ?_))
    rw [bit, mk_bit ys i hy]
    by_cases m : i ∈ ys
    · rw [decide_eq_true m, decide_eq_true (h i m)]
      rfl
    · rw [decide_eq_false m, Bool.and_false]
end LcM

/-! sorted(d.values()), the values lists of ints. -/
namespace SortR
open PySem PySem.Spec PyProof.Rows L2 PySem.W
theorem kv_vals {κ : Type} {kvs : List (κ × V)} {vs : List (κ × Value)} (r : KV kvs vs) : Vals (kvs.map (·.2)) (vs.map (·.2)) := by
  unfold KV at r
  induction r with
  | nil => exact .nil
  | cons h _ ih => exact .cons h.2 ih
section
variable {X : Cx} {o : Expr} {p pos apos mpos : Pos} {td : TE}
/-- sorted(o.values()), a dict of lists of ints -/
def tSortVals (td : TE) : TE := fun σ H Q => td σ H fun x H1 => ∃ (a : Addr) (kvs : List (Key × V)) (bs : List (Addr × List Int)), x = V.ref a ∧ H1 a = some (.dK kvs) ∧ kvs.map (·.2) = bs.map (fun b => V.ref b.1) ∧ (∀ b ∈ bs, H1 b.1 = some (.lst (b.2.map V.int))) ∧
  ∀ p, H1 p = none → Q (.ref p) (upd H1 p (.lst ((bs.mergeSort rowLe).map fun b => V.ref b.1)))
theorem pe_sortVals (hu : X.A.units + 64 < cLine) (calm : X.calm = true) (hg : Gl X "sorted") (hm : X.mg "sorted" = none) (hd : PE X o td) (hbase : attributeBase o "values" X.env (eval o X.env) = eval o X.env := by rfl) (hline : (apos.endLine == mpos.line) = true := by rfl)
    (hse : starEach [Expr.Call (.Attribute o "values" apos) [] [] mpos] X.env = [(false, eval (Expr.Call (.Attribute o "values" apos) [] [] mpos) X.env)] := by rfl) :
    PE X (.Call (.Name "sorted" p) [.Call (.Attribute o "values" apos) [] [] mpos] [] pos) (tSortVals td) := by
  refine ⟨fun pins s σ H Q I h => ?_⟩
  refine wpAny_Call_Name_kw (ld_blt I hg hm (u := .builtin "sorted") (by first | rfl | decide +kernel) ?_ (by first | decide +kernel | decide) (by first | decide +kernel | decide))
  rw [hse]
  refine PySem.callWith_builtin1 (wpAny_Call_method0_late hbase hline (thn (hd.run pins s σ H _ I h) fun v s1 ⟨x, H1, I1, r1, a, kvs, bs, ex, ha, hv, hb, q⟩ => ?_))
  subst ex
  obtain rfl : v = Value.ref a := r1
  obtain ⟨few, hsys, vs, rel, dof⟩ := dk_of I1.hok ha
  obtain ⟨ep, dat⟩ := dof.dictAt
  obtain ⟨ob, es, ho, ex, _⟩ := id dat
  have old : ∀ c w, s1.heap.get? c = some w → (s1.heap.push { cls := .type "dict_values", data := .fields #[.ref a] }).get? c = some w := fun c w => Heap.get?_push_of_some _
  refine ⟨"dict", "dict.values", F.plainAttrs_dict, F.slot_dict_values, F.type_dict_values, ⟨ob, ho, ex.1⟩, fun c at_c => (by cases at_c; exact ⟨ob, ho, ex.2.1⟩),
    Calls.callWith_builtin rfl (PySem.evalArgs_none (call_meetsIn F.slot_dict_values ⟨ob, ho, ex.1⟩ F.entry_dict_values (F.args_dict_values_1 _) (meets_dict_values (mixKind X.prog X.w) a hsys) ⟨⟨vs, dof⟩, ?_⟩))⟩
  have lv : vs.length = bs.length := by
    have e1 := congrArg List.length hv
    rw [List.length_map, List.length_map] at e1
    rw [← e1]
    exact (KV.length rel).symm
  have fits : bs.length ≤ sizeLine := by
    rw [← lv, ← KV.length rel]
    exact few
  have I2 : Inv X pins σ H1 { s1 with heap := s1.heap.push { cls := .type "dict_values", data := .fields #[.ref a] } } := I1.kept (t' := s1.toks) old
  refine Calls.call_function_entry PyProof.Rows.kind_sorted PyProof.Rows.plain_sorted PyProof.Rows.entry_sorted (PyProof.Rows.args_sorted1 _) ?_
  unfold Builtin.«sorted»
  refine wpAny_bind (m := checkCount "sorted" 1 1 _) (wpAny_pure (wpAny_bind (kdu_collect (A := X.A.in1) (s := { s1 with heap := s1.heap.push { cls := .type "dict_values", data := .fields #[.ref a] } }) (kdl_values (knd := mixKind X.prog X.w) (kvs := vs) (ep := ep)) (I.ok.hd calm) ⟨⟨_, Heap.get?_push_size _ rfl, rfl, rfl⟩, dat.keep old⟩ (lv ▸ fits) fun h1 tk acc keep it => ?_)))
  have vr : Vals (bs.map fun b => V.ref b.1) acc.toList := by
    rw [kdl_vals_eq (kvs := vs) acc.toList (by rw [Array.length_toList, it.1]) fun j v e => it.2 j v (by rw [← Array.getElem?_toList]; exact e), ← hv]
    exact kv_vals rel
  have len : acc.toList.length = bs.length := by rw [← vr.length, List.length_map]
  have I3 : Inv X pins σ H1 { s1 with heap := h1, toks := tk } := I2.kept keep
  refine wpAny_bind (wpAny_newList ?_ (by rw [len]; exact fits))
  have at_p : (h1.push (seqObj "list" acc.toList.toArray 0)).get? h1.objs.size = some (seqObj "list" acc.toList.toArray 0) := Heap.get?_push_size _ rfl
  have old : ∀ b u, h1.get? b = some u → b ≠ h1.objs.size ∧ (h1.push (seqObj "list" acc.toList.toArray 0)).get? b = some u := fun b u e => ⟨Nat.ne_of_lt (Heap.lt_size e), Heap.get?_push_of_some _ e⟩
  have each : EachIs (fun v (b : Addr × List Int) => v = Value.ref b.1 ∧ True) acc.toList bs := by
    exact vals_each (h := s1.heap) (K := X.K) (H := H1) (P := fun _ => True) vr fun _ _ => trivial
  obtain ⟨hS, ehS⟩ : ∃ z, z = sortingHeap (h1.push (seqObj "list" acc.toList.toArray 0)) h1.objs.size acc.toList := ⟨_, rfl⟩
  have reads : EachIs (fun v (b : Addr × List Int) => ∃ rs, Reads hS v (PyData.list (b.2.map .int)) rs) acc.toList bs := by
    have each2 : EachIs (fun v (b : Addr × List Int) => v = Value.ref b.1 ∧ H1 b.1 = some (.lst (b.2.map V.int))) acc.toList bs := by
      exact vals_each (h := s1.heap) (K := X.K) (H := H1) vr hb
    refine each_mono each2 fun v b ⟨ev, hb⟩ => ?_
    rw [ev]
    obtain ⟨rs, rr⟩ := Dp.reads I3 (PyData.list (b.2.map .int)) (.ref b.1) (.ref b.1) (.lst (SqL.of hb) (rows_dp b.2)) rfl
    refine ⟨rs, PyProof.Rows.Reads.keeps (fun c u e => ?_) rr⟩
    rw [ehS]
    obtain ⟨n1, n2⟩ := old c u e
    exact sortingHeap_old n1 n2
  have alikeAll_ : AllAlike (bs.map fun b => PyData.list (b.2.map .int)) := AllAlike.of enc_alike
  have sortable : Sortable (bs.map fun b => PyData.list (b.2.map .int)) := Sortable.others fun b => ⟨(fun z => nomatch z), fun xs z => nomatch z⟩
  have shallow : ∀ dd ∈ bs.map (fun b => PyData.list (b.2.map .int)), dd.depth = 1 := fun dd hm => by
    obtain ⟨b, _, rfl⟩ := List.mem_map.mp hm
    simp only [PyData.depth, depth_ints]
  show wpAny _ _ _ _ _ { s1 with heap := h1.push (seqObj "list" acc.toList.toArray 0), toks := tk }
  have sorts : ∀ Ar : Around, Ar.units ≤ X.A.units + 8 → SortsAt X.prog X.w Ar { s1 with heap := hS, toks := tk } (dataKind hS (bs.map fun b => PyData.list (b.2.map .int))) acc.toList := fun Ar hA =>
    SortsAt.data (s := { s1 with heap := hS, toks := tk }) (each_map (R := fun v dd => ∃ rs, Reads hS v dd rs) (fun b : Addr × List Int => PyData.list (b.2.map .int)) reads) alikeAll_ sortable fun dd hm => by rw [shallow dd hm]; omega
  rw [ehS] at sorts reads
  have each3 := sortVals_data (R := fun v (b : Addr × List Int) => v = Value.ref b.1 ∧ True) (enc := fun b : Addr × List Int => PyData.list (b.2.map .int)) false each reads alikeAll_
  rw [dataLe_rows (fun b : Addr × List Int => b.2)] at each3
  have back := each_back each3
  have short : ((bs.mergeSort rowLe).map fun b => V.ref b.1).length ≤ sizeLine := by
    rw [List.length_map, List.length_mergeSort]
    exact fits
  refine wpAny_bind (wpAny_holding (wpAny_call_entry PyProof.Rows.slot_list_sort ⟨_, at_p, rfl⟩ PyProof.Rows.entry_list_sort
    (list_sort_vals (s := { s1 with heap := h1.push (seqObj "list" acc.toList.toArray 0), toks := tk }) at_p (sorts _ (by show X.A.units + 1 + 1 ≤ X.A.units + 8; omega)) (by rw [len]; exact fits) ⟨_, rfl, ?_⟩) (PyProof.Rows.args_list_sort _)))
  obtain ⟨n2, at2⟩ := PyProof.Rows.sortedHeap_at (vs := acc.toList) (out := (sortVals (dataKind (sortingHeap (h1.push (seqObj "list" acc.toList.toArray 0)) h1.objs.size acc.toList) (bs.map fun b => PyData.list (b.2.map .int))) false acc.toList acc.toList).toArray) at_p
  refine wpAny_pure ⟨_, rfl, .ref h1.objs.size, upd H1 h1.objs.size (.lst ((bs.mergeSort rowLe).map fun b => V.ref b.1)), I3.laid (t' := tk) (fun b u e => ?_) (Nat.le_refl _) ⟨short, _, n2, back, at2⟩, rfl, q _ (I3.hok.fresh (Nat.le_refl _))⟩
  obtain ⟨n1, g⟩ := old b u e
  rw [PyProof.Rows.sortedHeap_old n1 (Heap.lt_size g)]
  exact g
end
end SortR

/-! math.comb and math.factorial of ints that are not great. -/
namespace MathC
open PySem PySem.Spec PyProof.Rows L2
def rComb : List V → Hp → VK → Prop := fun vs H Q => ∃ a b : Int, vs = [.int a, .int b] ∧ 0 ≤ a ∧ a ≤ 18000 ∧ 0 ≤ b ∧ Q (.int (PySem.W.mcComb a b)) H
def rFact : List V → Hp → VK → Prop := fun vs H Q => ∃ a : Int, vs = [.int a] ∧ 0 ≤ a ∧ a ≤ 20000 ∧ Q (.int ((Builtin.Math.factorialNat a.toNat : Nat) : Int)) H
variable {X : Cx}
theorem cr_comb : CallR X (.builtin "math.comb") rComb := by
  intro pins s σ H vs us Q I r ⟨a, b, e, a0, a1, b0, q⟩
  subst e
  obtain ⟨t, u, rfl⟩ := Vals.int2 r
  exact PySem.W.mc_comb a0 b0 (by omega) (.inr a1) fun _ => ⟨.int _, H, I.tok _, ⟨_, rfl⟩, q⟩
theorem cr_fact : CallR X (.builtin "math.factorial") rFact := by
  intro pins s σ H vs us Q I r ⟨a, e, a0, a1, q⟩
  subst e
  obtain ⟨u, rfl, ru⟩ := vals1 r
  obtain ⟨t, rfl⟩ := ru
  exact PySem.W.mc_factorial a0 a1 fun _ => ⟨.int _, H, I.tok _, ⟨_, rfl⟩, q⟩
/-- n over 2 -/
theorem comb2 {a : Int} (h : 2 ≤ a) : 1 ≤ PySem.W.mcComb a 2 ∧ PySem.W.mcComb a 2 ≤ a * a := by
  refine ⟨PySem.W.mcComb_pos (by decide) h, ?_⟩
  have z := PySem.W.mcComb_two (a := a) (by omega)
  have y : a * (a - 1) ≤ a * a := Int.mul_le_mul_of_nonneg_left (by omega) (by omega)
  have w : 0 ≤ a * a := Int.mul_nonneg (by omega) (by omega)
  omega
end MathC

/-! {elt for target in iterable if test}, the elements tuples of ints; len of it. -/
namespace SetT
open PySem PySem.Spec PyProof.Rows L2 LcM
section
variable {X : Cx} {pins : List (Addr × Obj)} {σ : L2.St} {H : Hp} {s : Shared}
/-- one tuple is laid by the comprehension -/
theorem put_tup {Er : Value → Shared → Prop} {D b : Addr} {L : List (Addr × List Int)} {k : List Int} {u : Value} {Qu : Value → Shared → Prop} (room : X.A.units + 64 < cLine) (I : Inv X pins σ H s) (at_D : H D = some (SetTO X.prog X.w D L)) (few : L.length + 1 < 64)
    (at_b : SqT X.K H b (k.map V.int)) (each : ∀ p ∈ L, SqT X.K H p.1 (p.2.map V.int)) (ru : RelV (.ref b) u)
    (go : ∀ s' L', (k ∈ L.map (·.2) → L' = L) → (k ∉ L.map (·.2) → L'.Perm ((b, k) :: L)) → Inv X pins σ (upd H D (SetTO X.prog X.w D L')) s' → Qu .none s') :
    wpAny (model X.prog X.w) X.A (call (.builtin "set.add") [.ref D, u]) Qu Er s := by
  obtain rfl : u = Value.ref b := ru
  have R0 : SetT0 X.prog X.w s.heap D L := (I.hok D _ at_D).1
  obtain ⟨es, ep, t, R⟩ := R0.full fun p hp => I.isT (each p hp)
  have hx := I.isT at_b
  obtain ⟨o, ho, hex, hd⟩ := R.ob
  have hT : s.TypeIs (.ref D) "set" := ⟨o, ho, hex.1⟩
  refine wpAny_call_entry PySem.F.slot_set_add hT PySem.F.entry_set_add ?_ (PySem.F.args_set_add_2 _ _)
  unfold Builtin.«set.add»
  unfold Builtin.Frozenset.oneOther
  simp only [List.isEmpty_nil, bind_assoc]
  unfold Builtin.Frozenset.addrOf
  unfold setAdd
  refine wpAny_bind (wpAny_pure ?_)
  try dsimp only
  refine wpAny_bind (wpAny_pure ?_)
  try dsimp only
  refine wpAny_bind (wpAny_holding (wpAny_bind (wpAny_pyHash_tuple (by first | (show X.A.units + 1 < cLine; omega) | (show X.A.units < cLine; omega)) hx ?_)))
  have R1 : SetTR X.prog X.w ({ s with toks := s.toks + (k.length + 1) } : Shared).heap D L es ep t := R
  refine add_at R1 hx (by first | (show X.A.units + 1 < cLine; omega) | (show X.A.units < cLine; omega)) few fun bb h' L' es' ep' t' sb R2 c1 c2 => ?_
  exact wpAny_pure ⟨_, rfl, go _ L' c1 c2 (I.write (e := D) (t' := s.toks + (k.length + 1)) (by rw [at_D]; trivial) (.inl rfl) (fun b u hb hu => (sb.2 b hb).trans hu) ⟨_, R2.ob.choose_spec.1⟩ (setTO_new R2.t0))⟩
end
section
variable {X : Cx}
def tScT (X : Cx) (wi : TI) (g : TG) (tt : TT) (te : TE) (vs : List Nat) : TE := fun σ H Q => wi σ H fun J H1 => ∀ D, H1 D = none → ∃ W : Nat → Nat → Hp → Prop, (∃ m, W 0 m (upd H1 D (SetTO X.prog X.w D []))) ∧ ∀ i m H, W i m H →
  (J.stop i H ∧ Q (.ref D) H) ∨ (J.go i H ∧ ∃ Nx : Hp → Prop, (∀ H', Nx H' → ∃ m', m' < m ∧ W (i + 1) m' H') ∧ ∀ x H', J.yld i H x H' → g x (wipe σ vs) H' fun σ2 H2 => wipe σ2 vs = wipe σ vs ∧ tt σ2 H2 fun t H3 =>
    if t = true then te σ2 H3 fun y H4 => ∃ (b : Addr) (L : List (Addr × List Int)) (k : List Int), y = .ref b ∧ SqT X.K H4 b (k.map V.int) ∧ H4 D = some (SetTO X.prog X.w D L) ∧ (∀ p ∈ L, SqT X.K H4 p.1 (p.2.map V.int)) ∧ L.length + 1 < 64 ∧
      ∀ L', (k ∈ L.map (·.2) → L' = L) → (k ∉ L.map (·.2) → L'.Perm ((b, k) :: L)) → Nx (upd H4 D (SetTO X.prog X.w D L')) else Nx H3)
theorem scT_core {pins : List (Addr × Obj)} {s0 : Shared} {σ : L2.St} {H0 : Hp} {Q : VK} {ex tg iter : Expr} {ifs : List Expr} {scope : Scope} {own : List (Str × Nat)} {pos pos' : Pos} {wi : TI} {g : TG} {tt : TT} {te : TE} {use : Option (Value → Sem Unit)} {Qf : Value → Shared → Prop}
    (room : X.A.units + 64 < cLine) (calm : X.calm = true) (nd : X.N.Nodup) (I0 : Inv X pins σ H0 s0) (pi : PI X tg iter wi) (ok : BlkOk X.N X.env.scope scope own)
    (pgs : ∀ (s : Shared) (H : Hp) (C : Addr) (cl : List (Str × Addr)) (fp : List Addr), PG (X.blk s H scope (compEnvC scope cl C X.env) fp) tg g) (pts : ∀ (s : Shared) (H : Hp) (C : Addr) (cl : List (Str × Addr)) (fp : List Addr), PTs (X.blk s H scope (compEnvC scope cl C X.env) fp) ifs tt)
    (pes : ∀ (s : Shared) (H : Hp) (C : Addr) (cl : List (Str × Addr)) (fp : List Addr), PE (X.blk s H scope (compEnvC scope cl C X.env) fp) ex te)
    (fold : ∀ x, foldedSetIterable iter X.env x = pure x) (rd : tScT X wi g tt te (own.map (·.2)) σ H0 Q)
    (post : ∀ D C t ns G, Inv X pins σ G t → Q (.ref D) G → t.heap.Ns C ns → FpOk X pins G C → compPost (model X.prog X.w) X.A X.xe use Qf (.ref D) C (.ok .next) t) :
    wpAny (model X.prog X.w) X.A (comprehension (.SetComp ex [⟨tg, iter, ifs, 0⟩] scope pos) scope X.env pos' (newSet (.type "set")) false (eval iter X.env) use) Qf X.xe s0 := by
  have isFree : ∀ y ∈ scope.names, y.2 = .free → ∃ c, X.env.cells.lookup y.1 = some c := fun y hy ey => (ok.free y hy ey).elim (fun z => I0.ok.has _ (.inl z)) fun z => I0.ok.has _ (.inr z)
  refine wpAny_comprehension_free (use := use) rfl fold (closure_ok isFree) ok.kind (fun y hy ey => (ok.uniq y hy).trans (congrArg some ey)) (thn (pi.run pins s0 σ H0 _ I0 rd) fun _ sa ha => thn ha fun _ sb hb => ?_)
  obtain ⟨it, fp, tn, J, Hb, rfl, Ib, Tn, tn0, fb, q⟩ := hb
  refine PpSet.newSet_ok (newEnv_comp ?_)
  have free0 : Hb sb.heap.objs.size = none := Ib.hok.fresh (Nat.le_refl _)
  obtain ⟨W, ⟨m0, w0⟩, turn⟩ := q _ free0
  -- with the dict, empty
  obtain ⟨sc, esc⟩ : ∃ z : Shared, z = { sb with heap := sb.heap.push { cls := .type "set", dict := none, data := .set #[] 0 (.fresh 0 0 (!X.w.params.followText "set-order")) } } := ⟨_, rfl⟩
  obtain ⟨Hc, eHc⟩ : ∃ z : Hp, z = upd Hb sb.heap.objs.size (SetTO X.prog X.w sb.heap.objs.size []) := ⟨_, rfl⟩
  have Ic : Inv X pins σ Hc sc := by
    rw [esc, eHc]
    exact Ib.laid (t' := sb.toks) (fun b o z => Heap.get?_push_of_some _ z) (Nat.le_refl _) (setTO_new (setTR_fresh (Heap.get?_push_size _ rfl)).t0)
  have up : ∀ b o, sb.heap.get? b = some o → sc.heap.get? b = some o := fun b o z => by
    rw [esc]
    exact Heap.get?_push_of_some _ z
  have below : ∀ b ∈ fp, b < sb.heap.objs.size := fun b hb => let ⟨_, z, _⟩ := Tn.obj _ _ tn0 b hb; Heap.lt_size z
  have fc : ∀ b ∈ fp, FpOk X pins Hc b ∧ b < sc.heap.objs.size := fun b hb => by
    obtain ⟨o, z, _⟩ := Tn.obj _ _ tn0 b hb
    refine ⟨⟨?_, (fb b hb).2⟩, Heap.lt_size (up b o z)⟩
    rw [eHc, upd_ne (Nat.ne_of_lt (below b hb))]
    exact (fb b hb).1
  have tnc : tn 0 sc.heap := Tn.keep _ _ _ tn0 fun b _ o z => up b o z
  have Ie := block_start Ic ok nd fc
  obtain ⟨cells, ecl⟩ : ∃ z, z = cellsFrom (sc.heap.objs.size + 1) scope.names (cloFrom X.env.cells scope.names []) := ⟨_, rfl⟩
  have pg := pgs sc Hc sc.heap.objs.size cells fp
  have pt := pts sc Hc sc.heap.objs.size cells fp
  have pe := pes sc Hc sc.heap.objs.size cells fp
  rw [← ecl] at Ie
  rw [← esc]
  show codeAny _ _ (.compStart _ 0 (.ref it) (.ref sb.heap.objs.size) (compEnvC scope (cellsFrom (sc.heap.objs.size + 1) scope.names (cloFrom X.env.cells scope.names [])) sc.heap.objs.size X.env)) (compPost _ _ X.xe use Qf (.ref sb.heap.objs.size) sc.heap.objs.size) _
  rw [← ecl]
  have loc : (compEnvC scope cells sc.heap.objs.size X.env).locals = sc.heap.objs.size := rfl
  rw [← eHc] at w0
  have empty : ∀ b ∈ fp, Hc b = none := fun b hb => (fc b hb).1.1
  obtain ⟨sd, esd⟩ : ∃ z : Shared, z = { sc with heap := pushCells (sc.heap.push { cls := .type "dict", data := .dict #[] }) scope.names } := ⟨_, rfl⟩
  have tnd : tn 0 sd.heap := Tn.keep _ _ _ tnc fun b _ o z => by
    rw [esd]
    exact pushCells_keeps _ _ _ _ (Heap.get?_push_of_some _ z)
  rw [← esd] at Ie ⊢
  generalize compEnvC scope cells sc.heap.objs.size X.env = ce at Ie pg pt pe loc ⊢
  -- the iterator's own objects in the block
  have own_ok : ∀ {ρ : L2.St} {G : Hp} {t : Shared}, Inv (X.blk sc Hc scope ce fp) [] ρ G t → (∀ b ∈ fp, G b = none) → ∀ b ∈ fp, FpOk (X.blk sc Hc scope ce fp) [] G b := fun {ρ G t} J hn b hb =>
    ⟨hn b hb, (J.ok.exf b hb).1, J.ok.exfs b hb, .inl hb, fun y c z => (J.ok.exf b hb).2 y c z, fun p hp => (nomatch hp)⟩
  have run : codeAny (model X.prog X.w) X.A (.compLoop (.SetComp ex [⟨tg, iter, ifs, 0⟩] scope pos) 0 (.ref it) (.ref sb.heap.objs.size) ce) (compPost (model X.prog X.w) X.A X.xe use Qf (.ref sb.heap.objs.size) sc.heap.objs.size) sd := by
    refine PpSet.compLoopS_any (fun m t => ∃ i G, Inv (X.blk sc Hc scope ce fp) [] (wipe σ (own.map (·.2))) G t ∧ tn i t.heap ∧ (∀ b ∈ fp, G b = none) ∧ W i m G) ?_ m0 ⟨0, Hc, Ie, tnd, empty, w0⟩
    rintro m t ⟨i, G, J, tni, none_, wi_⟩
    rcases turn i m G wi_ with ⟨stop, fin⟩ | ⟨go, Nx, less, step⟩
    · refine thnF (Tn.done (X.blk sc Hc scope ce fp) rfl rfl rfl calm i [] t _ G (fun _ _ => False) J (own_ok J none_) tni stop) fun r t2 ⟨er, J2⟩ => ?_
      subst er
      have back : Inv X pins σ G t2 := Ic.call' (ch := fp) J2.os J2.base J2.hok J2.bare fun b hb => ⟨(fc b hb).1.2.2.2.1, (fc b hb).1.2.1, (fc b hb).1.2.2.2.2.1, (fc b hb).1.2.2.2.2.2⟩
      have noC : G sc.heap.objs.size = none := by
        have z : G ce.locals = none := J2.free
        rwa [loc] at z
      obtain ⟨ns, isNs, _⟩ := J2.loc
      have isNs' : t2.heap.Ns ce.locals ns := isNs
      rw [loc] at isNs'
      exact post _ _ t2 ns G back fin isNs' (Ic.fpOk (Nat.le_refl _) noC)
    · refine thnF (Tn.item (X.blk sc Hc scope ce fp) rfl rfl rfl calm i [] t _ G (fun _ _ => False) J (own_ok J none_) tni go) fun r t2 ⟨u, er, h2⟩ => ?_
      subst er
      refine thnF h2 fun _ t3 ⟨x, G3, J3, r3, y3, tn3, none3⟩ => ?_
      have K3 := J3.pinned (own_ok J3 none3) (Tn.obj _ _ tn3)
      refine thnF (pg.run _ t3 _ G3 x u _ K3 r3 (step x G3 y3)) fun _ t4 ⟨ρ4, G4, J4, same4, q4⟩ => ?_
      refine thnF (pt.run _ t4 ρ4 G4 _ J4 q4) fun yes t5 ⟨G5, J5, q5⟩ => ?_
      have next : ∀ {t' : Shared} {G' : Hp}, Inv (X.blk sc Hc scope ce fp) ([] ++ pinsAt fp t3.heap) ρ4 G' t' → Nx G' → ∃ m', m' < m ∧ ∃ i G, Inv (X.blk sc Hc scope ce fp) [] (wipe σ (own.map (·.2))) G t' ∧ tn i t'.heap ∧ (∀ b ∈ fp, G b = none) ∧ W i m' G := fun {t' G'} J' nx => by
        obtain ⟨m', lt, w'⟩ := less G' nx
        have held : ∀ b ∈ fp, ∀ o, t3.heap.get? b = some o → t'.heap.get? b = some o ∧ G' b = none := fun b hb o z =>
          have p := J'.pin (b, o) (List.mem_append_right _ (List.mem_append_right _ (mem_pinsAt hb z)))
          ⟨p.1, p.2.1⟩
        have len : (wipe σ (own.map (·.2))).length = ρ4.length := by rw [← same4, wipe_length]
        refine ⟨m', lt, i + 1, G', (J'.unpinned (pins := [])).weak len (fun j v z => ?_), Tn.keep _ _ _ tn3 fun b hb o z => (held b hb o z).1, fun b hb => ?_, w'⟩
        · rw [← same4] at z
          exact (wipe_some z).1
        · obtain ⟨o, z, _⟩ := Tn.obj _ _ tn3 b hb
          exact (held b hb o z).2
      cases yes with
      | false =>
        simp only [Bool.false_eq_true, if_false] at q5 ⊢
        exact next J5 q5
      | true =>
        simp only [if_true] at q5 ⊢
        refine thnF (pe.run _ t5 ρ4 G5 _ J5 q5) fun ku t6 ⟨yk, G6, J6, r6, b, L, k, ek, at_b, at_D, each, few, nx⟩ => ?_
        subst ek
        exact put_tup (X := X.blk sc Hc scope ce fp) room J6 at_D few at_b each r6 fun t7 L' c1 c2 J7 => next J7 (nx L' c1 c2)
  exact PpSet.codeAny_compStart_set run (Tn.self X.A 0 _ _ _ tnd run)
/-- as a value -/
theorem pe_scT {ex tg iter : Expr} {ifs : List Expr} {scope : Scope} {own : List (Str × Nat)} {pos : Pos} {wi : TI} {g : TG} {tt : TT} {te : TE} (room : X.A.units + 64 < cLine) (calm : X.calm = true) (nd : X.N.Nodup) (pi : PI X tg iter wi) (ok : BlkOk X.N X.env.scope scope own)
    (pgs : ∀ (s : Shared) (H : Hp) (C : Addr) (cl : List (Str × Addr)) (fp : List Addr), PG (X.blk s H scope (compEnvC scope cl C X.env) fp) tg g) (pts : ∀ (s : Shared) (H : Hp) (C : Addr) (cl : List (Str × Addr)) (fp : List Addr), PTs (X.blk s H scope (compEnvC scope cl C X.env) fp) ifs tt)
    (pes : ∀ (s : Shared) (H : Hp) (C : Addr) (cl : List (Str × Addr)) (fp : List Addr), PE (X.blk s H scope (compEnvC scope cl C X.env) fp) ex te)
    (fold : ∀ x, foldedSetIterable iter X.env x = pure x := by intro _; rfl) : PE X (.SetComp ex [⟨tg, iter, ifs, 0⟩] scope pos) (tScT X wi g tt te (own.map (·.2))) := by
  refine ⟨fun pins s0 σ H0 Q I0 rd => ?_⟩
  rw [PpSet.eval_SetComp]
  refine scT_core room calm nd I0 pi ok pgs pts pes fold rd fun D C t ns G J fin isNs ⟨f0, f1, f2, f3, f4, f5⟩ => ⟨ns, isNs, fun h2 sb2 => ⟨.ref D, G, J.turned (t' := t.toks) (fun b o ne z => (sb2.2 b ne).trans z) f0 f1 f3 f4 f5, rfl, fin⟩⟩

/-- len of such a set -/
def rLenT (P : Program) (w : World) : List V → Hp → VK → Prop := fun xs H Q => ∃ (D : Addr) (L : List (Addr × List Int)), xs = [.ref D] ∧ H D = some (SetTO P w D L) ∧ Q (.int L.length) H
theorem call_lenT : CallR X (.builtin "len") (rLenT X.prog X.w) := by
  intro pins s σ H xs us Q I r h
  obtain ⟨D, L, rfl, at_D, q⟩ := h
  rw [Vals.ref1 r]
  have R0 : SetT0 X.prog X.w s.heap D L := (I.hok D _ at_D).1
  obtain ⟨es, ep, t, ⟨o, ho, hex, hd⟩, rows, tab, _, _, _, room, few⟩ := R0.ex
  have hn : es.size = L.length := by
    have z := congrArg List.length rows
    unfold rowsOf at z
    rw [Array.length_toList, List.length_map] at z
    exact z
  have hf : t.fits es.size = true := by
    have z := tab.sz
    rw [List.length_map] at z
    unfold SetTable.fits
    unfold SetTable.fill
    rw [tab.dm, Bool.and_eq_true, beq_iff_eq, decide_eq_true_eq]
    exact ⟨by omega, (by show t.place.size + 0 ≤ t.mask; omega)⟩
  refine call_len_set ho hex hd hf (by rw [hn] <;> omega) ⟨.int L.length, H, I.tok _, ⟨_, by rw [hn]⟩, q⟩
end
section
variable {P : Program} {w : World} {K : PySem.W.Frag} {a : Addr} {xs : List V} {g : TG} {te : TE} {vs : List Nat} {σ : L2.St} {H0 : Hp} {D : Addr} {Qd : Hp → Prop}
theorem set_ne {H : Hp} {b : Addr} {L : List (Addr × List Int)} {ys : List V} (h : H b = some (.tup ys)) (at_D : H D = some (SetTO P w D L)) : b ≠ D := ne_of h at_D fun z => by
  unfold SetTO at z
  cases z
/-- over a list, the elements unlike one another -/
theorem sc_listU (R : Nat → List Int) (un : ∀ i j, i < j → j < xs.length → R i ≠ R j) (few : xs.length < 60) (hD : H0 D = none) (hx : SqL K H0 a xs)
    (turn : ∀ (i : Nat) (x : V) (H : Hp) (Rk : V → Hp → Prop), xs[i]? = some x → Grows H0 H → (∀ b H5, Grows H H5 → H5 b = some (.tup ((R i).map V.int)) → Rk (.ref b) H5) → g x (wipe σ vs) H fun σ2 H2 => wipe σ2 vs = wipe σ vs ∧ te σ2 H2 fun y H4 => Rk y H4)
    (done : ∀ H L, Grows H0 H → H D = some (SetTO P w D L) → L.length = xs.length → Qd H) :
    ∃ W : Nat → Nat → Hp → Prop, (∃ m, W 0 m (upd H0 D (SetTO P w D []))) ∧ ∀ i m H, W i m H →
      ((Itl K a).stop i H ∧ Qd H) ∨ ((Itl K a).go i H ∧ ∃ Nx : Hp → Prop, (∀ H', Nx H' → ∃ m', m' < m ∧ W (i + 1) m' H') ∧ ∀ x H', (Itl K a).yld i H x H' → g x (wipe σ vs) H' fun σ2 H2 => wipe σ2 vs = wipe σ vs ∧ tYes σ2 H2 fun t H3 =>
        if t = true then te σ2 H3 fun y H4 => ∃ (b : Addr) (L : List (Addr × List Int)) (k : List Int), y = .ref b ∧ SqT K H4 b (k.map V.int) ∧ H4 D = some (SetTO P w D L) ∧ (∀ p ∈ L, SqT K H4 p.1 (p.2.map V.int)) ∧ L.length + 1 < 64 ∧
          ∀ L', (k ∈ L.map (·.2) → L' = L) → (k ∉ L.map (·.2) → L'.Perm ((b, k) :: L)) → Nx (upd H4 D (SetTO P w D L')) else Nx H3) := by
  let inv : Nat → Hp → Prop := fun i H => Grows H0 H ∧ ∃ L, H D = some (SetTO P w D L) ∧ L.length = i ∧ (∀ p ∈ L, ∃ j, j < i ∧ p.2 = R j) ∧ ∀ p ∈ L, H p.1 = some (.tup (p.2.map V.int))
  refine ⟨fun i m H => m = xs.length - i ∧ i ≤ xs.length ∧ inv i H, ⟨_, rfl, Nat.zero_le _, Grows.new hD, [], upd_same, rfl, (fun _ z => nomatch z), fun _ z => nomatch z⟩, ?_⟩
  rintro i m H ⟨rfl, hi, gr, L, at_D, len, old, tup⟩
  rcases Nat.lt_or_ge i xs.length with lt | ge
  · have ex : xs[i]? = some xs[i] := List.getElem?_eq_getElem lt
    refine .inr ⟨⟨xs, _, gr.seq hx, ex⟩, inv (i + 1), fun H' p' => ⟨xs.length - (i + 1), by omega, rfl, lt, p'⟩, fun v H' y => ?_⟩
    obtain ⟨rfl, y⟩ := y
    have nw : R i ∉ L.map (·.2) := fun z => by
      obtain ⟨p, hp, e⟩ := List.mem_map.mp z
      obtain ⟨j, hj, ej⟩ := old p hp
      exact un j i hj lt (ej.symm.trans e)
    rw [yes_eq (A := fun σ2 => wipe σ2 vs = wipe σ vs)]
    refine turn i v H' _ (y xs (gr.seq hx)) gr fun b H5 s5 hb => ⟨b, L, R i, rfl, SqT.of hb, s5 _ _ at_D, fun p hp => SqT.of (s5 _ _ (tup p hp)), by omega, fun L' _ c2 => ?_⟩
    have pm := c2 nw
    refine ⟨fun c o e => ?_, L', upd_same, by rw [pm.length_eq, List.length_cons, len], fun p hp => ?_, fun p hp => ?_⟩
    · rw [upd_ne (ne_of_none e hD)]
      exact s5 _ _ (gr _ _ e)
    · rcases List.mem_cons.mp (pm.mem_iff.mp hp) with z | z
      · exact ⟨i, Nat.lt_succ_self i, by rw [z]⟩
      · obtain ⟨j, hj, e⟩ := old p z
        exact ⟨j, Nat.lt_succ_of_lt hj, e⟩
    · have at5 : H5 p.1 = some (.tup (p.2.map V.int)) := by
        rcases List.mem_cons.mp (pm.mem_iff.mp hp) with z | z
        · rw [z]
          exact hb
        · exact s5 _ _ (tup p z)
      rw [upd_ne (set_ne at5 (s5 _ _ at_D))]
      exact at5
  · have e : i = xs.length := by omega
    subst e
    exact .inl ⟨⟨xs, gr.seq hx, Nat.le_refl _⟩, done H L gr at_D len⟩
end
end SetT

/-! set(xs), xs a list of ints; the layer has it for tuples (HandS.SetFor), whose steps this follows with a list's. -/
namespace SetL
open PySem PySem.Spec PyProof.Rows L2
/-- a set that was just made -/
abbrev mt (w : World) : Obj := ⟨.type "set", none, .set #[] 0 (.fresh 0 0 (!w.params.followText "set-order")), #[]⟩
section
variable {P : Program} {w : World} {A : Around} {E : Value → Shared → Prop} {s : Shared} {ns : List Int} {l : Addr} {xs : Array Value}
/-- what the set holds when it's made -/
abbrev Made (w : World) (s : Shared) (ns : List Int) (h' : Heap) (c : Nat) : Prop := SetR w h' s.heap.objs.size (fun j => decide (j ∈ ns)) c ∧ c ≤ ns.length ∧ ∀ b o, s.heap.get? b = some o → h'.get? b = some o
abbrev EndI (w : World) (E : Value → Shared → Prop) (s : Shared) (ns : List Int) : Result → Shared → Prop :=
  wants (fun r s₂ => r = .none ∧ ∃ h' tk c, s₂ = { s with heap := h', toks := tk } ∧ Made w s ns h' c) E
/-- its __init__ -/
theorem init_ints (hh : A.handled = none) (hl : s.heap.IsList l xs) (hx : IntsAre xs.toList ns) (few : ns.length + 1 < scanBound)
    (ty : Shared.TypeIs { s with heap := s.heap.push (mt w) } (.ref s.heap.objs.size) "set") :
    wpAny (model P w) A (call (.type "set") [.ref l]) (fun v s' => ∃ h' tk c, v = .ref s.heap.objs.size ∧ s' = { s with heap := h', toks := tk } ∧ Made w s ns h' c) E s := by
  have sz : xs.size = ns.length := by
    have q := IntsAre.length hx
    rwa [Array.length_toList] at q
  obtain ⟨_, _, mro⟩ := F.called_set.mro
  have m1 := F.called_set.made
  have m2 := F.called_set.sub
  have m3 := F.called_set.notType
  have m4 := F.called_set.canCreate
  have m5 := F.typeCall_set_1 (.ref l)
  refine wpAny_call <| codeAny_of_tree ?_
  show wpAny (model P w) _ (callAny (.type "set") ⟨[.ref l], []⟩) _ _ _
  refine wpAny_pure <| ⟨Code.quiet_builtin _ (by decide +kernel), codeAny_builtin F.entry_type_call ?_⟩
  rw [Around.under_plain (weight_type_call_type "set" [.ref l] []) rfl]
  repeat (any_goals (first | wp_step | assumption))
  refine codeAny_mono (code_set_led1 (.ref l) (E := E) (Q₁ := fun v s₁ => v = .ref s.heap.objs.size ∧ s₁ = { s with heap := s.heap.push (mt w) }) ⟨rfl, rfl⟩) fun r s₁ hr => ?_
  rcases r with e | fl
  · exact hr
  rcases fl with v | _ | _ | _
  all_goals try exact hr.elim
  obtain ⟨rfl, rfl⟩ := hr
  have i1 := F.called_set.init.lookup
  have i2 := F.called_set.init.bind (.ref s.heap.objs.size)
  repeat (any_goals (first | wp_step | assumption))
  refine codeAny_mono (codeAny_call_builtin (R := EndI w E s ns) F.called_set.init.plain F.entry_set_init (check_set_init_1 ty ?_)) fun r2 s2 hr2 => ?_
  · obtain ⟨o, ho, hc, k, hd⟩ := hl
    obtain ⟨oc, od, dat, sl⟩ := o
    dsimp only at hc hd
    subst hc hd
    have at_l : (s.heap.push (mt w)).get? l = some ⟨.type "list", od, .seq xs k, sl⟩ := Heap.get?_push_of_some _ ho
    have is_l : (s.heap.push (mt w)).IsList l xs := ⟨_, at_l, rfl, k, rfl⟩
    have n1 := F.sub_list_set
    have n2 := F.sub_list_frozenset
    have n3 : (Value.type "list" == Value.type "dict") = false := by decide
    have low : l < s.heap.objs.size := Heap.lt_size ho
    have big : (s.heap.push (mt w)).objs.size = s.heap.objs.size + 1 := Heap.size_push ..
    unfold Builtin.«set.__init__» noKeywords Builtin.Frozenset.updateFrom
    generalize ei : pyIter = it
    wp_walk
    subst ei
    refine wpAny_pyIter_list is_l (wpAny_bind (wpAny_runValue ?_))
    have cold : A.in1.in1.in1.handled = none := by simp [hh]
    have off : l ≠ (s.heap.push (mt w)).objs.size := by
      rw [big]
      exact Nat.ne_of_lt (Nat.lt_succ_of_lt low)
    have apart : s.heap.objs.size ∉ [(s.heap.push (mt w)).objs.size, l] := fun z => by
      rw [big] at z
      simp only [List.mem_cons, List.not_mem_nil, or_false] at z
      rcases z with z | z
      · exact absurd z (Nat.ne_of_lt (Nat.lt_succ_self _))
      · exact absurd z (Nat.ne_of_gt low)
    have each : ∀ (i : Nat) (v : Value), xs[i]? = some v → ∃ n t, ns[i]? = some n ∧ v = .int n t := fun i v hv => by
      have il : i < ns.length := by
        have := (Array.getElem?_eq_some_iff.mp hv).1
        omega
      obtain ⟨t, e⟩ := IntsAre.int_at hx i v (by rw [Array.getElem?_toList, hv])
      refine ⟨ns[i], t, List.getElem?_eq_getElem il, e.trans ?_⟩
      rw [List.getD_eq_getElem?_getD, List.getElem?_eq_getElem il]
      rfl
    have self : (s.heap.push (mt w)).get? s.heap.objs.size = some (mt w) := Heap.get?_push_size _ rfl
    refine set_update_ints ((Walks.list cold _ l off xs).toS) s.heap.objs.size apart ns sz few each xs.size 0 _ rfl (Nat.zero_le _) ⟨⟨_, Heap.get?_push_size _ rfl, rfl, rfl⟩, is_l.push _⟩ ⟨0, Nat.le_refl 0, setR_new_at (Heap.get?_push_of_some _ self)⟩ ?_
    rintro ⟨h', g', d', tk', os'⟩ c mv cl R
    obtain rfl : g' = s.gens := mv.gens
    obtain rfl : d' = s.drawn := mv.drawn
    obtain rfl : os' = s.os := mv.os
    refine wpAny_pure (show wpAny _ _ (ret Value.none) _ _ _ from wpAny_pure ⟨rfl, h', tk', c, rfl, R, by omega, fun b o e => ?_⟩)
    have bl : b < s.heap.objs.size := Heap.lt_size e
    refine mv.heap b o (fun z => ?_) (Heap.get?_push_of_some _ (Heap.get?_push_of_some _ e))
    simp only [List.mem_cons, List.not_mem_nil, or_false] at z
    rcases z with z | z
    · exact absurd z (Nat.ne_of_lt bl)
    · have z : b = (s.heap.push (mt w)).objs.size := z
      rw [big] at z
      exact absurd z (Nat.ne_of_lt (Nat.lt_succ_of_lt bl))
  · rcases r2 with e | fl
    · exact hr2
    rcases fl with v | _ | _ | _
    all_goals try exact hr2.elim
    obtain ⟨rfl, h', tk, c, rfl, made⟩ := hr2
    repeat (any_goals (first | wp_step | assumption))
    exact ⟨h', _, c, rfl, rfl, made⟩
theorem call_ints (hh : A.handled = none) (hl : s.heap.IsList l xs) (hx : IntsAre xs.toList ns) (few : ns.length + 1 < scanBound) {Q : Value → Shared → Prop} (h : ∀ h' tk c, Made w s ns h' c → Q (.ref s.heap.objs.size) { s with heap := h', toks := tk }) :
    wpAny (model P w) A (call (.type "set") [.ref l]) Q E s :=
  thn (init_ints hh hl hx few ⟨_, Heap.get?_push_size _ rfl, rfl⟩) fun v s' ⟨h', tk, c, e1, e2, m⟩ => by
    subst e1 e2
    exact h h' tk c m
end
section
variable {X : Cx}
/-- set(xs) -/
def rSetL (K : PySem.W.Frag) (w : World) : List V → Hp → VK → Prop := fun xs H Q => ∃ (l : Addr) (ns : List Int), xs = [.ref l] ∧ SqL K H l (ns.map V.int) ∧ ns.length ≤ 60 ∧
  ∀ (p : Addr) (n : Nat), H p = none → n ≤ ns.length → Q (.ref p) (upd H p (SetO w p (fun j => decide (j ∈ ns)) n))
theorem cr_setL (hc : X.calm = true) : CallR X (.type "set") (rSetL X.K X.w) := by
  intro pins s σ H xs us Q I r h
  obtain ⟨l, ns, rfl, hq, few, q⟩ := h
  rw [Vals.ref1 r]
  obtain ⟨its, rv, pl, hz⟩ := I.list hq
  refine call_ints (I.ok.hd hc) pl.isList (ns := ns) (by simpa using rv.ints) (by unfold scanBound; omega) fun h' tk c ⟨R, cl, keep⟩ => ?_
  have hn : H s.heap.objs.size = none := I.hok.fresh (Nat.le_refl _)
  exact ⟨.ref _, _, I.laid (t' := tk) keep (Nat.le_refl _) (setO_new R), rfl, q _ c hn cl⟩
end
end SetL

/-! a set comprehension over a list, the elements tuples of ints, alike or not -/
namespace SetD
open PySem PySem.Spec PyProof.Rows L2 LcM SetT
theorem nodup_of {α : Type} [DecidableEq α] {l m : List α} (nl : l.Nodup) (same : ∀ x, x ∈ l ↔ x ∈ m) : decide (l.length = m.length) = decide m.Nodup := by
  rw [decide_eq_decide]
  constructor
  · intro e
    have key : ∀ (m l : List α), l.Nodup → (∀ x, x ∈ l ↔ x ∈ m) → l.length = m.length → m.Nodup := by
      intro m
      induction m with
      | nil => exact fun _ _ _ _ => .nil
      | cons y m ih =>
        intro l nl same e
        have yl : y ∈ l := (same y).mpr List.mem_cons_self
        by_cases ym : y ∈ m
        · -- l is within m, too long
          exfalso
          have le : ∀ (l m : List α), l.Nodup → (∀ x ∈ l, x ∈ m) → l.length ≤ m.length := by
            intro l
            induction l with
            | nil => exact fun _ _ _ => Nat.zero_le _
            | cons z l ih2 =>
              intro m nz sub
              obtain ⟨nz1, nz2⟩ := List.nodup_cons.mp nz
              have zm := sub z List.mem_cons_self
              have := ih2 (m.erase z) nz2 fun x hx => (List.mem_erase_of_ne (fun q => nz1 (by rw [← q]; exact hx))).mpr (sub x (List.mem_cons_of_mem _ hx))
              rw [List.length_erase_of_mem zm] at this
              have pos := List.length_pos_of_mem zm
              rw [List.length_cons]
              omega
          have := le l m nl fun x hx => by
            rcases List.mem_cons.mp ((same x).mp hx) with q | q
            · rw [q]
              exact ym
            · exact q
          rw [List.length_cons] at e
          omega
        · refine List.nodup_cons.mpr ⟨ym, ih (l.erase y) (nl.erase y) (fun x => ?_) ?_⟩
          · constructor
            · intro hx
              have q := (nl.mem_erase_iff).mp hx
              rcases List.mem_cons.mp ((same x).mp q.2) with z | z
              · exact absurd z q.1
              · exact z
            · intro hx
              exact (nl.mem_erase_iff).mpr ⟨fun z => ym (by rw [← z]; exact hx), (same x).mpr (List.mem_cons_of_mem _ hx)⟩
          · rw [List.length_erase_of_mem yl, e]
            rfl
    exact key m l nl same e
  · intro nm
    have pm : l.Perm m := (List.perm_ext_iff_of_nodup nl nm).mpr same
    exact pm.length_eq
section
variable {P : Program} {w : World} {K : PySem.W.Frag} {a : Addr} {xs : List V} {g : TG} {te : TE} {vs : List Nat} {σ : L2.St} {H0 : Hp} {D : Addr} {Qd : Hp → Prop}
theorem sc_listD (R : Nat → List Int) (few : xs.length < 60) (hD : H0 D = none) (hx : SqL K H0 a xs)
    (turn : ∀ (i : Nat) (x : V) (H : Hp) (Rk : V → Hp → Prop), xs[i]? = some x → Grows H0 H → (∀ b H5, Grows H H5 → H5 b = some (.tup ((R i).map V.int)) → Rk (.ref b) H5) → g x (wipe σ vs) H fun σ2 H2 => wipe σ2 vs = wipe σ vs ∧ te σ2 H2 fun y H4 => Rk y H4)
    (done : ∀ H L, Grows H0 H → H D = some (SetTO P w D L) → decide (L.length = xs.length) = decide ((List.range xs.length).map R).Nodup → Qd H) :
    ∃ W : Nat → Nat → Hp → Prop, (∃ m, W 0 m (upd H0 D (SetTO P w D []))) ∧ ∀ i m H, W i m H →
      ((Itl K a).stop i H ∧ Qd H) ∨ ((Itl K a).go i H ∧ ∃ Nx : Hp → Prop, (∀ H', Nx H' → ∃ m', m' < m ∧ W (i + 1) m' H') ∧ ∀ x H', (Itl K a).yld i H x H' → g x (wipe σ vs) H' fun σ2 H2 => wipe σ2 vs = wipe σ vs ∧ tYes σ2 H2 fun t H3 =>
        if t = true then te σ2 H3 fun y H4 => ∃ (b : Addr) (L : List (Addr × List Int)) (k : List Int), y = .ref b ∧ SqT K H4 b (k.map V.int) ∧ H4 D = some (SetTO P w D L) ∧ (∀ p ∈ L, SqT K H4 p.1 (p.2.map V.int)) ∧ L.length + 1 < 64 ∧
          ∀ L', (k ∈ L.map (·.2) → L' = L) → (k ∉ L.map (·.2) → L'.Perm ((b, k) :: L)) → Nx (upd H4 D (SetTO P w D L')) else Nx H3) := by
  obtain ⟨inv, einv⟩ : ∃ inv : Nat → Hp → Prop, inv = fun i H => Grows H0 H ∧ ∃ L, H D = some (SetTO P w D L) ∧ L.length ≤ i ∧ (L.map (·.2)).Nodup ∧ (∀ r, r ∈ L.map (·.2) ↔ r ∈ (List.range i).map R) ∧ ∀ p ∈ L, H p.1 = some (.tup (p.2.map V.int)) := ⟨_, rfl⟩
  have base : inv 0 (upd H0 D (SetTO P w D [])) := by
    rw [einv]
    exact ⟨Grows.new hD, [], upd_same, Nat.le_refl _, .nil, fun r => Iff.rfl, fun _ z => nomatch z⟩
  refine ⟨fun i m H => m + i = xs.length ∧ inv i H, ⟨xs.length, rfl, base⟩, ?_⟩
  rintro i m H ⟨em, here⟩
  have here' := here
  rw [einv] at here'
  obtain ⟨gr, L, at_D, len, nd, old, tup⟩ := here'
  match m, em with
  | 0, em =>
    have e : i = xs.length := by omega
    subst e
    have q := nodup_of nd old
    rw [List.length_map, List.length_map, List.length_range] at q
    exact .inl ⟨⟨xs, gr.seq hx, Nat.le_refl _⟩, done H L gr at_D q⟩
  | m + 1, em =>
    have lt : i < xs.length := by omega
    have ex : xs[i]? = some xs[i] := List.getElem?_eq_getElem lt
    refine .inr ⟨⟨xs, _, gr.seq hx, ex⟩, inv (i + 1), fun H' p' => ⟨m, Nat.lt_succ_self m, by omega, p'⟩, fun v H' y => ?_⟩
    obtain ⟨rfl, y⟩ := y
    rw [yes_eq (A := fun σ2 => wipe σ2 vs = wipe σ vs)]
    refine turn i v H' _ (y xs (gr.seq hx)) gr fun b H5 s5 hb => ⟨b, L, R i, rfl, SqT.of hb, s5 _ _ at_D, fun p hp => SqT.of (s5 _ _ (tup p hp)), by omega, fun L' c1 c2 => ?_⟩
    have grows : ∀ c o, H0 c = some o → upd H5 D (SetTO P w D L') c = some o := fun c o e => by
      rw [upd_ne (ne_of_none e hD)]
      exact s5 _ _ (gr _ _ e)
    have next : ∀ r, r ∈ (List.range (i + 1)).map R ↔ r ∈ (List.range i).map R ∨ r = R i := fun r => by
      rw [List.range_succ, List.map_append, List.mem_append]
      exact or_congr_right List.mem_singleton
    rw [einv]
    by_cases z : R i ∈ L.map (·.2)
    · have e := c1 z
      subst e
      refine ⟨grows, L', upd_same, Nat.le_succ_of_le len, nd, fun r => ?_, fun p hp => ?_⟩
      · rw [next, ← old]
        exact ⟨.inl, fun q => q.elim id fun q => by rw [q]; exact z⟩
      · have at5 := s5 _ _ (tup p hp)
        rw [upd_ne (set_ne at5 (s5 _ _ at_D))]
        exact at5
    · have pm := c2 z
      have pm2 : (L'.map (·.2)).Perm (R i :: L.map (·.2)) := pm.map (·.2)
      refine ⟨grows, L', upd_same, ?_, pm2.nodup_iff.mpr (List.nodup_cons.mpr ⟨z, nd⟩), fun r => ?_, fun p hp => ?_⟩
      · rw [pm.length_eq, List.length_cons]
        exact Nat.succ_le_succ len
      · rw [next, pm2.mem_iff, List.mem_cons, old]
        exact Or.comm
      · have at5 : H5 p.1 = some (.tup (p.2.map V.int)) := by
          rcases List.mem_cons.mp (pm.mem_iff.mp hp) with q | q
          · rw [q]
            exact hb
          · exact s5 _ _ (tup p q)
        rw [upd_ne (set_ne at5 (s5 _ _ at_D))]
        exact at5
end
end SetD

/-! repr of data of any kind, where no guard stands -/
namespace RepA
open PySem PySem.Spec PyProof.Rows L2
section
variable {X : Cx} {pins : List (Addr × Obj)} {σ : L2.St} {H : Hp} {s : Shared}
/-- a dict of one text -/
theorem repr_one (hg : X.A.guards = some []) (hu : X.A.units + 64 < cLine) (I : Inv X pins σ H s) {a : Addr} {z : Str} {x : V} {e : PyData} {Q : Value → Shared → Prop} (ha : H a = some (.dK [(Sum.inr z, x)])) (hx : Dq X.K H x e) (hs : (PyData.dict [(.str z, e)]).showable = true)
    (dep : (PyData.dict [(.str z, e)]).depth ≤ 40) (hz : (PyData.dict [(.str z, e)]).shown.length ≤ sizeLine) (fin : ∀ (t tk : Nat) (h' : Heap), (∀ b o, s.heap.get? b = some o → h'.get? b = some o) → Q (.str (PyData.dict [(.str z, e)]).shown t) { s with heap := h', toks := tk }) :
    wpAny (model X.prog X.w) X.A (call (.builtin "repr") [.ref a]) Q X.xe s := by
  obtain ⟨_, hn, vs, rel, dd⟩ := dk_of I.hok ha
  obtain ⟨o, es, ep, e1, e2, e3, e4⟩ := dd
  obtain ⟨en, ux, ees, ekey, eval, rx⟩ : ∃ (en : DictEntry) (ux : Value), es.toList = [en] ∧ (∃ t, en.key = .str z t) ∧ en.val = ux ∧ RelV x ux := by
    cases rel with
    | cons hd tl =>
      cases tl
      have q := e4.2.1
      generalize es.toList = l at q
      rename_i b
      obtain ⟨kb, ux⟩ := b
      obtain ⟨e5, e6⟩ := hd
      cases e5
      cases q with
      | cons p1 p2 p3 =>
        cases p3
        refine ⟨_, ux, rfl, ?_, p2, e6⟩
        rcases keyIs_shape (show keyIs (Sum.inr z) _ = true from p1) with ⟨i, t, q1, q2⟩ | ⟨y, t, q1, q2⟩
        · cases q1
        · cases q1
          exact ⟨t, q2⟩
  obtain ⟨t, ek⟩ := ekey
  have hz' : (dictText (PyData.shownKv [(.str z, e)])).length ≤ sizeLine := by simpa only [PyData.shown] using hz
  have hs2 : e.showable = true := by
    have q := (PyData.showableKv_split [(.str z, e)] (by simpa [PyData.showable] using hs)).2
    simpa [PyData.showableAll] using q
  have hs1 : (PyData.str z).showable = true := by
    have q := (PyData.showableKv_split [(.str z, e)] (by simpa [PyData.showable] using hs)).1
    simpa [PyData.showableAll] using q
  have key_le : ∀ t ∈ PyData.shownAll [PyData.str z], t.length ≤ sizeLine := fun t ht => by
    obtain ⟨p, hp, l⟩ := PyData.shownKv_key_le [(.str z, e)] t ht
    exact Nat.le_trans l (Nat.le_trans (dictText_mem_le hp) hz')
  have val_le : ∀ t ∈ PyData.shownAll [e], t.length ≤ sizeLine := fun t ht => by
    obtain ⟨p, hp, l⟩ := PyData.shownKv_val_le [(.str z, e)] t ht
    exact Nat.le_trans l (Nat.le_trans (dictText_mem_le hp) hz')
  obtain ⟨b1, m1, k1⟩ := ReprK.of_reads (prog := X.prog) (w := X.w) (Reads.str (h := s.heap) z t) hs1 (fun _ h => nomatch h) (key_le _ (by simp only [PyData.shownAll]; exact List.mem_cons_self ..))
  obtain ⟨a2, b2, q2, m2, k2⟩ := shw_dq I hx rx hs2 (val_le _ (by simp only [PyData.shownAll]; exact List.mem_cons_self ..))
  have rd : Reads s.heap (.ref a) (.dict [(.str z, e)]) _ := .dict (kvs := [(PyData.str z, e)]) e1 e2.1 e3 (by rw [ees]; show ReadsAll s.heap [en.key] [PyData.str z] _; rw [ek]; exact .cons (.str z t) .nil) (by rw [ees]; show ReadsAll s.heap [en.val] [e] _; rw [eval]; exact .cons q2 .nil)
  have hd1 : (PyData.str z).depth ≤ PyData.depthKv [(.str z, e)] := by simp only [PyData.depthKv, PyData.depth]; omega
  have hd2 : e.depth ≤ PyData.depthKv [(.str z, e)] := by simp only [PyData.depthKv]; omega
  have hb : ReadAtMost s.heap (PyData.depthKv [(.str z, e)]) (b1 ++ b2) := (m1.mono hd1).append (m2.mono hd2)
  have hna : a ∉ b1 ++ b2 := not_mem_of_deeper rd (by simp only [PyData.depth]; omega) hb
  have d40 : PyData.depthKv [(.str z, e)] + 1 ≤ 40 := by simpa only [PyData.depth] using dep
  refine call_repr_slot (by omega) ⟨o, e1, e2.1⟩ PySem.F.slot_dict_repr ?_
  have ent : ReprEntriesK X.prog X.w (b1 ++ b2) s.heap (PyData.depthKv [(.str z, e)]) es.toList (PyData.shownKv [(.str z, e)]) := by
    rw [ees]
    simp only [PyData.shownKv]
    refine .cons ?_ ?_ .nil
    · rw [ek]
      exact (k1.more fun b hb => List.mem_append.mpr (.inl hb)).level_le hd1
    · rw [eval]
      exact (k2.more fun b hb => List.mem_append.mpr (.inr hb)).level_le hd2
  have end_ : ∀ h' u tk, (∀ b o, s.heap.get? b = some o → h'.get? b = some o) → Q (.str (dictText (PyData.shownKv [(.str z, e)])) u) { s with heap := h', toks := tk } := fun h' u tk k => by
    have q := fin u tk h' k
    simpa only [PyData.shown] using q
  exact call_dict_reprK (h₀ := s.heap) e1 e2.1 e3 hn hna ent hg (fun b _ => Clear.nil b) (by show X.A.units + 1 + (PyData.depthKv [(.str z, e)] + 1) < cLine; omega) (fun _ _ e => e) (fun h' u tk k => ⟨_, _, rfl, end_ h' u tk k⟩) hz'
/-- data as they come here: of any kind, or a dict of one text -/
theorem call_reprV (hg : X.A.guards = some []) (hu : X.A.units + 64 < cLine) : CallR X (.builtin "repr") (fun xs H Q => ∃ (x : V) (d : PyData), xs = [x] ∧ (Dd X.K H x d ∨ ∃ a z y e, x = .ref a ∧ H a = some (.dK [(Sum.inr z, y)]) ∧ Dp X.K H y e ∧ d = .dict [(.str z, e)]) ∧ d.showable = true ∧ d.depth ≤ 40 ∧ d.shown.length ≤ sizeLine ∧ Q (.str d.shown) H) := by
  intro pins s σ H xs us Q I r h
  obtain ⟨x, d, rfl, hd, sh, dep, len, q⟩ := h
  obtain ⟨u, rfl, ru⟩ := vals1 r
  have fin : ∀ (t tk : Nat) (h' : Heap), (∀ b o, s.heap.get? b = some o → h'.get? b = some o) → EP X pins σ Q (.str d.shown t) { s with heap := h', toks := tk } := fun t tk h' k => ⟨.str _, H, I.kept k, ⟨t, rfl⟩, q⟩
  have refs : ∀ {a : Addr}, u = .ref a → Dd X.K H x d → wpAny (model X.prog X.w) X.A (call (.builtin "repr") [u]) (EP X pins σ Q) X.xe s := fun {a} eu hd => by
    subst eu
    obtain ⟨as, rd, sy⟩ := dd_reads I hd ru
    exact repr_of_reads' (h₀ := s.heap) rd sh sy hg (by omega) (fun _ _ e => e) (fun h' t tk k => fin t tk h' k) len
  rcases hd with hd | ⟨a, z, y, e, rfl, ha, hy, rfl⟩
  · rcases hd with h | ⟨a, rfl, ha, rfl⟩
    · cases h with
      | non =>
        obtain rfl : u = Value.none := ru
        exact PySem.P.repr_of_none (fin _ _ s.heap fun _ _ e => e)
      | bl b =>
        obtain rfl : u = Value.bool b := ru
        refine PySem.P.repr_of_bool ?_
        have z := fin s.toks (s.toks + 1) s.heap fun _ _ e => e
        cases b <;> simpa only [PyData.shown] using z
      | int i =>
        obtain ⟨t, rfl⟩ := ru
        refine PySem.P.repr_of_int ?_ (fin _ _ s.heap fun _ _ e => e)
        simp only [PyData.showable] at sh
        exact of_decide_eq_true sh
      | str w =>
        obtain ⟨t, rfl⟩ := ru
        exact PySem.P.repr_of_str (fin _ _ s.heap fun _ _ e => e) len
      | lst h1 h2 =>
        obtain rfl : u = Value.ref _ := ru
        exact refs rfl (.inl (.lst h1 h2))
      | tup h1 h2 =>
        obtain rfl : u = Value.ref _ := ru
        exact refs rfl (.inl (.tup h1 h2))
    · obtain rfl : u = Value.ref a := ru
      exact refs rfl (.inr ⟨a, rfl, ha, rfl⟩)
  · obtain rfl : u = Value.ref a := ru
    exact repr_one hg hu I ha (.base (.inl hy)) sh dep len fin
end
end RepA

/-! xs.count(y), items being data of any depth -/
namespace CountD
open PySem PySem.Spec PyProof.Rows L2
def rCntD (K : PySem.W.Frag) : V → List V → Hp → VK → Prop := fun x xs H Q => ∃ (p : Addr) (ys : List V) (ds : List PyData) (y : V) (d : PyData), x = .ref p ∧ xs = [y] ∧ SqL K H p ys ∧ DpAll K H ys ds ∧ Dp K H y d ∧ PyData.plainAll ds = true ∧ d.plain = true ∧ d.depth ≤ 60 ∧ Q (.int ((ds.countP fun z => PyData.eqv z d : Nat) : Int)) H
theorem mt_countD {X : Cx} (hu : X.A.units + 65 < cLine) : MtR X "list.count" (rCntD X.K) := by
  intro pins s σ H x xs v us Q I rx rxs h
  obtain ⟨p, ys, ds, y, d, rfl, rfl, hs, all, hd, pa, pd, dep, q⟩ := h
  cases rx
  obtain ⟨u, rfl, ru⟩ := rxs.one
  obtain ⟨as, r1⟩ := Dp.reads I d y u hd ru
  obtain ⟨bs, r2⟩ := Dp.reads I (.list ds) (.ref p) (.ref p) (.lst hs all) rfl
  cases r2 with
  | list h1 h2 h3 h4 =>
    exact PySem.SeqAt.count_list_data ⟨_, h1, h2, _, h3⟩ h4 r1 pa pd (by have := Nat.min_le_right (PyData.depthAll ds) d.depth; omega) ⟨.int _, H, I.tok _, ⟨_, rfl⟩, q⟩
end CountD

namespace K32
open PySem PySem.Spec PyProof.Rows L2 LcM
def top (i : Nat) : Stmt := PySem.Challenge.pw_twopartings_k32_families_and_histories.main.body.getD i (.Pass ⟨0, 0, 0, 0⟩)
abbrev sStore : Stmt := top 32
abbrev sPick : Stmt := top 33

/-! ### power of a great base -/
def CPowW (i j : Int) : Prop := 0 ≤ j ∧ (Builtin.Int.intBits i : Int) * j ≤ 2 ^ 27
section
variable {X : Cx}
theorem op_powW : OpR X (binaryOp .Pow) (rI CPowW fun i j => .int (i ^ j.toNat)) := opI fun _ _ _ _ _ _ _ hc q => pow_int hc.1 hc.2 q
end
theorem bits_of {i : Int} {n : Nat} (h : i.natAbs < 2 ^ n) (h0 : 0 < n) : Builtin.Int.intBits i ≤ n := by
  unfold Builtin.Int.intBits
  split
  · omega
  · have := PySem.Flt.log2_lt_of h0 h
    omega
theorem pow3' {i : Int} {n : Nat} (h : i.natAbs < 2 ^ 64) (hn : n ≤ 1000) : CPowW i n := ⟨by omega, by
  have := bits_of h (by decide)
  have z : (Builtin.Int.intBits i : Int) * (n : Int) ≤ 64 * 1000 := Int.mul_le_mul (by omega) (by omega) (by omega) (by decide)
  omega⟩
theorem pow3 {i : Int} (h : i.natAbs < 2 ^ 300) : CPowW i 3 := ⟨by decide, by have := bits_of h (by decide); omega⟩

/-! ### the heap grows: all of it stays but at one place -/
def Gr (p : Addr) (H H' : Hp) : Prop := ∀ b o, b ≠ p → H b = some o → H' b = some o
theorem Gr.refl {p : Addr} {H : Hp} : Gr p H H := fun _ _ _ e => e
theorem Gr.trans {p : Addr} {H H1 H2 : Hp} (x : Gr p H H1) (y : Gr p H1 H2) : Gr p H H2 := fun b o n e => y b o n (x b o n e)
theorem Gr.new {p a : Addr} {H : Hp} {o : HO} (h : H a = none) : Gr p H (upd H a o) := fun b u n e => by
  rw [upd_ne (ne_of_none e h)]
  exact e
theorem Gr.at {p : Addr} {H : Hp} {o : HO} : Gr p H (upd H p o) := fun b u n e => by
  rw [upd_ne n]
  exact e
theorem _root_.LcM.Grows.gr {p : Addr} {H H' : Hp} (x : Grows H H') : Gr p H H' := fun b o _ e => x b o e
/-! ### the pouch -/
def Pch (H : Hp) (p : Addr) (m : Int) : Prop := ∃ d b n : Int, H p = some (.lst [.int d, .int b, .int n]) ∧ 0 ≤ b ∧ b < 2 ^ 200 ∧ 0 ≤ n ∧ n ≤ m
theorem Pch.le {H : Hp} {p : Addr} {m k : Int} (h : Pch H p m) (l : m ≤ k) : Pch H p k := by
  obtain ⟨d, b, n, e, h1, h2, h3, h4⟩ := h
  exact ⟨d, b, n, e, h1, h2, h3, by omega⟩
theorem Pch.same {H H' : Hp} {p : Addr} {m : Int} (h : Pch H p m) (s : Grows H H') : Pch H' p m := by
  obtain ⟨d, b, n, e, r⟩ := h
  exact ⟨d, b, n, s _ _ e, r⟩
structure Txt0 (mg : Str → Option Value) : Prop where
  int : mg "int" = none
  range : mg "range" = none
  len : mg "len" = none
  abs : mg "abs" = none
  max : mg "max" = none
  min : mg "min" = none
def spStore (K : PySem.W.Frag) : Sp := fun vs H Q _ => ∃ (a : Addr) (i : Int) (ns : List Int), vs = [.ref a, .int i] ∧ SqL K H a (ns.map V.int) ∧ 0 ≤ i ∧ i < 1000 ∧ ∀ (p : Addr) (H' : Hp), H p = none → Grows H H' → Pch H' p 0 → Q (.ref p) H'
def spPick : Sp := fun vs H Q _ => ∃ (p : Addr) (w m : Int), vs = [.ref p, .int w] ∧ Pch H p m ∧ m < 2 ^ 60 ∧ 0 < w ∧ w.natAbs < 2 ^ 200 ∧ ∀ (v : Int) (H' : Hp), 0 ≤ v → v < w → Pch H' p (m + 1) → (∀ b, b ≠ p → H' b = H b) → Q (.int v) H'

section
variable {P : Program} {w : World} {K : PySem.W.Frag} {mg : Str → Option Value} {base : Heap}
theorem scStore : FnScope ["script", "k", "cell"] ["script", "k"] (defScope sStore) := ⟨rfl, rfl, rfl, by decide +kernel, rfl, by decide +kernel, by decide +kernel⟩
theorem ok_store {f : Addr} {fd : FuncData} (F : Fun K "_law_store" "_law_store" sStore f fd) (T : Txt0 mg) : FnOk P w K mg base CX0 1 f fd ["script", "k"] (spStore K) := by
  refine F.ok scStore (fun vs H Q E h => ?_) (fun cdv A outer s H vs Q E hr h => ?_)
  · obtain ⟨a, i, ns, rfl, _⟩ := h
    rfl
  · obtain ⟨a, i, ns, rfl, hS, h0, h1, k⟩ := h
    refine ⟨_, (pss_cons (ps_set (i := 2) scStore.nd rfl (.inl rfl) (pe_ifExp (pt_cmpR op_lt (pv 1) (pe_callB call_len_seq (by rfl) T.len (by decide +kernel) (pa_cons (pv 0) pa_nil)) (nomark _)) (pe_callB call_abs (by rfl) T.abs (by decide +kernel) (pa_cons (pe_ix (r := rIxL K) ix_list (pv 0) (pv 1) (fun _ _ => rfl)) pa_nil)) pe_int))
      (pss_one (ps_ret (pe_lst (pa_cons (pe_callB (call_max2 rfl) (by rfl) T.max (by decide +kernel) (pa_cons pe_int (pa_cons (pe_op op_sub (pv 2) (pe_op op_powW pe_int pe_int)) pa_nil))) (pa_cons (pe_op op_add (pe_op op_mul (pe_op op_mod (pe_callTy call_int1 (by rfl) T.int (by decide +kernel) (pa_cons (pv 2) pa_nil)) (pe_op op_add (pe_op op_powW pe_int pe_int) pe_int)) pe_int) (pe_op op_mul pe_int (pv 1))) (pa_cons pe_int pa_nil))))))), ?_⟩
    have hP : CPowW 10 18 := pow3' (by decide) (by decide)
    have hP2 : CPowW 10 37 := pow3' (by decide) (by decide)
    have pos : (0 : Int) < (10 : Int) ^ (37 : Int).toNat + 43 := by decide
    have fin : ∀ c : Int, gName 2 (V.int c) (L2.start ["script", "k", "cell"] [V.ref a, V.int i]) H
        ({ nx := tRet (tLst (tCons (tCB (fun xs H Q => ∃ i j, xs = [V.int i, V.int j] ∧ Q (V.int (if j > i then j else i)) H) (tCons (tC (V.int 0)) (tCons (tOp (rI0 fun i j => V.int (i - j)) (tVar 2) (tOp (rI CPowW fun i j => V.int (i ^ j.toNat)) (tC (V.int 10)) (tC (V.int 18)))) tNil)))
              (tCons (tOp (rI0 fun i j => V.int (i + j)) (tOp (rI CMul fun i j => V.int (i * j)) (tOp (rI (fun x j => 0 < j) fun i j => V.int (i % j)) (tCB (fun xs H Q => (∃ i, xs = [V.int i] ∧ Q (V.int i) H) ∨ ∃ k, xs = [V.bl k] ∧ Q (V.int (if k = true then 1 else 0)) H) (tCons (tVar 2) tNil))
                (tOp (rI0 fun i j => V.int (i + j)) (tOp (rI CPowW fun i j => V.int (i ^ j.toNat)) (tC (V.int 10)) (tC (V.int 37))) (tC (V.int 43)))) (tC (V.int 83))) (tOp (rI CMul fun i j => V.int (i * j)) (tC (V.int 7)) (tVar 1))) (tCons (tC (V.int 0)) tNil))))
            ({ nx := fun _ H' => Q V.non H', rt := Q } : Ends), rt := Q } : Ends).nx := fun c => by
      refine ⟨_, rfl, _, _, rfl, rfl, hP, _, _, rfl, rfl, _, _, rfl, _, rfl, .inl ⟨_, rfl, _, _, rfl, rfl, hP2, _, _, rfl, rfl, _, _, rfl, rfl, pos, _, _, rfl, rfl, .inr ⟨by decide, by decide⟩, _, rfl, _, _, rfl, rfl, .inl ⟨by decide, by decide⟩, _, _, rfl, rfl, ?_⟩⟩
      have l0 := Int.emod_nonneg c (Int.ne_of_gt pos)
      have l1 := Int.emod_lt_of_pos c pos
      have e0 : (10 : Int) ^ (37 : Int).toNat + 43 = 10000000000000000000000000000000000043 := by decide
      rw [e0] at l0 l1 ⊢
      refine ⟨(by show 3 ≤ sizeLine; decide), fun l hl => k l _ hl (Grows.new hl) ⟨_, _, _, upd_same, ?_, ?_, by decide, by decide⟩⟩
      · omega
      · omega
    refine ⟨_, rfl, _, rfl, a, _, rfl, .inl hS, _, _, rfl, rfl, _, rfl, ?_⟩
    refine ite2 (fun e => ?_) (fun e => ?_)
    · have lt : i.toNat < ns.length := by
        have q := of_decide_eq_true e
        rw [List.length_map] at q
        omega
      have g : (ns.map V.int)[i.toNat]? = some (.int ns[i.toNat]) := by
        rw [List.getElem?_map, List.getElem?_eq_getElem lt]
        rfl
      have g2 : atI (ns.map V.int) i = some (.int ns[i.toNat]) := by
        have q := atI_nat g
        rw [Int.toNat_of_nonneg h0] at q
        exact q
      refine ⟨_, rfl, _, rfl, a, _, _, _, rfl, rfl, hS, g2, _, rfl, ?_⟩
      exact fin _
    · exact fin _
theorem scPick : FnScope ["store", "bound", "digit", "mixed"] ["store", "bound"] (defScope sPick) := ⟨rfl, rfl, rfl, by decide +kernel, rfl, by decide +kernel, by decide +kernel⟩
theorem ok_pick {f : Addr} {fd : FuncData} (F : Fun K "_law_pick" "_law_pick" sPick f fd) (T : Txt0 mg) : FnOk P w K mg base CX0 1 f fd ["store", "bound"] spPick := by
  refine F.ok scPick (fun vs H Q E h => ?_) (fun cdv A outer s H vs Q E hr h => ?_)
  · obtain ⟨p, wd, m, rfl, _⟩ := h
    rfl
  · obtain ⟨p, wd, m, rfl, ⟨d, b, n, e, b0, b1, n0, n1⟩, hm, hw, hw2, k⟩ := h
    refine ⟨_, (pss_cons (ps_if (pt_cmpR op_gt (pe_ix (r := rIxL K) ix_list (pv 0) pe_int (fun _ _ => rfl)) pe_int (nomark _)) (pss_cons (ps_set (i := 2) scPick.nd rfl (.inl rfl) (pe_op op_mod (pe_callTy call_int1 (by rfl) T.int (by decide +kernel) (pa_cons (pe_ix (r := rIxL K) ix_list (pv 0) pe_int (fun _ _ => rfl)) pa_nil)) (pv 1)))
      (pss_cons (ps_asg (pe_op op_fdivW (pe_ix (r := rIxL K) ix_list (pv 0) pe_int (fun _ _ => rfl)) (pv 1)) (pg_sub (pv 0) pe_int set_list))
      (pss_one (ps_ret (pv 2))))) pss_nil)
      (pss_cons (ps_asg (pe_op op_add (pe_ix (r := rIxL K) ix_list (pv 0) pe_int (fun _ _ => rfl)) pe_int) (pg_sub (pv 0) pe_int set_list))
      (pss_cons (ps_set (i := 3) scPick.nd rfl (.inl rfl) (pe_op op_mod (pe_callTy call_int1 (by rfl) T.int (by decide +kernel) (pa_cons (pe_op op_powW (pe_op op_add (pe_ix (r := rIxL K) ix_list (pv 0) pe_int (fun _ _ => rfl)) (pe_op op_mul pe_int (pe_ix (r := rIxL K) ix_list (pv 0) pe_int (fun _ _ => rfl)))) pe_int) pa_nil)) (pe_op op_add (pe_op op_powW pe_int pe_int) pe_int)))
      (pss_cons (ps_set (i := 3) scPick.nd rfl (.inl rfl) (pe_op op_mod (pe_callTy call_int1 (by rfl) T.int (by decide +kernel) (pa_cons (pe_op op_powW (pe_op op_add (pv 3) (pe_op op_mul pe_int (pe_ix (r := rIxL K) ix_list (pv 0) pe_int (fun _ _ => rfl)))) pe_int) pa_nil)) (pe_op op_add (pe_op op_powW pe_int pe_int) pe_int)))
      (pss_one (ps_ret (pe_op op_mod (pe_callTy call_int1 (by rfl) T.int (by decide +kernel) (pa_cons (pe_op op_fdivW (pv 3) pe_int) pa_nil)) (pv 1)))))))), ?_⟩
    refine ⟨_, rfl, p, _, _, _, rfl, rfl, SqL.of e, rfl, _, _, rfl, rfl, _, rfl, ?_⟩
    refine ite2 (fun _ => ?_) (fun _ => ?_)
    · refine ⟨_, rfl, p, _, _, _, rfl, rfl, SqL.of e, rfl, .inl ⟨_, rfl, _, rfl, _, _, rfl, rfl, hw, _, rfl, p, _, _, _, rfl, rfl, SqL.of e, rfl, _, rfl, _, _, rfl, rfl, wide_div hw hw2 (by decide) (by decide), _, rfl, p, _, _, 0, rfl, rfl, e, rfl, _, rfl, ?_⟩⟩
      exact k _ _ (Int.emod_nonneg _ (by omega)) (Int.emod_lt_of_pos _ hw) ⟨_, _, _, upd_same, b0, b1, n0, by omega⟩ fun _ h => upd_ne h
    · refine ⟨_, rfl, p, _, _, _, rfl, rfl, SqL.of e, rfl, _, _, rfl, rfl, _, rfl, p, _, _, 2, rfl, rfl, e, rfl, ?_⟩
      have hP : CPowW 10 40 := pow3' (by decide) (by decide)
      have hP2 : CPowW 10 39 := pow3' (by decide) (by decide)
      have q0 : (0 : Int) < (10 : Int) ^ (40 : Int).toNat + 121 := by decide
      have q1 : (0 : Int) < (10 : Int) ^ (39 : Int).toNat + 3 := by decide
      have q2 : (10 : Int) ^ (40 : Int).toNat + 121 < 2 ^ 200 := by decide
      have c1 : CPowW (b + 32416187567 * (n + 1)) 3 := pow3 (by omega)
      refine ⟨_, rfl, p, _, _, _, rfl, rfl, SqL.of upd_same, rfl, _, rfl, p, _, _, _, rfl, rfl, SqL.of upd_same, rfl, _, _, rfl, rfl, .inl ⟨by decide, by decide⟩, _, _, rfl, rfl, _, _, rfl, rfl, c1, .inl ⟨_, rfl, _, _, rfl, rfl, hP, _, _, rfl, rfl, _, _, rfl, rfl, q0, ?_⟩⟩
      obtain ⟨y, hy⟩ : ∃ y : Int, y = (b + 32416187567 * (n + 1)) ^ (3 : Int).toNat % ((10 : Int) ^ (40 : Int).toNat + 121) := ⟨_, rfl⟩
      have y0 : 0 ≤ y := hy ▸ Int.emod_nonneg _ (Int.ne_of_gt q0)
      have y1 : y < (10 : Int) ^ (40 : Int).toNat + 121 := hy ▸ Int.emod_lt_of_pos _ q0
      have c2 : CPowW (y + 27644437 * (n + 1)) 3 := pow3 (by omega)
      show gName 3 (.int ((b + 32416187567 * (n + 1)) ^ (3 : Int).toNat % ((10 : Int) ^ (40 : Int).toNat + 121))) _ _ _
      rw [← hy]
      refine ⟨_, rfl, _, rfl, p, _, _, _, rfl, rfl, SqL.of upd_same, rfl, _, _, rfl, rfl, .inl ⟨by decide, by decide⟩, _, _, rfl, rfl, _, _, rfl, rfl, c2, .inl ⟨_, rfl, _, _, rfl, rfl, hP2, _, _, rfl, rfl, _, _, rfl, rfl, q1, ?_⟩⟩
      refine ⟨_, rfl, _, _, rfl, rfl, ⟨by decide, by decide⟩, .inl ⟨_, rfl, _, rfl, _, _, rfl, rfl, hw, ?_⟩⟩
      exact k _ _ (Int.emod_nonneg _ (by omega)) (Int.emod_lt_of_pos _ hw) ⟨_, _, _, upd_same, b0, b1, by omega, by omega⟩ fun _ h => upd_ne h
end
end K32

namespace K32
open PySem PySem.Spec PyProof.Rows L2 LcM
abbrev sCome : Stmt := top 36
theorem at_in {xs : List V} {v : Int} (h0 : 0 ≤ v) (h1 : v < xs.length) : ∃ z ∈ xs, atI xs v = some z := by
  have lt : v.toNat < xs.length := by omega
  have q := atI_nat (List.getElem?_eq_getElem lt)
  rw [Int.toNat_of_nonneg h0] at q
  exact ⟨_, List.getElem_mem lt, q⟩
/-- items of newcomers: each within its bounds -/
def Bnd (xs : List Int) : Prop := ∀ (j : Nat) (x : Int), xs[j]? = some x → -(j : Int) ≤ x ∧ x ≤ (j : Int)
theorem Bnd.add {xs : List Int} {x : Int} (h : Bnd xs) (h0 : -(xs.length : Int) ≤ x) (h1 : x ≤ (xs.length : Int)) : Bnd (xs ++ [x]) := fun j y e => by
  rcases Nat.lt_or_ge j xs.length with z | z
  · rw [List.getElem?_append_left z] at e
    exact h j y e
  · rw [List.getElem?_append_right z] at e
    have : j - xs.length = 0 := by
      rcases Nat.eq_zero_or_pos (j - xs.length) with q | q
      · exact q
      · rw [List.getElem?_eq_none (by show 1 ≤ j - xs.length; omega)] at e
        cases e
    rw [this] at e
    have e' : x = y := Option.some.inj e
    omega
def spCome : Sp := fun vs H Q _ => ∃ (p : Addr) (mn m : Int), vs = [.ref p, .int mn] ∧ Pch H p m ∧ m < 2 ^ 50 ∧ 1 ≤ mn ∧ mn ≤ 20 ∧
  ∀ (l : Addr) (xs : List Int) (H' : Hp), (xs.length : Int) = mn - 1 → Bnd xs → Pch H' p (m + 100) → Gr p H H' → H l = none → H' l = some (.lst (xs.map V.int)) → Q (.ref l) H'
theorem but_at {p a : Addr} {H H' : Hp} {o : HO} (h : ∀ b, b ≠ p → H' b = H b) (e : H a = some o) (n : a ≠ p) : H' a = some o := (h a n).trans e
theorem but_gr {p : Addr} {H H' : Hp} (h : ∀ b, b ≠ p → H' b = H b) : Gr p H H' := fun b o n e => (h b n).trans e
theorem pch_ne {p a : Addr} {H : Hp} {m : Int} (h : Pch H p m) (n : H a = none) : a ≠ p := fun e => by
  obtain ⟨_, _, _, q, _⟩ := h
  rw [← e, n] at q
  cases q
section
variable {P : Program} {w : World} {K : PySem.W.Frag} {mg : Str → Option Value} {base : Heap}
structure TxtP1 (mg : Str → Option Value) (fP : Addr) : Prop extends Txt0 mg where
  gP : mg "_law_pick" = some (.ref fP)
theorem seq_all {t u : TS} {D : Ends} {σ : L2.St} {H : Hp} (I : L2.St → Hp → Prop) (h2 : ∀ σ' H', I σ' H' → u D σ' H') (h1 : (∀ σ' H', I σ' H' → u D σ' H') → tSeq t u D σ H) : tSeq t u D σ H := h1 h2
theorem iteN {A B : Prop} (c : Bool) (h1 : c = true → A) (h2 : c = false → B) : if c = true then A else B := by
  cases c
  · exact h2 rfl
  · exact h1 rfl
theorem nm_i {v : V} {i : Nat} {t u : TS} {D : Ends} {σ : L2.St} {H : Hp} (h : tSeq t u D (σ.set i (some v)) H) : gName i v σ H (tSeq t u D) := h
theorem scCome : FnScope ["store", "many_here", "found", "way", "who", "item"] ["store", "many_here"] (defScope sCome) := ⟨rfl, rfl, rfl, by decide +kernel, rfl, by decide +kernel, by decide +kernel⟩
theorem ok_come {f fP : Addr} {fd fdP : FuncData} (F : Fun K "_law_come" "_law_come" sCome f fd) (T : TxtP1 mg fP) (FP : Fun K "_law_pick" "_law_pick" sPick fP fdP) (bP : Binds K fdP ["store", "bound"] []) : FnOk P w K mg base CX0 2 f fd ["store", "many_here"] spCome := by
  have GP : FnOk P w K mg base CX0 1 fP fdP ["store", "bound"] spPick := ok_pick FP T.toTxt0
  refine F.ok scCome (fun vs H Q E h => ?_) (fun cdv A outer s H vs Q E hr h => ?_)
  · obtain ⟨p, mn, m, rfl, _⟩ := h
    rfl
  · obtain ⟨p, mn, m, rfl, hP, hm, hmn, hmx, k⟩ := h
    refine ⟨_, (pss_cons (ps_par (i := 2) (j := 3) (by rfl) scCome.nd rfl rfl (by decide) rfl rfl (pa_cons (pe_lst pa_nil) (pa_cons (pe_call GP (hr.mono (by decide)) rfl T.gP FP.kp bP .nil pass0 (pa_cons (pv 0) (pa_cons pe_int pa_nil))) pa_nil)) (by rfl))
      (pss_cons (ps_for PassesOwn.never rfl (pi_range2 (by rfl) T.range (pa_cons pe_int (pa_cons (pv 1) pa_nil))) (pg_name (i := 4) scCome.nd rfl (.inl rfl))
      (pss_cons (ps_set (i := 5) scCome.nd rfl (.inl rfl) (pe_op op_sub (pe_call GP (hr.mono (by decide)) rfl T.gP FP.kp bP .nil pass0 (pa_cons (pv 0) (pa_cons (pe_op op_sub (pe_op op_mul pe_int (pv 4)) pe_int) pa_nil))) (pe_op op_sub (pv 4) pe_int)))
      (pss_cons (ps_if (PW.pt (pw_and (pt_cmpR op_eq (pv 3) pe_int (nomark _)) (pw_and (pt_cmpR op_gt (pv 4) pe_int (nomark _)) (pw_and1 (pt_cmpR op_gt (pe_call GP (hr.mono (by decide)) rfl T.gP FP.kp bP .nil pass0 (pa_cons (pv 0) (pa_cons pe_int pa_nil))) pe_int (nomark _)))))) (pss_one (ps_set (i := 5) scCome.nd rfl (.inl rfl) (pe_op op_sub pe_int (pv 4)))) pss_nil)
      (pss_cons (ps_if (PW.pt (pw_and (pt_cmpR op_eq (pv 3) pe_int (nomark _)) (pw_and1 (pt_cmpR op_gt (pe_call GP (hr.mono (by decide)) rfl T.gP FP.kp bP .nil pass0 (pa_cons (pv 0) (pa_cons pe_int pa_nil))) pe_int (nomark _))))) (pss_one (ps_set (i := 5) scCome.nd rfl (.inl rfl) (pe_call GP (hr.mono (by decide)) rfl T.gP FP.kp bP .nil pass0 (pa_cons (pv 0) (pa_cons (pv 4) pa_nil))))) pss_nil)
      (pss_one (ps_expr (pe_bm PySem.F.plainAttrs_list PySem.F.slot_list_append PySem.F.type_list_append mt_append (pv 2) (pa_cons (pv 5) pa_nil))))))))
      (pss_one (ps_ret (pv 2))))), ?_⟩
    refine ⟨(by show 0 ≤ sizeLine; decide), fun l hl => ⟨_, rfl, ?_⟩⟩
    have nlp : l ≠ p := pch_ne hP hl
    refine ⟨p, _, _, rfl, hP.same (.new hl), by omega, by decide, by decide, fun v0 H1 v00 v01 hP1 but1 => ⟨_, _, rfl, ?_⟩⟩
    have el1 : H1 l = some (.lst []) := but_at but1 upd_same nlp
    refine ⟨_, rfl, 1, mn, rfl, ⟨by decide, by decide, by omega, by omega⟩, for_range (lo := 1) (n := (mn - 1).toNat) (fun i σ H' => ∃ (xs : List Int) (f1 f2 : Option V), σ = [some (.ref p), some (.int mn), some (.ref l), some (.int v0), f1, f2] ∧ xs.length = i ∧ Bnd xs ∧ Pch H' p (m + 1 + 4 * i) ∧ Gr p H H' ∧ H' l = some (.lst (xs.map V.int)))
      ⟨[], none, none, rfl, rfl, (fun j x e => by rw [List.getElem?_nil] at e; cases e), hP1.le (by omega), (Gr.new hl).trans (but_gr but1), el1⟩ ?_ ?_⟩
    · rintro i σ H2 hi ⟨xs, f1, f2, rfl, hxl, hb, hP2, gr2, e2⟩
      have hi20 : i < 19 := by omega
      refine ⟨_, rfl, _, rfl, _, _, rfl, rfl, .inl ⟨by decide, by decide⟩, _, _, rfl, rfl, p, _, _, rfl, hP2, by omega, by omega, ?_, fun v1 H3 v10 v11 hP3 but3 => ?_⟩
      · show (2 * (1 + (i : Int)) - 1).natAbs < 2 ^ 200
        omega
      refine ⟨_, rfl, _, _, rfl, rfl, _, _, rfl, rfl, ?_⟩
      dsimp only
      refine nm_i ?_
      refine seq_all (fun σ H' => ∃ x : Int, σ = [some (.ref p), some (.int mn), some (.ref l), some (.int v0), some (.int (1 + (i : Int))), some (.int x)] ∧ -(i : Int) ≤ x ∧ x ≤ (i : Int) ∧ Pch H' p (m + 1 + 4 * i + 2) ∧ Gr p H2 H') (fun σ' H' ⟨x, e, x0, x1, hP4, gr4⟩ => ?_) fun k2 => ?_
      · subst e
        refine seq_all (fun σ H' => ∃ x : Int, σ = [some (.ref p), some (.int mn), some (.ref l), some (.int v0), some (.int (1 + (i : Int))), some (.int x)] ∧ -(i : Int) ≤ x ∧ x ≤ (i : Int) ∧ Pch H' p (m + 1 + 4 * i + 4) ∧ Gr p H2 H') (fun σ' H' ⟨x, e, x0, x1, hP4, gr4⟩ => ?_) fun k3 => ?_
        · subst e
          have el := gr4 l _ nlp e2
          refine ⟨_, rfl, .inl ⟨rfl, _, SqL.of el⟩, _, rfl, l, _, _, rfl, rfl, el, ?_, ?_⟩
          · rw [List.length_map]
            exact small1000 (by omega)
          · refine ⟨xs ++ [x], _, _, rfl, by rw [List.length_append, hxl]; rfl, hb.add (by omega) (by omega), ?_, ?_, by rw [upd_same, List.map_append]; rfl⟩
            · obtain ⟨d, b, n, e, b0, b1, n0, n1⟩ := hP4
              exact ⟨d, b, n, (upd_ne nlp.symm).trans e, b0, b1, n0, by omega⟩
            · intro b o nb' eb
              rcases Classical.em (b = l) with e | e
              · rw [e, hl] at eb
                cases eb
              · rw [upd_ne e]
                exact gr4 b o nb' (gr2 b o nb' eb)
        · refine ⟨_, rfl, rfl, _, rfl, ?_⟩
          refine iteN _ (fun _ => ?_) fun _ => ?_
          · refine ⟨_, rfl, p, _, _, rfl, hP4, by omega, by decide, by decide, fun v2 H4 v20 v21 hP5 but5 => ⟨_, _, rfl, rfl, _, rfl, iteN _ (fun _ => ?_) fun _ => ?_⟩⟩
            · refine ⟨_, rfl, _, rfl, p, _, _, rfl, hP5, by omega, by omega, ?_, fun v3 H5 v30 v31 hP6 but6 => k3 _ _ ⟨v3, rfl, by omega, by omega, hP6.le (by omega), (gr4.trans (but_gr but5)).trans (but_gr but6)⟩⟩
              show (1 + (i : Int)).natAbs < 2 ^ 200
              omega
            · exact k3 _ _ ⟨x, rfl, x0, x1, hP5.le (by omega), gr4.trans (but_gr but5)⟩
          · exact k3 _ _ ⟨x, rfl, x0, x1, hP4.le (by omega), gr4⟩
      · refine ⟨_, rfl, rfl, _, rfl, ?_⟩
        have hx0 : -(i : Int) ≤ v1 - (1 + (i : Int) - 1) := by omega
        have hx1 : v1 - (1 + (i : Int) - 1) ≤ (i : Int) := by omega
        refine iteN _ (fun _ => ?_) fun _ => ?_
        · refine ⟨_, rfl, _, _, rfl, rfl, _, rfl, iteN _ (fun _ => ?_) fun _ => ?_⟩
          · refine ⟨_, rfl, p, _, _, rfl, hP3, by omega, by decide, by decide, fun v2 H4 v20 v21 hP5 but5 => ⟨_, _, rfl, rfl, _, rfl, iteN _ (fun _ => ?_) fun _ => ?_⟩⟩
            · exact ⟨_, rfl, _, _, rfl, rfl, k2 _ _ ⟨1 - (1 + (i : Int)), rfl, by omega, by omega, hP5.le (by omega), (but_gr but3).trans (but_gr but5)⟩⟩
            · exact k2 _ _ ⟨_, rfl, hx0, hx1, hP5.le (by omega), (but_gr but3).trans (but_gr but5)⟩
          · exact k2 _ _ ⟨_, rfl, hx0, hx1, hP3.le (by omega), but_gr but3⟩
        · exact k2 _ _ ⟨_, rfl, hx0, hx1, hP3.le (by omega), but_gr but3⟩
    · rintro σ H2 ⟨xs, f1, f2, rfl, hxl, hb, hP2, gr2, e2⟩
      exact ⟨_, rfl, k l xs H2 (by omega) hb (hP2.le (by omega)) gr2 hl e2⟩
end
end K32


namespace K32
open PySem PySem.Spec PyProof.Rows L2 SortR LcM
abbrev sNumber : Stmt := top 9
abbrev sPerson : Stmt := top 10
abbrev sAsc : Stmt := top 11
abbrev sPList : Stmt := top 12
abbrev sGroup : Stmt := top 13
abbrev sMask : Stmt := top 16
abbrev sCross : Stmt := top 17
abbrev sAny : Stmt := top 18
abbrev sParting : Stmt := top 21
abbrev sPersons : Stmt := top 22
/-- the program's defs, where they stand -/
structure ProgF (K : PySem.W.Frag) (mg : Str → Option Value) where
  (fNum fPer fAsc fPL fGr fMask fCross fAny fIs fPs : Addr)
  (dNum dPer dAsc dPL dGr dMask dCross dAny dIs dPs : FuncData)
  FNum : Fun K "is_number" "is_number" sNumber fNum dNum
  FPer : Fun K "is_person" "is_person" sPerson fPer dPer
  FAsc : Fun K "is_ascending" "is_ascending" sAsc fAsc dAsc
  FPL : Fun K "is_person_list" "is_person_list" sPList fPL dPL
  FGr : Fun K "is_group" "is_group" sGroup fGr dGr
  FMask : Fun K "mask_of" "mask_of" sMask fMask dMask
  FCross : Fun K "masks_cross" "masks_cross" sCross fCross dCross
  FAny : Fun K "any_cross" "any_cross" sAny fAny dAny
  FIs : Fun K "is_parting" "is_parting" sParting fIs dIs
  FPs : Fun K "persons_of" "persons_of" sPersons fPs dPs
  gNum : mg "is_number" = some (.ref fNum)
  gPer : mg "is_person" = some (.ref fPer)
  gAsc : mg "is_ascending" = some (.ref fAsc)
  gPL : mg "is_person_list" = some (.ref fPL)
  gGr : mg "is_group" = some (.ref fGr)
  gMask : mg "mask_of" = some (.ref fMask)
  gCross : mg "masks_cross" = some (.ref fCross)
  gAny : mg "any_cross" = some (.ref fAny)
  gIs : mg "is_parting" = some (.ref fIs)
  gPs : mg "persons_of" = some (.ref fPs)
  bNum : Binds K dNum ["thing"] []
  bPer : Binds K dPer ["thing", "persons"] []
  bAsc : Binds K dAsc ["items"] []
  bPL : Binds K dPL ["thing", "persons"] []
  bGr : Binds K dGr ["thing", "persons"] []
  bMask : Binds K dMask ["group"] []
  bCross : Binds K dCross ["one", "other"] []
  bAny : Binds K dAny ["groups"] []
  bIs : Binds K dIs ["thing"] []
  bPs : Binds K dPs ["parting"] []
  gComb : mg "combinations" = some (.type "itertools.combinations")
  mostT : Tok
  gMost : mg "MOST_PERSONS" = some (.int 20 mostT)
/-- the built-in kinds that may come -/
def kinds : List String := ["int", "bool", "str", "NoneType", "list", "tuple", "dict"]
structure TxtP (mg : Str → Option Value) : Prop where
  isi : mg "isinstance" = none
  int : mg "int" = none
  bool : mg "bool" = none
  list : mg "list" = none
  len : mg "len" = none
  all : mg "all" = none
  any : mg "any" = none
  sum : mg "sum" = none
  zip : mg "zip" = none
  sorted : mg "sorted" = none
  tuple : mg "tuple" = none
  range : mg "range" = none
  enumerate : mg "enumerate" = none
def spNumber (K : PySem.W.Frag) : Sp := fun vs H Q _ => ∃ (x : V) (t : String), vs = [x] ∧ TyX K H x (.type t) ∧ t ∈ kinds ∧ Q (.bl (decide (t = "int"))) H
def spPerson (K : PySem.W.Frag) : Sp := fun vs H Q _ => ∃ (x : V) (t : String) (n : Int), vs = [x, .int n] ∧ TyX K H x (.type t) ∧ t ∈ kinds ∧ (t = "int" → ∃ i, x = .int i ∧ Q (.bl (decide (0 ≤ i) && decide (i < n))) H) ∧ (t ≠ "int" → Q (.bl false) H)
/-- each below the one behind it -/
def ascI (ns : List Int) : Bool := (List.range (ns.length - 1)).all fun i => decide (ns.getD i 0 < ns.getD (i + 1) 0)
def ascR (rs : List (List Int)) : Bool := (List.range (rs.length - 1)).all fun i => decide (rs.getD i [] < rs.getD (i + 1) [])
def spAscI (K : PySem.W.Frag) : Sp := fun vs H Q _ => ∃ (a : Addr) (ns : List Int), vs = [.ref a] ∧ SqL K H a (ns.map V.int) ∧ ns.length ≤ 1000 ∧ ∀ H', Grows H H' → Q (.bl (ascI ns)) H'
def spAscR (K : PySem.W.Frag) : Sp := fun vs H Q _ => ∃ (a : Addr) (bs : List (Addr × List Int)), vs = [.ref a] ∧ SqL K H a (bs.map fun b => V.ref b.1) ∧ (∀ b ∈ bs, SqL K H b.1 (b.2.map V.int)) ∧ bs.length ≤ 1000 ∧ ∀ H', Grows H H' → Q (.bl (ascR (bs.map (·.2)))) H'
section
variable {P : Program} {w : World} {K : PySem.W.Frag} {mg : Str → Option Value} {base : Heap}
theorem scNumber : FnScope ["thing"] ["thing"] (defScope sNumber) := ⟨rfl, rfl, rfl, by decide +kernel, rfl, by decide +kernel, by decide +kernel⟩
theorem scPerson : FnScope ["thing", "persons"] ["thing", "persons"] (defScope sPerson) := ⟨rfl, rfl, rfl, by decide +kernel, rfl, by decide +kernel, by decide +kernel⟩
theorem scAsc : FnScope ["items", "low", "high"] ["items"] (defScope sAsc) := ⟨rfl, rfl, rfl, by decide +kernel, rfl, by decide +kernel, by decide +kernel⟩
theorem ok_number {f : Addr} {fd : FuncData} (F : Fun K "is_number" "is_number" sNumber f fd) (T : TxtP mg) : FnOk P w K mg base CX0 1 f fd ["thing"] (spNumber K) := by
  refine F.ok scNumber (fun vs H Q E h => ?_) (fun cdv A outer s H vs Q E hr h => ?_)
  · obtain ⟨x, t, rfl, _⟩ := h
    rfl
  · obtain ⟨x, t, rfl, ty, hk, k⟩ := h
    refine ⟨_, (pss_one (ps_ret (pe_and (pe_callB call_isi (by rfl) T.isi (by decide +kernel) (pa_cons (pv 0) (pa_cons (pe_bltn (v := .ty "int") (u := .type "int") (by rfl) T.int (by decide +kernel) rfl) pa_nil))) (pe_one (pe_not (pe_callB call_isi (by rfl) T.isi (by decide +kernel) (pa_cons (pv 0) (pa_cons (pe_bltn (v := .ty "bool") (u := .type "bool") (by rfl) T.bool (by decide +kernel) rfl) pa_nil)))))))), ?_⟩
    simp only [kinds, List.mem_cons, List.not_mem_nil, or_false] at hk
    rcases hk with rfl | rfl | rfl | rfl | rfl | rfl | rfl
    · exact ⟨_, rfl, _, _, _, _, true, rfl, .ty "int", ty, kit_ty (by decide +kernel), true, rfl, _, rfl, _, _, _, _, false, rfl, .ty "bool", ty, kit_ty (by decide +kernel), false, rfl, k⟩
    · exact ⟨_, rfl, _, _, _, _, true, rfl, .ty "int", ty, kit_ty (by decide +kernel), true, rfl, _, rfl, _, _, _, _, true, rfl, .ty "bool", ty, kit_ty (by decide +kernel), true, rfl, k⟩
    all_goals exact ⟨_, rfl, _, _, _, _, false, rfl, .ty "int", ty, kit_ty (by decide +kernel), false, rfl, k⟩
theorem ok_person (Z : ProgF K mg) (T : TxtP mg) : FnOk P w K mg base CX0 2 Z.fPer Z.dPer ["thing", "persons"] (spPerson K) := by
  have GNum : FnOk P w K mg base CX0 1 Z.fNum Z.dNum ["thing"] (spNumber K) := ok_number Z.FNum T
  refine Z.FPer.ok scPerson (fun vs H Q E h => ?_) (fun cdv A outer s H vs Q E hr h => ?_)
  · obtain ⟨x, t, n, rfl, _⟩ := h
    rfl
  · obtain ⟨x, t, n, rfl, ty, hk, k1, k2⟩ := h
    refine ⟨_, (pss_one (ps_ret (pe_and (pe_call GNum (hr.mono (by decide)) rfl Z.gNum Z.FNum.kp Z.bNum .nil pass0 (pa_cons (pv 0) pa_nil)) (pe_one (pe_chain op_le op_lt pe_int (pv 0) (pv 1)))))), ?_⟩
    refine ⟨_, rfl, x, t, rfl, ty, hk, ?_⟩
    by_cases e : t = "int"
    · obtain ⟨i, rfl, q⟩ := k1 e
      refine ⟨_, rfl, ?_⟩
      rw [if_pos (decide_eq_true e)]
      refine ⟨_, rfl, _, _, rfl, rfl, _, rfl, ?_⟩
      by_cases l : 0 ≤ i
      · rw [if_pos (decide_eq_true l)]
        refine ⟨_, rfl, _, _, rfl, rfl, ?_⟩
        rw [decide_eq_true l, Bool.true_and] at q
        exact q
      · rw [if_neg (by rw [decide_eq_false l]; exact Bool.false_ne_true)]
        rw [decide_eq_false l, Bool.false_and] at q
        exact q
    · refine ⟨_, rfl, ?_⟩
      rw [if_neg (by rw [decide_eq_false e]; exact Bool.false_ne_true)]
      exact k2 e
theorem at_map {α : Type} {f : α → V} {ns : List α} {i : Nat} {x : V} {d : α} (h : (ns.map f)[i]? = some x) : x = f (ns.getD i d) := by
  rw [List.getElem?_map] at h
  obtain ⟨z, hz, e⟩ := Option.map_eq_some_iff.mp h
  rw [← e, List.getD_eq_getElem?_getD, hz]
  rfl
theorem at_tail {α : Type} {f : α → V} {ns : List α} {i : Nat} {x : V} {d : α} (h : (ns.map f).tail[i]? = some x) : x = f (ns.getD (i + 1) d) := by
  rw [List.getElem?_tail] at h
  exact at_map h
theorem all_rng (n : Nat) (p : Nat → Bool) : ((List.range n).map p).all id = (List.range n).all p := by
  rw [List.all_map]
  rfl
theorem ok_ascI {f : Addr} {fd : FuncData} (F : Fun K "is_ascending" "is_ascending" sAsc f fd) (T : TxtP mg) : FnOk P w K mg base CX0 1 f fd ["items"] (spAscI K) := by
  refine F.ok scAsc (fun vs H Q E h => ?_) (fun cdv A outer s H vs Q E hr h => ?_)
  · obtain ⟨a, ns, rfl, _⟩ := h
    rfl
  · obtain ⟨a, ns, rfl, hS, hn, k⟩ := h
    refine ⟨_, (pss_one (ps_ret (pe_callB (cr_all rfl) (by rfl) T.all (by decide +kernel) (pa_cons (pe_lc (own := [("low", 1), ("high", 2)]) (g := gTup K 2 (gCons (gName 1) (gCons (gName 2) gNil))) (tt := tYes) rfl scAsc.nd (pi_zip (by rfl) T.zip (pa_cons (pv 0) (pa_cons (pe_slice sl_list (pv 0) (po_some pe_int) po_none) pa_nil))) (blkOk_by (own := [("low", 1), ("high", 2)]) (N := ["items", "low", "high"]) (sc := defScope sAsc) (by decide +kernel)) (fun _ _ _ _ _ => pg_tup rfl (pgs_cons (pg_name (i := 1) scAsc.nd rfl (Or.inl rfl)) (pgs_cons (pg_name (i := 2) scAsc.nd rfl (Or.inl rfl)) pgs_nil))) (fun _ _ _ _ _ => pts_nil) (fun _ _ _ _ _ => (pe_cmpR op_lt (pv 1) (pv 2) (nomark _)))) pa_nil)))), ?_⟩
    refine ⟨_, rfl, _, rfl, 1, rfl, a, _, rfl, hS, fun c nc => ?_⟩
    rw [cut_tail]
    refine ⟨a, c, _, _, rfl, (Grows.new nc).seq hS, SqL.of upd_same, fun D hD => lc_zipM (K := K) (fun i => V.bl (decide (ns.getD i 0 < ns.getD (i + 1) 0))) hD ((Grows.new nc).seq hS) (SqL.of upd_same) (by rw [List.length_map]; omega) (fun i x y T H' R hx hy sm hT kR => ?_) fun H' sm eD => ?_⟩
    · refine ⟨T, _, rfl, SqT.of upd_same, rfl, _, _, rfl, _, _, rfl, rfl, ?_⟩
      obtain rfl := at_map (d := 0) hx
      obtain rfl := at_tail (d := 0) hy
      exact ⟨rfl, _, rfl, _, rfl, _, _, rfl, rfl, kR _ .refl⟩
    · have e : min (ns.map V.int).length (ns.map V.int).tail.length = ns.length - 1 := by
        rw [List.length_tail, List.length_map]
        omega
      rw [e] at eD
      refine ⟨D, (List.range (ns.length - 1)).map fun i => decide (ns.getD i 0 < ns.getD (i + 1) 0), rfl, SqL.of (by rw [eD, List.map_map]; rfl), ?_⟩
      rw [all_rng]
      exact k H' ((Grows.new nc).trans sm)
theorem ok_ascR {f : Addr} {fd : FuncData} (F : Fun K "is_ascending" "is_ascending" sAsc f fd) (T : TxtP mg) : FnOk P w K mg base CX0 1 f fd ["items"] (spAscR K) := by
  refine F.ok scAsc (fun vs H Q E h => ?_) (fun cdv A outer s H vs Q E hr h => ?_)
  · obtain ⟨a, bs, rfl, _⟩ := h
    rfl
  · obtain ⟨a, bs, rfl, hS, hb, hn, k⟩ := h
    refine ⟨_, (pss_one (ps_ret (pe_callB (cr_all rfl) (by rfl) T.all (by decide +kernel) (pa_cons (pe_lc (own := [("low", 1), ("high", 2)]) (g := gTup K 2 (gCons (gName 1) (gCons (gName 2) gNil))) (tt := tYes) rfl scAsc.nd (pi_zip (by rfl) T.zip (pa_cons (pv 0) (pa_cons (pe_slice sl_list (pv 0) (po_some pe_int) po_none) pa_nil))) (blkOk_by (own := [("low", 1), ("high", 2)]) (N := ["items", "low", "high"]) (sc := defScope sAsc) (by decide +kernel)) (fun _ _ _ _ _ => pg_tup rfl (pgs_cons (pg_name (i := 1) scAsc.nd rfl (Or.inl rfl)) (pgs_cons (pg_name (i := 2) scAsc.nd rfl (Or.inl rfl)) pgs_nil))) (fun _ _ _ _ _ => pts_nil) (fun _ _ _ _ _ => (pe_cmpR (r := rLtR K) (op_ltR (by exact hr.units)) (pv 1) (pv 2) (nomark _)))) pa_nil)))), ?_⟩
    refine ⟨_, rfl, _, rfl, 1, rfl, a, _, rfl, hS, fun c nc => ?_⟩
    rw [cut_tail]
    have hbD : ∀ i : Nat, i < bs.length → SqL K H (bs.getD i (0, [])).1 ((bs.getD i (0, [])).2.map V.int) := fun i hi => by
      rw [List.getD_eq_getElem?_getD, List.getElem?_eq_getElem hi]
      exact hb _ (List.getElem_mem hi)
    refine ⟨a, c, _, _, rfl, (Grows.new nc).seq hS, SqL.of upd_same, fun D hD => lc_zipM (K := K) (fun i => V.bl (decide ((bs.getD i (0, [])).2 < (bs.getD (i + 1) (0, [])).2))) hD ((Grows.new nc).seq hS) (SqL.of upd_same) (by rw [List.length_map]; omega) (fun i x y T H' R hx hy sm hT kR => ?_) fun H' sm eD => ?_⟩
    · have i1 := (List.getElem?_eq_some_iff.mp hx).1
      have i2 := (List.getElem?_eq_some_iff.mp hy).1
      rw [List.length_map] at i1
      rw [List.length_tail, List.length_map] at i2
      refine ⟨T, _, rfl, SqT.of upd_same, rfl, _, _, rfl, _, _, rfl, rfl, ?_⟩
      obtain rfl := at_map (d := (0, [])) hx
      obtain rfl := at_tail (d := (0, [])) hy
      have st : Grows H (upd H' T (.tup [V.ref (bs.getD i (0, [])).1, V.ref (bs.getD (i + 1) (0, [])).1])) := ((Grows.new nc).trans sm).trans (Grows.new hT)
      exact ⟨rfl, _, rfl, _, rfl, _, _, _, _, rfl, rfl, st.seq (hbD i i1), st.seq (hbD (i + 1) (by omega)), kR _ .refl⟩
    · have e : min (bs.map fun b => V.ref b.1).length (bs.map fun b => V.ref b.1).tail.length = bs.length - 1 := by
        rw [List.length_tail, List.length_map]
        omega
      rw [e] at eD
      refine ⟨D, (List.range (bs.length - 1)).map fun i => decide ((bs.getD i (0, [])).2 < (bs.getD (i + 1) (0, [])).2), rfl, SqL.of (by rw [eD, List.map_map]; rfl), ?_⟩
      rw [all_rng]
      have q := k H' ((Grows.new nc).trans sm)
      unfold ascR at q
      rw [List.length_map] at q
      have fe : ∀ i, (bs.map (·.2)).getD i [] = (bs.getD i (0, [])).2 := fun i => by
        rw [List.getD_eq_getElem?_getD, List.getD_eq_getElem?_getD, List.getElem?_map]
        cases bs[i]? <;> rfl
      simp only [fe] at q
      exact q
end
end K32

namespace K32
open PySem PySem.Spec PyProof.Rows L2 SortR LcM
theorem ty_list {K : PySem.W.Frag} {H : Hp} {a : Addr} {xs : List V} (h : SqL K H a xs) : TyX K H (.ref a) (.type "list") := by
  rcases h with (h | ⟨o, h⟩) | ⟨o, its, n, h, hc, _⟩
  · exact .base (.lst h)
  · exact .base (.frz h)
  · exact .kList h hc
def inR (n : Int) (ns : List Int) : Bool := (List.range ns.length).all fun i => decide (0 ≤ ns.getD i 0) && decide (ns.getD i 0 < n)
def plist (n : Int) (ns : List Int) : Bool := inR n ns && ascI ns
def group (n : Int) (ns : List Int) : Bool := plist n ns && decide (2 ≤ (ns.length : Int))
def maskI (ns : List Int) : Int := ((List.range ns.length).map fun i => 1 * 2 ^ (ns.getD i 0).toNat).sum
def crossI (i j : Int) : Bool := !inV (.int (Builtin.bitAnd i j)) [.int 0, .int i, .int j]
def anyX (rs : List (List Int)) : Bool := (List.range (Comb.prs rs.length).length).any fun t => crossI (maskI (rs.getD ((Comb.prs rs.length).getD t (0, 0)).1 [])) (maskI (rs.getD ((Comb.prs rs.length).getD t (0, 0)).2 []))
def isP (rs : List (List Int)) : Bool := decide ((rs.length : Int) < 20) && ((List.range rs.length).all fun i => group (rs.length + 1) (rs.getD i [])) && ascR rs && !anyX rs
def spPL (K : PySem.W.Frag) (m : Int → List Int → Bool) : Sp := fun vs H Q _ => ∃ (a : Addr) (n : Int) (ns : List Int), vs = [.ref a, .int n] ∧ SqL K H a (ns.map V.int) ∧ ns.length ≤ 1000 ∧ ∀ H', Grows H H' → Q (.bl (m n ns)) H'
def spMask (K : PySem.W.Frag) : Sp := fun vs H Q _ => ∃ (a : Addr) (ns : List Int), vs = [.ref a] ∧ SqL K H a (ns.map V.int) ∧ ns.length ≤ 1000 ∧ (∀ x ∈ ns, 0 ≤ x ∧ x ≤ 1000) ∧ ∀ H', Grows H H' → Q (.int (maskI ns)) H'
def spCross : Sp := fun vs H Q _ => ∃ (i j : Int), vs = [.int i, .int j] ∧ ∀ H', Grows H H' → Q (.bl (crossI i j)) H'
section
variable {P : Program} {w : World} {K : PySem.W.Frag} {mg : Str → Option Value} {base : Heap}
theorem scPList : FnScope ["thing", "persons", "item"] ["thing", "persons"] (defScope sPList) := ⟨rfl, rfl, rfl, by decide +kernel, rfl, by decide +kernel, by decide +kernel⟩
theorem scGroup : FnScope ["thing", "persons"] ["thing", "persons"] (defScope sGroup) := ⟨rfl, rfl, rfl, by decide +kernel, rfl, by decide +kernel, by decide +kernel⟩
theorem scMask : FnScope ["group", "person"] ["group"] (defScope sMask) := ⟨rfl, rfl, rfl, by decide +kernel, rfl, by decide +kernel, by decide +kernel⟩
theorem scCross : FnScope ["one", "other"] ["one", "other"] (defScope sCross) := ⟨rfl, rfl, rfl, by decide +kernel, rfl, by decide +kernel, by decide +kernel⟩
theorem ok_plist (Z : ProgF K mg) (T : TxtP mg) : FnOk P w K mg base CX0 3 Z.fPL Z.dPL ["thing", "persons"] (spPL K plist) := by
  have GPer : FnOk P w K mg base CX0 2 Z.fPer Z.dPer ["thing", "persons"] (spPerson K) := ok_person Z T
  have GAsc : FnOk P w K mg base CX0 1 Z.fAsc Z.dAsc ["items"] (spAscI K) := ok_ascI Z.FAsc T
  refine Z.FPL.ok scPList (fun vs H Q E h => ?_) (fun cdv A outer s H vs Q E hr h => ?_)
  · obtain ⟨a, n, ns, rfl, _⟩ := h
    rfl
  · obtain ⟨a, n, ns, rfl, hS, hn, k⟩ := h
    refine ⟨_, (pss_cons (ps_if (pt_not (pt_val (pe_callB call_isi (by rfl) T.isi (by decide +kernel) (pa_cons (pv 0) (pa_cons (pe_bltn (v := .ty "list") (u := .type "list") (by rfl) T.list (by decide +kernel) rfl) pa_nil))))) (pss_one (ps_ret pe_bl)) pss_nil)
      (pss_one (ps_ret (pe_and (pe_callB (cr_all rfl) (by rfl) T.all (by decide +kernel) (pa_cons (pe_lc (own := [("item", 2)]) (g := gName 2) (tt := tYes) rfl scPList.nd (pi_list (pv 0)) (blkOk_by (own := [("item", 2)]) (N := ["thing", "persons", "item"]) (sc := defScope sPList) (by decide +kernel)) (fun _ _ _ _ _ => pg_name (i := 2) scPList.nd rfl (Or.inl rfl)) (fun _ _ _ _ _ => pts_nil) (fun _ _ _ _ _ => (pe_call GPer (hr.mono (by decide)) rfl Z.gPer Z.FPer.kp Z.bPer .nil pass0 (pa_cons (pv 2) (pa_cons (pv 1) pa_nil))))) pa_nil)) (pe_one (pe_call GAsc (hr.mono (by decide)) rfl Z.gAsc Z.FAsc.kp Z.bAsc .nil pass0 (pa_cons (pv 0) pa_nil))))))), ?_⟩
    refine ⟨_, rfl, _, _, _, _, true, rfl, .ty "list", ty_list hS, kit_ty (by decide +kernel), true, rfl, ?_⟩
    refine iteF ⟨_, rfl, a, rfl, ⟨_, hS⟩, fun D hD => lc_listM (K := K) (fun i => V.bl (decide (0 ≤ ns.getD i 0) && decide (ns.getD i 0 < n))) hD hS (by rw [List.length_map]; omega) (fun i x H' R hx sm kR => ?_) fun H' sm eD => ?_⟩
    · obtain rfl := at_map (d := 0) hx
      refine ⟨rfl, _, rfl, _, rfl, _, "int", n, rfl, .base (.int _), by decide, fun _ => ⟨_, rfl, kR _ .refl⟩, fun z => absurd rfl z⟩
    · rw [List.length_map] at eD
      refine ⟨D, (List.range ns.length).map fun i => decide (0 ≤ ns.getD i 0) && decide (ns.getD i 0 < n), rfl, SqL.of (by rw [eD, List.map_map]; rfl), _, rfl, ?_⟩
      rw [all_rng]
      show if inR n ns = true then _ else _
      by_cases hi : inR n ns = true
      · rw [if_pos hi]
        refine ⟨_, rfl, a, ns, rfl, sm.seq hS, hn, fun H2 s2 => ?_⟩
        have q := k H2 (sm.trans s2)
        unfold plist at q
        rw [hi, Bool.true_and] at q
        exact q
      · rw [if_neg hi]
        have q := k H' sm
        unfold plist at q
        rw [Bool.eq_false_iff.mpr hi, Bool.false_and] at q
        exact q
theorem ok_group (Z : ProgF K mg) (T : TxtP mg) : FnOk P w K mg base CX0 4 Z.fGr Z.dGr ["thing", "persons"] (spPL K group) := by
  have GPL : FnOk P w K mg base CX0 3 Z.fPL Z.dPL ["thing", "persons"] (spPL K plist) := ok_plist Z T
  refine Z.FGr.ok scGroup (fun vs H Q E h => ?_) (fun cdv A outer s H vs Q E hr h => ?_)
  · obtain ⟨a, n, ns, rfl, _⟩ := h
    rfl
  · obtain ⟨a, n, ns, rfl, hS, hn, k⟩ := h
    refine ⟨_, (pss_one (ps_ret (pe_and (pe_call GPL (hr.mono (by decide)) rfl Z.gPL Z.FPL.kp Z.bPL .nil pass0 (pa_cons (pv 0) (pa_cons (pv 1) pa_nil))) (pe_one (pe_cmpR op_ge (pe_callB call_len_seq (by rfl) T.len (by decide +kernel) (pa_cons (pv 0) pa_nil)) pe_int (nomark _)))))), ?_⟩
    refine ⟨_, rfl, _, rfl, a, n, ns, rfl, hS, hn, fun H2 s2 => ⟨_, rfl, ?_⟩⟩
    have q := k H2 s2
    unfold group at q
    by_cases hi : plist n ns = true
    · rw [if_pos hi]
      rw [hi, Bool.true_and] at q
      refine ⟨_, rfl, a, _, rfl, .inl (s2.seq hS), _, _, rfl, rfl, ?_⟩
      rw [List.length_map]
      exact q
    · rw [if_neg hi]
      rw [Bool.eq_false_iff.mpr hi, Bool.false_and] at q
      exact q
theorem ok_mask (Z : ProgF K mg) (T : TxtP mg) : FnOk P w K mg base CX0 1 Z.fMask Z.dMask ["group"] (spMask K) := by
  refine Z.FMask.ok scMask (fun vs H Q E h => ?_) (fun cdv A outer s H vs Q E hr h => ?_)
  · obtain ⟨a, ns, rfl, _⟩ := h
    rfl
  · obtain ⟨a, ns, rfl, hS, hn, hr0, k⟩ := h
    refine ⟨_, (pss_one (ps_ret (pe_callB (cr_sum rfl) (by rfl) T.sum (by decide +kernel) (pa_cons (pe_lc (own := [("person", 1)]) (g := gName 1) (tt := tYes) rfl scMask.nd (pi_list (pv 0)) (blkOk_by (own := [("person", 1)]) (N := ["group", "person"]) (sc := defScope sMask) (by decide +kernel)) (fun _ _ _ _ _ => pg_name (i := 1) scMask.nd rfl (Or.inl rfl)) (fun _ _ _ _ _ => pts_nil) (fun _ _ _ _ _ => (pe_op op_shl pe_int (pv 1)))) pa_nil)))), ?_⟩
    refine ⟨_, rfl, a, rfl, ⟨_, hS⟩, fun D hD => lc_listM (K := K) (fun i => V.int (1 * 2 ^ (ns.getD i 0).toNat)) hD hS (by rw [List.length_map]; omega) (fun i x H' R hx sm kR => ?_) fun H' sm eD => ?_⟩
    · have il := (List.getElem?_eq_some_iff.mp hx).1
      rw [List.length_map] at il
      obtain rfl := at_map (d := 0) hx
      have mem : ns.getD i 0 ∈ ns := by
        rw [List.getD_eq_getElem?_getD, List.getElem?_eq_getElem il]
        exact List.getElem_mem il
      obtain ⟨m0, m1⟩ := hr0 _ mem
      exact ⟨rfl, _, rfl, _, _, rfl, rfl, ⟨m0, by omega, by decide⟩, kR _ .refl⟩
    · rw [List.length_map] at eD
      refine ⟨D, (List.range ns.length).map fun i => 1 * 2 ^ (ns.getD i 0).toNat, rfl, SqL.of (by rw [eD, List.map_map]; rfl), ?_⟩
      exact k H' sm
theorem ok_cross (Z : ProgF K mg) : FnOk P w K mg base CX0 1 Z.fCross Z.dCross ["one", "other"] spCross := by
  refine Z.FCross.ok scCross (fun vs H Q E h => ?_) (fun cdv A outer s H vs Q E hr h => ?_)
  · obtain ⟨i, j, rfl, _⟩ := h
    rfl
  · obtain ⟨i, j, rfl, k⟩ := h
    refine ⟨_, (pss_one (ps_ret (pe_cmpR op_notIn_seq (pe_op op_and (pv 0) (pv 1)) (pe_tup (pa_cons pe_int (pa_cons (pv 0) (pa_cons (pv 1) pa_nil)))) (by rfl)))), ?_⟩
    refine ⟨_, rfl, _, rfl, _, _, rfl, rfl, _, rfl, _, rfl, (by show 3 ≤ sizeLine; decide), fun t ht => ⟨t, _, rfl, .inr (SqT.of upd_same), rfl, rfl, ?_⟩⟩
    exact k _ (Grows.new ht)
end
end K32

namespace K32
open PySem PySem.Spec PyProof.Rows L2 SortR LcM
/-- a list of lists of ints, as it stands -/
structure Rw (K : PySem.W.Frag) (H : Hp) (a : Addr) (bs : List (Addr × List Int)) : Prop where
  top : SqL K H a (bs.map fun b => V.ref b.1)
  each : ∀ b ∈ bs, SqL K H b.1 (b.2.map V.int)
theorem Rw.keep {K : PySem.W.Frag} {H H' : Hp} {a : Addr} {bs : List (Addr × List Int)} (r : Rw K H a bs) (s : Grows H H') : Rw K H' a bs := ⟨s.seq r.top, fun b m => s.seq (r.each b m)⟩
theorem Rw.at {K : PySem.W.Frag} {H : Hp} {a : Addr} {bs : List (Addr × List Int)} (r : Rw K H a bs) {i : Nat} (hi : i < bs.length) : SqL K H (bs.getD i (0, [])).1 ((bs.getD i (0, [])).2.map V.int) := by
  rw [List.getD_eq_getElem?_getD, List.getElem?_eq_getElem hi]
  exact r.each _ (List.getElem_mem hi)
theorem snd_at (bs : List (Addr × List Int)) (i : Nat) : (bs.map (·.2)).getD i [] = (bs.getD i (0, [])).2 := by
  rw [List.getD_eq_getElem?_getD, List.getD_eq_getElem?_getD, List.getElem?_map]
  cases bs[i]? <;> rfl
theorem mem_at {bs : List (Addr × List Int)} {i : Nat} (hi : i < bs.length) : (bs.getD i (0, [])).2 ∈ bs.map (·.2) := by
  rw [List.getD_eq_getElem?_getD, List.getElem?_eq_getElem hi]
  exact List.mem_map.mpr ⟨_, List.getElem_mem hi, rfl⟩
theorem none_back {H H' : Hp} {a : Addr} (s : Grows H H') (h : H' a = none) : H a = none := by
  rcases Option.eq_none_or_eq_some (H a) with z | ⟨o, z⟩
  · exact z
  · rw [s _ _ z] at h
    cases h
theorem nw_back {H0 H1 H : Hp} {cs : List (Addr × List Int)} (n : Nw H1 H cs) (s : Grows H0 H1) : Nw H0 H cs := ⟨n.lists, fun c m => none_back s (n.new c m), n.nodup⟩
theorem snd_of {cs : List (Addr × List Int)} {R : Nat → List Int} {n i : Nat} (e : cs.map (·.2) = (List.range n).map R) (hi : i < n) : (cs.getD i (0, [])).2 = R i := by
  rw [← snd_at, e, List.getD_eq_getElem?_getD, List.getElem?_map, List.getElem?_range hi]
  rfl
theorem any_rng (n : Nat) (p : Nat → Bool) : ((List.range n).map p).any id = (List.range n).any p := by
  rw [List.any_map]
  rfl
/-- of the size that may come -/
def Sz (rs : List (List Int)) : Prop := rs.length ≤ 1000 ∧ ∀ r ∈ rs, r.length ≤ 1000
def spAny (K : PySem.W.Frag) : Sp := fun vs H Q _ => ∃ (a : Addr) (bs : List (Addr × List Int)), vs = [.ref a] ∧ Rw K H a bs ∧ Sz (bs.map (·.2)) ∧ (∀ r ∈ bs.map (·.2), ∀ x ∈ r, 0 ≤ x ∧ x ≤ 1000) ∧ ∀ H', Grows H H' → Q (.bl (anyX (bs.map (·.2)))) H'
def spIs (K : PySem.W.Frag) : Sp := fun vs H Q _ => ∃ (a : Addr) (bs : List (Addr × List Int)), vs = [.ref a] ∧ Rw K H a bs ∧ Sz (bs.map (·.2)) ∧ ∀ H', Grows H H' → Q (.bl (isP (bs.map (·.2)))) H'
def spPs (K : PySem.W.Frag) : Sp := fun vs H Q _ => ∃ (a : Addr) (bs : List (Addr × List Int)), vs = [.ref a] ∧ Rw K H a bs ∧ Sz (bs.map (·.2)) ∧ isP (bs.map (·.2)) = true ∧ ∀ H', Grows H H' → Q (.int (bs.length + 1)) H'
section
variable {P : Program} {w : World} {K : PySem.W.Frag} {mg : Str → Option Value} {base : Heap}
theorem scAny : FnScope ["groups", "masks", "group", "one", "other"] ["groups"] (defScope sAny) := ⟨rfl, rfl, rfl, by decide +kernel, rfl, by decide +kernel, by decide +kernel⟩
theorem scParting : FnScope ["thing", "persons", "group"] ["thing"] (defScope sParting) := ⟨rfl, rfl, rfl, by decide +kernel, rfl, by decide +kernel, by decide +kernel⟩
theorem scPersons : FnScope ["parting"] ["parting"] (defScope sPersons) := ⟨rfl, rfl, rfl, by decide +kernel, rfl, by decide +kernel, by decide +kernel⟩
theorem ok_any (Z : ProgF K mg) (T : TxtP mg) : FnOk P w K mg base CX0 2 Z.fAny Z.dAny ["groups"] (spAny K) := by
  have GMask : FnOk P w K mg base CX0 1 Z.fMask Z.dMask ["group"] (spMask K) := ok_mask Z T
  have GCross : FnOk P w K mg base CX0 1 Z.fCross Z.dCross ["one", "other"] spCross := ok_cross Z
  refine Z.FAny.ok scAny (fun vs H Q E h => ?_) (fun cdv A outer s H vs Q E hr h => ?_)
  · obtain ⟨a, bs, rfl, _⟩ := h
    rfl
  · obtain ⟨a, bs, rfl, hB, ⟨hz1, hz2⟩, hx, k⟩ := h
    refine ⟨_, (pss_cons (ps_setLc (i := 1) (own := [("group", 2)]) (g := gName 2) (tt := tYes) rfl scAny.nd rfl rfl (sw_true rfl rfl rfl (by decide +kernel)) (pi_list (pv 0)) (blkOk_by (own := [("group", 2)]) (N := ["groups", "masks", "group", "one", "other"]) (sc := defScope sAny) (by decide +kernel)) (fun _ _ _ _ _ => pg_name (i := 2) scAny.nd rfl (Or.inl rfl)) (fun _ _ _ _ _ => pts_nil) (fun _ _ _ _ _ => (pe_call GMask (hr.mono (by decide)) rfl Z.gMask Z.FMask.kp Z.bMask .nil pass0 (pa_cons (pv 2) pa_nil))))
      (pss_one (ps_ret (pe_callB (cr_any rfl) (by rfl) T.any (by decide +kernel) (pa_cons (pe_lc (own := [("one", 3), ("other", 4)]) (g := gTup K 2 (gCons (gName 3) (gCons (gName 4) gNil))) (tt := tYes) rfl scAny.nd (Comb.pi_comb (by rfl) Z.gComb (pa_cons (pv 1) (pa_cons pe_int pa_nil))) (blkOk_by (own := [("one", 3), ("other", 4)]) (N := ["groups", "masks", "group", "one", "other"]) (sc := defScope sAny) (by decide +kernel)) (fun _ _ _ _ _ => pg_tup rfl (pgs_cons (pg_name (i := 3) scAny.nd rfl (Or.inl rfl)) (pgs_cons (pg_name (i := 4) scAny.nd rfl (Or.inl rfl)) pgs_nil))) (fun _ _ _ _ _ => pts_nil) (fun _ _ _ _ _ => (pe_call GCross (hr.mono (by decide)) rfl Z.gCross Z.FCross.kp Z.bCross .nil pass0 (pa_cons (pv 3) (pa_cons (pv 4) pa_nil))))) pa_nil))))), ?_⟩
    rw [List.length_map] at hz1
    refine ⟨_, rfl, a, rfl, ⟨_, hB.top⟩, fun D hD => lc_listM (K := K) (fun i => V.int (maskI (bs.getD i (0, [])).2)) hD hB.top (by rw [List.length_map]; omega) (fun i x H' R hx' sm kR => ?_) fun H' sm eD => ?_⟩
    · have il := (List.getElem?_eq_some_iff.mp hx').1
      rw [List.length_map] at il
      obtain rfl := at_map (d := (0, [])) hx'
      exact ⟨rfl, _, rfl, _, _, rfl, sm.seq (hB.at il), hz2 _ (mem_at il), hx _ (mem_at il), fun H2 s2 => kR _ s2⟩
    · rw [List.length_map] at eD
      refine ⟨_, rfl, D, _, rfl, SqL.of eD, fun D2 hD2 => lc_combM (xs := (List.range bs.length).map fun i => V.int (maskI (bs.getD i (0, [])).2)) (fun t => V.bl (crossI (maskI (bs.getD ((Comb.prs bs.length).getD t (0, 0)).1 (0, [])).2) (maskI (bs.getD ((Comb.prs bs.length).getD t (0, 0)).2 (0, [])).2))) hD2 (by rw [List.length_map, List.length_range]; exact hz1) (fun t i j x y T H' R ht ex ey sm2 hT kR => ?_) fun H2 sm2 eD2 => ?_⟩
      · rw [List.length_map, List.length_range] at ht
        rw [List.getElem?_map] at ex ey
        have gx : x = .int (maskI (bs.getD i (0, [])).2) := by
          obtain ⟨z, hz, e⟩ := Option.map_eq_some_iff.mp ex
          have e2 := (List.getElem?_eq_some_iff.mp hz)
          obtain ⟨l2, e3⟩ := e2
          rw [List.getElem_range] at e3
          rw [← e, ← e3]
        have gy : y = .int (maskI (bs.getD j (0, [])).2) := by
          obtain ⟨z, hz, e⟩ := Option.map_eq_some_iff.mp ey
          have e2 := (List.getElem?_eq_some_iff.mp hz)
          obtain ⟨l2, e3⟩ := e2
          rw [List.getElem_range] at e3
          rw [← e, ← e3]
        subst gx gy
        have et : (Comb.prs bs.length).getD t (0, 0) = (i, j) := by
          rw [List.getD_eq_getElem?_getD, ht]
          rfl
        rw [et] at kR
        exact ⟨T, _, rfl, SqT.of upd_same, rfl, _, _, rfl, _, _, rfl, rfl, rfl, _, rfl, _, rfl, _, _, rfl, fun H3 s3 => kR _ s3⟩
      · rw [List.length_map, List.length_range] at eD2
        refine ⟨D2, (List.range (Comb.prs bs.length).length).map fun t => crossI (maskI (bs.getD ((Comb.prs bs.length).getD t (0, 0)).1 (0, [])).2) (maskI (bs.getD ((Comb.prs bs.length).getD t (0, 0)).2 (0, [])).2), rfl, SqL.of (by rw [eD2, List.map_map]; rfl), ?_⟩
        rw [any_rng]
        have q := k H2 (sm.trans sm2)
        unfold anyX at q
        simp only [List.length_map, snd_at] at q
        exact q
theorem rows_in {n : Int} {ns : List Int} (h : group n ns = true) (hn : n ≤ 1000) : ∀ x ∈ ns, 0 ≤ x ∧ x ≤ 1000 := by
  unfold group plist at h
  simp only [Bool.and_eq_true] at h
  obtain ⟨⟨h1, _⟩, _⟩ := h
  intro x hx
  obtain ⟨i, hi, e⟩ := List.getElem_of_mem hx
  have q := List.all_eq_true.mp h1 i (List.mem_range.mpr hi)
  simp only [Bool.and_eq_true, decide_eq_true_eq] at q
  rw [List.getD_eq_getElem?_getD, List.getElem?_eq_getElem hi] at q
  have q' : 0 ≤ ns[i] ∧ ns[i] < n := q
  rw [e] at q'
  omega
theorem ok_is (Z : ProgF K mg) (T : TxtP mg) : FnOk P w K mg base CX0 5 Z.fIs Z.dIs ["thing"] (spIs K) := by
  have GGr : FnOk P w K mg base CX0 4 Z.fGr Z.dGr ["thing", "persons"] (spPL K group) := ok_group Z T
  have GAsc : FnOk P w K mg base CX0 1 Z.fAsc Z.dAsc ["items"] (spAscR K) := ok_ascR Z.FAsc T
  have GAny : FnOk P w K mg base CX0 2 Z.fAny Z.dAny ["groups"] (spAny K) := ok_any Z T
  refine Z.FIs.ok scParting (fun vs H Q E h => ?_) (fun cdv A outer s H vs Q E hr h => ?_)
  · obtain ⟨a, bs, rfl, _⟩ := h
    rfl
  · obtain ⟨a, bs, rfl, hB, hz, k⟩ := h
    refine ⟨_, (pss_cons (ps_if (PW.pt (pw_or (pt_not (pt_val (pe_callB call_isi (by rfl) T.isi (by decide +kernel) (pa_cons (pv 0) (pa_cons (pe_bltn (v := .ty "list") (u := .type "list") (by rfl) T.list (by decide +kernel) rfl) pa_nil))))) (pw_or1 (pt_cmpR op_ge (pe_callB call_len_seq (by rfl) T.len (by decide +kernel) (pa_cons (pv 0) pa_nil)) (pe_glob (v := .int 20) rfl Z.gMost ⟨_, rfl⟩) (nomark _))))) (pss_one (ps_ret pe_bl)) pss_nil)
      (pss_cons (ps_set (i := 1) scParting.nd rfl (.inr rfl) (pe_op op_add (pe_callB call_len_seq (by rfl) T.len (by decide +kernel) (pa_cons (pv 0) pa_nil)) pe_int))
      (pss_cons (ps_if (pt_not (pt_val (pe_callB (cr_all rfl) (by rfl) T.all (by decide +kernel) (pa_cons (pe_lc (own := [("group", 2)]) (g := gName 2) (tt := tYes) rfl scParting.nd (pi_list (pv 0)) (blkOk_by (own := [("group", 2)]) (N := ["thing", "persons", "group"]) (sc := defScope sParting) (by decide +kernel)) (fun _ _ _ _ _ => pg_name (i := 2) scParting.nd rfl (Or.inl rfl)) (fun _ _ _ _ _ => pts_nil) (fun _ _ _ _ _ => (pe_call GGr (hr.mono (by decide)) rfl Z.gGr Z.FGr.kp Z.bGr .nil pass0 (pa_cons (pv 2) (pa_cons (pv 1) pa_nil))))) pa_nil)))) (pss_one (ps_ret pe_bl)) pss_nil)
      (pss_one (ps_ret (pe_and (pe_call GAsc (hr.mono (by decide)) rfl Z.gAsc Z.FAsc.kp Z.bAsc .nil pass0 (pa_cons (pv 0) pa_nil)) (pe_one (pe_not (pe_call GAny (hr.mono (by decide)) rfl Z.gAny Z.FAny.kp Z.bAny .nil pass0 (pa_cons (pv 0) pa_nil)))))))))), ?_⟩
    have hz' := hz
    obtain ⟨hz1, hz2⟩ := hz
    rw [List.length_map] at hz1
    refine ⟨_, rfl, _, _, _, _, true, rfl, .ty "list", ty_list hB.top, kit_ty (by decide +kernel), true, rfl, iteF ⟨_, rfl, a, _, rfl, .inl hB.top, _, _, rfl, rfl, _, rfl, ?_⟩⟩
    rw [List.length_map]
    refine ite2 (fun e => ?_) (fun e => ?_)
    · have ge := of_decide_eq_true e
      have q := k H .refl
      unfold isP at q
      rw [List.length_map, decide_eq_false (by omega), Bool.false_and, Bool.false_and, Bool.false_and] at q
      exact q
    · have lt : (bs.length : Int) < 20 := by
        rcases Int.lt_or_le (bs.length : Int) 20 with z | z
        · exact z
        · exact absurd (decide_eq_true z) e
      refine ⟨_, rfl, a, _, rfl, .inl hB.top, _, _, rfl, rfl, ?_⟩
      rw [List.length_map]
      refine ⟨_, rfl, a, rfl, ⟨_, hB.top⟩, fun D hD => lc_listM (K := K) (fun i => V.bl (group (bs.length + 1) (bs.getD i (0, [])).2)) hD hB.top (by rw [List.length_map]; omega) (fun i x H' R hx' sm kR => ?_) fun H' sm eD => ?_⟩
      · have il := (List.getElem?_eq_some_iff.mp hx').1
        rw [List.length_map] at il
        obtain rfl := at_map (d := (0, [])) hx'
        exact ⟨rfl, _, rfl, _, rfl, _, _, _, rfl, sm.seq (hB.at il), hz2 _ (mem_at il), fun H2 s2 => kR _ s2⟩
      · rw [List.length_map] at eD
        refine ⟨D, (List.range bs.length).map fun i => group (bs.length + 1) (bs.getD i (0, [])).2, rfl, SqL.of (by rw [eD, List.map_map]; rfl), ?_⟩
        rw [all_rng]
        refine ⟨_, rfl, ?_⟩
        have val : ∀ H2, Grows H H2 → Q (.bl (((List.range bs.length).all fun i => group (bs.length + 1) (bs.getD i (0, [])).2) && ascR (bs.map (·.2)) && !anyX (bs.map (·.2)))) H2 := fun H2 s2 => by
          have q := k H2 s2
          unfold isP at q
          simp only [List.length_map, snd_at] at q
          rw [decide_eq_true lt, Bool.true_and] at q
          exact q
        by_cases hg : ((List.range bs.length).all fun i => group (bs.length + 1) (bs.getD i (0, [])).2) = true
        · rw [hg] at val ⊢
          refine iteF ⟨_, rfl, a, bs, rfl, (hB.keep sm).top, (hB.keep sm).each, hz1, fun H2 s2 => ⟨_, rfl, ?_⟩⟩
          by_cases ha : ascR (bs.map (·.2)) = true
          · rw [if_pos ha]
            have hx : ∀ r ∈ bs.map (·.2), ∀ x ∈ r, 0 ≤ x ∧ x ≤ 1000 := fun r hr x hx => by
              obtain ⟨i, hi, e⟩ := List.getElem_of_mem hr
              rw [List.length_map] at hi
              have g := List.all_eq_true.mp hg i (List.mem_range.mpr hi)
              have e2 : (bs.getD i (0, [])).2 = r := by
                rw [← snd_at, List.getD_eq_getElem?_getD, List.getElem?_eq_getElem (by rw [List.length_map]; exact hi), e]
                rfl
              rw [e2] at g
              exact rows_in g (by omega) x hx
            refine ⟨_, rfl, a, bs, rfl, (hB.keep sm).keep s2, hz', hx, fun H3 s3 => ⟨_, rfl, ?_⟩⟩
            have q := val H3 ((sm.trans s2).trans s3)
            rw [ha, Bool.true_and, Bool.true_and] at q
            exact q
          · rw [if_neg ha]
            have q := val H2 (sm.trans s2)
            rw [Bool.eq_false_iff.mpr ha, Bool.true_and, Bool.false_and] at q
            exact q
        · have q := val H' sm
          rw [Bool.eq_false_iff.mpr hg] at q ⊢
          rw [Bool.false_and, Bool.false_and] at q
          exact iteT q
theorem ok_persons (Z : ProgF K mg) (T : TxtP mg) : FnOk P w K mg base CX0 6 Z.fPs Z.dPs ["parting"] (spPs K) := by
  have GIs : FnOk P w K mg base CX0 5 Z.fIs Z.dIs ["thing"] (spIs K) := ok_is Z T
  refine Z.FPs.ok scPersons (fun vs H Q E h => ?_) (fun cdv A outer s H vs Q E hr h => ?_)
  · obtain ⟨a, bs, rfl, _⟩ := h
    rfl
  · obtain ⟨a, bs, rfl, hB, hz, hp, k⟩ := h
    refine ⟨_, (pss_cons (ps_if (pt_not (pt_val (pe_call GIs (hr.mono (by decide)) rfl Z.gIs Z.FIs.kp Z.bIs .nil pass0 (pa_cons (pv 0) pa_nil)))) (pss_one ps_never) pss_nil)
      (pss_one (ps_ret (pe_op op_add (pe_callB call_len_seq (by rfl) T.len (by decide +kernel) (pa_cons (pv 0) pa_nil)) pe_int)))), ?_⟩
    refine ⟨_, rfl, a, bs, rfl, hB, hz, fun H2 s2 => ?_⟩
    rw [hp]
    refine ⟨_, rfl, iteF ⟨_, rfl, a, _, rfl, .inl (s2.seq hB.top), _, _, rfl, rfl, ?_⟩⟩
    rw [List.length_map]
    exact k H2 s2
end
end K32

namespace K32
open PySem PySem.Spec PyProof.Rows L2 SortR LcM
theorem plist_of {n : Int} {ks : List Int} (up : ks.Pairwise (· < ·)) (rng : ∀ x ∈ ks, 0 ≤ x ∧ x < n) : plist n ks = true := by
  unfold plist inR ascI
  rw [Bool.and_eq_true]
  refine ⟨List.all_eq_true.mpr fun i hi => ?_, List.all_eq_true.mpr fun i hi => ?_⟩
  · have il := List.mem_range.mp hi
    have e : ks.getD i 0 = ks[i] := by rw [List.getD_eq_getElem?_getD, List.getElem?_eq_getElem il]; rfl
    have := rng _ (List.getElem_mem il)
    rw [e, decide_eq_true this.1, decide_eq_true this.2]
    rfl
  · have il := List.mem_range.mp hi
    have l1 : i < ks.length := by omega
    have l2 : i + 1 < ks.length := by omega
    have e1 : ks.getD i 0 = ks[i] := by rw [List.getD_eq_getElem?_getD, List.getElem?_eq_getElem l1]; rfl
    have e2 : ks.getD (i + 1) 0 = ks[i + 1] := by rw [List.getD_eq_getElem?_getD, List.getElem?_eq_getElem l2]; rfl
    rw [e1, e2]
    exact decide_eq_true (List.pairwise_iff_getElem.mp up i (i + 1) l1 l2 (Nat.lt_succ_self i))
theorem gr_none {p a : Addr} {H H' : Hp} (g : Gr p H H') (h : H' a = none) (n : a ≠ p) : H a = none := by
  rcases Option.eq_none_or_eq_some (H a) with z | ⟨o, z⟩
  · exact z
  · rw [g a o n z] at h
    cases h
theorem rg_ints (n : Int) : rgV 0 n = ((List.range n.toNat).map fun i => (0 + (i : Nat) : Int)).map V.int := by
  unfold rgV
  rw [List.map_map, Int.sub_zero]
  rfl
theorem rg_up (n : Nat) : ((List.range n).map fun i => (0 + (i : Nat) : Int)).Pairwise (· < ·) := by
  rw [List.pairwise_map]
  exact List.pairwise_lt_range.imp fun {a b} h => by omega
theorem rg_in (n : Nat) : ∀ x ∈ (List.range n).map fun i => (0 + (i : Nat) : Int), 0 ≤ x ∧ x < n := fun x hx => by
  obtain ⟨i, hi, e⟩ := List.mem_map.mp hx
  have := List.mem_range.mp hi
  omega
theorem inV_ints (i : Int) (ns : List Int) : inV (.int i) (ns.map V.int) = decide (i ∈ ns) := by
  unfold inV
  induction ns with
  | nil => rfl
  | cons x ns ih =>
    rw [List.map_cons, List.any_cons, ih]
    show ((x == i) || decide (i ∈ ns)) = decide (i ∈ x :: ns)
    by_cases e : x = i
    · rw [e, beq_self_eq_true, Bool.true_or, decide_eq_true List.mem_cons_self]
    · rw [beq_eq_false_iff_ne.mpr e, Bool.false_or]
      by_cases m : i ∈ ns
      · rw [decide_eq_true m, decide_eq_true (List.mem_cons_of_mem _ m)]
      · rw [decide_eq_false m, decide_eq_false fun z => (List.mem_cons.mp z).elim (fun q => e q.symm) m]
theorem flat_ints (ns : List Int) : (ns.map V.int).all flatV = true := by
  rw [List.all_map]
  exact List.all_eq_true.mpr fun _ _ => rfl
end K32

namespace K32
open PySem PySem.Spec PyProof.Rows L2 SortR LcM
theorem rng_map {α β : Type} (ns : List α) (d : α) (f : α → β) : (List.range ns.length).map (fun i => f (ns.getD i d)) = ns.map f := by
  refine List.ext_getElem (by rw [List.length_map, List.length_map, List.length_range]) fun j j1 j2 => ?_
  rw [List.length_map] at j2
  rw [List.getElem_map, List.getElem_map, List.getElem_range, List.getD_eq_getElem?_getD, List.getElem?_eq_getElem j2]
  rfl
theorem maskI_mk {ns : List Int} : maskI ns = ((mk (ns.map Int.toNat) : Nat) : Int) := by
  unfold maskI
  rw [rng_map ns 0 fun x => (1 : Int) * 2 ^ x.toNat]
  induction ns with
  | nil => rfl
  | cons x ns ih =>
    rw [List.map_cons, List.sum_cons, ih, List.map_cons, mk_cons, Int.one_mul, Int.natCast_add, Int.natCast_pow]
    rfl
/-- ascending lists of persons that lie apart, or one within the other -/
def Nice (xs ys : List Int) : Prop := (∀ z ∈ xs, z ∉ ys) ∨ (∀ z ∈ xs, z ∈ ys) ∨ ∀ z ∈ ys, z ∈ xs
theorem up_nat {xs : List Int} (h : xs.Pairwise (· < ·)) (p : ∀ x ∈ xs, 0 ≤ x) : (xs.map Int.toNat).Pairwise (· < ·) := by
  rw [List.pairwise_map]
  exact h.imp_of_mem fun {a b} ha hb lt => by
    have := p a ha
    have := p b hb
    omega
theorem mem_nat {xs : List Int} (p : ∀ x ∈ xs, 0 ≤ x) {i : Nat} : i ∈ xs.map Int.toNat ↔ (i : Int) ∈ xs := by
  rw [List.mem_map]
  constructor
  · rintro ⟨x, hx, rfl⟩
    rw [Int.toNat_of_nonneg (p x hx)]
    exact hx
  · intro h
    exact ⟨_, h, rfl⟩
theorem crossI_no {xs ys : List Int} (hx : xs.Pairwise (· < ·)) (hy : ys.Pairwise (· < ·)) (px : ∀ x ∈ xs, 0 ≤ x) (py : ∀ x ∈ ys, 0 ≤ x) (h : Nice xs ys) : crossI (maskI xs) (maskI ys) = false := by
  have h' : (∀ z ∈ xs.map Int.toNat, z ∉ ys.map Int.toNat) ∨ (∀ z ∈ xs.map Int.toNat, z ∈ ys.map Int.toNat) ∨ ∀ z ∈ ys.map Int.toNat, z ∈ xs.map Int.toNat := by
    rcases h with h | h | h
    · exact .inl fun z hz hz2 => h _ ((mem_nat px).mp hz) ((mem_nat py).mp hz2)
    · exact .inr (.inl fun z hz => (mem_nat py).mpr (h _ ((mem_nat px).mp hz)))
    · exact .inr (.inr fun z hz => (mem_nat px).mpr (h _ ((mem_nat py).mp hz)))
  have m := mk_and (up_nat hx px) (up_nat hy py) h'
  rw [maskI_mk, maskI_mk]
  unfold crossI
  rw [PyProof.Rows.bitAnd_pp (Int.natCast_nonneg _) (Int.natCast_nonneg _), Int.toNat_natCast, Int.toNat_natCast]
  generalize mk (xs.map Int.toNat) = a at m
  generalize mk (ys.map Int.toNat) = b at m
  have e : inV (.int ((a &&& b : Nat) : Int)) [.int 0, .int (a : Int), .int (b : Int)] = true := by
    unfold inV
    rcases m with m | m | m
    · rw [m]
      rfl
    · rw [m]
      simp [eqV]
    · rw [m]
      simp [eqV]
  rw [e]
  rfl
end K32

namespace K32
open PySem PySem.Spec PyProof.Rows L2 SortR LcM
/-! ### families that grow newcomer by newcomer -/
theorem len_sub : ∀ {xs ys : List Int}, xs.Nodup → (∀ z ∈ xs, z ∈ ys) → xs.length ≤ ys.length
  | [], _, _, _ => Nat.zero_le _
  | x :: xs, ys, h, s => by
    obtain ⟨nx, n⟩ := List.nodup_cons.mp h
    have m : x ∈ ys := s x List.mem_cons_self
    have q := len_sub n (ys := ys.erase x) fun z hz => (List.mem_erase_of_ne fun e => nx (by rw [← e]; exact hz)).mpr (s z (List.mem_cons_of_mem _ hz))
    rw [List.length_erase_of_mem m] at q
    have := List.length_pos_of_mem m
    rw [List.length_cons]
    omega
theorem sub_back {xs ys : List Int} (h : xs.Nodup) (s : ∀ z ∈ xs, z ∈ ys) (l : ys.length ≤ xs.length) : ∀ z ∈ ys, z ∈ xs := fun z hz => by
  apply Classical.byContradiction
  intro no
  have q := len_sub (List.nodup_cons.mpr ⟨no, h⟩) fun y hy => (List.mem_cons.mp hy).elim (fun e => by rw [e]; exact hz) (s y)
  rw [List.length_cons] at q
  omega
theorem up_nodup {xs : List Int} (h : xs.Pairwise (· < ·)) : xs.Nodup := h.imp fun {a b} lt e => by omega
theorem Nice.symm {xs ys : List Int} (h : Nice xs ys) : Nice ys xs := by
  rcases h with h | h | h
  · exact .inl fun z hz hx => h z hx hz
  · exact .inr (.inr h)
  · exact .inr (.inl h)
theorem Nice.same {xs : List Int} : Nice xs xs := .inr (.inl fun _ h => h)
/-- what the newcomer is beside or around -/
def baseB (rs : List (List Int)) (item : Int) : List Int := if 0 ≤ item then [item] else rs.getD (0 - item - 1).toNat []
/-- whether a group is around it -/
def inB (b w : List Int) : Bool := decide (b.length < w.length) && decide (b.headD 0 ∈ w)
def growB (f : Int) (b w : List Int) : List Int := if inB b w = true then w ++ [f] else w
def stepB (rs : List (List Int)) (item : Int) : List (List Int) := rs.map (growB ((rs.length : Int) + 1) (baseB rs item)) ++ [baseB rs item ++ [(rs.length : Int) + 1]]
def famB (is : List Int) : Nat → List (List Int)
  | 0 => []
  | n + 1 => stepB (famB is n) (is.getD n 0)
theorem stepB_len (rs : List (List Int)) (item : Int) : (stepB rs item).length = rs.length + 1 := by
  unfold stepB
  rw [List.length_append, List.length_map]
  rfl
theorem famB_len (is : List Int) : ∀ n, (famB is n).length = n
  | 0 => rfl
  | n + 1 => by
    show (stepB (famB is n) _).length = n + 1
    rw [stepB_len, famB_len is n]
structure Fam (rs : List (List Int)) : Prop where
  up : ∀ r ∈ rs, r.Pairwise (· < ·)
  two : ∀ r ∈ rs, 2 ≤ r.length
  rng : ∀ r ∈ rs, ∀ x ∈ r, 0 ≤ x ∧ x ≤ (rs.length : Int)
  nice : rs.Pairwise fun a b => Nice a b ∧ a ≠ b
theorem pw_mem {α : Type} {R : α → α → Prop} (sy : ∀ a b, R a b → R b a) {xs : List α} (h : xs.Pairwise R) {a b : α} (ha : a ∈ xs) (hb : b ∈ xs) : a = b ∨ R a b := by
  induction h with
  | nil => cases ha
  | @cons x xs hx _ ih =>
    rcases List.mem_cons.mp ha with e1 | e1
    · rcases List.mem_cons.mp hb with e2 | e2
      · exact .inl (e1.trans e2.symm)
      · rw [e1]
        exact .inr (hx b e2)
    · rcases List.mem_cons.mp hb with e2 | e2
      · rw [e2]
        exact .inr (sy _ _ (hx a e1))
      · exact ih e1 e2
theorem Fam.two_nice {rs : List (List Int)} (F : Fam rs) {a b : List Int} (ha : a ∈ rs) (hb : b ∈ rs) : Nice a b := by
  rcases pw_mem (R := fun a b => Nice a b ∧ a ≠ b) (fun a b h => ⟨h.1.symm, h.2.symm⟩) F.nice ha hb with e | e
  · rw [e]
    exact .same
  · exact e.1
structure Bas (rs : List (List Int)) (b : List Int) : Prop where
  up : b.Pairwise (· < ·)
  ne : ∃ h t, b = h :: t
  rng : ∀ x ∈ b, 0 ≤ x ∧ x ≤ (rs.length : Int)
  nice : ∀ w ∈ rs, Nice b w
theorem Fam.bas {rs : List (List Int)} (F : Fam rs) {item : Int} (h0 : -(rs.length : Int) ≤ item) (h1 : item ≤ rs.length) : Bas rs (baseB rs item) := by
  unfold baseB
  by_cases p : 0 ≤ item
  · rw [if_pos p]
    refine ⟨List.pairwise_singleton _ _, ⟨_, _, rfl⟩, fun x hx => by rw [List.mem_singleton.mp hx]; exact ⟨p, h1⟩, fun w _ => ?_⟩
    by_cases m : item ∈ w
    · exact .inr (.inl fun z hz => by rw [List.mem_singleton.mp hz]; exact m)
    · exact .inl fun z hz => by rw [List.mem_singleton.mp hz]; exact m
  · rw [if_neg p]
    have lt : (0 - item - 1).toNat < rs.length := by omega
    have e : rs.getD (0 - item - 1).toNat [] = rs[(0 - item - 1).toNat] := by rw [List.getD_eq_getElem?_getD, List.getElem?_eq_getElem lt]; rfl
    have m : rs.getD (0 - item - 1).toNat [] ∈ rs := by rw [e]; exact List.getElem_mem lt
    refine ⟨F.up _ m, ?_, F.rng _ m, fun w hw => F.two_nice m hw⟩
    have t := F.two _ m
    cases z : rs.getD (0 - item - 1).toNat [] with
    | nil => rw [z] at t; exact absurd t (by decide)
    | cons x y => exact ⟨x, y, rfl⟩
theorem Bas.head {rs : List (List Int)} {b : List Int} (B : Bas rs b) : b.headD 0 ∈ b := by
  obtain ⟨h, t, e⟩ := B.ne
  rw [e]
  exact List.mem_cons_self
theorem Bas.sub {rs : List (List Int)} {b w : List Int} (B : Bas rs b) (F : Fam rs) (hw : w ∈ rs) (i : inB b w = true) : (∀ z ∈ b, z ∈ w) ∧ b.length < w.length := by
  unfold inB at i
  simp only [Bool.and_eq_true, decide_eq_true_eq] at i
  refine ⟨?_, i.1⟩
  rcases B.nice w hw with h | h | h
  · exact absurd i.2 (h _ B.head)
  · exact h
  · have := len_sub (up_nodup (F.up w hw)) h
    omega
theorem Bas.out {rs : List (List Int)} {b w : List Int} (B : Bas rs b) (hw : w ∈ rs) (i : inB b w = false) : (∀ z ∈ b, z ∉ w) ∨ ∀ z ∈ w, z ∈ b := by
  rcases B.nice w hw with h | h | h
  · exact .inl h
  · refine .inr (sub_back (up_nodup B.up) h ?_)
    apply Classical.byContradiction
    intro l
    unfold inB at i
    rw [decide_eq_true (show b.length < w.length by omega), decide_eq_true (h _ B.head)] at i
    cases i
  · exact .inr h
theorem nice_both {a b : List Int} {f h : Int} (ha : h ∈ a) (hb : h ∈ b) (n : Nice a b) : Nice (a ++ [f]) (b ++ [f]) := by
  rcases n with n | n | n
  · exact absurd hb (n h ha)
  · exact .inr (.inl fun z hz => (List.mem_append.mp hz).elim (fun q => List.mem_append.mpr (.inl (n z q))) fun q => List.mem_append.mpr (.inr q))
  · exact .inr (.inr fun z hz => (List.mem_append.mp hz).elim (fun q => List.mem_append.mpr (.inl (n z q))) fun q => List.mem_append.mpr (.inr q))
theorem nice_one {rs : List (List Int)} {b w1 w2 : List Int} {f : Int} (B : Bas rs b) (F : Fam rs) (h1 : w1 ∈ rs) (h2 : w2 ∈ rs) (i1 : inB b w1 = true) (i2 : inB b w2 = false) (nf : f ∉ w2) : Nice (w1 ++ [f]) w2 := by
  obtain ⟨s, l⟩ := B.sub F h1 i1
  rcases F.two_nice h1 h2 with n | n | n
  · refine .inl fun z hz h => ?_
    rcases List.mem_append.mp hz with q | q
    · exact n z q h
    · rw [List.mem_singleton.mp q] at h
      exact nf h
  · have := len_sub (up_nodup (F.up w1 h1)) n
    unfold inB at i2
    rw [decide_eq_true (show b.length < w2.length by omega), decide_eq_true (n _ (s _ B.head))] at i2
    cases i2
  · exact .inr (.inr fun z hz => List.mem_append.mpr (.inl (n z hz)))
theorem Fam.step {rs : List (List Int)} (F : Fam rs) {item : Int} (h0 : -(rs.length : Int) ≤ item) (h1 : item ≤ rs.length) : Fam (stepB rs item) := by
  have B := F.bas h0 h1
  obtain ⟨f, ef⟩ : ∃ f : Int, f = (rs.length : Int) + 1 := ⟨_, rfl⟩
  have nf : ∀ w ∈ rs, f ∉ w := fun w hw z => by
    have := (F.rng w hw f z).2
    omega
  have nb : f ∉ baseB rs item := fun z => by
    have := (B.rng f z).2
    omega
  have up1 : ∀ {w : List Int}, w.Pairwise (· < ·) → (∀ x ∈ w, x ≤ (rs.length : Int)) → (w ++ [f]).Pairwise (· < ·) := fun {w} u r => List.pairwise_append.mpr ⟨u, List.pairwise_singleton _ _, fun a ha b hb => by
    rw [List.mem_singleton.mp hb]
    have := r a ha
    omega⟩
  have mem : ∀ r ∈ stepB rs item, (∃ w ∈ rs, r = growB f (baseB rs item) w) ∨ r = baseB rs item ++ [f] := fun r hr => by
    unfold stepB at hr
    rw [← ef] at hr
    rcases List.mem_append.mp hr with q | q
    · obtain ⟨w, hw, e⟩ := List.mem_map.mp q
      exact .inl ⟨w, hw, e.symm⟩
    · exact .inr (List.mem_singleton.mp q)
  have big : ((stepB rs item).length : Int) = f := by
    rw [stepB_len, ef]
    rfl
  refine ⟨fun r hr => ?_, fun r hr => ?_, fun r hr x hx => ?_, ?_⟩
  · rcases mem r hr with ⟨w, hw, rfl⟩ | rfl
    · unfold growB
      split
      · exact up1 (F.up w hw) fun x hx => (F.rng w hw x hx).2
      · exact F.up w hw
    · exact up1 B.up fun x hx => (B.rng x hx).2
  · rcases mem r hr with ⟨w, hw, rfl⟩ | rfl
    · have := F.two w hw
      unfold growB
      split
      · rw [List.length_append]
        omega
      · exact this
    · obtain ⟨h, t, e⟩ := B.ne
      rw [e, List.length_append, List.length_cons]
      show 2 ≤ t.length + 1 + 1
      omega
  · rw [big]
    have fin : ∀ {w : List Int}, (∀ x ∈ w, 0 ≤ x ∧ x ≤ (rs.length : Int)) → x ∈ w ++ [f] → 0 ≤ x ∧ x ≤ f := fun {w} r h => by
      rcases List.mem_append.mp h with q | q
      · have := r x q
        omega
      · rw [List.mem_singleton.mp q]
        omega
    rcases mem r hr with ⟨w, hw, rfl⟩ | rfl
    · unfold growB at hx
      split at hx
      · exact fin (F.rng w hw) hx
      · exact fin (F.rng w hw) (List.mem_append.mpr (.inl hx))
    · exact fin B.rng hx
  · unfold stepB
    rw [← ef]
    refine List.pairwise_append.mpr ⟨?_, List.pairwise_singleton _ _, fun a ha b hb => ?_⟩
    · rw [List.pairwise_map]
      refine F.nice.imp_of_mem fun {w1 w2} m1 m2 ⟨n, ne⟩ => ?_
      unfold growB
      cases i1 : inB (baseB rs item) w1 <;> cases i2 : inB (baseB rs item) w2
      · exact ⟨n, ne⟩
      · refine ⟨(nice_one B F m2 m1 i2 i1 (nf w1 m1)).symm, fun e => nf w1 m1 ?_⟩
        rw [if_neg Bool.false_ne_true, if_pos rfl] at e
        rw [e]
        exact List.mem_append.mpr (.inr List.mem_cons_self)
      · refine ⟨nice_one B F m1 m2 i1 i2 (nf w2 m2), fun e => nf w2 m2 ?_⟩
        rw [if_neg Bool.false_ne_true, if_pos rfl] at e
        rw [← e]
        exact List.mem_append.mpr (.inr List.mem_cons_self)
      · refine ⟨nice_both ((B.sub F m1 i1).1 _ B.head) ((B.sub F m2 i2).1 _ B.head) n, fun e => ne ?_⟩
        rw [if_pos rfl, if_pos rfl] at e
        exact List.append_cancel_right e
    · rw [List.mem_singleton.mp hb]
      obtain ⟨w, hw, e⟩ := List.mem_map.mp ha
      rw [← e]
      unfold growB
      cases i : inB (baseB rs item) w
      · rw [if_neg Bool.false_ne_true]
        refine ⟨?_, fun q => nf w hw ?_⟩
        · rcases B.out hw i with n | n
          · refine .inl fun z hz h => ?_
            rcases List.mem_append.mp h with q | q
            · exact n z q hz
            · rw [List.mem_singleton.mp q] at hz
              exact nf w hw hz
          · exact .inr (.inl fun z hz => List.mem_append.mpr (.inl (n z hz)))
        · rw [q]
          exact List.mem_append.mpr (.inr List.mem_cons_self)
      · rw [if_pos rfl]
        obtain ⟨s, l⟩ := B.sub F hw i
        refine ⟨.inr (.inr fun z hz => (List.mem_append.mp hz).elim (fun q => List.mem_append.mpr (.inl (s z q))) fun q => List.mem_append.mpr (.inr q)), fun q => ?_⟩
        have := congrArg List.length (List.append_cancel_right q)
        omega
theorem famB_ok {is : List Int} (h : Bnd is) : ∀ n, n ≤ is.length → Fam (famB is n)
  | 0, _ => ⟨(fun _ h => nomatch h), (fun _ h => nomatch h), (fun _ h => nomatch h), List.Pairwise.nil⟩
  | n + 1, hn => by
    have e : is[n]? = some is[n] := List.getElem?_eq_getElem hn
    have b := h n _ e
    have eg : is.getD n 0 = is[n] := by rw [List.getD_eq_getElem?_getD, e]; rfl
    have L := famB_len is n
    exact (famB_ok h n (Nat.le_of_succ_le hn)).step (by rw [L, eg]; exact b.1) (by rw [L, eg]; exact b.2)
/-! ### such a family, sorted, is a parting -/
theorem sorted_rows (rs : List (List Int)) : (rs.mergeSort fun p q => decide (p ≤ q)).Pairwise (· ≤ ·) := by
  have h := List.pairwise_mergeSort (le := fun p q : List Int => decide (p ≤ q)) (fun a b c h1 h2 => decide_eq_true (List.le_trans (of_decide_eq_true h1) (of_decide_eq_true h2)))
    (fun a b => by
      simp only [Bool.or_eq_true, decide_eq_true_eq]
      exact List.le_total a b) rs
  exact h.imp fun {a b} z => of_decide_eq_true z
theorem strict_rows {rs : List (List Int)} (h : rs.Pairwise (· ≤ ·)) (n : rs.Nodup) : rs.Pairwise (· < ·) :=
  (h.and n).imp fun {a b} z => (List.le_iff_lt_or_eq.mp z.1).resolve_right z.2
theorem ascR_of {rs : List (List Int)} (up : rs.Pairwise (· < ·)) : ascR rs = true := by
  unfold ascR
  refine List.all_eq_true.mpr fun i hi => ?_
  have il := List.mem_range.mp hi
  have l1 : i < rs.length := by omega
  have l2 : i + 1 < rs.length := by omega
  have e1 : rs.getD i [] = rs[i] := by rw [List.getD_eq_getElem?_getD, List.getElem?_eq_getElem l1]; rfl
  have e2 : rs.getD (i + 1) [] = rs[i + 1] := by rw [List.getD_eq_getElem?_getD, List.getElem?_eq_getElem l2]; rfl
  rw [e1, e2]
  exact decide_eq_true (List.pairwise_iff_getElem.mp up i (i + 1) l1 l2 (Nat.lt_succ_self i))
def sortB (rs : List (List Int)) : List (List Int) := rs.mergeSort fun p q => decide (p ≤ q)
theorem isP_fam {rs : List (List Int)} (F : Fam rs) (h : rs.length < 20) : isP (sortB rs) = true := by
  have perm : (sortB rs).Perm rs := List.mergeSort_perm _ _
  have len : (sortB rs).length = rs.length := perm.length_eq
  have mem : ∀ r ∈ sortB rs, r ∈ rs := fun r hr => perm.mem_iff.mp hr
  have nd : (sortB rs).Nodup := perm.nodup_iff.mpr (F.nice.imp fun {a b} z => z.2)
  unfold isP
  simp only [Bool.and_eq_true, decide_eq_true_eq, Bool.not_eq_true']
  refine ⟨⟨⟨by omega, List.all_eq_true.mpr fun i hi => ?_⟩, ascR_of (strict_rows (sorted_rows rs) nd)⟩, ?_⟩
  · have il := List.mem_range.mp hi
    have e : (sortB rs).getD i [] = (sortB rs)[i] := by rw [List.getD_eq_getElem?_getD, List.getElem?_eq_getElem il]; rfl
    have m := mem _ (List.getElem_mem il)
    rw [e]
    unfold group
    rw [plist_of (F.up _ m) fun x hx => ?_, Bool.true_and]
    · exact decide_eq_true (by have := F.two _ m; omega)
    · have := F.rng _ m x hx
      omega
  · unfold anyX
    refine List.any_eq_false.mpr fun k hk => ?_
    have kl := List.mem_range.mp hk
    obtain ⟨i, j, e⟩ : ∃ i j, (Comb.prs (sortB rs).length)[k] = (i, j) := ⟨_, _, rfl⟩
    have ek : (Comb.prs (sortB rs).length)[k]? = some (i, j) := by rw [List.getElem?_eq_getElem kl, e]
    obtain ⟨l1, l2, _⟩ := Comb.prs_step ek
    have ed : (Comb.prs (sortB rs).length).getD k (0, 0) = (i, j) := by rw [List.getD_eq_getElem?_getD, ek]; rfl
    have il : i < (sortB rs).length := by omega
    have e1 : (sortB rs).getD i [] = (sortB rs)[i] := by rw [List.getD_eq_getElem?_getD, List.getElem?_eq_getElem il]; rfl
    have e2 : (sortB rs).getD j [] = (sortB rs)[j] := by rw [List.getD_eq_getElem?_getD, List.getElem?_eq_getElem l2]; rfl
    rw [ed]
    show ¬ crossI (maskI ((sortB rs).getD i [])) (maskI ((sortB rs).getD j [])) = true
    rw [e1, e2]
    have m1 := mem _ (List.getElem_mem il)
    have m2 := mem _ (List.getElem_mem l2)
    rw [crossI_no (F.up _ m1) (F.up _ m2) (fun x hx => (F.rng _ m1 x hx).1) (fun x hx => (F.rng _ m2 x hx).1) (F.two_nice m1 m2)]
    exact Bool.false_ne_true
end K32

namespace K32
open PySem PySem.Spec PyProof.Rows L2 SortR LcM
abbrev sGroups : Stmt := top 35
/-! ### the dict by makers: its k-th row under the key k -/
def kvO (k : Int) : List (Addr × List Int) → List (Key × V)
  | [] => []
  | b :: bs => (.inl k, .ref b.1) :: kvO (k + 1) bs
theorem kvO_len : ∀ (k : Int) (bs : List (Addr × List Int)), (kvO k bs).length = bs.length
  | _, [] => rfl
  | k, b :: bs => by
    show (kvO (k + 1) bs).length + 1 = bs.length + 1
    rw [kvO_len]
theorem kvO_vals : ∀ (k : Int) (bs : List (Addr × List Int)), (kvO k bs).map (·.2) = bs.map fun b => V.ref b.1
  | _, [] => rfl
  | k, b :: bs => by
    show V.ref b.1 :: (kvO (k + 1) bs).map (·.2) = V.ref b.1 :: bs.map fun b => V.ref b.1
    rw [kvO_vals]
theorem kvO_keys : ∀ (k : Int) (bs : List (Addr × List Int)), (kvO k bs).map (fun kv => kV kv.1) = ((List.range bs.length).map fun j => k + (j : Nat)).map V.int
  | _, [] => rfl
  | k, b :: bs => by
    show V.int k :: (kvO (k + 1) bs).map (fun kv => kV kv.1) = _
    have e : ((List.range bs.length).map Nat.succ).map (fun j : Nat => k + (j : Int)) = (List.range bs.length).map fun j : Nat => k + 1 + (j : Int) := by
      rw [List.map_map]
      refine List.map_congr_left fun j _ => ?_
      show k + ((j + 1 : Nat) : Int) = k + 1 + (j : Int)
      omega
    rw [kvO_keys, List.length_cons, List.range_succ_eq_map, List.map_cons, List.map_cons, e, show k + ((0 : Nat) : Int) = k by omega]
theorem kvO_at : ∀ (k : Int) (bs : List (Addr × List Int)) (j : Nat) (b : Addr × List Int), bs[j]? = some b → valV (kvO k bs) (.inl (k + (j : Nat))) = some (.ref b.1)
  | _, [], j, b, e => by rw [List.getElem?_nil] at e; cases e
  | k, c :: bs, 0, b, e => by
    cases e
    exact valV_pos (by show (Sum.inl k : Key) = Sum.inl (k + ((0 : Nat) : Int)); rw [show k + ((0 : Nat) : Int) = k by omega])
  | k, c :: bs, j + 1, b, e => by
    have z := kvO_at (k + 1) bs j b (by rw [List.getElem?_cons_succ] at e; exact e)
    rw [show k + 1 + (j : Int) = k + ((j + 1 : Nat) : Int) by omega] at z
    refine Eq.trans (valV_neg fun q => ?_) z
    have := Sum.inl.inj q
    omega
theorem kvO_none : ∀ (k m : Int) (bs : List (Addr × List Int)), m < k ∨ k + bs.length ≤ m → valV (kvO k bs) (.inl m) = none
  | _, _, [], _ => rfl
  | k, m, c :: bs, h => by
    rw [List.length_cons] at h
    refine Eq.trans (valV_neg fun q => ?_) (kvO_none (k + 1) m bs (by omega))
    have := Sum.inl.inj q
    omega
theorem kvO_map : ∀ (k m : Int) (v : V) (bs : List (Addr × List Int)), m < k → (kvO k bs).map (fun kv => if kv.1 = (.inl m : Key) then (kv.1, v) else kv) = kvO k bs
  | _, _, _, [], _ => rfl
  | k, m, v, c :: bs, h => by
    show (if (.inl k : Key) = .inl m then ((.inl k : Key), v) else (.inl k, .ref c.1)) :: (kvO (k + 1) bs).map _ = _
    rw [if_neg (fun q => by have := Sum.inl.inj q; omega), kvO_map (k + 1) m v bs (by omega)]
    rfl
theorem kvO_set : ∀ (k : Int) (bs : List (Addr × List Int)) (j : Nat) (a : Addr) (r : List Int), j < bs.length → (kvO k bs).map (fun kv => if kv.1 = (.inl (k + (j : Nat)) : Key) then (kv.1, .ref a) else kv) = kvO k (bs.set j (a, r))
  | _, [], j, _, _, h => absurd h (Nat.not_lt_zero _)
  | k, c :: bs, 0, a, r, h => by
    show (if (.inl k : Key) = .inl (k + ((0 : Nat) : Int)) then ((.inl k : Key), V.ref a) else (.inl k, .ref c.1)) :: (kvO (k + 1) bs).map _ = (.inl k, .ref a) :: kvO (k + 1) bs
    rw [if_pos (by rw [show k + ((0 : Nat) : Int) = k by omega]), kvO_map (k + 1) _ _ bs (by omega)]
  | k, c :: bs, j + 1, a, r, h => by
    have z := kvO_set (k + 1) bs j a r (Nat.lt_of_succ_lt_succ h)
    rw [show k + 1 + (j : Int) = k + ((j + 1 : Nat) : Int) by omega] at z
    show (if (.inl k : Key) = .inl (k + ((j + 1 : Nat) : Int)) then ((.inl k : Key), V.ref a) else (.inl k, .ref c.1)) :: (kvO (k + 1) bs).map _ = (.inl k, .ref c.1) :: kvO (k + 1) (bs.set j (a, r))
    rw [if_neg (fun q => by have := Sum.inl.inj q; omega), z]
theorem put_at {k : Int} {bs : List (Addr × List Int)} {j : Nat} {a : Addr} (r : List Int) (h : j < bs.length) : putK (kvO k bs) (.inl (k + (j : Nat))) (.ref a) = kvO k (bs.set j (a, r)) := by
  unfold putK
  rw [valV_any, kvO_at k bs j _ (List.getElem?_eq_getElem h), if_pos (show (some (V.ref bs[j].1)).isSome = true from rfl), kvO_set k bs j a r h]
theorem kvO_end : ∀ (k : Int) (bs : List (Addr × List Int)) (a : Addr) (r : List Int), kvO k bs ++ [(.inl (k + bs.length), .ref a)] = kvO k (bs ++ [(a, r)])
  | k, [], a, r => by
    show [((.inl (k + ((0 : Nat) : Int)) : Key), V.ref a)] = [(.inl k, .ref a)]
    rw [show k + ((0 : Nat) : Int) = k by omega]
  | k, c :: bs, a, r => by
    have z := kvO_end (k + 1) bs a r
    rw [show k + 1 + (bs.length : Int) = k + ((bs.length + 1 : Nat) : Int) by omega] at z
    show (.inl k, .ref c.1) :: (kvO (k + 1) bs ++ [((.inl (k + ((bs.length + 1 : Nat) : Int)) : Key), V.ref a)]) = (.inl k, .ref c.1) :: kvO (k + 1) (bs ++ [(a, r)])
    rw [z]
theorem put_end {k : Int} {bs : List (Addr × List Int)} {a : Addr} (r : List Int) : putK (kvO k bs) (.inl (k + bs.length)) (.ref a) = kvO k (bs ++ [(a, r)]) := by
  unfold putK
  rw [valV_any, kvO_none k _ bs (.inr (by omega)), if_neg (show ¬ (none : Option V).isSome = true from Bool.false_ne_true), kvO_end k bs a r]
/-- the rows as they stand, under their keys -/
structure Mad (H0 : Hp) (D : Addr) (bs : List (Addr × List Int)) (rs : List (List Int)) (H : Hp) : Prop where
  grow : Grows H0 H
  top : H D = some (.dK (kvO 1 bs))
  each : ∀ b ∈ bs, H b.1 = some (.lst (b.2.map V.int)) ∧ b.1 ≠ D
  rows : bs.map (·.2) = rs
  new : ∀ b ∈ bs, H0 b.1 = none
theorem Mad.keep {H0 H H' : Hp} {D : Addr} {bs : List (Addr × List Int)} {rs : List (List Int)} (m : Mad H0 D bs rs H) (g : Grows H H') : Mad H0 D bs rs H' := ⟨m.grow.trans g, g _ _ m.top, fun b h => ⟨g _ _ (m.each b h).1, (m.each b h).2⟩, m.rows, m.new⟩
theorem Mad.len {H0 H : Hp} {D : Addr} {bs : List (Addr × List Int)} {rs : List (List Int)} (m : Mad H0 D bs rs H) : bs.length = rs.length := by
  rw [← m.rows, List.length_map]
theorem set_same {α : Type} : ∀ {xs : List α} {j : Nat} {x : α}, xs[j]? = some x → xs.set j x = xs
  | [], _, _, h => by rw [List.getElem?_nil] at h; cases h
  | y :: ys, 0, x, h => by
    cases h
    rfl
  | y :: ys, j + 1, x, h => by
    have z := set_same (xs := ys) (j := j) (x := x) (by rw [List.getElem?_cons_succ] at h; exact h)
    show y :: ys.set j x = y :: ys
    rw [z]
theorem upd_D {H0 H : Hp} {D : Addr} {o : HO} (hD : H0 D = none) (g : Grows H0 H) : Grows H0 (upd H D o) := fun b u e => by
  rw [upd_ne fun z => by rw [z, hD] at e; cases e]
  exact g b u e
theorem Mad.set {H0 H H2 : Hp} {D y : Addr} {bs : List (Addr × List Int)} {rs : List (List Int)} {r : List Int} {j : Nat} (m : Mad H0 D bs rs H) (hD : H0 D = none) (g : Grows H H2) (hy : H2 y = some (.lst (r.map V.int))) (ny : y ≠ D) (nw : H0 y = none) : Mad H0 D (bs.set j (y, r)) (rs.set j r) (upd H2 D (.dK (kvO 1 (bs.set j (y, r))))) :=
  ⟨upd_D hD (m.grow.trans g), upd_same, fun b hb => by
    rcases List.mem_or_eq_of_mem_set hb with z | z
    · exact ⟨by rw [upd_ne (m.each b z).2]; exact g _ _ (m.each b z).1, (m.each b z).2⟩
    · rw [z]
      exact ⟨by rw [upd_ne ny]; exact hy, ny⟩, by rw [List.map_set, m.rows], fun b hb => by
    rcases List.mem_or_eq_of_mem_set hb with z | z
    · exact m.new b z
    · rw [z]
      exact nw⟩
theorem Mad.add {H0 H H2 : Hp} {D y : Addr} {bs : List (Addr × List Int)} {rs : List (List Int)} {r : List Int} (m : Mad H0 D bs rs H) (hD : H0 D = none) (g : Grows H H2) (hy : H2 y = some (.lst (r.map V.int))) (ny : y ≠ D) (nw : H0 y = none) : Mad H0 D (bs ++ [(y, r)]) (rs ++ [r]) (upd H2 D (.dK (kvO 1 (bs ++ [(y, r)])))) :=
  ⟨upd_D hD (m.grow.trans g), upd_same, fun b hb => by
    rcases List.mem_append.mp hb with z | z
    · exact ⟨by rw [upd_ne (m.each b z).2]; exact g _ _ (m.each b z).1, (m.each b z).2⟩
    · rw [List.mem_singleton.mp z]
      exact ⟨by rw [upd_ne ny]; exact hy, ny⟩, by rw [List.map_append, m.rows]; rfl, fun b hb => by
    rcases List.mem_append.mp hb with z | z
    · exact m.new b z
    · rw [List.mem_singleton.mp z]
      exact nw⟩
/-- rows of which the first ones are grown -/
def mixB (G : List Int → List Int) (rs : List (List Int)) (j : Nat) : List (List Int) := (rs.take j).map G ++ rs.drop j
theorem mix_zero {G : List Int → List Int} {rs : List (List Int)} : mixB G rs 0 = rs := rfl
theorem mix_all {G : List Int → List Int} {rs : List (List Int)} : mixB G rs rs.length = rs.map G := by
  unfold mixB
  rw [List.take_length, List.drop_length, List.append_nil]
theorem mix_len {G : List Int → List Int} {rs : List (List Int)} {j : Nat} (h : j ≤ rs.length) : (mixB G rs j).length = rs.length := by
  unfold mixB
  rw [List.length_append, List.length_map, List.length_take, List.length_drop]
  omega
theorem mix_at {G : List Int → List Int} {rs : List (List Int)} {j : Nat} {r : List Int} (h : rs[j]? = some r) : (mixB G rs j)[j]? = some r := by
  have l := (List.getElem?_eq_some_iff.mp h).1
  unfold mixB
  have e : ((rs.take j).map G).length = j := by
    rw [List.length_map, List.length_take]
    omega
  rw [List.getElem?_append_right (by omega), e, Nat.sub_self, List.getElem?_drop, Nat.add_zero]
  exact h
theorem mix_set {G : List Int → List Int} : ∀ {rs : List (List Int)} {j : Nat} {r : List Int}, rs[j]? = some r → (mixB G rs j).set j (G r) = mixB G rs (j + 1)
  | [], j, r, h => by rw [List.getElem?_nil] at h; cases h
  | c :: rs, 0, r, h => by
    cases h
    rfl
  | c :: rs, j + 1, r, h => by
    have z := mix_set (G := G) (rs := rs) (j := j) (r := r) (by rw [List.getElem?_cons_succ] at h; exact h)
    show G c :: (mixB G rs j).set j (G r) = G c :: mixB G rs (j + 1)
    rw [z]
theorem mix_same {G : List Int → List Int} {rs : List (List Int)} {j : Nat} {r : List Int} (h : rs[j]? = some r) (e : G r = r) : mixB G rs (j + 1) = mixB G rs j := by
  rw [← mix_set h, e]
  exact set_same (mix_at h)
theorem sort_snd (bs : List (Addr × List Int)) : (bs.mergeSort rowLe).map (·.2) = sortB (bs.map (·.2)) := by
  unfold sortB
  exact (List.map_mergeSort fun _ _ _ _ => rfl)
def spGroups (K : PySem.W.Frag) : Sp := fun vs H Q _ => ∃ (a : Addr) (is : List Int), vs = [.ref a] ∧ SqL K H a (is.map V.int) ∧ Bnd is ∧ is.length ≤ 19 ∧
  ∀ (p : Addr) (cs : List (Addr × List Int)) (H' : Hp), Grows H H' → H p = none → H' p = some (.lst (cs.map fun c => V.ref c.1)) → (∀ c ∈ cs, H' c.1 = some (.lst (c.2.map V.int)) ∧ H c.1 = none) → cs.map (·.2) = sortB (famB is is.length) → Q (.ref p) H'
section
variable {P : Program} {w : World} {K : PySem.W.Frag} {mg : Str → Option Value} {base : Heap}
theorem scGroups : FnScope ["items", "made", "place", "item", "base", "maker", "wide"] ["items"] (defScope sGroups) := ⟨rfl, rfl, rfl, by decide +kernel, rfl, by decide +kernel, by decide +kernel⟩
theorem ok_groups {f : Addr} {fd : FuncData} (F : Fun K "_law_groups" "_law_groups" sGroups f fd) (T : TxtP mg) : FnOk P w K mg base CX0 1 f fd ["items"] (spGroups K) := by
  refine F.ok scGroups (fun vs H Q E h => ?_) (fun cdv A outer s H vs Q E hr h => ?_)
  · obtain ⟨a, is, rfl, _⟩ := h
    rfl
  · obtain ⟨a, is, rfl, hS, hb, hl, k⟩ := h
    have hu := hu_of hr
    refine ⟨_, (pss_cons (ps_set (i := 1) scGroups.nd rfl (.inl rfl) pe_dnewK)
      (pss_cons (ps_for PassesOwn.never rfl (pi_enum (by rfl) T.enumerate (pa_cons (pv 0) pa_nil)) (pg_tup (by rfl) (pgs_cons (pg_name (i := 2) scGroups.nd rfl (.inl rfl)) (pgs_cons (pg_name (i := 3) scGroups.nd rfl (.inl rfl)) pgs_nil)))
      (pss_cons (ps_set (i := 4) scGroups.nd rfl (.inl rfl) (pe_ifExp (pt_cmpR op_ge (pv 3) pe_int (nomark _)) (pe_lst (pa_cons (pv 3) pa_nil)) (pe_dget hu (pv 1) (pe_op op_sub pe_int (pv 3)) (fun _ _ => rfl))))
      (pss_cons (ps_for PassesOwn.never rfl (pi_list (pe_callTy (call_list_dK (by rfl)) (by rfl) T.list (by decide +kernel) (pa_cons (pv 1) pa_nil))) (pg_name (i := 5) scGroups.nd rfl (.inl rfl))
      (pss_cons (ps_set (i := 6) scGroups.nd rfl (.inl rfl) (pe_dget hu (pv 1) (pv 5) (fun _ _ => rfl)))
      (pss_one (ps_if (PW.pt (pw_and (pt_cmpR op_gt (pe_callB call_len_seq (by rfl) T.len (by decide +kernel) (pa_cons (pv 6) pa_nil)) (pe_callB call_len_seq (by rfl) T.len (by decide +kernel) (pa_cons (pv 4) pa_nil)) (nomark _)) (pw_and1 (pt_cmpR op_in_seq (pe_ix (r := rIxL K) ix_list (pv 4) pe_int (fun _ _ => rfl)) (pv 6) (by rfl))))) (pss_one (ps_dput hu (pv 1) (pv 5) (pe_op op_cat (pv 6) (pe_lst (pa_cons (pe_op op_add (pv 2) pe_int) pa_nil))) rfl)) pss_nil))))
      (pss_one (ps_dput hu (pv 1) (pe_op op_add (pv 2) pe_int) (pe_op op_cat (pv 4) (pe_lst (pa_cons (pe_op op_add (pv 2) pe_int) pa_nil))) rfl)))))
      (pss_one (ps_ret (pe_sortVals hr.units (by rfl) (by rfl) T.sorted (pv 1)))))), ?_⟩
    refine fun D hD => ?_
    refine ⟨_, rfl, a, _, rfl, Grows.seq (Grows.new hD) hS, for_enumL (K := K) (xs := is.map V.int) (fun i σ H' => ∃ (bs : List (Addr × List Int)) (o2 o3 o4 o5 o6 : Option V), σ = [some (.ref a), some (.ref D), o2, o3, o4, o5, o6] ∧ Mad H D bs (famB is i) H')
      ⟨[], none, none, none, none, none, rfl, ⟨Grows.new hD, upd_same, (fun _ h => nomatch h), rfl, fun _ h => nomatch h⟩⟩ (fun i σ H' ⟨bs, o2, o3, o4, o5, o6, e, m⟩ => Grows.seq m.grow hS) (fun i x Tp σ H' hx ⟨bs, o2, o3, o4, o5, o6, e, m⟩ hT => ?_) fun σ H' ⟨bs, o2, o3, o4, o5, o6, e, m⟩ => ?_⟩
    · subst e
      have il := (List.getElem?_eq_some_iff.mp hx).1
      rw [List.length_map] at il
      obtain rfl := at_map (d := 0) hx
      obtain ⟨x, ex⟩ : ∃ x : Int, x = is.getD i 0 := ⟨_, rfl⟩
      have bx : -(i : Int) ≤ x ∧ x ≤ (i : Int) := by
        refine hb i x ?_
        rw [ex, List.getD_eq_getElem?_getD, List.getElem?_eq_getElem il]
        rfl
      rw [← ex]
      refine ⟨Tp, _, rfl, SqT.of upd_same, rfl, _, _, rfl, _, _, rfl, rfl, ?_⟩
      have m1 := m.keep (Grows.new (o := .tup [V.int ((i : Nat) : Int), V.int x]) hT)
      generalize upd H' Tp (.tup [V.int ((i : Nat) : Int), V.int x]) = H1 at m1 ⊢
      clear m hT
      have li : (famB is i).length = i := famB_len is i
      refine seq_all (fun σ' H2 => ∃ pb : Addr, σ' = [some (.ref a), some (.ref D), some (.int ((i : Nat) : Int)), some (.int x), some (.ref pb), o5, o6] ∧ Grows H1 H2 ∧ H2 pb = some (.lst ((baseB (famB is i) x).map V.int)) ∧ pb ≠ D) (fun σ' H2 ⟨pb, e, g, ep, np⟩ => ?_) fun k2 => ?_
      · subst e
        have m2 := m1.keep g
        clear m1 g
        refine ⟨_, rfl, D, _, rfl, m2.top, fun L hL => ⟨L, rfl, ⟨_, SqL.of upd_same⟩, ?_⟩⟩
        have m3 := m2.keep (Grows.new (o := .lst ((kvO 1 bs).map fun kv => kV kv.1)) hL)
        obtain ⟨G, eG⟩ : ∃ G : List Int → List Int, G = growB ((i : Int) + 1) (baseB (famB is i) x) := ⟨_, rfl⟩
        have nL : L ≠ D := (ne_of_none m2.top hL).symm
        refine for_list (K := K) (xs := (kvO 1 bs).map fun kv => kV kv.1) (fun j σ H3 => ∃ (cs : List (Addr × List Int)) (p5 p6 : Option V), σ = [some (.ref a), some (.ref D), some (.int ((i : Nat) : Int)), some (.int x), some (.ref pb), p5, p6] ∧ Mad H D cs (mixB G (famB is i) j) H3 ∧ Gr D (upd H2 L (.lst ((kvO 1 bs).map fun kv => kV kv.1))) H3)
          ⟨bs, _, _, rfl, m3, .refl⟩ (fun j σ H3 _ ⟨cs, p5, p6, e, m4, gr⟩ => SqL.of (gr _ _ nL upd_same)) (fun j v σ H3 hv ⟨cs, p5, p6, e, m4, gr⟩ => ?_) fun σ H3 ⟨cs, p5, p6, e, m4, gr⟩ => ?_
        · subst e
          have lk : (kvO 1 bs).length = i := by rw [kvO_len, m2.len, li]
          have ji : j < i := by
            have := (List.getElem?_eq_some_iff.mp hv).1
            rw [List.length_map, lk] at this
            exact this
          have lc : cs.length = i := by rw [m4.len, mix_len (by rw [li]; exact Nat.le_of_lt ji), li]
          obtain rfl : v = .int (1 + (j : Int)) := by
            rw [kvO_keys, List.getElem?_map, List.getElem?_map, List.getElem?_range (by rw [m2.len, li]; exact ji)] at hv
            cases hv
            rfl
          have jc : j < cs.length := by rw [lc]; exact ji
          have jr : j < (famB is i).length := by rw [li]; exact ji
          obtain ⟨c, ec⟩ : ∃ c, cs[j]? = some c := ⟨_, List.getElem?_eq_getElem jc⟩
          obtain ⟨r, er⟩ : ∃ r, (famB is i)[j]? = some r := ⟨_, List.getElem?_eq_getElem jr⟩
          have mc : c ∈ cs := List.mem_of_getElem? ec
          have cr : c.2 = r := by
            have z := mix_at (G := G) er
            rw [← m4.rows, List.getElem?_map, ec] at z
            exact Option.some.inj z
          have dg : DGet H3 D (.int (1 + (j : Int))) (some (.ref c.1)) := by
            have z := DGet.k (k := .inl (1 + (j : Int))) m4.top
            rw [kvO_at 1 cs j _ ec] at z
            exact z
          have ew : H3 c.1 = some (.lst (r.map V.int)) := by
            rw [← cr]
            exact (m4.each c mc).1
          have ep3 : H3 pb = some (.lst ((baseB (famB is i) x).map V.int)) := gr _ _ np (Grows.new hL _ _ ep)
          have same : G r = r → ∃ (cs : List (Addr × List Int)) (p5 p6 : Option V), [some (.ref a), some (.ref D), some (.int ((i : Nat) : Int)), some (.int x), some (.ref pb), some (.int (1 + (j : Int))), some (.ref c.1)] = [some (.ref a), some (.ref D), some (.int ((i : Nat) : Int)), some (.int x), some (.ref pb), p5, p6] ∧ Mad H D cs (mixB G (famB is i) (j + 1)) H3 ∧ Gr D (upd H2 L (.lst ((kvO 1 bs).map fun kv => kV kv.1))) H3 := fun e => ⟨cs, _, _, rfl, by rw [mix_same er e]; exact m4, gr⟩
          refine ⟨_, rfl, _, rfl, D, _, rfl, dg, ?_⟩
          refine ⟨_, rfl, c.1, _, rfl, .inl (SqL.of ew), _, rfl, pb, _, rfl, .inl (SqL.of ep3), _, _, rfl, rfl, _, rfl, iteN _ (fun c1 => ?_) fun c1 => ?_⟩
          · have c1 := of_decide_eq_true c1
            rw [List.length_map, List.length_map] at c1
            have B := (famB_ok hb i (Nat.le_of_lt il)).bas (item := x) (by rw [li]; exact bx.1) (by rw [li]; exact bx.2)
            obtain ⟨h, t, eb⟩ := B.ne
            refine ⟨_, rfl, pb, _, 0, .int h, rfl, rfl, SqL.of ep3, (by rw [eb]; exact atI_nat (j := 0) rfl), _, rfl, c.1, _, rfl, .inl (SqL.of ew), rfl, flat_ints r, _, rfl, iteN _ (fun c2 => ?_) fun c2 => ?_⟩
            · rw [if_neg Bool.false_ne_true, inV_ints] at c2
              have c2 := of_decide_eq_true c2
              have eGr : G r = r ++ [(i : Int) + 1] := by
                rw [eG]
                unfold growB inB
                rw [decide_eq_true (show (baseB (famB is i) x).length < r.length by omega), decide_eq_true (show (baseB (famB is i) x).headD 0 ∈ r by rw [eb]; exact c2)]
                rfl
              refine ⟨_, rfl, _, rfl, _, _, rfl, rfl, (by show 1 ≤ sizeLine; decide), fun q hq => ⟨c.1, q, _, _, rfl, rfl, Grows.new hq _ _ ew, upd_same, ?_, fun y hy => ⟨_, rfl, _, rfl, D, _, rfl, DPut.k (k := .inl (1 + (j : Int))) ((Grows.new hq).trans (Grows.new hy) _ _ m4.top) (by rw [kvO_len, lc]; exact small1000 (by omega)), ?_⟩⟩⟩
              · rw [List.length_map]
                have := len_sub (xs := r) (ys := (List.range (i + 1)).map fun z => ((z : Nat) : Int)) (up_nodup ((famB_ok hb i (Nat.le_of_lt il)).up r (List.mem_of_getElem? er))) fun z hz => by
                  have q := (famB_ok hb i (Nat.le_of_lt il)).rng r (List.mem_of_getElem? er) z hz
                  rw [li] at q
                  exact List.mem_map.mpr ⟨z.toNat, List.mem_range.mpr (by omega), by omega⟩
                rw [List.length_map, List.length_range] at this
                exact Nat.le_trans (show r.length + 1 ≤ 100 by omega) (by decide)
              · have gg : Grows H3 (upd (upd H3 q (.lst [V.int ((i : Int) + 1)])) y (.lst (r.map V.int ++ [V.int ((i : Int) + 1)]))) := (Grows.new hq).trans (Grows.new hy)
                have ny : y ≠ D := (ne_of_none (Grows.new hq _ _ m4.top) hy).symm
                rw [put_at (r ++ [(i : Int) + 1]) jc]
                refine ⟨cs.set j (y, r ++ [(i : Int) + 1]), _, _, rfl, ?_, fun b o n e => by rw [upd_ne n]; exact gg _ _ (gr b o n e)⟩
                rw [← mix_set er, eGr]
                exact m4.set hD gg (by rw [upd_same, List.map_append]; rfl) ny (none_back (m4.grow.trans (Grows.new hq)) hy)
            · rw [if_neg Bool.false_ne_true, inV_ints] at c2
              refine same ?_
              rw [eG]
              unfold growB inB
              rw [decide_eq_false (show ¬ (baseB (famB is i) x).headD 0 ∈ r by rw [eb]; exact of_decide_eq_false c2), Bool.and_false, if_neg Bool.false_ne_true]
          · have c1 := of_decide_eq_false c1
            rw [List.length_map, List.length_map] at c1
            refine same ?_
            rw [eG]
            unfold growB inB
            rw [decide_eq_false (show ¬ (baseB (famB is i) x).length < r.length by omega), Bool.false_and, if_neg Bool.false_ne_true]
        · subst e
          have lk : ((kvO 1 bs).map fun kv => kV kv.1).length = (famB is i).length := by rw [List.length_map, kvO_len, m2.len]
          rw [lk, mix_all] at m4
          have lc : cs.length = i := by rw [m4.len, List.length_map, li]
          have ep3 : H3 pb = some (.lst ((baseB (famB is i) x).map V.int)) := gr _ _ np (Grows.new hL _ _ ep)
          refine ⟨_, rfl, _, rfl, _, _, rfl, rfl, (by show 1 ≤ sizeLine; decide), fun q hq => ⟨pb, q, _, _, rfl, rfl, Grows.new hq _ _ ep3, upd_same, ?_, fun y hy => ⟨_, rfl, _, rfl, _, _, rfl, rfl, D, _, rfl, DPut.k (k := .inl ((i : Int) + 1)) ((Grows.new hq).trans (Grows.new hy) _ _ m4.top) (by rw [kvO_len, lc]; exact small1000 (by omega)), ?_⟩⟩⟩
          · have B := (famB_ok hb i (Nat.le_of_lt il)).bas (item := x) (by rw [li]; exact bx.1) (by rw [li]; exact bx.2)
            rw [List.length_map]
            have := len_sub (xs := baseB (famB is i) x) (ys := (List.range (i + 1)).map fun z => ((z : Nat) : Int)) (up_nodup B.up) fun z hz => by
              have q := B.rng z hz
              rw [li] at q
              exact List.mem_map.mpr ⟨z.toNat, List.mem_range.mpr (by omega), by omega⟩
            rw [List.length_map, List.length_range] at this
            exact Nat.le_trans (show (baseB (famB is i) x).length + 1 ≤ 100 by omega) (by decide)
          · have gg : Grows H3 (upd (upd H3 q (.lst [V.int ((i : Int) + 1)])) y (.lst ((baseB (famB is i) x).map V.int ++ [V.int ((i : Int) + 1)]))) := (Grows.new hq).trans (Grows.new hy)
            have ny : y ≠ D := (ne_of_none (Grows.new hq _ _ m4.top) hy).symm
            have ke : ((i : Int) + 1) = 1 + ((cs.length : Nat) : Int) := by rw [lc]; omega
            have pe : putK (kvO 1 cs) (.inl ((i : Int) + 1)) (.ref y) = kvO 1 (cs ++ [(y, baseB (famB is i) x ++ [(i : Int) + 1])]) := by
              rw [show (.inl ((i : Int) + 1) : Key) = .inl (1 + ((cs.length : Nat) : Int)) from congrArg Sum.inl ke]
              exact put_end _
            rw [pe]
            refine ⟨cs ++ [(y, baseB (famB is i) x ++ [(i : Int) + 1])], _, _, _, _, _, rfl, ?_⟩
            have e : famB is (i + 1) = (famB is i).map G ++ [baseB (famB is i) x ++ [(i : Int) + 1]] := by
              show stepB (famB is i) (is.getD i 0) = _
              unfold stepB
              rw [← ex, li, eG]
            rw [e]
            exact m4.add hD gg (by rw [upd_same, List.map_append]; rfl) ny (none_back (m4.grow.trans (Grows.new hq)) hy)
      · refine ⟨_, rfl, _, _, rfl, rfl, _, rfl, iteN _ (fun c => ?_) fun c => ?_⟩
        · have c := of_decide_eq_true c
          refine ⟨_, rfl, (by show 1 ≤ sizeLine; decide), fun q hq => k2 _ _ ⟨q, rfl, Grows.new hq, ?_, (ne_of_none m1.top hq).symm⟩⟩
          rw [upd_same]
          unfold baseB
          rw [if_pos c]
          rfl
        · have c := of_decide_eq_false c
          have lj : (0 - x - 1).toNat < bs.length := by
            rw [m1.len, li]
            omega
          have eb := List.getElem?_eq_getElem lj
          have dg : DGet H1 D (.int (0 - x)) (some (.ref bs[(0 - x - 1).toNat].1)) := by
            have z := DGet.k (k := .inl (1 + (((0 - x - 1).toNat : Nat) : Int))) m1.top
            rw [kvO_at 1 bs _ _ eb] at z
            have e : (1 + (((0 - x - 1).toNat : Nat) : Int)) = 0 - x := by omega
            have z2 : DGet H1 D (.int (1 + (((0 - x - 1).toNat : Nat) : Int))) (some (.ref bs[(0 - x - 1).toNat].1)) := z
            generalize hg : (1 + (((0 - x - 1).toNat : Nat) : Int)) = u at e z2
            rw [e] at z2
            exact z2
          have mem := List.getElem_mem lj
          refine ⟨_, rfl, _, rfl, _, _, rfl, rfl, D, _, rfl, dg, k2 _ _ ⟨_, rfl, .refl, ?_, (m1.each _ mem).2⟩⟩
          rw [(m1.each _ mem).1]
          unfold baseB
          rw [if_neg c, ← m1.rows, List.getD_eq_getElem?_getD, List.getElem?_map, eb]
          rfl
    · subst e
      rw [List.length_map] at m
      refine ⟨_, rfl, D, _, bs, rfl, m.top, kvO_vals 1 bs, fun b h => (m.each b h).1, fun p hp => ?_⟩
      have g := m.grow.trans (Grows.new (o := .lst ((bs.mergeSort rowLe).map fun b => V.ref b.1)) hp)
      refine k p (bs.mergeSort rowLe) _ g (none_back m.grow hp) upd_same (fun c h => ?_) (by rw [sort_snd, m.rows])
      exact ⟨Grows.new hp _ _ (m.each c (List.mem_mergeSort.mp h)).1, m.new c (List.mem_mergeSort.mp h)⟩
end
end K32

namespace K32
open PySem PySem.Spec PyProof.Rows L2 SortR LcM RepA
/-! ### data that lasts -/
theorem grows_seqT {K : PySem.W.Frag} {H H' : Hp} (s : Grows H H') {a : Addr} {xs : List V} (h : SqT K H a xs) : SqT K H' a xs := by
  rcases h with (h | ⟨o, h⟩) | h
  · exact .inl (.inl (s _ _ h))
  · exact .inl (.inr ⟨o, s _ _ h⟩)
  · exact .inr h
theorem Dp.grow {K : PySem.W.Frag} {H H' : Hp} (s : Grows H H') {x : V} {d : PyData} (h : Dp K H x d) : Dp K H' x d := by
  refine Dp.rec (motive_1 := fun x d _ => Dp K H' x d) (motive_2 := fun xs ds _ => DpAll K H' xs ds) ?_ ?_ ?_ ?_ ?_ ?_ ?_ ?_ h
  · exact .non
  · exact fun b => .bl b
  · exact fun i => .int i
  · exact fun x => .str x
  · exact fun q _ ih => .lst (s.seq q) ih
  · exact fun q _ ih => .tup (grows_seqT s q) ih
  · exact .nil
  · exact fun _ _ a b => .cons a b
theorem DpAll.grow {K : PySem.W.Frag} {H H' : Hp} (s : Grows H H') : ∀ {xs : List V} {ds : List PyData}, DpAll K H xs ds → DpAll K H' xs ds
  | _, _, .nil => .nil
  | _, _, .cons a b => .cons (Dp.grow s a) (DpAll.grow s b)
theorem Dd.grow {K : PySem.W.Frag} {H H' : Hp} (s : Grows H H') {x : V} {d : PyData} (h : Dd K H x d) : Dd K H' x d := by
  rcases h with h | ⟨a, e, q, ed⟩
  · exact .inl (Dp.grow s h)
  · exact .inr ⟨a, e, s _ _ q, ed⟩
theorem DpAll.len {K : PySem.W.Frag} {H : Hp} : ∀ {xs : List V} {ds : List PyData}, DpAll K H xs ds → xs.length = ds.length
  | _, _, .nil => rfl
  | _, _, .cons _ b => congrArg (· + 1) (DpAll.len b)
theorem DpAll.at {K : PySem.W.Frag} {H : Hp} : ∀ {ds : List PyData} {xs : List V} {i : Nat} {x : V}, DpAll K H xs ds → xs[i]? = some x → ∃ d, ds[i]? = some d ∧ Dp K H x d
  | [], _, _, _, .nil, h => nomatch h
  | d :: ds, _, i, x, .cons (vs := vs) a b, h => by
    cases i with
    | zero =>
      cases h
      exact ⟨_, rfl, a⟩
    | succ i =>
      have h' : vs[i]? = some x := h
      obtain ⟨e, he, q⟩ := DpAll.at b h'
      exact ⟨e, he, q⟩
def tyName : PyData → String
  | .none => "NoneType"
  | .bool _ => "bool"
  | .int _ => "int"
  | .str _ => "str"
  | .list _ => "list"
  | .tuple _ => "tuple"
  | .dict _ => "dict"
theorem dd_ty {K : PySem.W.Frag} {H : Hp} {x : V} {d : PyData} (h : Dd K H x d) : TyX K H x (.type (tyName d)) := by
  rcases h with h | ⟨a, rfl, q, rfl⟩
  · cases h with
    | non => exact .base .non
    | bl b => exact .base (.bl b)
    | int i => exact .base (.int i)
    | str s => exact .base (.str s)
    | lst q _ => exact ty_list q
    | tup q _ =>
      rcases q with (q | ⟨o, q⟩) | ⟨o, its, n, q, hc, _⟩
      · exact .base (.tup q)
      · exact .fTuple q
      · exact .kTuple q hc
  · exact .base (.dK q)
theorem ty_kinds (d : PyData) : tyName d ∈ kinds := by
  cases d <;> simp [tyName, kinds]
end K32

namespace K32
open PySem PySem.Spec PyProof.Rows L2 SortR LcM RepA
/-! ### the program's tests, on any data -/
def persD (n : Int) : PyData → Bool
  | .int i => decide (0 ≤ i) && decide (i < n)
  | _ => false
def toI : PyData → Int
  | .int i => i
  | _ => 0
def plistD (n : Int) : PyData → Bool
  | .list ds => ds.all (persD n) && ascI (ds.map toI)
  | _ => false
def grpD (n : Int) : PyData → Bool
  | .list ds => plistD n (.list ds) && decide (2 ≤ (ds.length : Int))
  | _ => false
def toR : PyData → List Int
  | .list ds => ds.map toI
  | _ => []
def isPD : PyData → Bool
  | .list ds => decide ((ds.length : Int) < 20) && ds.all (grpD (ds.length + 1)) && ascR (ds.map toR) && !anyX (ds.map toR)
  | _ => false
theorem plistD_list (n : Int) (ds : List PyData) : plistD n (.list ds) = (ds.all (persD n) && ascI (ds.map toI)) := rfl
theorem grpD_list (n : Int) (ds : List PyData) : grpD n (.list ds) = (plistD n (.list ds) && decide (2 ≤ (ds.length : Int))) := rfl
theorem isPD_list (ds : List PyData) : isPD (.list ds) = (decide ((ds.length : Int) < 20) && ds.all (grpD (ds.length + 1)) && ascR (ds.map toR) && !anyX (ds.map toR)) := rfl
/-- lists within are not too long -/
def Lim (d : PyData) : Prop := ∀ ds, d = .list ds → ds.length ≤ 1000
def Lim2 (d : PyData) : Prop := ∀ ds, d = .list ds → ds.length ≤ 1000 ∧ ∀ e ∈ ds, Lim e
theorem all_at {α : Type} (d : α) (f : α → Bool) (ds : List α) : ((List.range ds.length).all fun i => f (ds.getD i d)) = ds.all f := by
  rw [Bool.eq_iff_iff, List.all_eq_true, List.all_eq_true]
  refine ⟨fun h x hx => ?_, fun h i hi => ?_⟩
  · obtain ⟨i, hi, e⟩ := List.getElem_of_mem hx
    have := h i (List.mem_range.mpr hi)
    rw [List.getD_eq_getElem?_getD, List.getElem?_eq_getElem hi] at this
    rw [← e]
    exact this
  · have il := List.mem_range.mp hi
    rw [List.getD_eq_getElem?_getD, List.getElem?_eq_getElem il]
    exact h _ (List.getElem_mem il)
theorem pers_int {n : Int} {d : PyData} (h : persD n d = true) : d = .int (toI d) := by
  cases d with
  | int i => rfl
  | _ => cases h
/-- data that are ints stand as ints -/
theorem ints_of {K : PySem.W.Frag} {H : Hp} : ∀ {xs : List V} {ds : List PyData}, DpAll K H xs ds → (∀ d ∈ ds, d = .int (toI d)) → xs = (ds.map toI).map V.int
  | _, _, .nil, _ => rfl
  | _, _, .cons (v := v) (d := d) a b, h => by
    have e := h d List.mem_cons_self
    rw [List.map_cons, List.map_cons, ← ints_of b fun x hx => h x (List.mem_cons_of_mem _ hx)]
    rw [e] at a
    cases a
    rw [e]
theorem grp_list {n : Int} {d : PyData} (h : grpD n d = true) : ∃ ds, d = .list ds ∧ (∀ e ∈ ds, e = .int (toI e)) := by
  cases d with
  | list ds =>
    refine ⟨ds, rfl, fun e he => ?_⟩
    rw [grpD_list, plistD_list] at h
    simp only [Bool.and_eq_true] at h
    exact pers_int (List.all_eq_true.mp h.1.1 e he)
  | _ => cases h
/-- data that are groups stand as rows -/
theorem rows_of {K : PySem.W.Frag} {H : Hp} {n : Int} : ∀ {xs : List V} {ds : List PyData}, DpAll K H xs ds → (∀ d ∈ ds, grpD n d = true) → ∃ bs : List (Addr × List Int), xs = bs.map (fun b => V.ref b.1) ∧ bs.map (·.2) = ds.map toR ∧ ∀ b ∈ bs, SqL K H b.1 (b.2.map V.int)
  | _, _, .nil, _ => ⟨[], rfl, rfl, fun _ h => nomatch h⟩
  | _, _, .cons (v := v) (d := d) a b, h => by
    obtain ⟨bs, e1, e2, e3⟩ := rows_of b fun x hx => h x (List.mem_cons_of_mem _ hx)
    obtain ⟨es, rfl, hi⟩ := grp_list (h d List.mem_cons_self)
    cases a with
    | @lst r xs _ q all =>
      have e := ints_of all hi
      refine ⟨(r, es.map toI) :: bs, by rw [List.map_cons, ← e1], by rw [List.map_cons, List.map_cons, e2]; rfl, fun c hc => ?_⟩
      rcases List.mem_cons.mp hc with z | z
      · rw [z, ← e]
        exact q
      · exact e3 c z
def spPLD (K : PySem.W.Frag) (m : Int → PyData → Bool) : Sp := fun vs H Q _ => ∃ (x : V) (d : PyData) (n : Int), vs = [x, .int n] ∧ Dd K H x d ∧ Lim d ∧ ∀ H', Grows H H' → Q (.bl (m n d)) H'
theorem dd_list {K : PySem.W.Frag} {H : Hp} {x : V} {ds : List PyData} (h : Dd K H x (.list ds)) : ∃ a xs, x = .ref a ∧ SqL K H a xs ∧ DpAll K H xs ds := by
  rcases h with h | ⟨a, e, q, ed⟩
  · cases h with
    | lst q all => exact ⟨_, _, rfl, q, all⟩
  · cases ed
theorem not_list {d : PyData} (h : ¬ ∃ ds, d = .list ds) : decide (tyName d = "list") = false := by
  cases d with
  | list ds => exact absurd ⟨ds, rfl⟩ h
  | _ => rfl
section
variable {P : Program} {w : World} {K : PySem.W.Frag} {mg : Str → Option Value} {base : Heap}
theorem ok_plistD (Z : ProgF K mg) (T : TxtP mg) : FnOk P w K mg base CX0 3 Z.fPL Z.dPL ["thing", "persons"] (spPLD K plistD) := by
  have GPer : FnOk P w K mg base CX0 2 Z.fPer Z.dPer ["thing", "persons"] (spPerson K) := ok_person Z T
  have GAsc : FnOk P w K mg base CX0 1 Z.fAsc Z.dAsc ["items"] (spAscI K) := ok_ascI Z.FAsc T
  refine Z.FPL.ok scPList (fun vs H Q E h => ?_) (fun cdv A outer s H vs Q E hr h => ?_)
  · obtain ⟨x, d, n, rfl, _⟩ := h
    rfl
  · obtain ⟨x, d, n, rfl, hd, lim, k⟩ := h
    refine ⟨_, (pss_cons (ps_if (pt_not (pt_val (pe_callB call_isi (by rfl) T.isi (by decide +kernel) (pa_cons (pv 0) (pa_cons (pe_bltn (v := .ty "list") (u := .type "list") (by rfl) T.list (by decide +kernel) rfl) pa_nil))))) (pss_one (ps_ret pe_bl)) pss_nil)
      (pss_one (ps_ret (pe_and (pe_callB (cr_all rfl) (by rfl) T.all (by decide +kernel) (pa_cons (pe_lc (own := [("item", 2)]) (g := gName 2) (tt := tYes) rfl scPList.nd (pi_list (pv 0)) (blkOk_by (own := [("item", 2)]) (N := ["thing", "persons", "item"]) (sc := defScope sPList) (by decide +kernel)) (fun _ _ _ _ _ => pg_name (i := 2) scPList.nd rfl (Or.inl rfl)) (fun _ _ _ _ _ => pts_nil) (fun _ _ _ _ _ => (pe_call GPer (hr.mono (by decide)) rfl Z.gPer Z.FPer.kp Z.bPer .nil pass0 (pa_cons (pv 2) (pa_cons (pv 1) pa_nil))))) pa_nil)) (pe_one (pe_call GAsc (hr.mono (by decide)) rfl Z.gAsc Z.FAsc.kp Z.bAsc .nil pass0 (pa_cons (pv 0) pa_nil))))))), ?_⟩
    have ty := dd_ty hd
    by_cases isl : ∃ ds, d = .list ds
    · obtain ⟨ds, rfl⟩ := isl
      obtain ⟨a, xs, rfl, hS, all⟩ := dd_list hd
      have hn := lim ds rfl
      have xl := DpAll.len all
      refine ⟨_, rfl, _, _, _, _, true, rfl, .ty "list", ty_list hS, kit_ty (by decide +kernel), true, rfl, ?_⟩
      refine iteF ⟨_, rfl, a, rfl, ⟨_, hS⟩, fun D hD => lc_listM (K := K) (fun i => V.bl (persD n (ds.getD i .none))) hD hS (by rw [xl]; omega) (fun i x H' R hx sm kR => ?_) fun H' sm eD => ?_⟩
      · obtain ⟨e, he, de⟩ := DpAll.at all hx
        have eg : ds.getD i .none = e := by rw [List.getD_eq_getElem?_getD, he]; rfl
        rw [eg] at kR
        refine ⟨rfl, _, rfl, _, rfl, x, tyName e, n, rfl, dd_ty (.inl (Dp.grow sm de)), ty_kinds e, fun z => ?_, fun z => ?_⟩
        · cases de with
          | int i => exact ⟨i, rfl, kR _ .refl⟩
          | _ => exact absurd z (by simp only [tyName]; decide)
        · have ef : persD n e = false := by
            cases e with
            | int i => exact absurd rfl z
            | _ => rfl
          have q := kR H' .refl
          rw [ef] at q
          exact q
      · rw [xl] at eD
        refine ⟨D, (List.range ds.length).map fun i => persD n (ds.getD i .none), rfl, SqL.of (by rw [eD, List.map_map]; rfl), _, rfl, ?_⟩
        rw [all_rng, all_at PyData.none (persD n) ds]
        by_cases hi : ds.all (persD n) = true
        · rw [if_pos hi]
          have ei := ints_of all fun d hd => pers_int (List.all_eq_true.mp hi d hd)
          rw [ei] at hS
          refine ⟨_, rfl, a, ds.map toI, rfl, sm.seq hS, by rw [List.length_map]; exact hn, fun H2 s2 => ?_⟩
          have q := k H2 (sm.trans s2)
          rw [plistD_list, hi, Bool.true_and] at q
          exact q
        · rw [if_neg hi]
          have q := k H' sm
          rw [plistD_list, Bool.eq_false_iff.mpr hi, Bool.false_and] at q
          exact q
    · have ef : plistD n d = false := by
        cases d <;> first | rfl | exact absurd ⟨_, rfl⟩ isl
      have q := k H .refl
      rw [ef] at q
      refine ⟨_, rfl, _, _, _, _, false, rfl, .ty "list", ty, kit_ty ?_, false, rfl, iteT q⟩
      cases d <;> first | exact absurd ⟨_, rfl⟩ isl | (simp only [tyName]; decide +kernel)
theorem ok_grpD (Z : ProgF K mg) (T : TxtP mg) : FnOk P w K mg base CX0 4 Z.fGr Z.dGr ["thing", "persons"] (spPLD K grpD) := by
  have GPL : FnOk P w K mg base CX0 3 Z.fPL Z.dPL ["thing", "persons"] (spPLD K plistD) := ok_plistD Z T
  refine Z.FGr.ok scGroup (fun vs H Q E h => ?_) (fun cdv A outer s H vs Q E hr h => ?_)
  · obtain ⟨x, d, n, rfl, _⟩ := h
    rfl
  · obtain ⟨x, d, n, rfl, hd, lim, k⟩ := h
    refine ⟨_, (pss_one (ps_ret (pe_and (pe_call GPL (hr.mono (by decide)) rfl Z.gPL Z.FPL.kp Z.bPL .nil pass0 (pa_cons (pv 0) (pa_cons (pv 1) pa_nil))) (pe_one (pe_cmpR op_ge (pe_callB call_len_seq (by rfl) T.len (by decide +kernel) (pa_cons (pv 0) pa_nil)) pe_int (nomark _)))))), ?_⟩
    refine ⟨_, rfl, _, rfl, x, d, n, rfl, hd, lim, fun H2 s2 => ⟨_, rfl, ?_⟩⟩
    have q := k H2 s2
    by_cases hi : plistD n d = true
    · rw [if_pos hi]
      cases d with
      | list ds =>
        obtain ⟨a, xs, rfl, hS, all⟩ := dd_list hd
        rw [grpD_list, hi, Bool.true_and] at q
        refine ⟨_, rfl, a, _, rfl, .inl (s2.seq hS), _, _, rfl, rfl, ?_⟩
        rw [DpAll.len all]
        exact q
      | _ => cases hi
    · rw [if_neg hi]
      have ef : grpD n d = false := by
        cases d with
        | list ds =>
          rw [grpD_list, Bool.eq_false_iff.mpr hi, Bool.false_and]
        | _ => rfl
      rw [ef] at q
      exact q
end
end K32

namespace K32
open PySem PySem.Spec PyProof.Rows L2 SortR LcM RepA
abbrev sNPs : Stmt := top 15
abbrev sFC : Stmt := top 25
abbrev sHof : Stmt := top 26
abbrev sAHi : Stmt := top 27
abbrev sHist : Stmt := top 28
abbrev sFrac : Stmt := top 19
abbrev sHM : Stmt := top 29
abbrev sHS : Stmt := top 30
abbrev sAre : Stmt := top 14
abbrev sFam : Stmt := top 24
structure FmF (K : PySem.W.Frag) (mg : Str → Option Value) where
  (fNPs fFC fHof fAHi fHist fFrac fHM fHS fAre fFam : Addr)
  (dNPs dFC dHof dAHi dHist dFrac dHM dHS dAre dFam : FuncData)
  FNPs : Fun K "need_persons" "need_persons" sNPs fNPs dNPs
  FFC : Fun K "family_counts" "family_counts" sFC fFC dFC
  FHof : Fun K "histories_of" "histories_of" sHof fHof dHof
  FAHi : Fun K "all_histories" "all_histories" sAHi fAHi dAHi
  FHist : Fun K "histories" "histories" sHist fHist dHist
  FFrac : Fun K "fraction" "fraction" sFrac fFrac dFrac
  FHM : Fun K "histories_making" "histories_making" sHM fHM dHM
  FHS : Fun K "history_share" "history_share" sHS fHS dHS
  FAre : Fun K "are_groups" "are_groups" sAre fAre dAre
  FFam : Fun K "is_family" "is_family" sFam fFam dFam
  gNPs : mg "need_persons" = some (.ref fNPs)
  gFC : mg "family_counts" = some (.ref fFC)
  gHof : mg "histories_of" = some (.ref fHof)
  gAHi : mg "all_histories" = some (.ref fAHi)
  gHist : mg "histories" = some (.ref fHist)
  gFrac : mg "fraction" = some (.ref fFrac)
  gHM : mg "histories_making" = some (.ref fHM)
  gHS : mg "history_share" = some (.ref fHS)
  gAre : mg "are_groups" = some (.ref fAre)
  gFam : mg "is_family" = some (.ref fFam)
  bNPs : Binds K dNPs ["persons"] []
  bFC : Binds K dFC ["persons"] []
  bHof : Binds K dHof ["parts"] []
  bAHi : Binds K dAHi ["persons"] []
  bHist : Binds K dHist ["parting"] []
  bFrac : Binds K dFrac ["top", "bottom"] []
  bHM : Binds K dHM ["size", "others"] []
  bHS : Binds K dHS ["persons", "group"] []
  bAre : Binds K dAre ["thing", "persons"] []
  bFam : Binds K dFam ["persons", "thing"] []
  gComb2 : mg "comb" = some (.builtin "math.comb")
  gFact : mg "factorial" = some (.builtin "math.factorial")
  gGcd : mg "gcd" = some (.builtin "math.gcd")
/-! ### what the program's defs answer -/
/-- the counts of one person more -/
def fcStep (come : Int) (cs : List Int) : List Int := (List.range (cs.length + 1)).map fun j : Nat => (come + (j : Int) - 2) * (0 :: cs).getD j 0 + (j : Int) * (cs ++ [0]).getD j 0
def fcR : Nat → List Int
  | 0 => [1]
  | i + 1 => fcStep (2 + (i : Int)) (fcR i)
theorem fcR_len : ∀ i, (fcR i).length = i + 1
  | 0 => rfl
  | i + 1 => by
    show (fcStep _ _).length = _
    unfold fcStep
    rw [List.length_map, List.length_range, fcR_len i]
/-- in how many ways n parts are joined -/
def hofN : Nat → Int
  | 0 => 1
  | i + 1 => hofN i * PySem.W.mcComb (2 + (i : Int)) 2
def hofI (n : Int) : Int := hofN (n + 1 - 2).toNat
theorem hofN_ok : ∀ i, i ≤ 20 → 1 ≤ hofN i ∧ hofN i ≤ 441 ^ i
  | 0, _ => ⟨Int.le_refl _, Int.le_refl _⟩
  | i + 1, h => by
    obtain ⟨v0, v1⟩ := hofN_ok i (by omega)
    obtain ⟨c0, c1⟩ := MathC.comb2 (a := 2 + (i : Int)) (by omega)
    have c2 : PySem.W.mcComb (2 + (i : Int)) 2 ≤ 441 := Int.le_trans c1 (Int.mul_le_mul (show 2 + (i : Int) ≤ 21 by omega) (show 2 + (i : Int) ≤ 21 by omega) (by omega) (by decide))
    show 1 ≤ hofN i * PySem.W.mcComb (2 + (i : Int)) 2 ∧ hofN i * PySem.W.mcComb (2 + (i : Int)) 2 ≤ 441 ^ (i + 1)
    refine ⟨?_, ?_⟩
    · have := Int.mul_le_mul v0 c0 (by decide) (by omega)
      omega
    · rw [Int.pow_succ]
      exact Int.mul_le_mul v1 c2 (by omega) (by omega)
theorem few441 : ∀ i, i ≤ 20 → (441 : Int) ^ i < 2 ^ 180 := fun i hi => by
  have z : ∀ i, i < 21 → (441 : Int) ^ i < 2 ^ 180 := by decide +kernel
  exact z i (by omega)
theorem hofI_ok {n : Int} (h1 : n ≤ 21) : 1 ≤ hofI n ∧ hofI n < 2 ^ 180 := by
  obtain ⟨a, b⟩ := hofN_ok (n + 1 - 2).toNat (by omega)
  exact ⟨a, Int.lt_of_le_of_lt b (few441 _ (by omega))⟩
/-- the inner loop of histories_making -/
def hmIn (inside : Int) (ws : List Int) : Nat → List Int
  | 0 => [PySem.W.mcComb inside 2 * ws.getD 0 0]
  | j + 1 => hmIn inside ws j ++ [PySem.W.mcComb inside 2 * ws.getD (j + 1) 0 + PySem.W.mcComb (1 + (j : Int)) 2 * (hmIn inside ws j).getD j 0]
theorem hmIn_len (x : Int) (ws : List Int) : ∀ j, (hmIn x ws j).length = j + 1
  | 0 => rfl
  | j + 1 => by
    unfold hmIn
    rw [List.length_append, hmIn_len x ws j]
    rfl
def hmOut (others : Nat) : Nat → List Int
  | 0 => (List.range (others + 1)).map fun i : Nat => hofI ((i : Int) + 1)
  | i + 1 => hmIn (2 + (i : Int)) (hmOut others i) others
theorem hmOut_len (o : Nat) : ∀ i, (hmOut o i).length = o + 1
  | 0 => by
    show ((List.range (o + 1)).map _).length = _
    rw [List.length_map, List.length_range]
  | i + 1 => hmIn_len _ _ _
def hmI (s o : Int) : Int := (hmOut o.toNat (s + 1 - 2).toNat).getD o.toNat 0
/-- a fraction in its lowest terms -/
def low (x y : Int) : Int × Int := (x / ((Nat.gcd x.natAbs y.natAbs : Nat) : Int), y / ((Nat.gcd x.natAbs y.natAbs : Nat) : Int))
def hsI (n m : Int) : Int × Int := low (hmI m (n - m)) (hofI n)
def prodL (rs : List (List Int)) : Int := rs.foldl (fun v r => v * ((r.length : Int) - 1)) 1
def histI (rs : List (List Int)) : Int := ((Builtin.Math.factorialNat rs.length : Nat) : Int) / prodL rs
/-- a list of 0 to 19 unlike groups of n persons -/
def areD (n : Int) : PyData → Bool
  | .list ds => decide ((ds.length : Int) < 20) && ds.all (grpD n) && decide (ds.map toR).Nodup
  | _ => false
theorem areD_list (n : Int) (ds : List PyData) : areD n (.list ds) = (decide ((ds.length : Int) < 20) && ds.all (grpD n) && decide (ds.map toR).Nodup) := rfl
/-- of which no two cross -/
def famD (n : Int) : PyData → Bool
  | .list ds => areD n (.list ds) && !anyX (ds.map toR)
  | _ => false
def spNPs : Sp := fun vs H Q _ => ∃ n : Int, vs = [.int n] ∧ 1 ≤ n ∧ n ≤ 20 ∧ ∀ H', Grows H H' → Q .non H'
def spFC : Sp := fun vs H Q _ => ∃ n : Int, vs = [.int n] ∧ 1 ≤ n ∧ n ≤ 20 ∧ ∀ (D : Addr) H', H D = none → Grows H H' → H' D = some (.lst ((fcR (n + 1 - 2).toNat).map L2.V.int)) → Q (.ref D) H'
def spHof : Sp := fun vs H Q _ => ∃ n : Int, vs = [.int n] ∧ 0 ≤ n ∧ n ≤ 21 ∧ Q (.int (hofI n)) H
def spAHi : Sp := fun vs H Q _ => ∃ n : Int, vs = [.int n] ∧ 1 ≤ n ∧ n ≤ 20 ∧ ∀ H', Grows H H' → Q (.int (hofI n)) H'
def spHist (K : PySem.W.Frag) : Sp := fun vs H Q _ => ∃ (a : Addr) (bs : List (Addr × List Int)), vs = [.ref a] ∧ Rw K H a bs ∧ Sz (bs.map (·.2)) ∧ isP (bs.map (·.2)) = true ∧ ∀ H', Grows H H' → Q (.int (histI (bs.map (·.2)))) H'
def spFrac : Sp := fun vs H Q _ => ∃ x y : Int, vs = [.int x, .int y] ∧ 1 ≤ y ∧ y < 2 ^ 180 ∧ ∀ t, H t = none → Q (.ref t) (upd H t (.tup [.int (low x y).1, .int (low x y).2]))
def spHM : Sp := fun vs H Q _ => ∃ s o : Int, vs = [.int s, .int o] ∧ 2 ≤ s ∧ 0 ≤ o ∧ s + o ≤ 20 ∧ ∀ H', Grows H H' → Q (.int (hmI s o)) H'
def spHS (K : PySem.W.Frag) : Sp := fun vs H Q _ => ∃ (n : Int) (a : Addr) (ns : List Int), vs = [.int n, .ref a] ∧ 1 ≤ n ∧ n ≤ 20 ∧ SqL K H a (ns.map L2.V.int) ∧ ns.length ≤ 1000 ∧ group n ns = true ∧ 2 ≤ (ns.length : Int) ∧ (ns.length : Int) ≤ n ∧
  ∀ t H', Grows H H' → H' t = none → Q (.ref t) (upd H' t (.tup [.int (hsI n ns.length).1, .int (hsI n ns.length).2]))
def spAre (K : PySem.W.Frag) : Sp := fun vs H Q _ => ∃ (x : L2.V) (n : Int) (d : PyData), vs = [x, .int n] ∧ Dd K H x d ∧ Lim2 d ∧ ∀ H', Grows H H' → Q (.bl (areD n d)) H'
def spFam (K : PySem.W.Frag) : Sp := fun vs H Q _ => ∃ (n : Int) (x : L2.V) (d : PyData), vs = [.int n, x] ∧ 1 ≤ n ∧ n ≤ 20 ∧ Dd K H x d ∧ Lim2 d ∧ ∀ H', Grows H H' → Q (.bl (famD n d)) H'
section
variable {P : Program} {w : World} {K : PySem.W.Frag} {mg : Str → Option Value} {base : Heap}
theorem scNPs : FnScope ["persons"] ["persons"] (defScope sNPs) := ⟨rfl, rfl, rfl, by decide +kernel, rfl, by decide +kernel, by decide +kernel⟩
theorem scFC : FnScope ["persons", "counts", "come", "groups", "fewer", "alike"] ["persons"] (defScope sFC) := ⟨rfl, rfl, rfl, by decide +kernel, rfl, by decide +kernel, by decide +kernel⟩
theorem scHof : FnScope ["parts", "ways", "there"] ["parts"] (defScope sHof) := ⟨rfl, rfl, rfl, by decide +kernel, rfl, by decide +kernel, by decide +kernel⟩
theorem scAHi : FnScope ["persons"] ["persons"] (defScope sAHi) := ⟨rfl, rfl, rfl, by decide +kernel, rfl, by decide +kernel, by decide +kernel⟩
theorem ok_nps (Z : ProgF K mg) (T : TxtP mg) (U : FmF K mg) : FnOk P w K mg base CX0 2 U.fNPs U.dNPs ["persons"] spNPs := by
  have GNum : FnOk P w K mg base CX0 1 Z.fNum Z.dNum ["thing"] (spNumber K) := ok_number Z.FNum T
  refine U.FNPs.ok scNPs (fun vs H Q E h => ?_) (fun cdv A outer s H vs Q E hr h => ?_)
  · obtain ⟨n, rfl, _⟩ := h
    rfl
  · obtain ⟨n, rfl, h1, h2, k⟩ := h
    refine ⟨_, (pss_one (ps_if (PW.pt (pw_or (pt_not (pt_val (pe_call GNum (hr.mono (by decide)) rfl Z.gNum Z.FNum.kp Z.bNum .nil pass0 (pa_cons (pv 0) pa_nil)))) (pw_or1 (pt_not (pt_chain op_le op_le pe_int (pv 0) (pe_glob (v := .int 20) rfl Z.gMost ⟨_, rfl⟩)))))) (pss_one ps_never) pss_nil)), ?_⟩
    refine ⟨_, rfl, .int n, "int", rfl, .base (.int n), by simp [kinds], _, rfl, iteF ⟨_, rfl, _, _, rfl, rfl, _, rfl, ?_⟩⟩
    rw [if_pos (decide_eq_true h1)]
    refine ⟨_, _, rfl, rfl, _, rfl, ?_⟩
    rw [decide_eq_true h2]
    exact iteF (k H .refl)
theorem ok_fc (Z : ProgF K mg) (T : TxtP mg) (U : FmF K mg) : FnOk P w K mg base CX0 3 U.fFC U.dFC ["persons"] spFC := by
  have GNPs := ok_nps (P := P) (w := w) (base := base) Z T U
  refine U.FFC.ok scFC (fun vs H Q E h => ?_) (fun cdv A outer s H vs Q E hr h => ?_)
  · obtain ⟨n, rfl, _⟩ := h
    rfl
  · obtain ⟨n, rfl, n1, n2, k⟩ := h
    refine ⟨_, (pss_cons (ps_expr (pe_call GNPs (hr.mono (by decide)) rfl U.gNPs U.FNPs.kp U.bNPs .nil pass0 (pa_cons (pv 0) pa_nil)))
      (pss_cons (ps_set (i := 1) scFC.nd rfl (.inl rfl) (pe_lst (pa_cons pe_int pa_nil)))
      (pss_cons (ps_for PassesOwn.never rfl (pi_range2 (by rfl) T.range (pa_cons pe_int (pa_cons (pe_op op_add (pv 0) pe_int) pa_nil))) (pg_name (i := 2) scFC.nd rfl (.inr rfl))
      (pss_one (ps_setLc (i := 1) (own := [("groups", 3), ("fewer", 4), ("alike", 5)]) (g := gTup K 2 (gCons (gName 3) (gCons (gTup K 2 (gCons (gName 4) (gCons (gName 5) gNil))) gNil))) (tt := tYes) rfl scFC.nd rfl rfl (sw_true rfl rfl rfl (by decide +kernel)) (EnZ.pi_enZ (by rfl) T.enumerate (EnZ.ev_zip (by rfl) T.zip (pa_cons (pe_op op_cat (pe_lst (pa_cons pe_int pa_nil)) (pv 1)) (pa_cons (pe_op op_cat (pv 1) (pe_lst (pa_cons pe_int pa_nil))) pa_nil)))) (blkOk_by (own := [("groups", 3), ("fewer", 4), ("alike", 5)]) (N := ["persons", "counts", "come", "groups", "fewer", "alike"]) (sc := defScope sFC) (by decide +kernel)) (fun _ _ _ _ _ => pg_tup rfl (pgs_cons (pg_name (i := 3) scFC.nd rfl (Or.inl rfl)) (pgs_cons (pg_tup rfl (pgs_cons (pg_name (i := 4) scFC.nd rfl (Or.inl rfl)) (pgs_cons (pg_name (i := 5) scFC.nd rfl (Or.inl rfl)) pgs_nil))) pgs_nil))) (fun _ _ _ _ _ => pts_nil) (fun _ _ _ _ _ => (pe_op op_add (pe_op op_mul (pe_op op_sub (pe_op op_add (pv 2) (pv 3)) pe_int) (pv 4)) (pe_op op_mul (pv 3) (pv 5)))))))
      (pss_one (ps_ret (pv 1)))))), ?_⟩
    refine ⟨_, rfl, n, rfl, n1, n2, fun H1 g1 => ⟨(by show 1 ≤ sizeLine; decide), fun z hz => ?_⟩⟩
    have g2 := g1.trans (Grows.new (o := .lst [L2.V.int 1]) hz)
    refine ⟨_, rfl, _, _, rfl, rfl, 2, n + 1, rfl, ⟨by decide, by decide, by omega, by omega⟩, for_range (lo := 2) (n := (n + 1 - 2).toNat) (fun i σ H' => ∃ (a : Addr) (o2 o3 o4 o5 : Option L2.V), σ = [some (.int n), some (.ref a), o2, o3, o4, o5] ∧ Grows H H' ∧ H a = none ∧ H' a = some (.lst ((fcR i).map L2.V.int)))
      ⟨z, none, none, none, none, rfl, g2, none_back g1 hz, upd_same⟩ (fun i σ H' il ⟨a, o2, o3, o4, o5, e, g, na, ea⟩ => ?_) fun σ H' ⟨a, o2, o3, o4, o5, e, g, na, ea⟩ => ?_⟩
    · subst e
      have el : (fcR i).length = i + 1 := fcR_len i
      generalize ecs : fcR i = cs at ea el
      have gz : ∀ {H2 : Hp} {z : Addr} {o : HO}, H2 z = none → Grows H2 (upd H2 z o) := fun h => Grows.new h
      refine ⟨(by show 1 ≤ sizeLine; decide), fun z0 hz0 => ⟨_, rfl, z0, a, _, _, rfl, rfl, upd_same, gz hz0 _ _ ea, ?_, fun y0 hy0 => ?_⟩⟩
      · rw [List.length_map, el]
        show 1 + (i + 1) ≤ sizeLine
        exact Nat.le_trans (show 1 + (i + 1) ≤ 100 by omega) (by decide)
      have ga := (gz (o := .lst [L2.V.int 0]) hz0).trans (gz (o := .lst ([L2.V.int 0] ++ cs.map L2.V.int)) hy0)
      refine ⟨_, rfl, (by show 1 ≤ sizeLine; decide), fun z1 hz1 => ⟨a, z1, _, _, rfl, rfl, (ga.trans (gz hz1)) _ _ ea, upd_same, ?_, fun y1 hy1 => ?_⟩⟩
      · rw [List.length_map, el]
        show i + 1 + 1 ≤ sizeLine
        exact Nat.le_trans (show i + 1 + 1 ≤ 100 by omega) (by decide)
      have gb := (gz (o := .lst [L2.V.int 0]) hz1).trans (gz (o := .lst (cs.map L2.V.int ++ [L2.V.int 0])) hy1)
      refine ⟨y0, y1, (0 :: cs).map L2.V.int, (cs ++ [0]).map L2.V.int, rfl, SqL.of (gb _ _ upd_same), SqL.of (by rw [upd_same, List.map_append]; rfl), fun D hD => EnZ.lc_enZM (K := K) (fun j => L2.V.int ((2 + (i : Int) + (j : Int) - 2) * (0 :: cs).getD j 0 + (j : Int) * (cs ++ [0]).getD j 0)) hD (xs := (0 :: cs).map L2.V.int) (ys := (cs ++ [0]).map L2.V.int) (SqL.of (gb _ _ upd_same)) (SqL.of (by rw [upd_same, List.map_append]; rfl)) (by rw [List.length_map, List.length_cons]; omega) (fun j x y S T H4 R hx hy g4 hS hT ne kR => ?_) fun H5 g5 e5 => ?_⟩
      · have jl := (List.getElem?_eq_some_iff.mp hx).1
        rw [List.length_map, List.length_cons] at jl
        obtain rfl := at_map (d := 0) hx
        obtain rfl := at_map (d := 0) hy
        refine ⟨T, _, rfl, SqT.of upd_same, rfl, _, _, rfl, _, _, rfl, S, _, rfl, SqT.of (by rw [upd_ne ne]; exact upd_same), rfl, _, _, rfl, _, _, rfl, rfl, rfl, rfl, ?_⟩
        exact ⟨_, rfl, _, rfl, _, _, rfl, rfl, _, _, rfl, rfl, _, rfl, _, _, rfl, rfl, .inl ⟨by omega, by omega⟩, _, rfl, _, rfl, _, _, rfl, rfl, .inl ⟨by omega, by omega⟩, _, _, rfl, rfl, kR _ .refl⟩
      · refine ⟨D, _, _, _, _, rfl, ((g.trans ga).trans gb).trans g5, none_back ((g.trans ga).trans gb) hD, ?_⟩
        rw [e5]
        show _ = some (HO.lst ((fcStep (2 + (i : Int)) (fcR i)).map L2.V.int))
        rw [ecs]
        unfold fcStep
        rw [List.length_map, List.length_map, List.length_cons, List.length_append, List.length_singleton, Nat.min_self, List.map_map]
        rfl
    · subst e
      exact ⟨_, rfl, k a _ na g ea⟩
theorem ok_hof (T : TxtP mg) (U : FmF K mg) : FnOk P w K mg base CX0 1 U.fHof U.dHof ["parts"] spHof := by
  refine U.FHof.ok scHof (fun vs H Q E h => ?_) (fun cdv A outer s H vs Q E hr h => ?_)
  · obtain ⟨n, rfl, _⟩ := h
    rfl
  · obtain ⟨n, rfl, n0, n1, k⟩ := h
    refine ⟨_, (pss_cons (ps_set (i := 1) scHof.nd rfl (.inl rfl) pe_int)
      (pss_cons (ps_for PassesOwn.never rfl (pi_range2 (by rfl) T.range (pa_cons pe_int (pa_cons (pe_op op_add (pv 0) pe_int) pa_nil))) (pg_name (i := 2) scHof.nd rfl (.inl rfl))
      (pss_one (ps_set (i := 1) scHof.nd rfl (.inl rfl) (pe_op op_mul (pv 1) (pe_callBfun (id := "math.comb") MathC.cr_comb rfl U.gComb2 (pa_cons (pv 2) (pa_cons pe_int pa_nil)))))))
      (pss_one (ps_ret (pv 1))))), ?_⟩
    refine ⟨_, rfl, _, _, rfl, rfl, 2, n + 1, rfl, ⟨by decide, by decide, by omega, by omega⟩, for_range (lo := 2) (n := (n + 1 - 2).toNat) (fun i σ H' => ∃ (o2 : Option V), σ = [some (.int n), some (.int (hofN i)), o2] ∧ H' = H)
      ⟨none, rfl, rfl⟩ (fun i σ H' il ⟨o2, e, eh⟩ => ?_) fun σ H' ⟨o2, e, eh⟩ => ?_⟩
    · subst e
      subst eh
      obtain ⟨c0, c1⟩ := MathC.comb2 (a := 2 + (i : Int)) (by omega)
      have c2 : PySem.W.mcComb (2 + (i : Int)) 2 ≤ 441 := Int.le_trans c1 (Int.mul_le_mul (show 2 + (i : Int) ≤ 21 by omega) (show 2 + (i : Int) ≤ 21 by omega) (by omega) (by decide))
      exact ⟨_, rfl, _, rfl, _, _, rfl, by omega, by omega, by decide, _, _, rfl, rfl, .inr ⟨by omega, by omega⟩, _, rfl, rfl⟩
    · subst e
      subst eh
      exact ⟨_, rfl, k⟩
theorem ok_ahi (Z : ProgF K mg) (T : TxtP mg) (U : FmF K mg) : FnOk P w K mg base CX0 3 U.fAHi U.dAHi ["persons"] spAHi := by
  have GNPs := ok_nps (P := P) (w := w) (base := base) Z T U
  have GHof := ok_hof (P := P) (w := w) (base := base) T U
  refine U.FAHi.ok scAHi (fun vs H Q E h => ?_) (fun cdv A outer s H vs Q E hr h => ?_)
  · obtain ⟨n, rfl, _⟩ := h
    rfl
  · obtain ⟨n, rfl, n1, n2, k⟩ := h
    refine ⟨_, (pss_cons (ps_expr (pe_call GNPs (hr.mono (by decide)) rfl U.gNPs U.FNPs.kp U.bNPs .nil pass0 (pa_cons (pv 0) pa_nil)))
      (pss_one (ps_ret (pe_call GHof (hr.mono (by decide)) rfl U.gHof U.FHof.kp U.bHof .nil pass0 (pa_cons (pv 0) pa_nil))))), ?_⟩
    exact ⟨_, rfl, n, rfl, n1, n2, fun H1 g1 => ⟨_, rfl, n, rfl, by omega, by omega, k _ g1⟩⟩
end
end K32

namespace K32
open PySem PySem.Spec PyProof.Rows L2 SortR LcM RepA
/-! ### histories, shares, families -/
theorem at_int {xs : List Int} {z : Int} (h0 : 0 ≤ z) (h1 : z < xs.length) : atI (xs.map L2.V.int) z = some (.int (xs.getD z.toNat 0)) := by
  have e : (xs.map L2.V.int)[z.toNat]? = some (.int (xs.getD z.toNat 0)) := by
    rw [List.getElem?_map, List.getD_eq_getElem?_getD, List.getElem?_eq_getElem (by omega)]
    rfl
  have q := atI_nat e
  rw [Int.toNat_of_nonneg h0] at q
  exact q
theorem at_last {xs : List Int} (h : 1 ≤ xs.length) : atI (xs.map L2.V.int) (-1) = some (.int (xs.getD (xs.length - 1) 0)) := by
  have ix : ixN xs.length (-1) = some (xs.length - 1) := by
    unfold ixN
    rw [if_neg (by decide), if_pos (by omega)]
    congr 1
    omega
  unfold atI
  rw [List.length_map, ix]
  show (xs.map L2.V.int)[xs.length - 1]? = _
  rw [List.getElem?_map, List.getD_eq_getElem?_getD, List.getElem?_eq_getElem (by omega)]
  rfl
theorem group_sz {n : Int} {ns : List Int} (h : group n ns = true) : 2 ≤ (ns.length : Int) := by
  unfold group at h
  rw [Bool.and_eq_true] at h
  exact of_decide_eq_true h.2
section
variable {P : Program} {w : World} {K : PySem.W.Frag} {mg : Str → Option Value} {base : Heap}
theorem scHist : FnScope ["parting", "sequences", "alike", "group"] ["parting"] (defScope sHist) := ⟨rfl, rfl, rfl, by decide +kernel, rfl, by decide +kernel, by decide +kernel⟩
theorem scFrac : FnScope ["top", "bottom", "divisor"] ["top", "bottom"] (defScope sFrac) := ⟨rfl, rfl, rfl, by decide +kernel, rfl, by decide +kernel, by decide +kernel⟩
theorem scHM : FnScope ["size", "others", "ways", "outside", "inside", "ahead"] ["size", "others"] (defScope sHM) := ⟨rfl, rfl, rfl, by decide +kernel, rfl, by decide +kernel, by decide +kernel⟩
theorem scHS : FnScope ["persons", "group"] ["persons", "group"] (defScope sHS) := ⟨rfl, rfl, rfl, by decide +kernel, rfl, by decide +kernel, by decide +kernel⟩
theorem scAre : FnScope ["thing", "persons", "group"] ["thing", "persons"] (defScope sAre) := ⟨rfl, rfl, rfl, by decide +kernel, rfl, by decide +kernel, by decide +kernel⟩
theorem scFam : FnScope ["persons", "thing"] ["persons", "thing"] (defScope sFam) := ⟨rfl, rfl, rfl, by decide +kernel, rfl, by decide +kernel, by decide +kernel⟩
theorem mulW_of {i j : Int} {a b : Nat} (ha : i.natAbs < 2 ^ a) (hb : j.natAbs < 2 ^ b) (a0 : 0 < a) (b0 : 0 < b) (l : a + b ≤ 100000) : CMulW i j := by
  have x := PySem.Flt.log2_lt_of a0 ha
  have y := PySem.Flt.log2_lt_of b0 hb
  unfold CMulW
  omega
theorem prod_take {rs : List (List Int)} {i : Nat} {r : List Int} (e : rs[i]? = some r) : prodL (rs.take (i + 1)) = prodL (rs.take i) * ((r.length : Int) - 1) := by
  unfold prodL
  rw [List.take_succ, e, List.foldl_append]
  rfl
theorem ok_hist (Z : ProgF K mg) (T : TxtP mg) (U : FmF K mg) : FnOk P w K mg base CX0 7 U.fHist U.dHist ["parting"] (spHist K) := by
  have GPs := ok_persons (P := P) (w := w) (base := base) Z T
  refine U.FHist.ok scHist (fun vs H Q E h => ?_) (fun cdv A outer s H vs Q E hr h => ?_)
  · obtain ⟨a, bs, rfl, _⟩ := h
    rfl
  · obtain ⟨a, bs, rfl, rw, sz, isp, k⟩ := h
    refine ⟨_, (pss_cons (ps_set (i := 1) scHist.nd rfl (.inl rfl) (pe_callBfun (id := "math.factorial") MathC.cr_fact rfl U.gFact (pa_cons (pe_op op_sub (pe_call GPs (hr.mono (by decide)) rfl Z.gPs Z.FPs.kp Z.bPs .nil pass0 (pa_cons (pv 0) pa_nil)) pe_int) pa_nil)))
      (pss_cons (ps_set (i := 2) scHist.nd rfl (.inl rfl) pe_int)
      (pss_cons (ps_for PassesOwn.never rfl (pi_list (pv 0)) (pg_name (i := 3) scHist.nd rfl (.inl rfl))
      (pss_one (ps_set (i := 2) scHist.nd rfl (.inl rfl) (pe_op op_mulW (pv 2) (pe_op op_sub (pe_callB call_len_seq (by rfl) T.len (by decide +kernel) (pa_cons (pv 3) pa_nil)) pe_int)))))
      (pss_one (ps_ret (pe_op op_fdivW (pv 1) (pv 2))))))), ?_⟩
    have few : bs.length < 20 ∧ ∀ b ∈ bs, 2 ≤ b.2.length ∧ b.2.length ≤ 1000 := by
      have q := isp
      unfold isP at q
      simp only [Bool.and_eq_true, decide_eq_true_eq, List.length_map] at q
      refine ⟨by omega, fun b hb => ⟨?_, sz.2 _ (List.mem_map.mpr ⟨b, hb, rfl⟩)⟩⟩
      obtain ⟨i, hi⟩ := List.getElem?_of_mem hb
      have il := (List.getElem?_eq_some_iff.mp hi).1
      have g := List.all_eq_true.mp q.1.1.2 i (List.mem_range.mpr il)
      rw [snd_at, List.getD_eq_getElem?_getD, hi] at g
      have := group_sz g
      show 2 ≤ b.2.length
      have e : ((some b).getD ((0 : Addr), ([] : List Int))).2 = b.2 := rfl
      rw [e] at this
      omega
    obtain ⟨rs, ers⟩ : ∃ rs, rs = bs.map (·.2) := ⟨_, rfl⟩
    have rl : rs.length = bs.length := by rw [ers, List.length_map]
    rw [← ers] at k
    refine ⟨_, rfl, a, bs, rfl, rw, sz, isp, fun H1 g1 => ⟨_, _, rfl, rfl, _, rfl, by omega, by omega, ?_⟩⟩
    have rw1 := rw.keep g1
    rw [show ((bs.length : Int) + 1 - 1).toNat = rs.length by omega]
    unfold histI at k
    generalize ((Builtin.Math.factorialNat rs.length : Nat) : Int) = seq at k ⊢
    refine ⟨_, rfl, a, rfl, ⟨_, rw1.top⟩, for_list (K := K) (xs := bs.map fun b => L2.V.ref b.1) (fun i σ H2 => ∃ (o3 : Option L2.V), σ = [some (.ref a), some (.int seq), some (.int (prodL (rs.take i))), o3] ∧ H2 = H1 ∧ 1 ≤ prodL (rs.take i) ∧ (prodL (rs.take i)).natAbs < 2 ^ (10 * i + 1))
      ⟨_, rfl, rfl, Int.le_refl _, Nat.lt_succ_self 1⟩ (fun i σ H2 _ ⟨o3, e, eh, v0, v1⟩ => by rw [eh]; exact rw1.top) (fun i x σ H2 hx ⟨o3, e, eh, v0, v1⟩ => ?_) fun σ H2 ⟨o3, e, eh, v0, v1⟩ => ?_⟩
    · subst e
      subst eh
      rw [List.getElem?_map] at hx
      obtain ⟨b, hb, rfl⟩ := Option.map_eq_some_iff.mp hx
      have mb := List.mem_of_getElem? hb
      obtain ⟨l2, l3⟩ := few.2 b mb
      have er : rs[i]? = some b.2 := by rw [ers, List.getElem?_map, hb]; rfl
      have s10 : (((b.2.map L2.V.int).length : Int) - 1).natAbs < 2 ^ 10 := by
        rw [List.length_map]
        omega
      have es : prodL (rs.take (i + 1)) = prodL (rs.take i) * (((b.2.map L2.V.int).length : Int) - 1) := by rw [prod_take er, List.length_map]
      refine ⟨_, rfl, _, rfl, b.1, _, rfl, .inl (rw1.each b mb), _, _, rfl, rfl, _, _, rfl, rfl, mulW_of v1 s10 (by omega) (by decide) (by have := (List.getElem?_eq_some_iff.mp hb).1; omega), _, by rw [es]; rfl, rfl, ?_, ?_⟩
      · rw [es]
        have : (1 : Int) * 1 ≤ prodL (rs.take i) * (((b.2.map L2.V.int).length : Int) - 1) := Int.mul_le_mul v0 (by rw [List.length_map]; omega) (by decide) (by omega)
        omega
      · rw [es, show 10 * (i + 1) + 1 = (10 * i + 1) + 10 by omega]
        exact wide_lt v1 s10
    · subst e
      subst eh
      rw [List.length_map, show rs.take bs.length = rs by rw [← rl]; exact List.take_length] at v1 v0 ⊢
      exact ⟨_, rfl, _, rfl, _, _, rfl, rfl, wide_div (by omega) v1 (by omega) (by omega), k _ g1⟩
theorem ok_frac (U : FmF K mg) : FnOk P w K mg base CX0 1 U.fFrac U.dFrac ["top", "bottom"] spFrac := by
  refine U.FFrac.ok scFrac (fun vs H Q E h => ?_) (fun cdv A outer s H vs Q E hr h => ?_)
  · obtain ⟨x, y, rfl, _⟩ := h
    rfl
  · obtain ⟨x, y, rfl, y0, y1, k⟩ := h
    refine ⟨_, (pss_cons (ps_set (i := 2) scFrac.nd rfl (.inl rfl) (pe_callBfun (id := "math.gcd") cr_gcd rfl U.gGcd (pa_cons (pv 0) (pa_cons (pv 1) pa_nil))))
      (pss_one (ps_ret (pe_tup (pa_cons (pe_op op_fdivW (pv 0) (pv 2)) (pa_cons (pe_op op_fdivW (pv 1) (pv 2)) pa_nil)))))), ?_⟩
    have d0 : 0 < Nat.gcd x.natAbs y.natAbs := Nat.gcd_pos_of_pos_right _ (by omega)
    have d1 : Nat.gcd x.natAbs y.natAbs ≤ y.natAbs := Nat.le_of_dvd (by omega) (Nat.gcd_dvd_right _ _)
    have c : ∀ z : Int, CDivW z ((Nat.gcd x.natAbs y.natAbs : Nat) : Int) := fun z => wide_div (b := 180) (by omega) (by rw [Int.natAbs_natCast]; omega) (by decide) (by decide)
    exact ⟨_, rfl, _, rfl, x, y, rfl, _, rfl, _, rfl, _, _, rfl, rfl, c x, _, rfl, _, rfl, _, _, rfl, rfl, c y, (by show 2 ≤ sizeLine; decide), fun t ht => k t ht⟩
theorem ok_hm (T : TxtP mg) (U : FmF K mg) : FnOk P w K mg base CX0 2 U.fHM U.dHM ["size", "others"] spHM := by
  have GHof := ok_hof (P := P) (w := w) (base := base) T U
  refine U.FHM.ok scHM (fun vs H Q E h => ?_) (fun cdv A outer s H vs Q E hr h => ?_)
  · obtain ⟨x, y, rfl, _⟩ := h
    rfl
  · obtain ⟨sz, o, rfl, s0, o0, so, k⟩ := h
    refine ⟨_, (pss_cons (ps_setLc (i := 2) (own := [("outside", 3)]) (g := gName 3) (tt := tYes) rfl scHM.nd rfl rfl (sw_true rfl rfl rfl (by decide +kernel)) (pi_range1 (by rfl) T.range (pa_cons (pe_op op_add (pv 1) pe_int) pa_nil)) (blkOk_by (own := [("outside", 3)]) (N := ["size", "others", "ways", "outside", "inside", "ahead"]) (sc := defScope sHM) (by decide +kernel)) (fun _ _ _ _ _ => pg_name (i := 3) scHM.nd rfl (Or.inl rfl)) (fun _ _ _ _ _ => pts_nil) (fun _ _ _ _ _ => (pe_call GHof (hr.mono (by decide)) rfl U.gHof U.FHof.kp U.bHof .nil pass0 (pa_cons (pe_op op_add (pv 3) pe_int) pa_nil))))
      (pss_cons (ps_for PassesOwn.never rfl (pi_range2 (by rfl) T.range (pa_cons pe_int (pa_cons (pe_op op_add (pv 0) pe_int) pa_nil))) (pg_name (i := 4) scHM.nd rfl (.inl rfl))
      (pss_cons (ps_set (i := 5) scHM.nd rfl (.inl rfl) (pv 2))
      (pss_cons (ps_set (i := 2) scHM.nd rfl (.inl rfl) (pe_lst (pa_cons (pe_op op_mul (pe_callBfun (id := "math.comb") MathC.cr_comb rfl U.gComb2 (pa_cons (pv 4) (pa_cons pe_int pa_nil))) (pe_ix (r := rIxL K) ix_list (pv 5) pe_int (fun _ _ => rfl))) pa_nil)))
      (pss_one (ps_for PassesOwn.never rfl (pi_range2 (by rfl) T.range (pa_cons pe_int (pa_cons (pe_op op_add (pv 1) pe_int) pa_nil))) (pg_name (i := 3) scHM.nd rfl (.inl rfl))
      (pss_one (ps_expr (pe_bm PySem.F.plainAttrs_list PySem.F.slot_list_append PySem.F.type_list_append mt_append (pv 2) (pa_cons (pe_op op_add (pe_op op_mul (pe_callBfun (id := "math.comb") MathC.cr_comb rfl U.gComb2 (pa_cons (pv 4) (pa_cons pe_int pa_nil))) (pe_ix (r := rIxL K) ix_list (pv 5) (pv 3) (fun _ _ => rfl))) (pe_op op_mul (pe_callBfun (id := "math.comb") MathC.cr_comb rfl U.gComb2 (pa_cons (pv 3) (pa_cons pe_int pa_nil))) (pe_ix (r := rIxL K) ix_list (pv 2) (pe_un un_neg pe_int) (fun _ _ => rfl)))) pa_nil)))))))))
      (pss_one (ps_ret (pe_ix (r := rIxL K) ix_list (pv 2) (pv 1) (fun _ _ => rfl)))))), ?_⟩
    obtain ⟨m, rfl⟩ := Int.eq_ofNat_of_zero_le o0
    unfold hmI at k
    have c2 : ∀ a : Int, 2 ≤ a → a ≤ 20 → -(2 ^ 64) < PySem.W.mcComb a 2 ∧ PySem.W.mcComb a 2 < 2 ^ 64 := fun a h0 h1 => by
      obtain ⟨x, y⟩ := MathC.comb2 h0
      have : a * a ≤ 20 * 20 := Int.mul_le_mul h1 h1 (by omega) (by decide)
      omega
    have c3 : ∀ a : Int, 1 ≤ a → a ≤ 20 → -(2 ^ 64) < PySem.W.mcComb a 2 ∧ PySem.W.mcComb a 2 < 2 ^ 64 := fun a h0 h1 => by
      by_cases e : a = 1
      · rw [PySem.W.mcComb_above (by omega)]
        decide
      · exact c2 a (by omega) h1
    refine ⟨_, rfl, _, _, rfl, rfl, (m : Int) + 1, rfl, by omega, by omega, fun D hD => ?_⟩
    refine lc_range (n := ((m : Int) + 1).toNat) (fun i G => Grows H G ∧ G D = some (.lst (((List.range i).map fun i : Nat => hofI ((i : Int) + 1)).map L2.V.int))) ⟨Grows.new hD, upd_same⟩ (fun i G hi ⟨gg, eD⟩ => ?_) fun G ⟨gg, eD⟩ => ?_
    · refine ⟨rfl, ?_⟩
      unfold tYes
      dsimp only
      rw [if_pos rfl]
      refine ⟨_, rfl, _, _, rfl, rfl, 0 + (i : Int) + 1, rfl, by omega, by omega, ⟨_, eD, ?_, fun b u eb => ?_, ?_⟩⟩
      · rw [List.length_map, List.length_map, List.length_range]
        exact small1000 (by omega)
      · rw [upd_ne (ne_of_none eb hD)]
        exact gg _ _ eb
      · rw [upd_same, List.range_succ, List.map_append, List.map_append, Int.zero_add]
        rfl
    · have e0 : (List.range ((m : Int) + 1).toNat).map (fun i : Nat => hofI ((i : Int) + 1)) = hmOut m 0 := by
        rw [show ((m : Int) + 1).toNat = m + 1 by omega]
        rfl
      rw [e0] at eD
      refine ⟨_, rfl, _, _, rfl, rfl, 2, sz + 1, rfl, ⟨by decide, by decide, by omega, by omega⟩, for_range (lo := 2) (n := (sz + 1 - 2).toNat) (fun i σ H' => ∃ (w : Addr) (p3 p4 p5 : Option L2.V), σ = [some (.int sz), some (.int (m : Int)), some (.ref w), p3, p4, p5] ∧ Grows H H' ∧ H' w = some (.lst ((hmOut m i).map L2.V.int)))
        ⟨D, _, _, _, rfl, gg, eD⟩ (fun i σ H' hi ⟨w, p3, p4, p5, e, g, ew⟩ => ?_) fun σ H' ⟨w, p3, p4, p5, e, g, ew⟩ => ?_⟩
      · subst e
        have lw := hmOut_len m i
        have nx : hmOut m (i + 1) = hmIn (2 + (i : Int)) (hmOut m i) m := rfl
        generalize hmOut m i = ws at ew lw nx
        have a0 := at_int (xs := ws) (z := 0) (by decide) (by omega)
        refine ⟨_, rfl, _, rfl, 2 + (i : Int), 2, rfl, by omega, by omega, by decide, _, rfl, w, _, 0, _, rfl, rfl, SqL.of ew, a0, _, _, rfl, rfl, .inl (c2 _ (by omega) (by omega)), (by show 1 ≤ sizeLine; decide), fun q hq => ?_⟩
        have wq : w ≠ q := ne_of_none ew hq
        refine ⟨_, rfl, _, _, rfl, rfl, 1, (m : Int) + 1, rfl, ⟨by decide, by decide, by omega, by omega⟩, for_range (lo := 1) (n := ((m : Int) + 1 - 1).toNat) (fun j σ G2 => ∃ (p3 : Option L2.V), σ = [some (.int sz), some (.int (m : Int)), some (.ref q), p3, some (.int (2 + (i : Int))), some (.ref w)] ∧ Grows H' G2 ∧ G2 q = some (.lst ((hmIn (2 + (i : Int)) ws j).map L2.V.int)))
          ⟨_, rfl, Grows.new hq, upd_same⟩ (fun j σ G2 hj ⟨p3, e, g2, eq⟩ => ?_) fun σ G2 ⟨p3, e, g2, eq⟩ => ?_⟩
        · subst e
          have lu := hmIn_len (2 + (i : Int)) ws j
          have nj : hmIn (2 + (i : Int)) ws (j + 1) = hmIn (2 + (i : Int)) ws j ++ [PySem.W.mcComb (2 + (i : Int)) 2 * ws.getD (j + 1) 0 + PySem.W.mcComb (1 + (j : Int)) 2 * (hmIn (2 + (i : Int)) ws j).getD j 0] := rfl
          generalize hmIn (2 + (i : Int)) ws j = us at eq lu nj
          have a1 := at_int (xs := ws) (z := 1 + (j : Int)) (by omega) (by omega)
          have a2 := at_last (xs := us) (by omega)
          rw [show (1 + (j : Int)).toNat = j + 1 by omega] at a1
          rw [lu, Nat.add_sub_cancel] at a2
          refine ⟨_, rfl, .inl ⟨rfl, _, SqL.of eq⟩, _, rfl, 2 + (i : Int), 2, rfl, by omega, by omega, by decide, _, rfl, _, rfl, w, _, 1 + (j : Int), _, rfl, rfl, SqL.of (g2 _ _ ew), a1, _, _, rfl, rfl, .inl (c2 _ (by omega) (by omega)),
            _, rfl, 1 + (j : Int), 2, rfl, by omega, by omega, by decide, _, rfl, _, rfl, q, _, -1, _, rfl, rfl, SqL.of eq, a2, _, _, rfl, rfl, .inl (c3 _ (by omega) (by omega)), _, _, rfl, rfl, q, _, _, rfl, rfl, eq, ?_, ?_⟩
          · rw [List.length_map]
            exact small1000 (by omega)
          · exact ⟨_, rfl, upd_D hq g2, by rw [upd_same, nj, List.map_append]; rfl⟩
        · subst e
          rw [show ((m : Int) + 1 - 1).toNat = m by omega, ← nx] at eq
          exact ⟨q, _, _, _, rfl, g.trans g2, eq⟩
      · subst e
        have lw := hmOut_len m (sz + 1 - 2).toNat
        have a3 := at_int (xs := hmOut m (sz + 1 - 2).toNat) (z := (m : Int)) o0 (by omega)
        exact ⟨_, rfl, _, rfl, w, _, (m : Int), _, rfl, rfl, SqL.of ew, a3, k _ g⟩
theorem ok_hs (Z : ProgF K mg) (T : TxtP mg) (U : FmF K mg) : FnOk P w K mg base CX0 5 U.fHS U.dHS ["persons", "group"] (spHS K) := by
  have GNPs := ok_nps (P := P) (w := w) (base := base) Z T U
  have GGr := ok_group (P := P) (w := w) (base := base) Z T
  have GFrac := ok_frac (P := P) (w := w) (base := base) U
  have GHM := ok_hm (P := P) (w := w) (base := base) T U
  have GHof := ok_hof (P := P) (w := w) (base := base) T U
  refine U.FHS.ok scHS (fun vs H Q E h => ?_) (fun cdv A outer s H vs Q E hr h => ?_)
  · obtain ⟨n, a, ns, rfl, _⟩ := h
    rfl
  · obtain ⟨n, a, ns, rfl, n1, n2, sq, nl, yes, l2, ln, k⟩ := h
    refine ⟨_, (pss_cons (ps_expr (pe_call GNPs (hr.mono (by decide)) rfl U.gNPs U.FNPs.kp U.bNPs .nil pass0 (pa_cons (pv 0) pa_nil)))
      (pss_cons (ps_if (pt_not (pt_val (pe_call GGr (hr.mono (by decide)) rfl Z.gGr Z.FGr.kp Z.bGr .nil pass0 (pa_cons (pv 1) (pa_cons (pv 0) pa_nil))))) (pss_one ps_never) pss_nil)
      (pss_one (ps_ret (pe_call GFrac (hr.mono (by decide)) rfl U.gFrac U.FFrac.kp U.bFrac .nil pass0 (pa_cons (pe_call GHM (hr.mono (by decide)) rfl U.gHM U.FHM.kp U.bHM .nil pass0 (pa_cons (pe_callB call_len_seq (by rfl) T.len (by decide +kernel) (pa_cons (pv 1) pa_nil)) (pa_cons (pe_op op_sub (pv 0) (pe_callB call_len_seq (by rfl) T.len (by decide +kernel) (pa_cons (pv 1) pa_nil))) pa_nil))) (pa_cons (pe_call GHof (hr.mono (by decide)) rfl U.gHof U.FHof.kp U.bHof .nil pass0 (pa_cons (pv 0) pa_nil)) pa_nil))))))), ?_⟩
    refine ⟨_, rfl, n, rfl, n1, n2, fun H1 g1 => ⟨_, rfl, _, rfl, a, n, ns, rfl, g1.seq sq, nl, fun H2 g2 => ⟨_, rfl, ?_⟩⟩⟩
    rw [yes]
    have g12 := g1.trans g2
    have sq2 := g12.seq sq
    have lx : (((ns.map L2.V.int).length : Nat) : Int) = ns.length := by rw [List.length_map]
    obtain ⟨b0, b1⟩ := hofI_ok (n := n) (by omega)
    refine iteF ⟨_, rfl, a, _, rfl, .inl sq2, _, rfl, _, rfl, a, _, rfl, .inl sq2, _, _, rfl, rfl, (ns.length : Int), n - (ns.length : Int), by simp only [List.length_map]; rfl, by omega, by omega, by omega, fun H3 g3 => ⟨_, rfl, n, rfl, by omega, by omega, _, _, rfl, b0, b1, fun t ht => k t H3 (g12.trans g3) ht⟩⟩
theorem ok_are (Z : ProgF K mg) (T : TxtP mg) (U : FmF K mg) : FnOk P w K mg base CX0 5 U.fAre U.dAre ["thing", "persons"] (spAre K) := by
  have GGr : FnOk P w K mg base CX0 4 Z.fGr Z.dGr ["thing", "persons"] (spPLD K grpD) := ok_grpD Z T
  refine U.FAre.ok scAre (fun vs H Q E h => ?_) (fun cdv A outer s H vs Q E hr h => ?_)
  · obtain ⟨x, n, d, rfl, _⟩ := h
    rfl
  · obtain ⟨x, n, d, rfl, hd, lim, k⟩ := h
    refine ⟨_, (pss_cons (ps_if (PW.pt (pw_or (pt_not (pt_val (pe_callB call_isi (by rfl) T.isi (by decide +kernel) (pa_cons (pv 0) (pa_cons (pe_bltn (v := .ty "list") (u := .type "list") (by rfl) T.list (by decide +kernel) rfl) pa_nil))))) (pw_or1 (pt_cmpR op_ge (pe_callB call_len_seq (by rfl) T.len (by decide +kernel) (pa_cons (pv 0) pa_nil)) (pe_glob (v := .int 20) rfl Z.gMost ⟨_, rfl⟩) (nomark _))))) (pss_one (ps_ret pe_bl)) pss_nil)
      (pss_cons (ps_if (pt_not (pt_val (pe_callB (cr_all rfl) (by rfl) T.all (by decide +kernel) (pa_cons (pe_lc (own := [("group", 2)]) (g := gName 2) (tt := tYes) rfl scAre.nd (pi_list (pv 0)) (blkOk_by (own := [("group", 2)]) (N := ["thing", "persons", "group"]) (sc := defScope sAre) (by decide +kernel)) (fun _ _ _ _ _ => pg_name (i := 2) scAre.nd rfl (Or.inl rfl)) (fun _ _ _ _ _ => pts_nil) (fun _ _ _ _ _ => (pe_call GGr (hr.mono (by decide)) rfl Z.gGr Z.FGr.kp Z.bGr .nil pass0 (pa_cons (pv 2) (pa_cons (pv 1) pa_nil))))) pa_nil)))) (pss_one (ps_ret pe_bl)) pss_nil)
      (pss_one (ps_ret (pe_cmpR op_eq (pe_callB (id := "len") (by exact SetT.call_lenT) (by rfl) T.len (by decide +kernel) (pa_cons (SetT.pe_scT (own := [("group", 2)]) (g := gName 2) (tt := tYes) (by exact hr.units) rfl scAre.nd (pi_list (pv 0)) (blkOk_by (own := [("group", 2)]) (N := ["thing", "persons", "group"]) (sc := defScope sAre) (by decide +kernel)) (fun _ _ _ _ _ => pg_name (i := 2) scAre.nd rfl (Or.inl rfl)) (fun _ _ _ _ _ => pts_nil) (fun _ _ _ _ _ => pe_callTy (T := "tuple") (r := rTup K) (by exact call_tupK) (by rfl) T.tuple (by decide +kernel) (pa_cons (pv 2) pa_nil))) pa_nil)) (pe_callB call_len_seq (by rfl) T.len (by decide +kernel) (pa_cons (pv 0) pa_nil)) (nomark _)))))), ?_⟩
    by_cases isl : ∃ ds, d = .list ds
    · obtain ⟨ds, rfl⟩ := isl
      obtain ⟨a, xs, rfl, hS, all⟩ := dd_list hd
      obtain ⟨hn, lims⟩ := lim ds rfl
      have xl := DpAll.len all
      refine ⟨_, rfl, _, _, _, _, true, rfl, .ty "list", ty_list hS, kit_ty (by decide +kernel), true, rfl, iteF ⟨_, rfl, a, _, rfl, .inl hS, _, _, rfl, rfl, _, rfl, ?_⟩⟩
      rw [xl]
      rw [areD_list] at k
      refine iteN _ (fun e => ?_) (fun e => ?_)
      · have ge := of_decide_eq_true e
        have q := k H .refl
        rw [decide_eq_false (show ¬ (ds.length : Int) < 20 by omega), Bool.false_and, Bool.false_and] at q
        exact q
      · have lt : (ds.length : Int) < 20 := by
          have := of_decide_eq_false e
          omega
        rw [decide_eq_true lt, Bool.true_and] at k
        refine ⟨_, rfl, a, rfl, ⟨_, hS⟩, fun D hD => lc_listM (K := K) (fun i => V.bl (grpD n (ds.getD i .none))) hD hS (by rw [xl]; omega) (fun i x H' R hx' sm kR => ?_) fun H' sm eD => ?_⟩
        · obtain ⟨e, he, de⟩ := DpAll.at all hx'
          have eg : ds.getD i .none = e := by rw [List.getD_eq_getElem?_getD, he]; rfl
          rw [eg] at kR
          exact ⟨rfl, _, rfl, _, rfl, x, e, _, rfl, .inl (Dp.grow sm de), lims e (List.mem_of_getElem? he), fun H2 s2 => kR _ s2⟩
        · rw [xl] at eD
          refine ⟨D, (List.range ds.length).map fun i => grpD n (ds.getD i .none), rfl, SqL.of (by rw [eD, List.map_map]; rfl), ?_⟩
          rw [all_rng, all_at PyData.none (grpD n) ds]
          refine ⟨_, rfl, iteN _ (fun e => ?_) fun e => ?_⟩
          · have e : ds.all (grpD n) = false := by
              cases z : ds.all (grpD n) with
              | false => rfl
              | true => rw [z] at e; cases e
            have q := k H' sm
            rw [e, Bool.false_and] at q
            exact q
          · have hg : ds.all (grpD n) = true := by
              cases z : ds.all (grpD n) with
              | true => rfl
              | false => rw [z] at e; cases e
            rw [hg, Bool.true_and] at k
            obtain ⟨bs, e1, e2, e3⟩ := rows_of all (List.all_eq_true.mp hg)
            have hB : Rw K H a bs := ⟨by rw [← e1]; exact hS, e3⟩
            have bl : bs.length = ds.length := by
              have := congrArg List.length e2
              rwa [List.length_map, List.length_map] at this
            refine ⟨_, rfl, a, rfl, ⟨_, sm.seq hB.top⟩, fun D2 hD2 => SetD.sc_listD (K := K) (fun i => (bs.getD i (0, [])).2) (by rw [List.length_map]; omega) hD2 (sm.seq hB.top) (fun i x H2 R hx' s2 kR => ?_) fun H2 L s2 eL len => ?_⟩
            · have il := (List.getElem?_eq_some_iff.mp hx').1
              rw [List.length_map] at il
              obtain rfl := at_map (d := (0, [])) hx'
              exact ⟨rfl, _, rfl, _, _, rfl, (sm.trans s2).seq (hB.at il), fun t2 ht2 => kR t2 _ (Grows.new ht2) upd_same⟩
            · refine ⟨D2, L, rfl, eL, _, rfl, a, _, rfl, .inl ((sm.trans s2).seq hB.top), ?_⟩
              have er : (List.range bs.length).map (fun i => (bs.getD i (0, [])).2) = ds.map toR := by
                rw [← e2]
                refine List.ext_getElem (by rw [List.length_map, List.length_map, List.length_range]) fun i h1 h2 => ?_
                rw [List.length_map] at h2
                rw [List.getElem_map, List.getElem_map, List.getElem_range, List.getD_eq_getElem?_getD, List.getElem?_eq_getElem h2]
                rfl
              rw [List.length_map, er] at len
              have q := k H2 (sm.trans s2)
              rw [← len] at q
              have eb : decide (L2.V.int (L.length : Nat) = L2.V.int (bs.length : Nat)) = decide (L.length = bs.length) := by
                rw [decide_eq_decide]
                exact ⟨fun z => Int.ofNat.inj (L2.V.int.inj z), fun z => by rw [z]⟩
              refine ⟨rfl, ?_⟩
              rw [List.length_map, eb]
              exact q
    · have ef : areD n d = false := by
        cases d <;> first | rfl | exact absurd ⟨_, rfl⟩ isl
      have q := k H .refl
      rw [ef] at q
      refine ⟨_, rfl, _, _, _, _, false, rfl, .ty "list", dd_ty hd, kit_ty ?_, false, rfl, iteT q⟩
      cases d <;> first | exact absurd ⟨_, rfl⟩ isl | (simp only [tyName]; decide +kernel)
/-- groups stand as rows -/
theorem are_rows {H : Hp} {x : L2.V} {d : PyData} {n : Int} (hd : Dd K H x d) (lim : Lim2 d) (n2 : n ≤ 20) (h : areD n d = true) : ∃ (ds : List PyData) (a : Addr) (bs : List (Addr × List Int)), d = .list ds ∧ x = .ref a ∧ Rw K H a bs ∧ Sz (bs.map (·.2)) ∧ (∀ r ∈ bs.map (·.2), ∀ x ∈ r, 0 ≤ x ∧ x ≤ 1000) ∧ bs.map (·.2) = ds.map toR := by
  cases d with
  | list ds =>
    rw [areD_list, Bool.and_eq_true, Bool.and_eq_true] at h
    obtain ⟨⟨h1, h2⟩, h3⟩ := h
    obtain ⟨a, xs, rfl, hS, all⟩ := dd_list hd
    have hg := List.all_eq_true.mp h2
    obtain ⟨bs, e1, e2, e3⟩ := rows_of all hg
    have hB : Rw K H a bs := ⟨by rw [← e1]; exact hS, e3⟩
    have rin : ∀ r ∈ bs.map (·.2), r.length ≤ 1000 ∧ ∀ x ∈ r, 0 ≤ x ∧ x ≤ 1000 := fun r hr => by
      rw [e2] at hr
      obtain ⟨d, hd, rfl⟩ := List.mem_map.mp hr
      have g := hg d hd
      obtain ⟨es, rfl, hi⟩ := grp_list g
      refine ⟨?_, fun x hx => ?_⟩
      · show (es.map toI).length ≤ 1000
        rw [List.length_map]
        exact (lim ds rfl).2 _ hd es rfl
      · obtain ⟨e, he, rfl⟩ := List.mem_map.mp hx
        rw [grpD_list, plistD_list, Bool.and_eq_true, Bool.and_eq_true] at g
        have p := List.all_eq_true.mp g.1.1 e he
        rw [hi e he] at p
        have p : (decide (0 ≤ toI e) && decide (toI e < n)) = true := p
        rw [Bool.and_eq_true, decide_eq_true_eq, decide_eq_true_eq] at p
        omega
    refine ⟨ds, a, bs, rfl, rfl, hB, ⟨?_, fun r hr => (rin r hr).1⟩, fun r hr => (rin r hr).2, e2⟩
    rw [e2, List.length_map]
    exact (lim ds rfl).1
  | _ => cases h
theorem ok_fam (Z : ProgF K mg) (T : TxtP mg) (U : FmF K mg) : FnOk P w K mg base CX0 6 U.fFam U.dFam ["persons", "thing"] (spFam K) := by
  have GNPs := ok_nps (P := P) (w := w) (base := base) Z T U
  have GAre := ok_are (P := P) (w := w) (base := base) Z T U
  have GAny : FnOk P w K mg base CX0 2 Z.fAny Z.dAny ["groups"] (spAny K) := ok_any Z T
  refine U.FFam.ok scFam (fun vs H Q E h => ?_) (fun cdv A outer s H vs Q E hr h => ?_)
  · obtain ⟨n, x, d, rfl, _⟩ := h
    rfl
  · obtain ⟨n, x, d, rfl, n1, n2, hd, lim, k⟩ := h
    refine ⟨_, (pss_cons (ps_expr (pe_call GNPs (hr.mono (by decide)) rfl U.gNPs U.FNPs.kp U.bNPs .nil pass0 (pa_cons (pv 0) pa_nil)))
      (pss_one (ps_ret (pe_and (pe_call GAre (hr.mono (by decide)) rfl U.gAre U.FAre.kp U.bAre .nil pass0 (pa_cons (pv 1) (pa_cons (pv 0) pa_nil))) (pe_one (pe_not (pe_call GAny (hr.mono (by decide)) rfl Z.gAny Z.FAny.kp Z.bAny .nil pass0 (pa_cons (pv 1) pa_nil)))))))), ?_⟩
    refine ⟨_, rfl, n, rfl, n1, n2, fun H1 g1 => ⟨_, rfl, _, rfl, x, n, d, rfl, Dd.grow g1 hd, lim, fun H2 g2 => ⟨_, rfl, ?_⟩⟩⟩
    have g12 := g1.trans g2
    cases e : areD n d with
    | false =>
      rw [if_neg Bool.false_ne_true]
      have ef : famD n d = false := by
        cases d with
        | list ds =>
          show (areD n (.list ds) && _) = false
          rw [e, Bool.false_and]
        | _ => rfl
      rw [ef] at k
      exact k _ g12
    | true =>
      obtain ⟨ds, a, bs, rfl, rfl, hB, hz, hin, er⟩ := are_rows hd lim n2 e
      have ef : famD n (.list ds) = !anyX (ds.map toR) := by
        show (areD n (.list ds) && _) = _
        rw [e, Bool.true_and]
      rw [ef, ← er] at k
      rw [if_pos rfl]
      exact ⟨_, rfl, a, bs, rfl, hB.keep g12, hz, hin, fun H3 g3 => ⟨_, rfl, k _ (g12.trans g3)⟩⟩
end
end K32

namespace K32
open PySem PySem.Spec PyProof.Rows L2 SortR LcM RepA
abbrev sCrL : Stmt := top 38
abbrev sLow : Stmt := top 34
theorem asc_ext {α : Type} {R : α → α → Prop} (no : ∀ a b, R a b → R b a → False) : ∀ {xs ys : List α}, xs.Pairwise R → ys.Pairwise R → (∀ z, z ∈ xs ↔ z ∈ ys) → xs = ys
  | [], [], _, _, _ => rfl
  | [], y :: ys, _, _, h => nomatch (h y).mpr List.mem_cons_self
  | x :: xs, [], _, _, h => nomatch (h x).mp List.mem_cons_self
  | x :: xs, y :: ys, a, b, h => by
    obtain ⟨a1, a2⟩ := List.pairwise_cons.mp a
    obtain ⟨b1, b2⟩ := List.pairwise_cons.mp b
    have e : x = y := by
      rcases List.mem_cons.mp ((h x).mp List.mem_cons_self) with e | m
      · exact e
      · rcases List.mem_cons.mp ((h y).mpr List.mem_cons_self) with e | m2
        · exact e.symm
        · exact (no _ _ (a1 _ m2) (b1 _ m)).elim
    subst e
    rw [asc_ext no a2 b2 fun z => ⟨fun m => ?_, fun m => ?_⟩]
    · rcases List.mem_cons.mp ((h z).mp (List.mem_cons_of_mem _ m)) with e | q
      · subst e
        exact (no _ _ (a1 _ m) (a1 _ m)).elim
      · exact q
    · rcases List.mem_cons.mp ((h z).mpr (List.mem_cons_of_mem _ m)) with e | q
      · subst e
        exact (no _ _ (b1 _ m) (b1 _ m)).elim
      · exact q
theorem up_ext {xs ys : List Int} (a : xs.Pairwise (· < ·)) (b : ys.Pairwise (· < ·)) (h : ∀ z, z ∈ xs ↔ z ∈ ys) : xs = ys := asc_ext (fun x y p q => by omega) a b h
theorem filtA {α : Type} (d : α) (p : α → Bool) (cs : List α) : ((List.range cs.length).filter fun i => p (cs.getD i d)).map (fun i => cs.getD i d) = cs.filter p := by
  have e : (fun i => p (cs.getD i d)) = p ∘ (fun i => cs.getD i d) := rfl
  rw [e, ← List.filter_map]
  congr 1
  refine List.ext_getElem (by rw [List.length_map, List.length_range]) fun i h1 h2 => ?_
  rw [List.getElem_map, List.getElem_range, List.getD_eq_getElem?_getD, List.getElem?_eq_getElem h2]
  rfl
/-! ### groups that cross -/
def crossL (xs ys : List Int) : Bool := decide ((0 : Int) < ((xs.filter fun x => decide (x ∈ ys)).length : Int)) && decide (((xs.filter fun x => decide (x ∈ ys)).length : Int) < if (ys.length : Int) < (xs.length : Int) then (ys.length : Int) else (xs.length : Int))
theorem flt_perm {xs ys : List Int} (hx : xs.Nodup) (hy : ys.Nodup) : (xs.filter fun x => decide (x ∈ ys)).Perm (ys.filter fun y => decide (y ∈ xs)) := by
  refine (List.perm_ext_iff_of_nodup (hx.filter _) (hy.filter _)).mpr fun z => ?_
  rw [List.mem_filter, List.mem_filter, decide_eq_true_eq, decide_eq_true_eq]
  exact And.comm
theorem flt_all {xs : List Int} {p : Int → Bool} (h : xs.length ≤ (xs.filter p).length) : ∀ x ∈ xs, p x = true := by
  have e : xs.filter p = xs := (List.filter_sublist).eq_of_length_le h
  intro x hx
  rw [← e] at hx
  exact (List.mem_filter.mp hx).2
theorem flt_some {xs : List Int} {p : Int → Bool} (h : (xs.filter p).length < xs.length) : ∃ x ∈ xs, p x = false := by
  rcases Classical.em (∃ x ∈ xs, p x = false) with z | z
  · exact z
  · have e : xs.filter p = xs := List.filter_eq_self.mpr fun x hx => by
      cases q : p x with
      | true => rfl
      | false => exact absurd ⟨x, hx, q⟩ z
    rw [e] at h
    exact absurd h (Nat.lt_irrefl _)
theorem nd_up {xs : List Int} (h : xs.Pairwise (· < ·)) : xs.Nodup := h.imp fun lt e => by omega
theorem crossI_yes {xs ys : List Int} (hx : xs.Pairwise (· < ·)) (hy : ys.Pairwise (· < ·)) (px : ∀ x ∈ xs, 0 ≤ x) (py : ∀ x ∈ ys, 0 ≤ x) {z x y : Int} (z1 : z ∈ xs) (z2 : z ∈ ys) (x1 : x ∈ xs) (x2 : x ∉ ys) (y1 : y ∈ ys) (y2 : y ∉ xs) : crossI (maskI xs) (maskI ys) = true := by
  rw [maskI_mk, maskI_mk]
  unfold crossI
  rw [PyProof.Rows.bitAnd_pp (Int.natCast_nonneg _) (Int.natCast_nonneg _), Int.toNat_natCast, Int.toNat_natCast]
  have bx : ∀ i, (mk (xs.map Int.toNat)).testBit i = decide ((i : Int) ∈ xs) := fun i => by
    rw [mk_bit _ i (up_nat hx px)]
    exact decide_eq_decide.mpr (mem_nat px)
  have by' : ∀ i, (mk (ys.map Int.toNat)).testBit i = decide ((i : Int) ∈ ys) := fun i => by
    rw [mk_bit _ i (up_nat hy py)]
    exact decide_eq_decide.mpr (mem_nat py)
  generalize mk (xs.map Int.toNat) = a at bx
  generalize mk (ys.map Int.toNat) = b at by'
  have bit : ∀ i, (a &&& b).testBit i = (decide ((i : Int) ∈ xs) && decide ((i : Int) ∈ ys)) := fun i => by rw [Nat.testBit_and, bx, by']
  have n0 : (a &&& b) ≠ 0 := fun e => by
    have q := bit z.toNat
    rw [e, Nat.zero_testBit, Int.toNat_of_nonneg (px z z1), decide_eq_true z1, decide_eq_true z2] at q
    cases q
  have n1 : (a &&& b) ≠ a := fun e => by
    have q := bit x.toNat
    rw [e, bx, Int.toNat_of_nonneg (px x x1), decide_eq_true x1, decide_eq_false x2] at q
    cases q
  have n2 : (a &&& b) ≠ b := fun e => by
    have q := bit y.toNat
    rw [e, by', Int.toNat_of_nonneg (py y y1), decide_eq_true y1, decide_eq_false y2] at q
    cases q
  generalize (a &&& b) = c at n0 n1 n2
  have e : inV (.int ((c : Nat) : Int)) [.int 0, .int (a : Int), .int (b : Int)] = false := by
    unfold inV
    refine List.any_eq_false.mpr fun v hv => ?_
    simp only [List.mem_cons, List.not_mem_nil, or_false] at hv
    rcases hv with rfl | rfl | rfl
    · show ¬ ((0 : Int) == (c : Int)) = true
      rw [beq_iff_eq]
      omega
    · show ¬ ((a : Int) == (c : Int)) = true
      rw [beq_iff_eq]
      omega
    · show ¬ ((b : Int) == (c : Int)) = true
      rw [beq_iff_eq]
      omega
  rw [e]
  rfl
theorem cross_eq {xs ys : List Int} (hx : xs.Pairwise (· < ·)) (hy : ys.Pairwise (· < ·)) (px : ∀ x ∈ xs, 0 ≤ x) (py : ∀ x ∈ ys, 0 ≤ x) : crossI (maskI xs) (maskI ys) = crossL xs ys := by
  have pm := (flt_perm (nd_up hx) (nd_up hy)).length_eq
  have le1 : (xs.filter fun x => decide (x ∈ ys)).length ≤ xs.length := List.length_filter_le _ _
  have le2 : (ys.filter fun y => decide (y ∈ xs)).length ≤ ys.length := List.length_filter_le _ _
  unfold crossL
  by_cases k0 : (xs.filter fun x => decide (x ∈ ys)).length = 0
  · rw [k0, decide_eq_false (show ¬ (0 : Int) < ((0 : Nat) : Int) by decide), Bool.false_and]
    refine crossI_no hx hy px py (.inl fun z hz hz2 => ?_)
    have m : z ∈ xs.filter fun x => decide (x ∈ ys) := List.mem_filter.mpr ⟨hz, decide_eq_true hz2⟩
    rw [List.length_eq_zero_iff.mp k0] at m
    cases m
  · by_cases k1 : xs.length ≤ (xs.filter fun x => decide (x ∈ ys)).length
    · rw [decide_eq_false (show ¬ ((xs.filter fun x => decide (x ∈ ys)).length : Int) < (if (ys.length : Int) < (xs.length : Int) then (ys.length : Int) else (xs.length : Int)) by split <;> omega), Bool.and_false]
      exact crossI_no hx hy px py (.inr (.inl fun z hz => of_decide_eq_true (flt_all k1 z hz)))
    · by_cases k2 : ys.length ≤ (ys.filter fun y => decide (y ∈ xs)).length
      · rw [decide_eq_false (show ¬ ((xs.filter fun x => decide (x ∈ ys)).length : Int) < (if (ys.length : Int) < (xs.length : Int) then (ys.length : Int) else (xs.length : Int)) by split <;> omega), Bool.and_false]
        exact crossI_no hx hy px py (.inr (.inr fun z hz => of_decide_eq_true (flt_all k2 z hz)))
      · rw [decide_eq_true (show (0 : Int) < ((xs.filter fun x => decide (x ∈ ys)).length : Int) by omega), decide_eq_true (show ((xs.filter fun x => decide (x ∈ ys)).length : Int) < (if (ys.length : Int) < (xs.length : Int) then (ys.length : Int) else (xs.length : Int)) by split <;> omega)]
        obtain ⟨z, hz⟩ := List.exists_mem_of_length_pos (show 0 < (xs.filter fun x => decide (x ∈ ys)).length by omega)
        obtain ⟨z1, z2⟩ := List.mem_filter.mp hz
        obtain ⟨x, x1, x2⟩ := flt_some (p := fun x => decide (x ∈ ys)) (xs := xs) (by omega)
        obtain ⟨y, y1, y2⟩ := flt_some (p := fun y => decide (y ∈ xs)) (xs := ys) (by omega)
        exact crossI_yes hx hy px py z1 (of_decide_eq_true z2) x1 (of_decide_eq_false x2) y1 (of_decide_eq_false y2)
theorem crossL_comm {xs ys : List Int} (hx : xs.Pairwise (· < ·)) (hy : ys.Pairwise (· < ·)) : crossL xs ys = crossL ys xs := by
  unfold crossL
  rw [(flt_perm (nd_up hx) (nd_up hy)).length_eq]
  congr 1
  refine decide_eq_decide.mpr ?_
  split <;> split <;> omega
theorem lay_all : ∀ ds : List PyData, (∀ e ∈ ds, e.canLay0 = true ∧ e.depth ≤ 20) → PyData.canLayAll0 ds = true ∧ PyData.depthAll ds ≤ 20
  | [], _ => ⟨by simp only [PyData.canLayAll0], by simp only [PyData.depthAll]; omega⟩
  | d :: ds, h => by
    obtain ⟨a, b⟩ := lay_all ds fun e m => h e (List.mem_cons_of_mem _ m)
    obtain ⟨c, e⟩ := h d List.mem_cons_self
    refine ⟨by simp only [PyData.canLayAll0, a, c, Bool.and_self], ?_⟩
    simp only [PyData.depthAll]
    omega
theorem shaped_all {ds : List PyData} (h : ∀ e ∈ ds, e.canLay0 = true ∧ e.depth ≤ 20) : SeqAt.shaped (.list ds) = true := by
  obtain ⟨a, b⟩ := lay_all ds h
  unfold SeqAt.shaped
  have e : (PyData.list ds).depth ≤ 64 := by
    simp only [PyData.depth]
    omega
  rw [decide_eq_true e, Bool.and_true]
  simp only [PyData.canLay0, a]
theorem eqv_nil (ds : List PyData) : PyData.eqv (.list ds) (.list []) = decide (ds = []) := by
  cases ds with
  | nil =>
    rw [decide_eq_true rfl]
    have := eqv_ints [] []
    rw [decide_eq_true rfl] at this
    exact this
  | cons d ds =>
    rw [decide_eq_false (fun z => nomatch z)]
    simp [PyData.eqv, PyData.eqvAll]
def spCrL (K : PySem.W.Frag) : Sp := fun vs H Q _ => ∃ (a b : Addr) (xs ys : List Int), vs = [.ref a, .ref b] ∧ SqL K H a (xs.map V.int) ∧ SqL K H b (ys.map V.int) ∧ xs.length ≤ 1000 ∧ ∀ H', Grows H H' → Q (.bl (crossL xs ys)) H'
/-- the int in the fourth slot -/
def lastI (σ : L2.St) : Nat := match σ[3]? with
  | some (some (L2.V.int r)) => r.toNat
  | _ => 0
def spLow : Sp := fun vs H Q _ => ∃ x y : Int, vs = [.int x, .int y] ∧ 0 ≤ x ∧ 1 ≤ y ∧ x < 2 ^ 180 ∧ y < 2 ^ 180 ∧ ∀ t, H t = none → Q (.ref t) (upd H t (.tup [.int (low x y).1, .int (low x y).2]))
section
variable {P : Program} {w : World} {K : PySem.W.Frag} {mg : Str → Option Value} {base : Heap}
theorem scCrL : FnScope ["left", "right", "both", "who"] ["left", "right"] (defScope sCrL) := ⟨rfl, rfl, rfl, by decide +kernel, rfl, by decide +kernel, by decide +kernel⟩
theorem scLow : FnScope ["top", "bottom", "left", "right"] ["top", "bottom"] (defScope sLow) := ⟨rfl, rfl, rfl, by decide +kernel, rfl, by decide +kernel, by decide +kernel⟩
theorem ints_filter (p : Int → Bool) (xs : List Int) : kept (fun i => p (xs.getD i 0)) (fun i => V.int (xs.getD i 0)) xs.length = (xs.filter p).map V.int := by
  rw [← filtA 0 p xs, List.map_map]
  rfl
theorem ok_crL {f : Addr} {fd : FuncData} (F : Fun K "_law_cross" "_law_cross" sCrL f fd) (T : TxtP mg) (TD : Txt0 mg) : FnOk P w K mg base CX0 1 f fd ["left", "right"] (spCrL K) := by
  refine F.ok scCrL (fun vs H Q E h => ?_) (fun cdv A outer s H vs Q E hr h => ?_)
  · obtain ⟨a, b, xs, ys, rfl, _⟩ := h
    rfl
  · obtain ⟨a, b, xs, ys, rfl, hA, hB, xl, k⟩ := h
    refine ⟨_, (pss_cons (ps_setLc (i := 2) (own := [("who", 3)]) (g := gName 3) rfl scCrL.nd rfl rfl (sw_true rfl rfl rfl (by decide +kernel)) (pi_list (pv 0)) (blkOk_by (own := [("who", 3)]) (N := ["left", "right", "both", "who"]) (sc := defScope sCrL) (by decide +kernel)) (fun _ _ _ _ _ => pg_name (i := 3) scCrL.nd rfl (Or.inl rfl)) (fun _ _ _ _ _ => (pts_one (pt_cmpR (r := rIn K false) (by exact op_in_seq) (pv 3) (pv 1) (by rfl)))) (fun _ _ _ _ _ => (pv 3)))
      (pss_one (ps_ret (pe_and (pe_cmpR (op_neD hr.units) (pv 2) (pe_lst pa_nil) (nomark _)) (pe_one (pe_cmpR op_lt (pe_callB call_len_seq (by rfl) T.len (by decide +kernel) (pa_cons (pv 2) pa_nil)) (pe_callB (call_min2 rfl) (by rfl) TD.min (by decide +kernel) (pa_cons (pe_callB call_len_seq (by rfl) T.len (by decide +kernel) (pa_cons (pv 0) pa_nil)) (pa_cons (pe_callB call_len_seq (by rfl) T.len (by decide +kernel) (pa_cons (pv 1) pa_nil)) pa_nil))) (nomark _))))))), ?_⟩
    refine ⟨_, rfl, a, rfl, ⟨_, hA⟩, fun D hD => lc_listT (K := K) (fun i => decide (xs.getD i 0 ∈ ys)) (fun i => V.int (xs.getD i 0)) hD hA (by rw [List.length_map]; omega) (fun i x H' R Rn hx' sm kY kN => ?_) fun H1 s1 eD => ?_⟩
    · have il := (List.getElem?_eq_some_iff.mp hx').1
      rw [List.length_map] at il
      obtain rfl := at_map (d := 0) hx'
      refine ⟨rfl, _, rfl, _, rfl, b, _, rfl, .inl (sm.seq hB), rfl, flat_ints ys, _, rfl, ?_⟩
      show if inV (.int (xs.getD i 0)) (ys.map V.int) = true then _ else _
      rw [inV_ints]
      exact ite2 (fun e => ⟨_, rfl, kY e _ .refl⟩) (fun e => kN (Bool.eq_false_iff.mpr e) _ .refl)
    · rw [List.length_map, ints_filter (fun x => decide (x ∈ ys)) xs] at eD
      have q := fun X (g : Grows H X) => k X g
      unfold crossL at q
      generalize xs.filter (fun x => decide (x ∈ ys)) = fs at eD q
      refine ⟨_, rfl, (by show 0 ≤ sizeLine; decide), fun n0 hn0 => ?_⟩
      have gn : Grows H1 (upd H1 n0 (.lst [])) := Grows.new hn0
      have g2 := s1.trans gn
      refine ⟨.list (fs.map .int), .list [], .lst (SqL.of (gn _ _ eD)) (rows_dp fs), .lst (SqL.of upd_same) .nil, shaped_ints _, shaped_all (fun _ h => nomatch h), ?_⟩
      refine ⟨_, rfl, ?_⟩
      rw [eqv_nil]
      have gD := gn _ _ eD
      by_cases l : (0 : Int) < (fs.length : Int)
      · rw [decide_eq_false (show ¬ fs.map PyData.int = [] from fun z => by rw [List.map_eq_nil_iff.mp z] at l; exact absurd l (by decide))]
        refine iteT ⟨_, rfl, D, _, rfl, .inl (SqL.of gD), _, rfl, a, _, rfl, .inl (g2.seq hA), _, rfl, b, _, rfl, .inl (g2.seq hB), _, _, rfl, _, _, rfl, rfl, ?_⟩
        have q := q _ g2
        rw [decide_eq_true l, Bool.true_and] at q
        rw [List.length_map, List.length_map, List.length_map]
        exact q
      · have e : fs = [] := List.eq_nil_of_length_eq_zero (by omega)
        have q := q _ g2
        rw [decide_eq_false l, Bool.false_and] at q
        rw [e, decide_eq_true (show ([] : List Int).map PyData.int = [] from rfl)]
        exact iteF q
theorem ok_low {f : Addr} {fd : FuncData} (F : Fun K "_law_lowest" "_law_lowest" sLow f fd) (T : TxtP mg) : FnOk P w K mg base CX0 1 f fd ["top", "bottom"] spLow := by
  refine F.ok scLow (fun vs H Q E h => ?_) (fun cdv A outer s H vs Q E hr h => ?_)
  · obtain ⟨x, y, rfl, _⟩ := h
    rfl
  · obtain ⟨x, y, rfl, x0, y0, x1, y1, k⟩ := h
    refine ⟨_, (pss_cons (ps_par (i := 2) (j := 3) (by rfl) scLow.nd rfl rfl (by decide) rfl rfl (pa_cons (pv 0) (pa_cons (pv 1) pa_nil)) (by rfl))
      (pss_cons (ps_while PassesOwn.never (pt_cmpR op_gt (pv 3) pe_int (nomark _)) (pss_one (ps_par (i := 2) (j := 3) (by rfl) scLow.nd rfl rfl (by decide) rfl rfl (pa_cons (pv 3) (pa_cons (pe_op op_mod (pe_callTy call_int1 (by rfl) T.int (by decide +kernel) (pa_cons (pv 2) pa_nil)) (pv 3)) pa_nil)) (by rfl))))
      (pss_one (ps_ret (pe_tup (pa_cons (pe_op op_fdivW (pv 0) (pv 2)) (pa_cons (pe_op op_fdivW (pv 1) (pv 2)) pa_nil))))))), ?_⟩
    obtain ⟨a, rfl⟩ := Int.eq_ofNat_of_zero_le x0
    obtain ⟨b, rfl⟩ := Int.eq_ofNat_of_zero_le (show 0 ≤ y by omega)
    have b0 : 0 < b := by omega
    have g0 : 0 < Nat.gcd a b := Nat.gcd_pos_of_pos_right _ b0
    have g1 : Nat.gcd a b ≤ b := Nat.le_of_dvd b0 (Nat.gcd_dvd_right _ _)
    refine ⟨_, rfl, _, rfl, _, _, rfl, ?_⟩
    refine while_by (fun σ G => ∃ l r : Nat, σ = [some (.int (a : Int)), some (.int (b : Int)), some (.int (l : Int)), some (.int (r : Int))] ∧ G = H ∧ Nat.gcd l r = Nat.gcd a b) (fun σ _ => lastI σ)
      ⟨a, b, rfl, rfl, rfl⟩ (fun σ G ⟨l, r, e, eg, q⟩ => ?_) (fun σ G Q1 Q2 m ⟨v, e, i, j, e1, e2, bb, e3, q⟩ => ⟨v, e, i, j, e1, e2, bb, e3, m _ _ q⟩)
    subst e
    subst eg
    refine ⟨_, rfl, _, _, rfl, rfl, _, rfl, ?_⟩
    by_cases r0 : r = 0
    · rw [decide_eq_false (show ¬ (0 : Int) < (r : Int) by omega)]
      refine iteF ?_
      rw [r0, Nat.gcd_zero_right] at q
      rw [r0, q]
      have c : ∀ z : Int, CDivW z ((Nat.gcd a b : Nat) : Int) := fun z => wide_div (b := 180) (by omega) (by rw [Int.natAbs_natCast]; omega) (by decide) (by decide)
      exact ⟨_, rfl, _, rfl, _, _, rfl, rfl, c _, _, rfl, _, rfl, _, _, rfl, rfl, c _, (by show 2 ≤ sizeLine; decide), fun t ht => k t ht⟩
    · rw [decide_eq_true (show (0 : Int) < (r : Int) by omega)]
      refine iteT ?_
      refine ⟨_, rfl, _, rfl, .inl ⟨_, rfl, _, rfl, _, _, rfl, rfl, by omega, _, _, rfl, ⟨r, l % r, rfl, rfl, ?_⟩, ?_⟩⟩
      · rw [← q, Nat.gcd_comm l r, Nat.gcd_comm r (l % r), ← Nat.gcd_rec]
      · show ((l % r : Nat) : Int).toNat < (r : Int).toNat
        rw [Int.toNat_natCast, Int.toNat_natCast]
        exact Nat.mod_lt _ (by omega)
end
end K32

namespace K32
open PySem PySem.Spec PyProof.Rows L2 SortR LcM RepA
abbrev sFits : Stmt := top 39
theorem units65 {A : Around} {k : Nat} (hr : Room k A) : A.units + 65 < cLine := by
  have := hr.un
  omega
theorem cut_take (xs : List V) {z : Int} (h : 0 ≤ z) : cutV xs none (some z) = xs.take z.toNat := by
  unfold cutV HT.sIx
  show List.take ((if z < 0 then (z + (xs.length : Nat)).toNat else min z.toNat xs.length) - 0) (List.drop 0 xs) = _
  rw [if_neg (by omega), List.drop_zero, Nat.sub_zero]
  rcases Nat.le_total z.toNat xs.length with l | l
  · rw [Nat.min_eq_left l]
  · rw [Nat.min_eq_right l, List.take_length, List.take_of_length_le l]
theorem anyX_no {rs : List (List Int)} : anyX rs = false ↔ ∀ i j, i < j → j < rs.length → crossI (maskI (rs.getD i [])) (maskI (rs.getD j [])) = false := by
  unfold anyX
  rw [List.any_eq_false]
  refine ⟨fun h i j ij jl => ?_, fun h k hk => ?_⟩
  · obtain ⟨k, kl, e⟩ := List.getElem_of_mem (Comb.prs_mem.mpr ⟨ij, jl⟩)
    have := h k (List.mem_range.mpr kl)
    have ed : (Comb.prs rs.length).getD k (0, 0) = (i, j) := by rw [List.getD_eq_getElem?_getD, List.getElem?_eq_getElem kl, e]; rfl
    rw [ed] at this
    exact Bool.eq_false_iff.mpr this
  · have kl := List.mem_range.mp hk
    have m : (Comb.prs rs.length).getD k (0, 0) ∈ Comb.prs rs.length := by
      rw [List.getD_eq_getElem?_getD, List.getElem?_eq_getElem kl]
      exact List.getElem_mem kl
    generalize (Comb.prs rs.length).getD k (0, 0) = q at m
    obtain ⟨i, j⟩ := q
    obtain ⟨a, b⟩ := Comb.prs_mem.mp m
    rw [h i j a b]
    exact Bool.false_ne_true
theorem dp_map {K : PySem.W.Frag} {H : Hp} {f : Nat → V} {g : Nat → PyData} : ∀ is : List Nat, (∀ i ∈ is, Dp K H (f i) (g i)) → DpAll K H (is.map f) (is.map g)
  | [], _ => .nil
  | i :: is, h => .cons (h i List.mem_cons_self) (dp_map is fun j hj => h j (List.mem_cons_of_mem _ hj))
theorem dp_grow_at {K : PySem.W.Frag} {H : Hp} {xs : List V} {ds : List PyData} (h : DpAll K H xs ds) {i : Nat} (il : i < ds.length) : Dp K H (xs.getD i .non) (ds.getD i .none) := by
  have l : i < xs.length := by rw [DpAll.len h]; exact il
  obtain ⟨d, e, q⟩ := DpAll.at h (List.getElem?_eq_getElem l)
  rw [List.getD_eq_getElem?_getD, List.getElem?_eq_getElem l, List.getD_eq_getElem?_getD, e]
  exact q
theorem asc_step {ns : List Int} : ascI ns = true ↔ ns.Pairwise (· < ·) := by
  unfold ascI
  rw [List.all_eq_true]
  refine ⟨fun h => ?_, fun h i hi => ?_⟩
  · induction ns with
    | nil => exact .nil
    | cons x ns ih =>
      have ih := ih fun i hi => by
        have hi := List.mem_range.mp hi
        have := h (i + 1) (List.mem_range.mpr (by rw [List.length_cons]; omega))
        simpa using this
      cases ns with
      | nil => exact List.pairwise_singleton _ _
      | cons y ns =>
        have h0 := of_decide_eq_true (h 0 (List.mem_range.mpr (by simp)))
        have h0 : x < y := h0
        refine List.pairwise_cons.mpr ⟨fun z hz => ?_, ih⟩
        rcases List.mem_cons.mp hz with e | e
        · rw [e]
          exact h0
        · have := (List.pairwise_cons.mp ih).1 z e
          omega
  · have il := List.mem_range.mp hi
    have l1 : i < ns.length := by omega
    have l2 : i + 1 < ns.length := by omega
    rw [List.getD_eq_getElem?_getD, List.getD_eq_getElem?_getD, List.getElem?_eq_getElem l1, List.getElem?_eq_getElem l2]
    exact decide_eq_true (List.pairwise_iff_getElem.mp h i (i + 1) l1 l2 (Nat.lt_succ_self i))
/-- data that may be compared, not too long -/
def FinL (d : PyData) : Prop := ∀ ds, d = .list ds → ds.length ≤ 60 ∧ ∀ e ∈ ds, e.canLay0 = true ∧ e.depth ≤ 20 ∧ ∀ es, e = .list es → es.length ≤ 60
theorem FinL.lim {d : PyData} (h : FinL d) : Lim2 d := fun ds e => ⟨by have := (h ds e).1; omega, fun x hx es ee => by have := ((h ds e).2 x hx).2.2 es ee; omega⟩
theorem pers_ok {n : Int} {d : PyData} (h : persD n d = true) : d = .int (toI d) ∧ 0 ≤ toI d ∧ toI d < n := by
  cases d with
  | int i =>
    have h : (decide (0 ≤ i) && decide (i < n)) = true := h
    rw [Bool.and_eq_true, decide_eq_true_eq, decide_eq_true_eq] at h
    exact ⟨rfl, h⟩
  | _ => cases h
/-- what a group is -/
theorem grp_ok {n : Int} {d : PyData} (h : grpD n d = true) : d = .list ((toR d).map .int) ∧ (toR d).Pairwise (· < ·) ∧ (∀ x ∈ toR d, 0 ≤ x ∧ x < n) ∧ 2 ≤ (toR d).length := by
  cases d with
  | list ds =>
    rw [grpD_list, plistD_list, Bool.and_eq_true, Bool.and_eq_true, decide_eq_true_eq] at h
    obtain ⟨⟨h1, h2⟩, h3⟩ := h
    have all := List.all_eq_true.mp h1
    refine ⟨?_, asc_step.mp h2, fun x hx => ?_, ?_⟩
    · show PyData.list ds = PyData.list ((ds.map toI).map .int)
      rw [List.map_map]
      congr 1
      refine ((List.map_congr_left fun d hd => ?_).trans (List.map_id ds)).symm
      exact (pers_ok (all d hd)).1.symm
    · obtain ⟨d, hd, rfl⟩ := List.mem_map.mp hx
      exact (pers_ok (all d hd)).2
    · show 2 ≤ (ds.map toI).length
      rw [List.length_map]
      omega
  | _ => cases h
/-- groups, unlike, of which no two cross -/
def Good (n : Int) (ds : List PyData) : Prop := (∀ d ∈ ds, grpD n d = true) ∧ (ds.map toR).Nodup ∧ (ds.map toR).Pairwise fun x y => crossL x y = false
theorem pw_getD {α : Type} {R : α → α → Prop} {l : List α} (z : α) : l.Pairwise R ↔ ∀ i j, i < j → j < l.length → R (l.getD i z) (l.getD j z) := by
  rw [List.pairwise_iff_getElem]
  refine ⟨fun h i j ij jl => ?_, fun h i j il jl ij => ?_⟩
  · have := h i j (by omega) jl ij
    rw [List.getD_eq_getElem?_getD, List.getD_eq_getElem?_getD, List.getElem?_eq_getElem jl, List.getElem?_eq_getElem (by omega)]
    exact this
  · have := h i j ij jl
    rw [List.getD_eq_getElem?_getD, List.getD_eq_getElem?_getD, List.getElem?_eq_getElem jl, List.getElem?_eq_getElem (by omega)] at this
    exact this
theorem anyX_pw {n : Int} {ds : List PyData} (hg : ∀ d ∈ ds, grpD n d = true) : anyX (ds.map toR) = false ↔ (ds.map toR).Pairwise fun x y => crossL x y = false := by
  rw [anyX_no, pw_getD []]
  have row : ∀ i, i < (ds.map toR).length → ((ds.map toR).getD i []).Pairwise (· < ·) ∧ ∀ x ∈ (ds.map toR).getD i [], 0 ≤ x := fun i hi => by
    rw [List.getD_eq_getElem?_getD, List.getElem?_eq_getElem hi]
    have m := List.getElem_mem hi
    obtain ⟨d, hd, e⟩ := List.mem_map.mp m
    obtain ⟨_, a, b, _⟩ := grp_ok (hg d hd)
    rw [Option.getD_some, ← e]
    exact ⟨a, fun x hx => (b x hx).1⟩
  refine forall_congr' fun i => forall_congr' fun j => forall_congr' fun ij => forall_congr' fun jl => ?_
  obtain ⟨a, b⟩ := row i (by omega)
  obtain ⟨c, d⟩ := row j jl
  rw [cross_eq a c b d]
theorem fam_yes {n : Int} {ds : List PyData} (l : ds.length ≤ 19) : famD n (.list ds) = true ↔ Good n ds := by
  show (areD n (.list ds) && !anyX (ds.map toR)) = true ↔ _
  rw [areD_list, Bool.and_eq_true, Bool.and_eq_true, Bool.and_eq_true, decide_eq_true_eq, decide_eq_true_eq, List.all_eq_true, Bool.not_eq_true']
  refine ⟨fun ⟨⟨⟨a, b⟩, c⟩, d⟩ => ⟨b, c, (anyX_pw b).mp d⟩, fun ⟨b, c, d⟩ => ⟨⟨⟨by omega, b⟩, c⟩, (anyX_pw b).mpr d⟩⟩
theorem fam_long {n : Int} {ds : List PyData} (l : 19 < ds.length) : famD n (.list ds) = false := by
  show (areD n (.list ds) && !anyX (ds.map toR)) = false
  rw [areD_list, decide_eq_false (by omega), Bool.false_and, Bool.false_and, Bool.false_and]
theorem fam_not {n : Int} {ds : List PyData} (l : ds.length ≤ 19) (h : ¬ Good n ds) : famD n (.list ds) = false := Bool.eq_false_iff.mpr fun z => h ((fam_yes l).mp z)
theorem Good.step {n : Int} {ds : List PyData} {d : PyData} (g : Good n ds) (h : grpD n d = true) (ni : toR d ∉ ds.map toR) (nc : ∀ r ∈ ds.map toR, crossL r (toR d) = false) : Good n (ds ++ [d]) := by
  obtain ⟨a, b, c⟩ := g
  refine ⟨fun e he => ?_, ?_, ?_⟩
  · rcases List.mem_append.mp he with m | m
    · exact a e m
    · rw [List.mem_singleton.mp m]
      exact h
  · rw [List.map_append]
    refine List.nodup_append.mpr ⟨b, List.nodup_cons.mpr ⟨fun z => (nomatch z), List.nodup_nil⟩, fun x hx y hy e => ?_⟩
    rw [List.mem_singleton.mp hy] at e
    exact ni (e ▸ hx)
  · rw [List.map_append]
    refine List.pairwise_append.mpr ⟨c, List.pairwise_singleton _ _, fun x hx y hy => ?_⟩
    rw [List.mem_singleton.mp hy]
    exact nc x hx
theorem Good.sub {n : Int} {ds es : List PyData} (g : Good n (ds ++ es)) : Good n ds := by
  obtain ⟨a, b, c⟩ := g
  rw [List.map_append] at b c
  exact ⟨fun d hd => a d (List.mem_append.mpr (.inl hd)), (List.nodup_append.mp b).1, (List.pairwise_append.mp c).1⟩
theorem Good.last {n : Int} {ds : List PyData} {d : PyData} (g : Good n (ds ++ [d])) : grpD n d = true ∧ toR d ∉ ds.map toR ∧ ∀ r ∈ ds.map toR, crossL r (toR d) = false := by
  obtain ⟨a, b, c⟩ := g
  rw [List.map_append] at b c
  exact ⟨a d (List.mem_append.mpr (.inr (List.mem_singleton.mpr rfl))), fun z => (List.nodup_append.mp b).2.2 _ z _ (List.mem_singleton.mpr rfl) rfl, fun r hr => (List.pairwise_append.mp c).2.2 r hr _ (List.mem_singleton.mpr rfl)⟩
theorem good_take {n : Int} {ds : List PyData} (g : Good n ds) (i : Nat) : Good n (ds.take i) := by
  rw [← List.take_append_drop i ds] at g
  exact g.sub
theorem take_nextD {α : Type} {xs : List α} {i : Nat} {x : α} (h : xs[i]? = some x) : xs.take (i + 1) = xs.take i ++ [x] := by
  rw [List.take_succ, h]
  rfl
/-- some row ahead is like it, as data are compared -/
theorem any_row {n : Int} {ds : List PyData} {d : PyData} (g : ∀ e ∈ ds, grpD n e = true) (h : grpD n d = true) : (ds.any fun z => PyData.eqv z d) = decide (toR d ∈ ds.map toR) := by
  have e1 := (grp_ok h).1
  refine Bool.eq_iff_iff.mpr ?_
  rw [List.any_eq_true, decide_eq_true_eq, List.mem_map]
  refine exists_congr fun z => ?_
  refine and_congr_right fun hz => ?_
  have e2 := (grp_ok (g z hz)).1
  rw [e1, e2, eqv_ints, decide_eq_true_eq]
  have t : ∀ ns : List Int, toR (.list (ns.map .int)) = ns := fun ns => by
    show (ns.map PyData.int).map toI = ns
    rw [List.map_map]
    exact (List.map_congr_left fun _ _ => rfl).trans (List.map_id ns)
  rw [t, t]
end K32

namespace K32
open PySem PySem.Spec PyProof.Rows L2 SortR LcM RepA
/-- whether the rows told are a family -/
def spFits (K : PySem.W.Frag) : Sp := fun vs H Q _ => ∃ (n : Int) (x : V) (d : PyData), vs = [.int n, x] ∧ Dd K H x d ∧ FinL d ∧ ∀ H', Grows H H' → Q (.bl (famD n d)) H'
theorem dp_take {K : PySem.W.Frag} {H : Hp} : ∀ (i : Nat) {xs : List V} {ds : List PyData}, DpAll K H xs ds → DpAll K H (xs.take i) (ds.take i)
  | 0, _, _, _ => .nil
  | _ + 1, _, _, .nil => .nil
  | i + 1, _, _, .cons a b => .cons a (dp_take i b)
section
variable {P : Program} {w : World} {K : PySem.W.Frag} {mg : Str → Option Value} {base : Heap}
theorem scFits : FnScope ["many_here", "bad", "place", "row", "who", "old"] ["many_here", "bad"] (defScope sFits) := ⟨rfl, rfl, rfl, by decide +kernel, rfl, by decide +kernel, by decide +kernel⟩
theorem ok_fits {f fC : Addr} {fd dC : FuncData} (F : Fun K "_law_fits" "_law_fits" sFits f fd) (T : TxtP mg) (TS : mg "set" = none) (TD : Txt0 mg) (FCrL : Fun K "_law_cross" "_law_cross" sCrL fC dC) (gCrL : mg "_law_cross" = some (.ref fC)) (bCrL : Binds K dC ["left", "right"] []) : FnOk P w K mg base CX0 2 f fd ["many_here", "bad"] (spFits K) := by
  have GCrL := ok_crL (P := P) (w := w) (base := base) FCrL T TD
  refine F.ok scFits (fun vs H Q E h => ?_) (fun cdv A outer s H vs Q E hr h => ?_)
  · obtain ⟨n, x, d, rfl, _⟩ := h
    rfl
  · obtain ⟨n, x, d, rfl, hd, fin, k⟩ := h
    refine ⟨_, (pss_cons (ps_if (PW.pt (pw_or (pt_not (pt_val (pe_callB (r := rIsi K) (by exact call_isi) (by rfl) T.isi (by decide +kernel) (pa_cons (pv 1) (pa_cons (pe_bltn (v := .ty "list") (u := .type "list") (by rfl) T.list (by decide +kernel) rfl) pa_nil))))) (pw_or1 (pt_cmpR op_gt (pe_callB call_len_seq (by rfl) T.len (by decide +kernel) (pa_cons (pv 1) pa_nil)) pe_int (nomark _))))) (pss_one (ps_ret pe_bl)) pss_nil)
      (pss_cons (ps_for PassesOwn.never rfl (pi_enum (by rfl) T.enumerate (pa_cons (pv 1) pa_nil)) (pg_tup (by rfl) (pgs_cons (pg_name (i := 2) scFits.nd rfl (.inl rfl)) (pgs_cons (pg_name (i := 3) scFits.nd rfl (.inr rfl)) pgs_nil)))
      (pss_cons (ps_if (PW.pt (pw_or (pt_not (pt_val (pe_callB (r := rIsi K) (by exact call_isi) (by rfl) T.isi (by decide +kernel) (pa_cons (pv 3) (pa_cons (pe_bltn (v := .ty "list") (u := .type "list") (by rfl) T.list (by decide +kernel) rfl) pa_nil))))) (pw_or (pt_cmpR op_lt (pe_callB call_len_seq (by rfl) T.len (by decide +kernel) (pa_cons (pv 3) pa_nil)) pe_int (nomark _)) (pw_or1 (pt_cmpR (r := rInD K) (by exact op_inD (units65 hr)) (pv 3) (pe_slice (r := rSlL K) (by exact sl_list) (pv 1) po_none (po_some (pv 2))) (by rfl)))))) (pss_one (ps_ret pe_bl)) pss_nil)
      (pss_cons (ps_if (pt_cmpR (op_neD hr.units) (pe_lc (own := [("who", 4)]) (g := gName 4) rfl scFits.nd (pi_list (pv 3)) (blkOk_by (own := [("who", 4)]) (N := ["many_here", "bad", "place", "row", "who", "old"]) (sc := defScope sFits) (by decide +kernel)) (fun _ _ _ _ _ => pg_name (i := 4) scFits.nd rfl (Or.inl rfl)) (fun _ _ _ _ _ => (pts_one (PW.pt (pw_or (pt_not (pt_val (pe_callB (r := rIsi K) (by exact call_isi) (by rfl) T.isi (by decide +kernel) (pa_cons (pv 4) (pa_cons (pe_bltn (v := .ty "int") (u := .type "int") (by rfl) T.int (by decide +kernel) rfl) pa_nil))))) (pw_or (pt_val (pe_callB (r := rIsi K) (by exact call_isi) (by rfl) T.isi (by decide +kernel) (pa_cons (pv 4) (pa_cons (pe_bltn (v := .ty "bool") (u := .type "bool") (by rfl) T.bool (by decide +kernel) rfl) pa_nil)))) (pw_or1 (pt_not (pt_chain op_le op_lt pe_int (pv 4) (pv 0))))))))) (fun _ _ _ _ _ => pe_int)) (pe_lst pa_nil) (nomark _)) (pss_one (ps_ret pe_bl)) pss_nil)
      (pss_one (ps_if (PW.pt (pw_or (pt_cmpR (op_neD hr.units) (pe_callB (cr_sortedSet rfl) (by rfl) T.sorted (by decide +kernel) (pa_cons (pe_callTy (T := "set") (SetL.cr_setL rfl) (by rfl) TS (by decide +kernel) (pa_cons (pv 3) pa_nil)) pa_nil)) (pv 3) (nomark _)) (pw_or1 (pt_cmpR (op_neD hr.units) (pe_lc (own := [("old", 5)]) (g := gName 5) rfl scFits.nd (pi_list (pe_slice (r := rSlL K) (by exact sl_list) (pv 1) po_none (po_some (pv 2)))) (blkOk_by (own := [("old", 5)]) (N := ["many_here", "bad", "place", "row", "who", "old"]) (sc := defScope sFits) (by decide +kernel)) (fun _ _ _ _ _ => pg_name (i := 5) scFits.nd rfl (Or.inl rfl)) (fun _ _ _ _ _ => (pts_one (pt_val (pe_call GCrL (hr.mono (by decide)) rfl gCrL FCrL.kp bCrL .nil pass0 (pa_cons (pv 5) (pa_cons (pv 3) pa_nil)))))) (fun _ _ _ _ _ => (pv 5))) (pe_lst pa_nil) (nomark _))))) (pss_one (ps_ret pe_bl)) pss_nil)))))
      (pss_one (ps_ret pe_bl)))), ?_⟩
    by_cases isl : ¬ ∃ ds, d = .list ds
    · have no : famD n d = false := by
        cases d <;> first | rfl | exact absurd ⟨_, rfl⟩ isl
      have q := k H .refl
      rw [no] at q
      refine ⟨_, rfl, _, _, _, _, false, rfl, .ty "list", dd_ty hd, kit_ty ?_, false, rfl, iteT q⟩
      cases d <;> first | exact absurd ⟨_, rfl⟩ isl | (simp only [tyName]; decide +kernel)
    obtain ⟨ds, rfl⟩ := Classical.not_not.mp isl
    obtain ⟨a, xs, rfl, hS, hA⟩ := dd_list hd
    have len := DpAll.len hA
    obtain ⟨dl, lay⟩ := fin ds rfl
    refine ⟨_, rfl, _, _, _, _, true, rfl, .ty "list", ty_list hS, kit_ty (by decide +kernel), true, rfl, ?_⟩
    refine iteF ⟨_, rfl, a, _, rfl, .inl hS, _, _, rfl, rfl, _, rfl, ?_⟩
    by_cases big : (19 : Int) < (ds.length : Int)
    · rw [len, decide_eq_true big]
      have q := k H .refl
      rw [fam_long (by omega)] at q
      exact iteT q
    rw [len, decide_eq_false big]
    have l19 : ds.length ≤ 19 := by omega
    refine iteF ⟨_, rfl, a, _, rfl, hS, for_enumL (K := K) (a := a) (xs := xs) (fun i σ G => ∃ (o2 o3 : Option V), σ = [some (.int n), some (.ref a), o2, o3, none, none] ∧ Grows H G ∧ Good n (ds.take i))
      ⟨_, _, rfl, .refl, ⟨(fun _ h => nomatch h), List.nodup_nil, .nil⟩⟩ (fun i σ G ⟨o2, o3, e, g, gd⟩ => g.seq hS) (fun i x t σ G hx ⟨o2, o3, e, g, gd⟩ ht => ?_) fun σ G ⟨o2, o3, e, g, gd⟩ => ?_⟩
    rotate_left
    · subst e
      rw [len, List.take_length] at gd
      have q := k G g
      rw [(fam_yes l19).mpr gd] at q
      exact q
    subst e
    obtain ⟨d, hdi, hdx⟩ := DpAll.at hA hx
    obtain ⟨c0, c1, c2⟩ := lay d (List.mem_of_getElem? hdi)
    have nx := take_nextD hdi
    have gt := g.trans (Grows.new (o := .tup [.int (i : Nat), x]) ht)
    obtain ⟨G1, eG1⟩ : ∃ G1, G1 = upd G t (.tup [.int (i : Nat), x]) := ⟨_, rfl⟩
    have at_t : G1 t = some (.tup [.int (i : Nat), x]) := by
      rw [eG1]
      exact upd_same
    rw [← eG1] at gt ⊢
    have il : i < ds.length := (List.getElem?_eq_some_iff.mp hdi).1
    have not : ∀ G2, Grows H G2 → ¬ Good n (ds.take (i + 1)) → Q (.bl false) G2 := fun G2 g2 z => by
      have q := k G2 g2
      rw [fam_not l19 fun y => z (good_take y _)] at q
      exact q
    have bad : ∀ G2, Grows H G2 → grpD n d = false → Q (.bl false) G2 := fun G2 g2 z => not G2 g2 fun y => by
      rw [nx] at y
      rw [y.last.1] at z
      cases z
    refine ⟨t, _, rfl, SqT.of at_t, rfl, _, _, rfl, _, _, rfl, rfl, ?_⟩
    have hd1 : Dp K G1 x d := Dp.grow gt hdx
    by_cases isl : ¬ ∃ ds, d = .list ds
    · have no : grpD n d = false := by
        cases d <;> first | rfl | exact absurd ⟨_, rfl⟩ isl
      refine ⟨_, rfl, _, _, _, _, false, rfl, .ty "list", dd_ty (.inl hd1), kit_ty ?_, false, rfl, iteT (bad _ gt no)⟩
      cases d <;> first | exact absurd ⟨_, rfl⟩ isl | (simp only [tyName]; decide +kernel)
    obtain ⟨es, rfl⟩ := Classical.not_not.mp isl
    obtain ⟨b, ys, rfl, hB, hE⟩ := dd_list (.inl hd1)
    have lenE := DpAll.len hE
    have esl := c2 es rfl
    refine ⟨_, rfl, _, _, _, _, true, rfl, .ty "list", ty_list hB, kit_ty (by decide +kernel), true, rfl, ?_⟩
    refine iteF ⟨_, rfl, b, _, rfl, .inl hB, _, _, rfl, rfl, _, rfl, ?_⟩
    by_cases two : (es.length : Int) < 2
    · rw [lenE, decide_eq_true two]
      refine iteT (bad _ gt ?_)
      rw [grpD_list, decide_eq_false (by omega), Bool.and_false]
    rw [lenE, decide_eq_false two]
    refine iteF ⟨_, rfl, _, rfl, _, rfl, (i : Int), rfl, a, xs, rfl, gt.seq hS, fun p hp => ?_⟩
    rw [cut_take xs (Int.natCast_nonneg i), Int.toNat_natCast]
    have g2 := gt.trans (Grows.new (o := .lst (xs.take i)) hp)
    obtain ⟨G2, eG2⟩ : ∃ G2, G2 = upd G1 p (.lst (xs.take i)) := ⟨_, rfl⟩
    have at_p : G2 p = some (.lst (xs.take i)) := by
      rw [eG2]
      exact upd_same
    have g12 : Grows G1 G2 := by
      rw [eG2]
      exact Grows.new hp
    rw [← eG2] at g2 ⊢
    have hT := dp_take i (DpAll.grow g2 hA)
    have sh : SeqAt.shaped (.list (ds.take i)) = true := shaped_all fun e he => ⟨(lay e (List.mem_of_mem_take he)).1, (lay e (List.mem_of_mem_take he)).2.1⟩
    have she : SeqAt.shaped (.list es) = true := by
      unfold SeqAt.shaped
      rw [c0, decide_eq_true (show (PyData.list es).depth ≤ 64 by omega)]
      rfl
    refine ⟨.list es, ds.take i, Dp.grow g12 hd1, .lst (SqL.of at_p) hT, she, sh, _, rfl, ?_⟩
    by_cases hin : ((ds.take i).any fun z => PyData.eqv z (.list es)) = true
    · rw [hin]
      refine iteT (not _ g2 fun y => ?_)
      rw [nx] at y
      obtain ⟨y1, y2, _⟩ := y.last
      rw [any_row gd.1 y1, decide_eq_true_eq] at hin
      exact y2 hin
    rw [Bool.eq_false_iff.mpr hin]
    have hB2 := g12.seq hB
    have hE2 := DpAll.grow g12 hE
    refine iteF ⟨_, rfl, b, rfl, ⟨_, hB2⟩, fun D hD => lc_listT (K := K) (fun j => !persD n (es.getD j .none)) (fun _ => V.int 1) hD hB2 (by omega) (fun j y G3 Ry Rn hy sm kY kN => ?_) fun G3 s3 eD => ?_⟩
    · have jl := (List.getElem?_eq_some_iff.mp hy).1
      obtain ⟨e, he, hey⟩ := DpAll.at hE2 hy
      have ed : es.getD j .none = e := by rw [List.getD_eq_getElem?_getD, he]; rfl
      rw [ed] at kY kN
      have tx := dd_ty (.inl (Dp.grow sm hey))
      have other : (∀ v, e ≠ .int v) → (∀ v, e ≠ .bool v) → kitB (tyName e) "int" = some false ∧ persD n e = false := fun h1 h2 => by
        cases e with
        | int v => exact absurd rfl (h1 v)
        | bool v => exact absurd rfl (h2 v)
        | none => exact ⟨by simp only [tyName]; decide +kernel, rfl⟩
        | str v => exact ⟨by simp only [tyName]; decide +kernel, rfl⟩
        | list v => exact ⟨by simp only [tyName]; decide +kernel, rfl⟩
        | tuple v => exact ⟨by simp only [tyName]; decide +kernel, rfl⟩
        | dict v => exact ⟨by simp only [tyName]; decide +kernel, rfl⟩
      by_cases hb : ∃ v, e = .bool v
      · obtain ⟨v, rfl⟩ := hb
        have tb : TyX K G3 y (.type "bool") := tx
        exact ⟨rfl, _, rfl, _, _, _, _, true, rfl, .ty "int", tb, kit_ty (by decide +kernel), true, rfl, iteF ⟨_, rfl, _, _, _, _, true, rfl, .ty "bool", tb, kit_ty (by decide +kernel), true, rfl, iteT (iteT (kY rfl _ .refl))⟩⟩
      · by_cases hi : ∃ v, e = .int v
        · obtain ⟨v, rfl⟩ := hi
          have ti : TyX K G3 y (.type "int") := tx
          cases hey
          refine ⟨rfl, _, rfl, _, _, _, _, true, rfl, .ty "int", ti, kit_ty (by decide +kernel), true, rfl, iteF ⟨_, rfl, _, _, _, _, false, rfl, .ty "bool", ti, kit_ty (by decide +kernel), false, rfl, iteF ⟨_, rfl, _, _, rfl, rfl, _, rfl, ?_⟩⟩⟩
          have pv : persD n (.int v) = (decide (0 ≤ v) && decide (v < n)) := rfl
          rw [pv] at kY kN
          by_cases v0 : 0 ≤ v
          · rw [decide_eq_true v0, Bool.true_and] at kY kN
            rw [if_pos (decide_eq_true v0)]
            refine ⟨_, rfl, _, _, rfl, rfl, _, rfl, ?_⟩
            by_cases v1 : v < n
            · rw [decide_eq_true v1] at kN ⊢
              exact iteF (kN rfl _ .refl)
            · rw [decide_eq_false v1] at kY ⊢
              exact iteT (kY rfl _ .refl)
          · rw [decide_eq_false v0, Bool.false_and] at kY
            rw [decide_eq_false v0]
            exact iteF ⟨_, rfl, iteT (kY rfl _ .refl)⟩
        · obtain ⟨o1, o2⟩ := other (fun v z => hi ⟨v, z⟩) (fun v z => hb ⟨v, z⟩)
          exact ⟨rfl, _, rfl, _, _, _, _, false, rfl, .ty "int", tx, kit_ty o1, false, rfl, iteT (iteT (kY (by rw [o2]; rfl) _ .refl))⟩
    rw [lenE] at eD
    unfold kept at eD
    obtain ⟨is, eis⟩ : ∃ is, is = (List.range es.length).filter fun j => !persD n (es.getD j .none) := ⟨_, rfl⟩
    rw [← eis] at eD
    refine ⟨(by show 0 ≤ sizeLine; decide), fun n0 hn0 => ?_⟩
    have gn : Grows G3 (upd G3 n0 (.lst [])) := Grows.new hn0
    have g4 := (g2.trans s3).trans gn
    refine ⟨.list (is.map fun _ => .int 1), .list [], .lst (SqL.of (gn _ _ eD)) (dp_map is fun _ _ => .int 1), .lst (SqL.of upd_same) .nil, shaped_all (fun e he => ?_), shaped_all (fun _ h => nomatch h), _, rfl, ?_⟩
    · obtain ⟨_, _, rfl⟩ := List.mem_map.mp he
      exact ⟨by simp only [PyData.canLay0], by simp only [PyData.depth]; omega⟩
    rw [eqv_nil]
    have nil_iff : is = [] ↔ es.all (persD n) = true := by
      rw [← all_at PyData.none (persD n) es, eis, List.filter_eq_nil_iff, List.all_eq_true]
      refine forall_congr' fun j => forall_congr' fun _ => ?_
      cases persD n (es.getD j .none) <;> simp
    by_cases hall : es.all (persD n) = true
    rotate_left
    · rw [decide_eq_false fun z => hall (nil_iff.mp (List.map_eq_nil_iff.mp z))]
      refine iteT (bad _ g4 ?_)
      rw [grpD_list, plistD_list, Bool.eq_false_iff.mpr hall, Bool.false_and, Bool.false_and]
    rw [decide_eq_true (List.map_eq_nil_iff.mpr (nil_iff.mpr hall))]
    refine iteF ?_
    obtain ⟨G4, eG4⟩ : ∃ G4, G4 = upd G3 n0 (.lst []) := ⟨_, rfl⟩
    rw [← eG4] at g4 gn ⊢
    have allI : ∀ d ∈ es, d = .int (toI d) := fun d hd => (pers_ok (List.all_eq_true.mp hall d hd)).1
    obtain ⟨ns, ens⟩ : ∃ ns, ns = es.map toI := ⟨_, rfl⟩
    have ei := ints_of hE allI
    rw [← ens] at ei
    have g34 := (g12.trans s3).trans gn
    have hN : SqL K G4 b (ns.map V.int) := by
      rw [← ei]
      exact g34.seq hB
    have nl : ns.length = es.length := by rw [ens, List.length_map]
    have er : toR (.list es) = ns := by rw [ens]; rfl
    refine ⟨_, rfl, b, ns, rfl, hN, by omega, fun p2 m hp2 hm => ⟨p2, _, m, rfl, upd_same, by omega, fun out r up mem lm hr2 => ?_⟩⟩
    have gA := (Grows.new (o := SetO w p2 (fun j => decide (j ∈ ns)) m) hp2).trans (Grows.new (o := .lst (out.map V.int)) hr2)
    have g5 := g4.trans gA
    have eo : decide (out = ns) = decide (ns.Pairwise (· < ·)) := decide_eq_decide.mpr ⟨fun e => by rw [← e]; exact up, fun e => (up_ext e up fun z => ((mem z).trans decide_eq_true_iff).symm).symm⟩
    refine ⟨_, rfl, .list (out.map .int), .list (ns.map .int), .lst (SqL.of upd_same) (rows_dp out), .lst (gA.seq hN) (rows_dp ns), shaped_ints _, shaped_ints _, _, rfl, ?_⟩
    rw [eqv_ints, eo]
    by_cases asc : ns.Pairwise (· < ·)
    rotate_left
    · rw [decide_eq_false asc]
      refine iteT (bad _ g5 ?_)
      rw [grpD_list, plistD_list, ← ens]
      have : ascI ns = false := Bool.eq_false_iff.mpr fun z => asc (asc_step.mp z)
      rw [this, Bool.and_false, Bool.false_and]
    rw [decide_eq_true asc]
    have hg : grpD n (.list es) = true := by
      rw [grpD_list, plistD_list, ← ens, hall, asc_step.mpr asc, decide_eq_true (show (2 : Int) ≤ (es.length : Int) by omega)]
      rfl
    have hN5 := gA.seq hN
    refine iteF ⟨_, rfl, _, rfl, (i : Int), rfl, a, xs, rfl, g5.seq hS, fun q hq => ?_⟩
    rw [cut_take xs (Int.natCast_nonneg i), Int.toNat_natCast]
    have gq := Grows.new (o := .lst (xs.take i)) hq
    have g6 := g5.trans gq
    have hT6 := dp_take i (DpAll.grow g6 hA)
    have tl : (ds.take i).length = i := by
      rw [List.length_take]
      omega
    have tx : (xs.take i).length = i := by rw [DpAll.len hT, tl]
    refine ⟨q, rfl, ⟨_, SqL.of upd_same⟩, fun D2 hD2 => lc_listT (K := K) (fun j => crossL (toR ((ds.take i).getD j .none)) ns) (fun j => (xs.take i).getD j .non) hD2 (SqL.of upd_same) (by omega) (fun j y G7 Ry Rn hy sm kY kN => ?_) fun G7 s7 e7 => ?_⟩
    · obtain ⟨e, he, hey⟩ := DpAll.at hT6 hy
      have ed : (ds.take i).getD j .none = e := by rw [List.getD_eq_getElem?_getD, he]; rfl
      have ex : (xs.take i).getD j .non = y := by rw [List.getD_eq_getElem?_getD, hy]; rfl
      rw [ed] at kY kN
      rw [ex] at kY
      have ge := gd.1 e (List.mem_of_getElem? he)
      have e1 := (grp_ok ge).1
      obtain ⟨es2, e2, hi2⟩ := grp_list ge
      subst e2
      obtain ⟨c, zs, rfl, hc, hz⟩ := dd_list (.inl (Dp.grow sm hey))
      have ez := ints_of hz hi2
      have e3 : toR (.list es2) = es2.map toI := rfl
      rw [ez] at hc
      rw [e3] at kY kN
      have l2 := (lay _ (List.mem_of_mem_take (List.mem_of_getElem? he))).2.2 es2 rfl
      refine ⟨rfl, _, rfl, _, rfl, c, b, es2.map toI, ns, rfl, hc, (gq.trans sm).seq hN5, by rw [List.length_map]; omega, fun H8 g8 => ?_⟩
      refine ⟨_, rfl, ?_⟩
      cases hx2 : crossL (es2.map toI) ns with
      | true => exact iteT ⟨_, rfl, kY hx2 _ g8⟩
      | false => exact iteF (kN hx2 _ g8)
    · rw [tx] at e7
      unfold kept at e7
      obtain ⟨js, ejs⟩ : ∃ js, js = (List.range i).filter fun j => crossL (toR ((ds.take i).getD j .none)) ns := ⟨_, rfl⟩
      rw [← ejs] at e7
      refine ⟨(by show 0 ≤ sizeLine; decide), fun n1 hn1 => ?_⟩
      have g8 := (g6.trans s7).trans (Grows.new (o := .lst []) hn1)
      have g78 := s7.trans (Grows.new (o := .lst []) hn1)
      have hT8 := DpAll.grow g78 hT6
      have inr : ∀ j ∈ js, j < i := fun j hj => by
        rw [ejs] at hj
        exact List.mem_range.mp (List.mem_filter.mp hj).1
      refine ⟨.list (js.map fun j => (ds.take i).getD j .none), .list [], .lst (SqL.of ((Grows.new (o := .lst []) hn1) _ _ e7)) (dp_map js fun j hj => dp_grow_at hT8 (by rw [tl]; exact inr j hj)), .lst (SqL.of upd_same) .nil, shaped_all (fun e he => ?_), shaped_all (fun _ h => nomatch h), _, rfl, ?_⟩
      · obtain ⟨j, hj, rfl⟩ := List.mem_map.mp he
        have jl := inr j hj
        have m : (ds.take i).getD j .none ∈ ds := by
          rw [List.getD_eq_getElem?_getD, List.getElem?_eq_getElem (by rw [tl]; exact jl)]
          exact List.mem_of_mem_take (List.getElem_mem _)
        exact ⟨(lay _ m).1, (lay _ m).2.1⟩
      rw [eqv_nil]
      by_cases hj : js = []
      · rw [decide_eq_true (List.map_eq_nil_iff.mpr hj)]
        refine iteF ⟨_, _, rfl, g8, ?_⟩
        rw [nx]
        refine gd.step hg (fun z => ?_) fun r hr3 => ?_
        · rw [any_row gd.1 hg] at hin
          exact hin (decide_eq_true z)
        · obtain ⟨e, he, rfl⟩ := List.mem_map.mp hr3
          obtain ⟨j, jl, ej⟩ := List.getElem_of_mem he
          rw [ejs, List.filter_eq_nil_iff] at hj
          have q := hj j (List.mem_range.mpr (by rw [tl] at jl; exact jl))
          rw [List.getD_eq_getElem?_getD, List.getElem?_eq_getElem jl, ej] at q
          rw [er]
          exact Bool.eq_false_iff.mpr q
      · rw [decide_eq_false fun z => hj (List.map_eq_nil_iff.mp z)]
        refine iteT (not _ g8 fun y => ?_)
        rw [nx] at y
        obtain ⟨j, hj2⟩ := List.exists_mem_of_ne_nil _ hj
        rw [ejs] at hj2
        obtain ⟨h1, h2⟩ := List.mem_filter.mp hj2
        have jl := List.mem_range.mp h1
        have q := y.last.2.2 (toR ((ds.take i).getD j .none)) (List.mem_map.mpr ⟨_, by
          rw [List.getD_eq_getElem?_getD, List.getElem?_eq_getElem (by rw [tl]; exact jl)]
          exact List.getElem_mem _, rfl⟩)
        rw [er, h2] at q
        cases q
end
end K32

namespace K32
open PySem PySem.Spec PyProof.Rows L2 SortR LcM RepA
structure Tx (n w : Nat) (d : PyData) : Prop where
  sh : d.showable = true
  dp : d.depth ≤ n
  lv : PyData.leavesShort 40 d = true
  wt : d.weight ≤ w
theorem Tx.le {n w m v : Nat} {d : PyData} (h : Tx n w d) (a : n ≤ m) (b : w ≤ v) : Tx m v d := ⟨h.sh, Nat.le_trans h.dp a, h.lv, Nat.le_trans h.wt b⟩
theorem dp_mem {K : PySem.W.Frag} {H : Hp} : ∀ {xs : List L2.V} {ds : List PyData}, DpAll K H xs ds → ∀ x ∈ xs, ∃ d ∈ ds, Dp K H x d
  | _, _, .nil, _, h => nomatch h
  | _, _, .cons a b, x, h => by
    rcases List.mem_cons.mp h with e | e
    · rw [e]
      exact ⟨_, List.mem_cons_self, a⟩
    · obtain ⟨d, hd, q⟩ := dp_mem b x e
      exact ⟨d, List.mem_cons_of_mem _ hd, q⟩
/-! ### texts that are not too long -/
def txB (n w : Nat) (d : PyData) : Bool := d.showable && decide (d.depth ≤ n) && PyData.leavesShort 40 d && decide (d.weight ≤ w)
theorem tx_of {n w : Nat} {d : PyData} (h : txB n w d = true) : Tx n w d := by
  unfold txB at h
  simp only [Bool.and_eq_true, decide_eq_true_eq] at h
  exact ⟨h.1.1.1, h.1.1.2, h.1.2, h.2⟩
theorem tx_all {n w : Nat} : ∀ ds : List PyData, (∀ d ∈ ds, Tx n w d) → PyData.showableAll ds = true ∧ PyData.depthAll ds ≤ n ∧ PyData.leavesShortAll 40 ds = true ∧ PyData.weightAll ds ≤ ds.length * (w + 1)
  | [], _ => by simp only [PyData.showableAll, PyData.depthAll, PyData.leavesShortAll, PyData.weightAll]; exact ⟨trivial, Nat.zero_le _, trivial, Nat.zero_le _⟩
  | d :: ds, h => by
    obtain ⟨a1, a3, a4, a5⟩ := tx_all ds fun e m => h e (List.mem_cons_of_mem _ m)
    obtain ⟨b1, b3, b4, b5⟩ := h d List.mem_cons_self
    refine ⟨?_, ?_, ?_, ?_⟩
    · simp only [PyData.showableAll, a1, b1, Bool.and_self]
    · simp only [PyData.depthAll]; omega
    · simp only [PyData.leavesShortAll, a4, b4, Bool.and_self]
    · simp only [PyData.weightAll, List.length_cons]
      rw [Nat.add_mul]
      omega
theorem tx_list {n w m : Nat} {ds : List PyData} (h : ∀ d ∈ ds, Tx n w d) (l : ds.length ≤ m) : Tx (n + 1) (m * (w + 1)) (.list ds) := by
  obtain ⟨a1, a3, a4, a5⟩ := tx_all ds h
  refine ⟨?_, ?_, ?_, ?_⟩
  · simp only [PyData.showable, a1]
  · simp only [PyData.depth]; omega
  · simp only [PyData.leavesShort, a4]
  · simp only [PyData.weight]; exact Nat.le_trans a5 (Nat.mul_le_mul_right _ l)
theorem tx_tuple {n w m : Nat} {ds : List PyData} (h : ∀ d ∈ ds, Tx n w d) (l : ds.length ≤ m) : Tx (n + 1) (m * (w + 1)) (.tuple ds) := by
  obtain ⟨a1, a3, a4, a5⟩ := tx_all ds h
  refine ⟨?_, ?_, ?_, ?_⟩
  · simp only [PyData.showable, a1]
  · simp only [PyData.depth]; omega
  · simp only [PyData.leavesShort, a4]
  · simp only [PyData.weight]; exact Nat.le_trans a5 (Nat.mul_le_mul_right _ l)
theorem tx_int {i : Int} (h : i.natAbs < 10 ^ 12) : Tx 0 110 (.int i) := by
  have s := show_ints [i] (fun x hx => by rw [List.mem_singleton.mp hx]; exact h)
  have w := weight_ints [i] (fun x hx => by rw [List.mem_singleton.mp hx]; exact h)
  have l := PyData.intsShortAll_ints [i] (fun x hx => by rw [List.mem_singleton.mp hx]; exact h)
  refine ⟨?_, ?_, ?_, ?_⟩
  · simpa [PyData.showableAll] using s
  · simp only [PyData.depth]; omega
  · have l2 : PyData.intsShort 13 (.int i) = true := by simpa [PyData.intsShortAll] using l
    have l3 := PyData.leavesShort_of_canLay0 13 (.int i) (by simp only [PyData.canLay0]) l2
    rw [PyData.leavesShort] at l3 ⊢
    exact decide_eq_true (Nat.le_trans (of_decide_eq_true l3) (by decide))
  · simp only [List.map_cons, List.map_nil, PyData.weightAll, List.length_cons, List.length_nil] at w
    omega
/-- rows of persons -/
abbrev rowD (r : List Int) : PyData := .list (r.map .int)
abbrev rowsD (rs : List (List Int)) : List PyData := rs.map rowD
def Sm (r : List Int) : Prop := r.length ≤ 25 ∧ ∀ x ∈ r, 0 ≤ x ∧ x ≤ 1000
theorem tx_row {r : List Int} (h : Sm r) : Tx 1 2775 (rowD r) := tx_list (n := 0) (w := 110) (m := 25) (fun d hd => by
  obtain ⟨x, hx, rfl⟩ := List.mem_map.mp hd
  have := h.2 x hx
  exact tx_int (by omega)) (by rw [List.length_map]; exact h.1)
theorem tx_rows {rs : List (List Int)} {m : Nat} (h : ∀ r ∈ rs, Sm r) (l : rs.length ≤ m) : Tx 2 (m * 2776) (.list (rowsD rs)) := tx_list (n := 1) (w := 2775) (m := m) (fun d hd => by
  obtain ⟨r, hr, rfl⟩ := List.mem_map.mp hd
  exact tx_row (h r hr)) (by rw [List.length_map]; exact l)
theorem tx_shown {d : PyData} (h : Tx 20 100000 d) : d.shown.length ≤ sizeLine := by
  have q := PyData.shown_le 40 (by decide) d h.lv
  have w := h.wt
  rw [sizeLine_eq]
  omega
/-- repr of data that are not too long -/
def rReprD (K : PySem.W.Frag) : List V → Hp → VK → Prop := fun xs H Q => ∃ (x : V) (d : PyData), xs = [x] ∧ Dd K H x d ∧ Tx 20 100000 d ∧ Q (.str d.shown) H
theorem cr_reprD {X : Cx} (hg : X.A.guards = some []) (hu : X.A.units + 64 < cLine) : CallR X (.builtin "repr") (rReprD X.K) := by
  intro pins s σ H xs us Q I r h
  obtain ⟨x, d, e, hd, tx, q⟩ := h
  exact call_reprV hg hu pins s σ H xs us Q I r ⟨x, d, e, .inl hd, tx.sh, Nat.le_trans tx.dp (by decide), tx_shown tx, q⟩
theorem tx_big {n w : Nat} {d : PyData} (h : Tx n w d) (a : n ≤ 20) (b : w ≤ 100000) : Tx 20 100000 d := h.le a b
/-- a tuple of two ints that stands -/
theorem dp_two {K : PySem.W.Frag} {H : Hp} {t : Addr} {u v : Int} (h : H t = some (.tup [.int u, .int v])) : Dp K H (.ref t) (.tuple [.int u, .int v]) := .tup (SqT.of h) (.cons (.int u) (.cons (.int v) .nil))
theorem tx_two {u v : Int} (a : u.natAbs < 10 ^ 12) (b : v.natAbs < 10 ^ 12) : Tx 20 100000 (.tuple [.int u, .int v]) :=
  tx_big (tx_tuple (n := 0) (w := 110) (m := 2) (fun d hd => by
    rcases List.mem_cons.mp hd with e | e
    · rw [e]
      exact tx_int a
    · rw [List.mem_singleton.mp e]
      exact tx_int b) (Nat.le_refl 2)) (by decide) (by decide)
end K32

namespace K32
open PySem PySem.Spec PyProof.Rows L2 SortR LcM RepA
abbrev sShr : Stmt := top 43
/-- how many choices of k among n, as the law counts them -/
def wy (n : Int) : Nat → Int
  | 0 => 1
  | i + 1 => wy n i * (n - (i : Int)) / ((i : Int) + 1)
def dueS (n m : Int) : Int × Int := if m < n then low (2 * n) (m * (m + 1) * wy n m.toNat) else (1, 1)
def shOk (n m : Nat) : Bool := decide (1 ≤ (m : Int) * ((m : Int) + 1) * wy n m) && decide ((m : Int) * ((m : Int) + 1) * wy n m < 2 ^ 100) && decide (dueS n m = hsI n m) && decide ((hsI n m).1.natAbs < 10 ^ 12) && decide ((hsI n m).2.natAbs < 10 ^ 12)
theorem sh_all : ((List.range 21).all fun n => (List.range (n + 1)).all fun m => decide (m < 2) || shOk n m) = true := by decide +kernel
theorem sh_ok {n m : Nat} (h1 : n ≤ 20) (h2 : m ≤ n) (h3 : 2 ≤ m) : 1 ≤ (m : Int) * ((m : Int) + 1) * wy n m ∧ (m : Int) * ((m : Int) + 1) * wy n m < 2 ^ 100 ∧ dueS n m = hsI n m ∧ (hsI n m).1.natAbs < 10 ^ 12 ∧ (hsI n m).2.natAbs < 10 ^ 12 := by
  have z := List.all_eq_true.mp (List.all_eq_true.mp sh_all n (List.mem_range.mpr (by omega))) m (List.mem_range.mpr (by omega))
  rw [Bool.or_eq_true, decide_eq_true_eq] at z
  rcases z with z | z
  · omega
  · unfold shOk at z
    simp only [Bool.and_eq_true, decide_eq_true_eq] at z
    obtain ⟨⟨⟨⟨a, b⟩, c⟩, d⟩, e⟩ := z
    exact ⟨a, b, c, d, e⟩
def spShr (K : PySem.W.Frag) : Sp := fun vs H Q _ => ∃ (n : Nat) (a : Addr) (bs : List (Addr × List Int)), vs = [.int (n : Int), .ref a] ∧ 1 ≤ n ∧ n ≤ 20 ∧ Rw K H a bs ∧ (∀ b ∈ bs, group n b.2 = true ∧ b.2.length ≤ n) ∧ ∀ H', Grows H H' → Q (.bl true) H'
section
variable {P : Program} {w : World} {K : PySem.W.Frag} {mg : Str → Option Value} {base : Heap}
theorem scShr : FnScope ["many_here", "lot", "row", "wide", "ways", "turn", "due"] ["many_here", "lot"] (defScope sShr) := ⟨rfl, rfl, rfl, by decide +kernel, rfl, by decide +kernel, by decide +kernel⟩
theorem ok_shr {f fL : Addr} {fd dL : FuncData} (F : Fun K "_law_shares_right" "_law_shares_right" sShr f fd) (Z : ProgF K mg) (T : TxtP mg) (gRepr : mg "repr" = none) (U : FmF K mg) (FLow : Fun K "_law_lowest" "_law_lowest" sLow fL dL) (gLow : mg "_law_lowest" = some (.ref fL)) (bLow : Binds K dL ["top", "bottom"] []) : FnG P w K mg base CX0 6 f fd ["many_here", "lot"] (spShr K) := by
  have GLow := ok_low (P := P) (w := w) (base := base) FLow T
  have GHS := ok_hs (P := P) (w := w) (base := base) Z T U
  refine okG F scShr (fun vs H Q E h => ?_) (fun cdv A outer s H vs Q E hr noG h => ?_)
  · obtain ⟨n, a, bs, rfl, _⟩ := h
    rfl
  · obtain ⟨n, a, bs, rfl, n1, n2, hB, hg, k⟩ := h
    refine ⟨_, (pss_cons (ps_for PassesOwn.never rfl (pi_list (pv 1)) (pg_name (i := 2) scShr.nd rfl (.inl rfl))
      (pss_cons (ps_par (i := 3) (j := 4) (by rfl) scShr.nd rfl rfl (by decide) rfl rfl (pa_cons (pe_callB call_len_seq (by rfl) T.len (by decide +kernel) (pa_cons (pv 2) pa_nil)) (pa_cons pe_int pa_nil)) (by rfl))
      (pss_cons (ps_for PassesOwn.never rfl (pi_range1 (by rfl) T.range (pa_cons (pv 3) pa_nil)) (pg_name (i := 5) scShr.nd rfl (.inl rfl))
      (pss_one (ps_set (i := 4) scShr.nd rfl (.inl rfl) (pe_op op_fdivW (pe_op op_mul (pv 4) (pe_op op_sub (pv 0) (pv 5))) (pe_op op_add (pv 5) pe_int)))))
      (pss_cons (ps_set (i := 6) scShr.nd rfl (.inl rfl) (pe_ifExp (pt_cmpR op_lt (pv 3) (pv 0) (nomark _)) (pe_call GLow (hr.mono (by decide)) rfl gLow FLow.kp bLow .nil pass0 (pa_cons (pe_op op_mul pe_int (pv 0)) (pa_cons (pe_op op_mul (pe_op op_mul (pv 3) (pe_op op_add (pv 3) pe_int)) (pv 4)) pa_nil))) (pe_tup (pa_cons pe_int (pa_cons pe_int pa_nil)))))
      (pss_one (ps_if (pt_cmpR op_ne (pe_callB (id := "repr") (r := rReprD K) (by exact cr_reprD noG hr.units) (by rfl) gRepr (by decide +kernel) (pa_cons (pe_call GHS (hr.mono (by decide)) rfl U.gHS U.FHS.kp U.bHS .nil pass0 (pa_cons (pv 0) (pa_cons (pv 2) pa_nil))) pa_nil)) (pe_callB (id := "repr") (r := rReprD K) (by exact cr_reprD noG hr.units) (by rfl) gRepr (by decide +kernel) (pa_cons (pv 6) pa_nil)) (nomark _)) (pss_one (ps_ret pe_bl)) pss_nil))))))
      (pss_one (ps_ret pe_bl))), ?_⟩
    refine ⟨_, rfl, a, rfl, ⟨_, hB.top⟩, for_list (K := K) (xs := bs.map fun b => L2.V.ref b.1) (fun i σ G => ∃ o2 o3 o4 o5 o6, σ = [some (.int (n : Int)), some (.ref a), o2, o3, o4, o5, o6] ∧ Grows H G)
      ⟨_, _, _, _, _, rfl, .refl⟩ (fun i σ G _ ⟨o2, o3, o4, o5, o6, e, g⟩ => g.seq hB.top) (fun i x σ G hx ⟨o2, o3, o4, o5, o6, e, g⟩ => ?_) fun σ G ⟨o2, o3, o4, o5, o6, e, g⟩ => ?_⟩
    · subst e
      rw [List.getElem?_map] at hx
      obtain ⟨b, hb, rfl⟩ := Option.map_eq_some_iff.mp hx
      have mb := List.mem_of_getElem? hb
      obtain ⟨g1, g2⟩ := hg b mb
      have two := group_sz g1
      obtain ⟨y1, y2, y3, y4, y5⟩ := sh_ok n2 g2 (by omega)
      have hb1 := g.seq (hB.each b mb)
      refine ⟨_, rfl, b.1, _, rfl, .inl hb1, _, _, rfl, ?_⟩
      rw [List.length_map]
      generalize hm : b.2.length = m at g2 two y1 y2 y3 y4 y5
      show tSeq _ _ _ [some (.int (n : Int)), some (.ref a), some (.ref b.1), some (.int (m : Int)), some (.int 1), o5, o6] G
      refine ⟨_, rfl, (m : Int), rfl, by omega, by omega, for_range (lo := 0) (n := (m : Int).toNat) (fun j σ G2 => ∃ o5, σ = [some (.int (n : Int)), some (.ref a), some (.ref b.1), some (.int (m : Int)), some (.int (wy n j)), o5, o6] ∧ G2 = G)
        ⟨_, rfl, rfl⟩ (fun j σ G2 jl ⟨o5, e, eg⟩ => ?_) fun σ G2 ⟨o5, e, eg⟩ => ?_⟩
      · subst e
        subst eg
        have c : CDivW (wy n j * ((n : Int) - (j : Int))) ((j : Int) + 1) := wide_div (b := 10) (by omega) (by omega) (by decide) (by decide)
        refine ⟨_, rfl, _, rfl, _, rfl, _, _, rfl, rfl, _, _, rfl, rfl, .inr ⟨by omega, by omega⟩, _, rfl, _, _, rfl, rfl, _, _, rfl, rfl, ?_, some (.int (0 + (j : Int))), ?_, rfl⟩
        · rw [Int.zero_add]
          exact c
        · show [some (L2.V.int (n : Int)), some (.ref a), some (.ref b.1), some (.int (m : Int)), some (.int (wy n j * ((n : Int) - (0 + (j : Int))) / (0 + (j : Int) + 1))), some (.int (0 + (j : Int))), o6] = _
          rw [Int.zero_add]
          rfl
      · subst e
        subst eg
        rw [Int.toNat_natCast]
        refine ⟨_, rfl, _, rfl, _, _, rfl, rfl, _, rfl, ?_⟩
        have et0 : dueS n m = if (m : Int) < (n : Int) then low (2 * (n : Int)) ((m : Int) * ((m : Int) + 1) * wy n m) else (1, 1) := rfl
        by_cases lt : (m : Int) < (n : Int)
        · rw [if_pos lt] at et0
          rw [decide_eq_true lt]
          have q : 0 ≤ (m : Int) * ((m : Int) + 1) ∧ (m : Int) * ((m : Int) + 1) ≤ 20 * 21 := ⟨Int.mul_nonneg (by omega) (by omega), Int.mul_le_mul (by omega) (by omega) (by omega) (by decide)⟩
          refine iteT ⟨_, rfl, _, _, rfl, rfl, .inl ⟨by decide, by decide⟩, _, rfl, _, rfl, _, _, rfl, rfl, _, _, rfl, rfl, .inl ⟨by omega, by omega⟩, _, rfl, _, _, rfl, rfl, .inl ⟨by omega, by omega⟩, _, _, rfl, by omega, y1, by omega, by omega, fun t ht => ?_⟩
          have gt := Grows.new (o := .tup [.int (low (2 * (n : Int)) ((m : Int) * ((m : Int) + 1) * wy n m)).1, .int (low (2 * (n : Int)) ((m : Int) * ((m : Int) + 1) * wy n m)).2]) ht
          have et : upd G2 t (.tup [.int (low (2 * (n : Int)) ((m : Int) * ((m : Int) + 1) * wy n m)).1, .int (low (2 * (n : Int)) ((m : Int) * ((m : Int) + 1) * wy n m)).2]) t = some (.tup [.int (hsI n m).1, .int (hsI n m).2]) := by
            rw [upd_same, ← et0, y3]
          generalize upd G2 t (.tup [.int (low (2 * (n : Int)) ((m : Int) * ((m : Int) + 1) * wy n m)).1, .int (low (2 * (n : Int)) ((m : Int) * ((m : Int) + 1) * wy n m)).2]) = G3 at gt et ⊢
          refine ⟨_, rfl, _, rfl, (n : Int), b.1, b.2, rfl, by omega, by omega, gt.seq hb1, by omega, g1, by omega, by omega, fun t2 G4 g4 ht2 => ?_⟩
          rw [hm]
          have e2 := Grows.new (o := .tup [.int (hsI n m).1, .int (hsI n m).2]) ht2
          refine ⟨_, _, rfl, .inl (dp_two upd_same), tx_two y4 y5, _, rfl, _, _, rfl, .inl (dp_two (e2 _ _ (g4 _ _ et))), tx_two y4 y5, ?_⟩
          refine ⟨rfl, _, rfl, ?_⟩
          rw [decide_eq_true rfl]
          exact iteF ⟨_, _, _, _, _, rfl, (g.trans gt).trans (g4.trans e2)⟩
        · rw [if_neg lt] at et0
          rw [decide_eq_false lt]
          refine iteF ⟨(by show 2 ≤ sizeLine; decide), fun t ht => ?_⟩
          have gt := Grows.new (o := .tup [.int 1, .int 1]) ht
          have et : upd G2 t (.tup [.int 1, .int 1]) t = some (.tup [.int (hsI n m).1, .int (hsI n m).2]) := by
            rw [upd_same, ← y3, et0]
          generalize upd G2 t (.tup [.int 1, .int 1]) = G3 at gt et ⊢
          refine ⟨_, rfl, _, rfl, (n : Int), b.1, b.2, rfl, by omega, by omega, gt.seq hb1, by omega, g1, by omega, by omega, fun t2 G4 g4 ht2 => ?_⟩
          rw [hm]
          have e2 := Grows.new (o := .tup [.int (hsI n m).1, .int (hsI n m).2]) ht2
          refine ⟨_, _, rfl, .inl (dp_two upd_same), tx_two y4 y5, _, rfl, _, _, rfl, .inl (dp_two (e2 _ _ (g4 _ _ et))), tx_two y4 y5, ?_⟩
          refine ⟨rfl, _, rfl, ?_⟩
          rw [decide_eq_true rfl]
          exact iteF ⟨_, _, _, _, _, rfl, (g.trans gt).trans (g4.trans e2)⟩
    · subst e
      exact k G g
end
end K32

namespace K32
open PySem PySem.Spec PyProof.Rows L2 SortR LcM RepA
abbrev sKn : Stmt := top 37
theorem getD_some {α : Type} {xs : List α} {i : Nat} (d : α) (h : i < xs.length) : xs[i]? = some (xs.getD i d) := by
  rw [List.getD_eq_getElem?_getD, List.getElem?_eq_getElem h]
  rfl
theorem take_next {α : Type} {xs : List α} {i : Nat} {x : α} (h : xs[i]? = some x) : xs.take (i + 1) = xs.take i ++ [x] := by
  rw [List.take_add_one, h]
  rfl
theorem erase_map {α β : Type} (f : α → β) : ∀ (l : List α) (k : Nat), (l.map f).eraseIdx k = (l.eraseIdx k).map f
  | [], _ => rfl
  | _ :: _, 0 => rfl
  | x :: l, k + 1 => congrArg (f x :: ·) (erase_map f l k)
theorem erase_perm {α : Type} : ∀ (l : List α) (k : Nat) (h : k < l.length), (l[k] :: l.eraseIdx k).Perm l
  | [], k, h => absurd h (Nat.not_lt_zero k)
  | x :: l, 0, _ => .refl _
  | x :: l, k + 1, h => (List.Perm.swap x (l[k]'(Nat.lt_of_succ_lt_succ h)) (l.eraseIdx k)).trans ((erase_perm l k (Nat.lt_of_succ_lt_succ h)).cons x)
theorem pop_perm {α : Type} {fs ls cs : List α} {c : α} {k : Nat} (h : (fs ++ ls).Perm cs) (e : ls[k]? = some c) : ((fs ++ [c]) ++ ls.eraseIdx k).Perm cs := by
  obtain ⟨hk, ec⟩ := List.getElem?_eq_some_iff.mp e
  refine List.Perm.trans ?_ h
  rw [List.append_assoc]
  refine List.Perm.append_left fs ?_
  rw [← ec]
  exact erase_perm ls k hk
theorem seq_in {n : Nat} {u : Int} (h0 : 0 ≤ u) (h1 : u < n) : seqIndex? u n = some u.toNat := seqIndex_of h0 (by omega)
theorem gr_own {p a : Addr} {H H' : Hp} (g : Gr p H H') (h : H a = none) (o : HO) : Gr p H (upd H' a o) := fun b u n e => by
  rw [upd_ne (ne_of_none e h)]
  exact g b u n e
theorem Pch.off {H : Hp} {p a : Addr} {m : Int} (h : Pch H p m) (n : a ≠ p) (o : HO) : Pch (upd H a o) p m := by
  obtain ⟨d, b, k, e, r⟩ := h
  exact ⟨d, b, k, (upd_ne n.symm).trans e, r⟩
/-- some rows of a list, as they come -/
def spKn : Sp := fun vs H Q _ => ∃ (p l : Addr) (m : Int) (bs : List (Addr × List Int)), vs = [.ref p, .ref l] ∧ Pch H p m ∧ m < 2 ^ 50 ∧ l ≠ p ∧ H l = some (.lst (bs.map fun b => V.ref b.1)) ∧ (∀ b ∈ bs, H b.1 = some (.lst (b.2.map V.int)) ∧ b.1 ≠ p) ∧ bs.length ≤ 20 ∧
  ∀ (q : Addr) (cs : List (Addr × List Int)) (H' : Hp), Pch H' p (m + 100) → Gr p H H' → H q = none → H' q = some (.lst (cs.map fun c => V.ref c.1)) → (∀ c ∈ cs, H' c.1 = some (.lst (c.2.map V.int)) ∧ H c.1 = none) → (∀ r ∈ cs.map (·.2), r ∈ bs.map (·.2)) → ((bs.map (·.2)).Nodup → (cs.map (·.2)).Nodup) → cs.length ≤ bs.length → Q (.ref q) H'
section
variable {P : Program} {w : World} {K : PySem.W.Frag} {mg : Str → Option Value} {base : Heap}
theorem scKn : FnScope ["store", "lot", "rare", "found", "row", "turn"] ["store", "lot"] (defScope sKn) := ⟨rfl, rfl, rfl, by decide +kernel, rfl, by decide +kernel, by decide +kernel⟩
theorem ok_kn {f fP : Addr} {fd dP : FuncData} (F : Fun K "_law_knots" "_law_knots" sKn f fd) (T : TxtP mg) (GPick : FnOk P w K mg base CX0 1 fP dP ["store", "bound"] spPick) (FPick : Fun K "_law_pick" "_law_pick" sPick fP dP) (gPick : mg "_law_pick" = some (.ref fP)) (bPick : Binds K dP ["store", "bound"] []) : FnOk P w K mg base CX0 2 f fd ["store", "lot"] spKn := by
  refine F.ok scKn (fun vs H Q E h => ?_) (fun cdv A outer s H vs Q E hr h => ?_)
  · obtain ⟨p, l, m, bs, rfl, _⟩ := h
    rfl
  · obtain ⟨p, l, m, bs, rfl, hP, hm, lp, hl, hb, few, k⟩ := h
    refine ⟨_, (pss_cons (ps_set (i := 2) scKn.nd rfl (.inr rfl) (pe_ix (r := rIxL K) ix_list (pe_lst (pa_cons pe_int (pa_cons pe_int (pa_cons pe_int (pa_cons pe_int pa_nil))))) (pe_call GPick (hr.mono (by decide)) rfl gPick FPick.kp bPick .nil pass0 (pa_cons (pv 0) (pa_cons pe_int pa_nil))) (fun _ _ => rfl)))
      (pss_cons (ps_set (i := 3) scKn.nd rfl (.inr rfl) (pe_lc (own := [("row", 4)]) (g := gName 4) rfl scKn.nd (pi_list (pv 1)) (blkOk_by (own := [("row", 4)]) (N := ["store", "lot", "rare", "found", "row", "turn"]) (sc := defScope sKn) (by decide +kernel)) (fun _ _ _ _ _ => pg_name (i := 4) scKn.nd rfl (Or.inl rfl)) (fun _ _ _ _ _ => (pts_one (pt_cmpR op_eq (pe_call GPick (hr.mono (by decide)) rfl gPick FPick.kp bPick .nil pass0 (pa_cons (pv 0) (pa_cons (pv 2) pa_nil))) pe_int (nomark _)))) (fun _ _ _ _ _ => (pe_callTy (T := "list") (r := rLst K) (by exact call_lstK) (by rfl) T.list (by decide +kernel) (pa_cons (pv 4) pa_nil)))))
      (pss_one (ps_ret (pe_lc (te := tBM K "list" rPopAt (tVar 3) (tCons _ tNil)) (own := [("turn", 5)]) (g := gName 5) (tt := tYes) rfl scKn.nd (pi_range1 (by rfl) T.range (pa_cons (pe_callB call_len_seq (by rfl) T.len (by decide +kernel) (pa_cons (pv 3) pa_nil)) pa_nil)) (blkOk_by (own := [("turn", 5)]) (N := ["store", "lot", "rare", "found", "row", "turn"]) (sc := defScope sKn) (by decide +kernel)) (fun _ _ _ _ _ => pg_name (i := 5) scKn.nd rfl (Or.inl rfl)) (fun _ _ _ _ _ => pts_nil) (fun _ _ _ _ _ => (pe_bm PySem.F.plainAttrs_list PySem.F.slot_list_pop PySem.F.type_list_pop mt_popAt (pv 3) (pa_cons (pe_call GPick (hr.mono (by decide)) rfl gPick FPick.kp bPick .nil pass0 (pa_cons (pv 0) (pa_cons (pe_callB (id := "len") (r := rLenS K) (by exact call_lenK) (by rfl) T.len (by decide +kernel) (pa_cons (pv 3) pa_nil)) pa_nil))) pa_nil)))))))), ?_⟩
    refine ⟨(by show 4 ≤ sizeLine; decide), fun q0 hq0 => ?_⟩
    have n0p := pch_ne hP hq0
    refine ⟨_, rfl, p, 4, m, rfl, hP.same (.new hq0), by omega, by decide, by decide, fun v H1 v0 v1 hP1 but1 => ?_⟩
    have e0 : H1 q0 = some (.lst [.int 1, .int 2, .int 4, .int 9]) := (but1 q0 n0p).trans upd_same
    have g1 : Gr p H H1 := (Gr.new hq0).trans (but_gr but1)
    obtain ⟨z, hz, az⟩ := at_in (xs := [V.int 1, .int 2, .int 4, .int 9]) v0 (by show v < 4; omega)
    obtain ⟨rr, er, r1, r9⟩ : ∃ rr : Int, z = .int rr ∧ 1 ≤ rr ∧ rr ≤ 9 := by
      simp only [List.mem_cons, List.not_mem_nil, or_false] at hz
      rcases hz with rfl | rfl | rfl | rfl
      · exact ⟨1, rfl, by decide, by decide⟩
      · exact ⟨2, rfl, by decide, by decide⟩
      · exact ⟨4, rfl, by decide, by decide⟩
      · exact ⟨9, rfl, by decide, by decide⟩
    subst er
    refine ⟨q0, _, v, _, rfl, rfl, SqL.of e0, az, ?_⟩
    have l1 := g1 _ _ lp hl
    have b1 : ∀ b ∈ bs, H1 b.1 = some (.lst (b.2.map V.int)) := fun b hb1 => g1 _ _ (hb b hb1).2 (hb b hb1).1
    refine ⟨_, rfl, l, rfl, ⟨_, SqL.of l1⟩, fun D hD => lc_list (K := K) (a := l) (xs := bs.map fun b => V.ref b.1) (fun i G => Gr p H1 G ∧ Pch G p (m + 1 + i) ∧ ∃ fs : List (Addr × List Int), G D = some (.lst (fs.map fun c => V.ref c.1)) ∧ (fs.map (·.2)).Sublist ((bs.map (·.2)).take i) ∧ ∀ c ∈ fs, G c.1 = some (.lst (c.2.map V.int)) ∧ H1 c.1 = none ∧ c.1 ≠ D)
      ⟨Gr.new hD, (hP1.same (.new hD)).le (by omega), [], upd_same, List.Sublist.refl _, fun _ z => nomatch z⟩ (fun i G _ ⟨g, _⟩ => SqL.of (g _ _ lp l1)) (fun i x G hx ⟨g, hp, fs, eD, sub, each⟩ => ?_) fun G ⟨g, hp, fs, eD, sub, each⟩ => ?_⟩
    · have nDp := pch_ne hP1 hD
      have il := (List.getElem?_eq_some_iff.mp hx).1
      rw [List.length_map] at il
      obtain rfl := at_map (d := (0, [])) hx
      have nx : (bs.map (·.2)).take (i + 1) = (bs.map (·.2)).take i ++ [(bs.getD i (0, [])).2] := take_next (by rw [List.getElem?_map, getD_some (0, []) il]; rfl)
      have bm : bs.getD i (0, []) ∈ bs := by
        rw [List.getD_eq_getElem?_getD, List.getElem?_eq_getElem il]
        exact List.getElem_mem il
      refine ⟨rfl, _, rfl, _, rfl, p, rr, _, rfl, hp, by omega, by omega, by show rr.natAbs < 2 ^ 200; omega, fun u G2 u0 u1 hp2 but2 => ⟨rfl, _, rfl, ?_⟩⟩
      have fl : fs.length ≤ i := by
        have := sub.length_le
        rw [List.length_map, List.length_take] at this
        omega
      have eD2 := but_at but2 eD nDp
      have g2 := g.trans (but_gr but2)
      have each2 : ∀ c ∈ fs, G2 c.1 = some (.lst (c.2.map V.int)) ∧ H1 c.1 = none ∧ c.1 ≠ D := fun c hc => ⟨but_at but2 (each c hc).1 (pch_ne hP1 (each c hc).2.1), (each c hc).2⟩
      refine ite2 (fun _ => ?_) (fun _ => ?_)
      · refine ⟨_, rfl, _, _, rfl, .inl (SqL.of (g2 _ _ (hb _ bm).2 (b1 _ bm))), fun y hy => ?_⟩
        have gy := Grows.new (H := G2) (o := .lst ((bs.getD i (0, [])).2.map V.int)) hy
        have nyp := pch_ne hp2 hy
        have nyD : y ≠ D := (ne_of_none eD2 hy).symm
        refine ⟨_, gy _ _ eD2, ?_, ?_, ?_, fs ++ [(y, (bs.getD i (0, [])).2)], ?_, ?_, fun c hc => ?_⟩
        · rw [List.length_map]
          exact small1000 (by omega)
        · exact gr_own (g2.trans (.new hy)) hD _
        · exact ((hp2.same gy).off nDp _).le (by omega)
        · rw [upd_same, List.map_append]
          rfl
        · rw [List.map_append, nx]
          exact sub.append (List.Sublist.refl _)
        · rcases List.mem_append.mp hc with q | q
          · obtain ⟨c1, c2, c3⟩ := each2 c q
            refine ⟨?_, c2, c3⟩
            rw [upd_ne c3]
            exact gy _ _ c1
          · rw [List.mem_singleton.mp q]
            refine ⟨?_, gr_none g2 hy nyp, nyD⟩
            rw [upd_ne nyD]
            exact upd_same
      · exact ⟨g2, hp2.le (by omega), fs, eD2, by rw [nx]; exact sub.trans (List.sublist_append_left _ _), each2⟩
    · have nDp := pch_ne hP1 hD
      rw [List.length_map] at sub hp
      rw [List.take_of_length_le (by rw [List.length_map]; exact Nat.le_refl _)] at sub
      have fl : fs.length ≤ bs.length := by
        have := sub.length_le
        rwa [List.length_map, List.length_map] at this
      refine ⟨_, rfl, D, _, rfl, .inl (SqL.of eD), _, rfl, by omega, by rw [List.length_map]; omega, fun E hE => ?_⟩
      rw [List.length_map, Int.toNat_natCast]
      have nEp := pch_ne hp hE
      have nED : D ≠ E := ne_of_none eD hE
      have hE1 : H1 E = none := gr_none g hE nEp
      refine lc_range (lo := 0) (n := fs.length) (fun i G2 => ∃ acc ls : List (Addr × List Int), Gr p H1 G2 ∧ Pch G2 p (m + 30 + i) ∧ G2 E = some (.lst (acc.map fun c => V.ref c.1)) ∧ G2 D = some (.lst (ls.map fun c => V.ref c.1)) ∧ (acc ++ ls).Perm fs ∧ acc.length = i ∧ ∀ c ∈ fs, G2 c.1 = some (.lst (c.2.map V.int)) ∧ H1 c.1 = none ∧ c.1 ≠ D ∧ c.1 ≠ E)
        ⟨[], fs, gr_own g hE1 _, (hp.same (.new hE)).le (by omega), upd_same, Grows.new hE _ _ eD, .refl _, rfl, fun c hc => ⟨Grows.new hE _ _ (each c hc).1, (each c hc).2.1, (each c hc).2.2, ne_of_none (each c hc).1 hE⟩⟩ (fun i G2 hi ⟨acc, ls, g2, hp2, e2, e3, pm, len, ea⟩ => ?_) fun G2 ⟨acc, ls, g2, hp2, e2, e3, pm, len, ea⟩ => ?_
      · have tot := pm.length_eq
        rw [List.length_append] at tot
        refine ⟨rfl, ?_⟩
        unfold tYes
        dsimp only
        rw [if_pos rfl]
        refine ⟨_, rfl, .inl ⟨rfl, _, SqL.of e3⟩, _, rfl, _, rfl, D, _, rfl, .inl (SqL.of e3), p, _, _, rfl, hp2, by omega, ?_, ?_, fun u G3 u0 u1 hp3 but3 => ?_⟩
        · rw [List.length_map]
          omega
        · rw [List.length_map]
          show ((ls.length : Nat) : Int).natAbs < 2 ^ 200
          omega
        · rw [List.length_map] at u1
          have ull : u.toNat < ls.length := by omega
          have e2' := (but3 E nEp).trans e2
          have e3' := (but3 D nDp).trans e3
          have at_u : (ls.map fun c => V.ref c.1)[u.toNat]? = some (V.ref ls[u.toNat].1) := by
            rw [List.getElem?_map, List.getElem?_eq_getElem ull]
            rfl
          refine ⟨D, _, u, u.toNat, _, rfl, rfl, e3', by omega, by omega, ?_, at_u, _, (upd_ne nED.symm).trans e2', ?_, acc ++ [ls[u.toNat]], ls.eraseIdx u.toNat, ?_, ?_, ?_, ?_, pop_perm pm (List.getElem?_eq_getElem ull), ?_, fun c hc => ?_⟩
          · rw [List.length_map]
            exact seq_in u0 u1
          · rw [List.length_map]
            exact small1000 (by omega)
          · exact gr_own (gr_own (g2.trans (but_gr but3)) hD _) hE1 _
          · exact ((hp3.off nDp _).off nEp _).le (by omega)
          · rw [upd_same, List.map_append]
            rfl
          · rw [upd_ne nED, upd_same, erase_map]
          · rw [List.length_append, len]
            rfl
          · obtain ⟨c1, c2, c3, c4⟩ := ea c hc
            refine ⟨?_, c2, c3, c4⟩
            rw [upd_ne c4, upd_ne c3]
            exact but_at but3 c1 (pch_ne hP1 c2)
      · have tot := pm.length_eq
        rw [List.length_append, len] at tot
        have l0 : ls = [] := List.length_eq_zero_iff.mp (by omega)
        rw [l0, List.append_nil] at pm
        have gg := g1.trans g2
        have pm2 := pm.map (·.2)
        refine k E acc G2 (hp2.le (by omega)) gg (gr_none g1 hE1 nEp) e2 (fun c hc => ?_) (fun r hr => sub.subset (pm2.mem_iff.mp hr)) (fun nd => pm2.nodup_iff.mpr (nd.sublist sub)) (by rw [len]; exact fl)
        obtain ⟨c1, c2, _, _⟩ := ea c (pm.mem_iff.mp hc)
        exact ⟨c1, gr_none g1 c2 (pch_ne hP1 c2)⟩
end
end K32

namespace K32
open PySem PySem.Spec PyProof.Rows L2 SortR LcM RepA
/-! ### displays of things -/
def MT (H0 : Hp) (σ : L2.St) (te : TE) (Pr : Hp → L2.V → Prop) : Prop := ∀ (H : Hp) (Q : VK), Grows H0 H → (∀ v H', Grows H H' → Pr H' v → Q v H') → te σ H Q
def MTs (H0 : Hp) (σ : L2.St) (t : TA) (Pr : Hp → L2.V → Prop) (n : Nat) : Prop := ∀ (H : Hp) (R : List L2.V → Hp → Prop), Grows H0 H → (∀ vs H', Grows H H' → vs.length = n → (∀ v ∈ vs, Pr H' v) → R vs H') → t σ H R
abbrev Last (Pr : Hp → L2.V → Prop) : Prop := ∀ H H' v, Pr H v → Grows H H' → Pr H' v
abbrev MD (H0 : Hp) (K : PySem.W.Frag) (σ : L2.St) (te : TE) (d : PyData) : Prop := MT H0 σ te fun H v => Dp K H v d
def MDs (H0 : Hp) (K : PySem.W.Frag) (σ : L2.St) (t : TA) (ds : List PyData) : Prop := ∀ (H : Hp) (R : List L2.V → Hp → Prop), Grows H0 H → (∀ vs H', Grows H H' → DpAll K H' vs ds → R vs H') → t σ H R
section
variable {H0 : Hp} {K : PySem.W.Frag} {σ : L2.St} {te : TE} {t : TA} {d : PyData} {ds : List PyData} {Pr Pr' : Hp → L2.V → Prop} {n : Nat}
theorem mt_nil : MTs H0 σ tNil Pr 0 := fun H R _ k => k [] H .refl rfl fun _ h => nomatch h
theorem mt_cons (last : Last Pr) (h1 : MT H0 σ te Pr) (h2 : MTs H0 σ t Pr n) : MTs H0 σ (tCons te t) Pr (n + 1) :=
  fun H R b k => h1 H _ b fun v H1 g1 p1 => h2 H1 _ (b.trans g1) fun vs H2 g2 l p2 => k (v :: vs) H2 (g1.trans g2) (congrArg (· + 1) l) fun x hx => by
    rcases List.mem_cons.mp hx with z | z
    · rw [z]
      exact last _ _ _ p1 g2
    · exact p2 x z
theorem mt_map (h : ∀ H v, Pr H v → Pr' H v) (m : MT H0 σ te Pr) : MT H0 σ te Pr' := fun H Q b k => m H Q b fun v H' g q => k v H' g (h _ _ q)
theorem md_nil : MDs H0 K σ tNil [] := fun H R _ k => k [] H .refl .nil
theorem md_cons (h1 : MD H0 K σ te d) (h2 : MDs H0 K σ t ds) : MDs H0 K σ (tCons te t) (d :: ds) :=
  fun H R b k => h1 H _ b fun v H1 g1 p1 => h2 H1 _ (b.trans g1) fun vs H2 g2 p2 => k (v :: vs) H2 (g1.trans g2) (.cons (Dp.grow g2 p1) p2)
theorem md_non : MD H0 K σ (tC .non) .none := fun H Q _ k => k _ H .refl .non
theorem md_bl {b : Bool} : MD H0 K σ (tC (.bl b)) (.bool b) := fun H Q _ k => k _ H .refl (.bl b)
theorem md_int {i : Int} : MD H0 K σ (tC (.int i)) (.int i) := fun H Q _ k => k _ H .refl (.int i)
theorem md_str {z : Str} : MD H0 K σ (tC (.str z)) (.str z) := fun H Q _ k => k _ H .refl (.str z)
theorem md_neg {i : Int} : MD H0 K σ (tUn (rU fun i => .int (-i)) (tC (.int i))) (.int (-i)) := fun H Q _ k => ⟨_, rfl, k _ H .refl (.int _)⟩
theorem md_pow {i j : Int} (h : CPowW i j) : MD H0 K σ (tOp (rI CPowW fun i j => .int (i ^ j.toNat)) (tC (.int i)) (tC (.int j))) (.int (i ^ j.toNat)) := fun H Q _ k => ⟨_, _, rfl, rfl, h, k _ H .refl (.int _)⟩
theorem md_var {i : Nat} {v : L2.V} (h : σ[i]? = some (some v)) (hd : Dp K H0 v d) : MD H0 K σ (tVar i) d := fun H Q b k => ⟨_, h, k _ H .refl (Dp.grow b hd)⟩
theorem md_lst (h : MDs H0 K σ t ds) (l : ds.length ≤ 1000) : MD H0 K σ (tLst t) (.list ds) := fun H Q b k => h H _ b fun vs H1 g1 all =>
  ⟨by rw [DpAll.len all]; exact Nat.le_trans l (by decide), fun q hq => k _ _ (g1.trans (Grows.new hq)) (.lst (SqL.of upd_same) (DpAll.grow (Grows.new hq) all))⟩
theorem md_tup (h : MDs H0 K σ t ds) (l : ds.length ≤ 1000) : MD H0 K σ (tTup t) (.tuple ds) := fun H Q b k => h H _ b fun vs H1 g1 all =>
  ⟨by rw [DpAll.len all]; exact Nat.le_trans l (by decide), fun q hq => k _ _ (g1.trans (Grows.new hq)) (.tup (SqT.of upd_same) (DpAll.grow (Grows.new hq) all))⟩
/-- tuple(x), x a list in a slot -/
theorem md_tupOf {i : Nat} {a : Addr} {xs : List L2.V} (h : σ[i]? = some (some (.ref a))) (hS : SqL K H0 a xs) (all : DpAll K H0 xs ds) : MD H0 K σ (tCB (rTup K) (tCons (tVar i) tNil)) (.tuple ds) := fun H Q b k =>
  ⟨_, h, a, xs, rfl, b.seq hS, fun t ht => k _ _ (Grows.new ht) (.tup (SqT.of upd_same) (DpAll.grow (b.trans (Grows.new ht)) all))⟩
theorem dp_app : ∀ {H : Hp} {xs ys : List L2.V} {ds es : List PyData}, DpAll K H xs ds → DpAll K H ys es → DpAll K H (xs ++ ys) (ds ++ es)
  | _, _, _, _, _, .nil, h => h
  | _, _, _, _, _, .cons a b, h => .cons a (dp_app b h)
/-- x + [..], x a list in a slot -/
theorem md_cat {i : Nat} {a : Addr} {xs : List L2.V} {es : List PyData} (h : σ[i]? = some (some (.ref a))) (hS : H0 a = some (.lst xs)) (all : DpAll K H0 xs ds) (m : MDs H0 K σ t es) (l : ds.length + es.length ≤ 1000) : MD H0 K σ (tOp rCat (tVar i) (tLst t)) (.list (ds ++ es)) := fun H Q b k =>
  ⟨_, h, m H _ b fun vs H1 g1 all2 => ⟨by rw [DpAll.len all2]; exact Nat.le_trans (show es.length ≤ 1000 by omega) (by decide), fun q hq => by
    have gq : Grows H1 (upd H1 q (.lst vs)) := Grows.new hq
    refine ⟨a, q, xs, vs, rfl, rfl, gq _ _ (g1 _ _ (b _ _ hS)), upd_same, by rw [DpAll.len all, DpAll.len all2]; exact Nat.le_trans l (by decide), fun y hy => ?_⟩
    have gy := gq.trans (Grows.new (o := .lst (xs ++ vs)) hy)
    exact k _ _ (g1.trans gy) (.lst (SqL.of upd_same) (dp_app (DpAll.grow ((b.trans g1).trans gy) all) (DpAll.grow gy all2)))⟩⟩
/-- x[..] + [..] -/
theorem md_catS {i : Nat} {a : Addr} {xs : List L2.V} {es : List PyData} {lo : L2.St → Hp → (Option Int → Hp → Prop) → Prop} (h : σ[i]? = some (some (.ref a))) (hS : H0 a = some (.lst xs)) {ys : List L2.V} (all : DpAll K H0 ys ds) (m : MDs H0 K σ t es) (l : ds.length + es.length ≤ 1000)
    {ts : TE} (hs : ∀ (H : Hp) (Q : VK), Grows H0 H → (∀ p, H p = none → Q (.ref p) (upd H p (.lst ys))) → ts σ H Q) : MD H0 K σ (tOp rCat ts (tLst t)) (.list (ds ++ es)) := fun H Q b k =>
  hs H _ b fun a ha => by
    have ga : Grows H (upd H a (.lst ys)) := Grows.new ha
    refine m _ _ (b.trans ga) fun vs H1 g1 all2 => ⟨by rw [DpAll.len all2]; exact Nat.le_trans (show es.length ≤ 1000 by omega) (by decide), fun q hq => ?_⟩
    have gq : Grows H1 (upd H1 q (.lst vs)) := Grows.new hq
    refine ⟨a, q, ys, vs, rfl, rfl, gq _ _ (g1 _ _ upd_same), upd_same, by rw [DpAll.len all, DpAll.len all2]; exact Nat.le_trans l (by decide), fun y hy => ?_⟩
    have gy := gq.trans (Grows.new (o := .lst (ys ++ vs)) hy)
    exact k _ _ ((ga.trans g1).trans gy) (.lst (SqL.of upd_same) (dp_app (DpAll.grow (((b.trans ga).trans g1).trans gy) all) (DpAll.grow gy all2)))
/-- x + x[..] -/
theorem md_catT {i : Nat} {a : Addr} {xs ys : List L2.V} {es : List PyData} (h : σ[i]? = some (some (.ref a))) (hS : H0 a = some (.lst xs)) (all : DpAll K H0 xs ds) (all2 : DpAll K H0 ys es) (l : ds.length + es.length ≤ 1000)
    {ts : TE} (hs : ∀ (H : Hp) (Q : VK), Grows H0 H → (∀ p, H p = none → Q (.ref p) (upd H p (.lst ys))) → ts σ H Q) : MD H0 K σ (tOp rCat (tVar i) ts) (.list (ds ++ es)) := fun H Q b k =>
  ⟨_, h, hs H _ b fun q hq => by
    have gq : Grows H (upd H q (.lst ys)) := Grows.new hq
    refine ⟨a, q, xs, ys, rfl, rfl, gq _ _ (b _ _ hS), upd_same, by rw [DpAll.len all, DpAll.len all2]; exact Nat.le_trans l (by decide), fun y hy => ?_⟩
    have gy := gq.trans (Grows.new (o := .lst (xs ++ ys)) hy)
    exact k _ _ gy (.lst (SqL.of upd_same) (dp_app (DpAll.grow (b.trans gy) all) (DpAll.grow (b.trans gy) all2)))⟩
end
def upto (k : Nat) : List Int := (List.range k).map fun i : Nat => (i : Int)
theorem upto_two (k : Nat) : ∃ t, upto (k + 2) = 0 :: 1 :: t := by
  refine ⟨(List.range k).map fun i => ((i + 1 + 1 : Nat) : Int), ?_⟩
  unfold upto
  rw [List.range_succ_eq_map, List.range_succ_eq_map, List.map_cons, List.map_cons, List.map_cons, List.map_map, List.map_map]
  rfl
section
variable {H0 H : Hp} {K : PySem.W.Frag} {σ : L2.St} {t : TA} {Pr : Hp → L2.V → Prop} {n : Nat} {i j : Nat} {rest : TS} {D : Ends}
theorem seq_lstT (last : Last Pr) (A : MTs H0 σ t Pr n) (l : n ≤ 1000) (g : Grows H0 H) (k : ∀ vs q H', Grows H H' → H' q = some (.lst vs) → vs.length = n → (∀ v ∈ vs, Pr H' v) → rest D (σ.set i (some (.ref q))) H') : tSeq (tAsg (tLst t) (gName i)) rest D σ H :=
  A H _ g fun vs H1 g1 l1 n1 => ⟨by rw [l1]; exact Nat.le_trans l (by decide), fun q hq => k vs q _ (g1.trans (Grows.new hq)) upd_same l1 fun v hv => last _ _ _ (n1 v hv) (Grows.new hq)⟩
theorem cat_any (last : Last Pr) (A : MTs H0 σ t Pr n) {a : Addr} {xs : List L2.V} (hv : σ[j]? = some (some (.ref a))) (ha : H a = some (.lst xs)) (nx : ∀ v ∈ xs, Pr H v) (l : xs.length + n ≤ 1000) (g : Grows H0 H) {Q : VK}
    (k : ∀ vs q H', Grows H H' → H' q = some (.lst (xs ++ vs)) → vs.length = n → (∀ v ∈ xs ++ vs, Pr H' v) → Q (.ref q) H') : tOp rCat (tVar j) (tLst t) σ H Q :=
  ⟨_, hv, A H _ g fun vs H1 g1 l1 n1 => ⟨by rw [l1]; exact Nat.le_trans (show n ≤ 1000 by omega) (by decide), fun q hq => by
    have gq : Grows H1 (upd H1 q (.lst vs)) := Grows.new hq
    refine ⟨a, q, xs, vs, rfl, rfl, (g1.trans gq) _ _ ha, upd_same, by rw [l1]; exact Nat.le_trans l (by decide), fun y hy => ?_⟩
    have gy := gq.trans (Grows.new (o := .lst (xs ++ vs)) hy)
    refine k vs y _ (g1.trans gy) upd_same l1 fun v hv => ?_
    rcases List.mem_append.mp hv with m | m
    · exact last _ _ _ (nx v m) (g1.trans gy)
    · exact last _ _ _ (n1 v m) gy⟩⟩
theorem seq_catT (last : Last Pr) (A : MTs H0 σ t Pr n) {a : Addr} {xs : List L2.V} (hv : σ[j]? = some (some (.ref a))) (ha : H a = some (.lst xs)) (nx : ∀ v ∈ xs, Pr H v) (l : xs.length + n ≤ 1000) (g : Grows H0 H)
    (k : ∀ vs q H', Grows H H' → H' q = some (.lst (xs ++ vs)) → vs.length = n → (∀ v ∈ xs ++ vs, Pr H' v) → rest D (σ.set i (some (.ref q))) H') : tSeq (tAsg (tOp rCat (tVar j) (tLst t)) (gName i)) rest D σ H :=
  cat_any last A hv ha nx l g k
end
theorem rg_upto (k : Nat) : rgV 0 (k : Int) = (upto k).map L2.V.int := by
  rw [rg_ints, Int.toNat_natCast]
  unfold upto
  rw [List.map_map, List.map_map]
  refine List.map_congr_left fun i _ => ?_
  show L2.V.int (0 + (i : Nat)) = L2.V.int (i : Nat)
  rw [Int.zero_add]
theorem dp_rev {K : PySem.W.Frag} {H : Hp} : ∀ {xs : List L2.V} {ds : List PyData}, DpAll K H xs ds → DpAll K H xs.reverse ds.reverse
  | _, _, .nil => .nil
  | _, _, .cons a b => by
    rw [List.reverse_cons, List.reverse_cons]
    exact dp_app (dp_rev b) (.cons a .nil)
theorem tx_mems {n w : Nat} {rs : List (List Int)} (h : ∀ r ∈ rs, Sm r) (hn : 1 ≤ n) (hw : 2775 ≤ w) : ∀ d ∈ rowsD rs, Tx n w d := fun d hd => by
  obtain ⟨r, hr, rfl⟩ := List.mem_map.mp hd
  exact (tx_row (h r hr)).le hn hw
theorem sm_upto {k : Nat} (h : k ≤ 25) : Sm (upto k) := ⟨by unfold upto; rw [List.length_map, List.length_range]; exact h, fun x hx => by
  obtain ⟨i, hi, rfl⟩ := List.mem_map.mp hx
  have := List.mem_range.mp hi
  omega⟩
/-- data that may be compared and shown -/
def Odd (K : PySem.W.Frag) (H : Hp) (v : L2.V) : Prop := ∃ d, Dd K H v d ∧ FinL d ∧ Tx 20 100000 d
theorem odd_last {K : PySem.W.Frag} : Last (Odd K) := fun _ _ _ ⟨d, a, b, c⟩ g => ⟨d, Dd.grow g a, b, c⟩
def finB : PyData → Bool
  | .list ds => decide (ds.length ≤ 60) && ds.all fun e => e.canLay0 && decide (e.depth ≤ 20) && (match e with | .list es => decide (es.length ≤ 60) | _ => true)
  | _ => true
theorem fin_of {d : PyData} (h : finB d = true) : FinL d := fun ds e => by
  subst e
  unfold finB at h
  rw [Bool.and_eq_true, decide_eq_true_eq] at h
  refine ⟨h.1, fun x hx => ?_⟩
  have q := List.all_eq_true.mp h.2 x hx
  rw [Bool.and_eq_true, Bool.and_eq_true, decide_eq_true_eq] at q
  refine ⟨q.1.1, q.1.2, fun es ee => ?_⟩
  subst ee
  exact of_decide_eq_true q.2
section
variable {H0 : Hp} {K : PySem.W.Frag} {σ : L2.St} {te : TE} {t : TA} {d : PyData}
theorem odd_md (m : MD H0 K σ te d) (f : FinL d) (x : Tx 20 100000 d) : MT H0 σ te (Odd K) := mt_map (fun _ _ h => ⟨d, .inl h, f, x⟩) m
/-- data that are written out -/
theorem odd_c (m : MD H0 K σ te d) (h : (finB d && txB 20 100000 d) = true) : MT H0 σ te (Odd K) := by
  rw [Bool.and_eq_true] at h
  exact odd_md m (fin_of h.1) (tx_of h.2)
theorem odd_dict : MT H0 σ tDNewK (Odd K) := fun H Q b k q hq => k _ _ (Grows.new hq) ⟨.dict [], .inr ⟨q, rfl, upd_same, rfl⟩, (fun ds e => nomatch e), tx_of (by decide +kernel)⟩
end
theorem flat_rep (v : L2.V) : ∀ k : Nat, (List.replicate k [v]).flatten = List.replicate k v
  | 0 => rfl
  | k + 1 => by
    rw [List.replicate_succ, List.flatten_cons, flat_rep v k]
    rfl
theorem dp_rep {K : PySem.W.Frag} {H : Hp} {v : L2.V} {d : PyData} (h : Dp K H v d) : ∀ k : Nat, DpAll K H (List.replicate k v) (List.replicate k d)
  | 0 => .nil
  | k + 1 => .cons h (dp_rep h k)
/-- [row] * k -/
theorem md_rep {H0 : Hp} {K : PySem.W.Frag} {σ : L2.St} {te : TE} {d : PyData} {k : Nat} (m : MD H0 K σ te d) (l : k ≤ 1000) : MD H0 K σ (tOp rRep (tLst (tCons te tNil)) (tC (.int (k : Int)))) (.list (List.replicate k d)) := fun H Q b kk =>
  m H _ b fun v H1 g1 hd => ⟨(by show 1 ≤ sizeLine; decide), fun q hq => by
    have gq : Grows H1 (upd H1 q (.lst [v])) := Grows.new hq
    refine ⟨q, (k : Int), [v], rfl, rfl, upd_same, by omega, by omega, by rw [Int.toNat_natCast]; exact Nat.le_trans (show 1 * k ≤ 1000 by omega) (by decide), fun p hp => ?_⟩
    rw [Int.toNat_natCast, flat_rep]
    have gp := gq.trans (Grows.new (o := .lst (List.replicate k v)) hp)
    exact kk _ _ (g1.trans gp) (.lst (SqL.of upd_same) (dp_rep (Dp.grow gp hd) k))⟩
theorem fin_rows {rs : List (List Int)} (l : rs.length ≤ 60) (h : ∀ r ∈ rs, Sm r) : FinL (.list (rowsD rs)) := fun ds e => by
  cases e
  refine ⟨by unfold rowsD; rw [List.length_map]; exact l, fun x hx => ?_⟩
  obtain ⟨r, hr, rfl⟩ := List.mem_map.mp hx
  refine ⟨?_, ?_, fun es ee => ?_⟩
  · show PyData.canLay0 (.list (r.map .int)) = true
    simp only [PyData.canLay0, lay_ints]
  · show PyData.depth (.list (r.map .int)) ≤ 20
    simp only [PyData.depth, PySem.W.depth_ints]
    decide
  · cases ee
    rw [List.length_map]
    have := (h r hr).1
    omega
theorem tx_rows' {rs : List (List Int)} (l : rs.length ≤ 30) (h : ∀ r ∈ rs, Sm r) : Tx 20 100000 (.list (rowsD rs)) := tx_big (tx_rows h l) (by decide) (by decide)
end K32

namespace K32
open PySem PySem.Spec PyProof.Rows L2 SortR LcM RepA
theorem up_len {n : Int} : ∀ (r : List Int) (lo : Int), r.Pairwise (· < ·) → (∀ x ∈ r, lo ≤ x ∧ x < n) → r.length ≤ (n - lo).toNat
  | [], _, _, _ => Nat.zero_le _
  | x :: r, lo, h, k => by
    obtain ⟨h1, h2⟩ := List.pairwise_cons.mp h
    have q := up_len r (x + 1) h2 fun y hy => ⟨by have := h1 y hy; omega, (k y (List.mem_cons_of_mem _ hy)).2⟩
    have := k x List.mem_cons_self
    rw [List.length_cons]
    omega
theorem isP_all {rs : List (List Int)} (h : isP rs = true) : rs.length < 20 ∧ (∀ r ∈ rs, group (rs.length + 1) r = true) ∧ rs.Nodup := by
  unfold isP at h
  simp only [Bool.and_eq_true, decide_eq_true_eq] at h
  obtain ⟨⟨⟨h1, h2⟩, h3⟩, h4⟩ := h
  refine ⟨by omega, fun r hr => ?_, ?_⟩
  · obtain ⟨i, hi, e⟩ := List.getElem_of_mem hr
    have g := List.all_eq_true.mp h2 i (List.mem_range.mpr hi)
    rw [List.getD_eq_getElem?_getD, List.getElem?_eq_getElem hi, Option.getD_some, e] at g
    exact g
  · refine List.Pairwise.imp (R := (· < ·)) (fun {a b} z e => by rw [e] at z; exact List.lt_irrefl _ z) ?_
    clear h2
    unfold ascR at h3
    rw [List.all_eq_true] at h3
    clear h1 h4
    induction rs with
    | nil => exact .nil
    | cons x ns ih =>
      have ih := ih fun i hi => by
        have hi := List.mem_range.mp hi
        have := h3 (i + 1) (List.mem_range.mpr (by rw [List.length_cons]; omega))
        simpa using this
      cases ns with
      | nil => exact List.pairwise_singleton _ _
      | cons y ns =>
        have h0 : x < y := of_decide_eq_true (h3 0 (List.mem_range.mpr (by simp)))
        refine List.pairwise_cons.mpr ⟨fun z hz => ?_, ih⟩
        rcases List.mem_cons.mp hz with e | e
        · rw [e]
          exact h0
        · exact List.lt_trans h0 ((List.pairwise_cons.mp ih).1 z e)
/-- 1 * 2 * .. -/
def facN : Nat → Int
  | 0 => 1
  | i + 1 => facN i * (1 + (i : Int))
def evN : Nat → Int
  | 0 => 1
  | i + 1 => evN i * ((1 + (i : Int)) * ((1 + (i : Int)) + 1) / 2)
theorem fac_all : ((List.range 20).all fun i => decide (facN i = ((Builtin.Math.factorialNat i : Nat) : Int)) && decide (evN i = hofI ((i : Int) + 1)) && decide ((facN i).natAbs < 2 ^ 64) && decide ((fcR i).take 2 = if i = 0 then [1] else [0, 1])) = true := by decide +kernel
theorem fac_ok {i : Nat} (h : i < 20) : facN i = ((Builtin.Math.factorialNat i : Nat) : Int) ∧ evN i = hofI ((i : Int) + 1) ∧ (facN i).natAbs < 2 ^ 64 ∧ (fcR i).take 2 = if i = 0 then [1] else [0, 1] := by
  have z := List.all_eq_true.mp fac_all i (List.mem_range.mpr h)
  simp only [Bool.and_eq_true, decide_eq_true_eq] at z
  exact ⟨z.1.1.1, z.1.1.2, z.1.2, z.2⟩
/-- a row of counts comes from the one ahead -/
theorem fc_next {k j : Nat} (h1 : 2 ≤ j) (h2 : j < k + 2) : (fcR (k + 1)).getD j 0 = (((k : Int) + 2) + (j : Int) - 2) * (fcR k).getD (j - 1) 0 + (j : Int) * (if j < (fcR k).length then (fcR k).getD j 0 else 0) := by
  have l := fcR_len k
  obtain ⟨i, rfl⟩ : ∃ i, j = i + 1 := ⟨j - 1, by omega⟩
  show (fcStep (2 + (k : Int)) (fcR k)).getD (i + 1) 0 = _
  generalize fcR k = cs at l
  unfold fcStep
  rw [List.getD_eq_getElem?_getD, List.getElem?_map, List.getElem?_range (by omega)]
  show (2 + (k : Int) + ((i + 1 : Nat) : Int) - 2) * (0 :: cs).getD (i + 1) 0 + ((i + 1 : Nat) : Int) * (cs ++ [0]).getD (i + 1) 0 = _
  rw [List.getD_cons_succ, show i + 1 - 1 = i by omega, show 2 + (k : Int) = (k : Int) + 2 by omega]
  congr 2
  by_cases lt : i + 1 < cs.length
  · rw [if_pos lt, List.getD_eq_getElem?_getD, List.getD_eq_getElem?_getD, List.getElem?_append_left lt]
  · rw [if_neg lt]
    have e : i + 1 = cs.length := by omega
    rw [e, List.getD_eq_getElem?_getD, List.getElem?_append_right (Nat.le_refl _), Nat.sub_self]
    rfl
/-- the rows of a parting -/
theorem isP_rows {rs : List (List Int)} (h : isP rs = true) : ∀ r ∈ rs, group ((rs.length : Int) + 1) r = true ∧ r.Pairwise (· < ·) ∧ (∀ x ∈ r, 0 ≤ x ∧ x < (rs.length : Int) + 1) ∧ 2 ≤ r.length ∧ r.length ≤ rs.length + 1 := fun r hr => by
  have g := (isP_all h).2.1 r hr
  have g0 := g
  unfold group plist at g
  simp only [Bool.and_eq_true] at g
  have up := asc_step.mp g.1.2
  have rng : ∀ x ∈ r, 0 ≤ x ∧ x < (rs.length : Int) + 1 := fun x hx => by
    obtain ⟨i, hi, e⟩ := List.getElem_of_mem hx
    have q := List.all_eq_true.mp g.1.1 i (List.mem_range.mpr hi)
    rw [List.getD_eq_getElem?_getD, List.getElem?_eq_getElem hi, Option.getD_some, e] at q
    simp only [Bool.and_eq_true, decide_eq_true_eq] at q
    exact q
  have two := group_sz g0
  have l := up_len r 0 up rng
  exact ⟨g0, up, rng, by omega, by omega⟩
end K32

namespace K32
open PySem PySem.Spec PyProof.Rows L2 SortR LcM RepA
abbrev sGr : Stmt := top 44
theorem nm_e {i : Nat} {v : L2.V} {t u : TS} {D E' : Ends} {σ : L2.St} {H : Hp} (e : E'.nx = tSeq t u D) (h : tSeq t u D (σ.set i (some v)) H) : gName i v σ H E'.nx := by
  rw [e]
  exact h
structure LwF (P : Program) (w : World) (base : Heap) (K : PySem.W.Frag) (mg : Str → Option Value) where
  (fPick fCome fGroups fKn fFits fShr : Addr)
  (dPick dCome dGroups dKn dFits dShr : FuncData)
  FPick : Fun K "_law_pick" "_law_pick" sPick fPick dPick
  FCome : Fun K "_law_come" "_law_come" sCome fCome dCome
  FGroups : Fun K "_law_groups" "_law_groups" sGroups fGroups dGroups
  FKn : Fun K "_law_knots" "_law_knots" sKn fKn dKn
  FFits : Fun K "_law_fits" "_law_fits" sFits fFits dFits
  FShr : Fun K "_law_shares_right" "_law_shares_right" sShr fShr dShr
  gPick : mg "_law_pick" = some (.ref fPick)
  gCome : mg "_law_come" = some (.ref fCome)
  gGroups : mg "_law_groups" = some (.ref fGroups)
  gKn : mg "_law_knots" = some (.ref fKn)
  gFits : mg "_law_fits" = some (.ref fFits)
  gShr : mg "_law_shares_right" = some (.ref fShr)
  bPick : Binds K dPick ["store", "bound"] []
  bCome : Binds K dCome ["store", "many_here"] []
  bGroups : Binds K dGroups ["items"] []
  bKn : Binds K dKn ["store", "lot"] []
  bFits : Binds K dFits ["many_here", "bad"] []
  bShr : Binds K dShr ["many_here", "lot"] []
  gRepr : mg "repr" = none
  GPick : FnOk P w K mg base CX0 1 fPick dPick ["store", "bound"] spPick
  GCome : FnOk P w K mg base CX0 2 fCome dCome ["store", "many_here"] spCome
  GGroups : FnOk P w K mg base CX0 1 fGroups dGroups ["items"] (spGroups K)
  GKn : FnOk P w K mg base CX0 2 fKn dKn ["store", "lot"] spKn
  GFits : FnOk P w K mg base CX0 2 fFits dFits ["many_here", "bad"] (spFits K)
  GShr : FnG P w K mg base CX0 6 fShr dShr ["many_here", "lot"] (spShr K)
theorem md_pred {H0 : Hp} {K : PySem.W.Frag} {σ : L2.St} {i : Nat} {n : Int} (h : σ[i]? = some (some (.int n))) : MD H0 K σ (tOp (rI0 fun i j => .int (i - j)) (tVar i) (tC (.int 1))) (.int (n - 1)) := fun H Q _ k => ⟨_, h, _, _, rfl, rfl, k _ H .refl (.int _)⟩
theorem seq_catU {H0 H : Hp} {σ : L2.St} {t : TA} {Pr : Hp → L2.V → Prop} {n : Nat} {i j : Nat} {rest : TS} {D : Ends} (last : Last Pr) (A : MTs H0 σ t Pr n) {a : Addr} {xs : List L2.V} (hv : σ[j]? = some (some (.ref a))) (ha : H a = some (.lst xs)) (nx : ∀ v ∈ xs, Pr H v) (l : xs.length + n ≤ 1000) (g : Grows H0 H)
    (k : ∀ vs q H', Grows H H' → H' q = none → vs.length = n → (∀ v ∈ xs ++ vs, Pr H' v) → rest D (σ.set i (some (.ref q))) (upd H' q (.lst (xs ++ vs)))) : tSeq (tAsg (tOp rCat (tVar j) (tLst t)) (gName i)) rest D σ H :=
  ⟨_, hv, A H _ g fun vs H1 g1 l1 n1 => ⟨by rw [l1]; exact Nat.le_trans (show n ≤ 1000 by omega) (by decide), fun q hq => by
    have gq : Grows H1 (upd H1 q (.lst vs)) := Grows.new hq
    refine ⟨a, q, xs, vs, rfl, rfl, (g1.trans gq) _ _ ha, upd_same, by rw [l1]; exact Nat.le_trans l (by decide), fun y hy => ?_⟩
    refine k vs y _ (g1.trans gq) hy l1 fun v hv => ?_
    rcases List.mem_append.mp hv with m | m
    · exact last _ _ _ (nx v m) (g1.trans gq)
    · exact last _ _ _ (n1 v m) gq⟩⟩
theorem tif_of {c : TT} {t1 t2 : TE} {i : Nat} {σ : L2.St} {H : Hp} {D : Ends} {rest : TS} (Pr : V → Hp → Prop) (h : ∀ R : VK, (∀ v G, Grows H G → Pr v G → R v G) → tIf c t1 t2 σ H R) (k : ∀ v G, Grows H G → Pr v G → rest D (σ.set i (some v)) G) : tSeq (tAsg (tIf c t1 t2) (gName i)) rest D σ H := h _ k
theorem seq_no {c : TT} {a rest : TS} {D : Ends} {σ : L2.St} {H : Hp} (h : ∀ R : Bool → Hp → Prop, (∀ G, Grows H G → R false G) → c σ H R) (k : ∀ G, Grows H G → rest D σ G) : tSeq (tIfS c a tNext) rest D σ H := h _ fun G g => iteF (k G g)
theorem seq_of {t rest : TS} {D : Ends} {σ : L2.St} {H : Hp} (Pr : L2.St → Hp → Prop) (h : ∀ D' : Ends, (∀ σ G, Pr σ G → D'.nx σ G) → t D' σ H) (k : ∀ σ G, Pr σ G → rest D σ G) : tSeq t rest D σ H := h _ k
/-- the counts of one person fewer -/
def bfR : Nat → List Int
  | 0 => [0]
  | i + 1 => fcR i
def spGr : Sp := fun vs H Q _ => ∃ (p : Addr) (n m : Int), vs = [.ref p, .int n] ∧ Pch H p m ∧ m < 2 ^ 40 ∧ 1 ≤ n ∧ n ≤ 20 ∧ ∀ H', Pch H' p (m + 1000) → Gr p H H' → Q (.bl true) H'
section
variable {P : Program} {w : World} {K : PySem.W.Frag} {mg : Str → Option Value} {base : Heap}
theorem scGr : FnScope ["store", "many_here", "lot", "whole", "row", "ways", "every", "turn", "before", "spot", "old", "knots", "odd", "bad", "saved"] ["store", "many_here"] (defScope sGr) := ⟨rfl, rfl, rfl, by decide +kernel, rfl, by decide +kernel, by decide +kernel⟩
theorem ok_great {f : Addr} {fd : FuncData} (F : Fun K "_law_great_right" "_law_great_right" sGr f fd) (Z : ProgF K mg) (T : TxtP mg) (U : FmF K mg) (L : LwF P w base K mg) : FnG P w K mg base CX0 9 f fd ["store", "many_here"] spGr := by
  obtain ⟨fPick, fCome, fGroups, fKn, fFits, fShr, dPick, dCome, dGroups, dKn, dFits, dShr, FPick, FCome, FGroups, FKn, FFits, FShr, gPick, gCome, gGroups, gKn, gFits, gShr, bPick, bCome, bGroups, bKn, bFits, bShr, gRepr, GPick, GCome, GGroups, GKn, GFits, GShr⟩ := L
  have GHist := ok_hist (P := P) (w := w) (base := base) Z T U
  have GAHi := ok_ahi (P := P) (w := w) (base := base) Z T U
  have GFC := ok_fc (P := P) (w := w) (base := base) Z T U
  have GFam := ok_fam (P := P) (w := w) (base := base) Z T U
  refine okG F scGr (fun vs H Q E h => ?_) (fun cdv A outer s0 H vs Q E hr noG h => ?_)
  · obtain ⟨p, n, m, rfl, _⟩ := h
    rfl
  · obtain ⟨p, n, m, rfl, hP, mb, n1, n2, k⟩ := h
    refine ⟨_, (pss_cons (ps_set (i := 2) scGr.nd rfl (.inl rfl) (pe_call GGroups (hr.mono (by decide)) rfl gGroups FGroups.kp bGroups .nil pass0 (pa_cons (pe_call GCome (hr.mono (by decide)) rfl gCome FCome.kp bCome .nil pass0 (pa_cons (pv 0) (pa_cons (pv 1) pa_nil))) pa_nil)))
      (pss_cons (ps_set (i := 3) scGr.nd rfl (.inl rfl) pe_int)
      (pss_cons (ps_for PassesOwn.never rfl (pi_list (pv 2)) (pg_name (i := 4) scGr.nd rfl (.inl rfl))
      (pss_one (ps_set (i := 3) scGr.nd rfl (.inl rfl) (pe_op op_mul (pv 3) (pe_op op_sub (pe_callB call_len_seq (by rfl) T.len (by decide +kernel) (pa_cons (pv 4) pa_nil)) pe_int)))))
      (pss_cons (ps_asg (pe_tup (pa_cons pe_int (pa_cons pe_int pa_nil))) (pg_tup (by rfl) (pgs_cons (pg_name (i := 5) scGr.nd rfl (.inl rfl)) (pgs_cons (pg_name (i := 6) scGr.nd rfl (.inl rfl)) pgs_nil))))
      (pss_cons (ps_for PassesOwn.never rfl (pi_range2 (by rfl) T.range (pa_cons pe_int (pa_cons (pv 1) pa_nil))) (pg_name (i := 7) scGr.nd rfl (.inl rfl))
      (pss_one (ps_par (i := 5) (j := 6) (by rfl) scGr.nd rfl rfl (by decide) rfl rfl (pa_cons (pe_op op_mul (pv 5) (pv 7)) (pa_cons (pe_op op_mul (pv 6) (pe_op op_fdivW (pe_op op_mul (pv 7) (pe_op op_add (pv 7) pe_int)) pe_int)) pa_nil)) (by rfl))))
      (pss_cons (ps_if (PW.pt (pw_or (pt_cmpR op_ne (pe_call GHist (hr.mono (by decide)) rfl U.gHist U.FHist.kp U.bHist .nil pass0 (pa_cons (pv 2) pa_nil)) (pe_op op_fdivW (pv 5) (pv 3)) (nomark _)) (pw_or1 (pt_cmpR op_ne (pe_call GAHi (hr.mono (by decide)) rfl U.gAHi U.FAHi.kp U.bAHi .nil pass0 (pa_cons (pv 1) pa_nil)) (pv 6) (nomark _))))) (pss_one (ps_ret pe_bl)) pss_nil)
      (pss_cons (ps_set (i := 4) scGr.nd rfl (.inl rfl) (pe_call GFC (hr.mono (by decide)) rfl U.gFC U.FFC.kp U.bFC .nil pass0 (pa_cons (pv 1) pa_nil)))
      (pss_cons (ps_set (i := 8) scGr.nd rfl (.inl rfl) (pe_ifExp (pt_cmpR op_gt (pv 1) pe_int (nomark _)) (pe_call GFC (hr.mono (by decide)) rfl U.gFC U.FFC.kp U.bFC .nil pass0 (pa_cons (pe_op op_sub (pv 1) pe_int) pa_nil)) (pe_lst (pa_cons pe_int pa_nil))))
      (pss_cons (ps_if (PW.pt (pw_or (pt_cmpR op_ne (pe_callB call_len_seq (by rfl) T.len (by decide +kernel) (pa_cons (pv 4) pa_nil)) (pv 1) (nomark _)) (pw_or1 (pt_cmpR (op_neD hr.units) (pe_slice (r := rSlL K) sl_list (pv 4) po_none (po_some pe_int)) (pe_ix (r := rIxL K) ix_list (pe_lst (pa_cons (pe_lst (pa_cons pe_int (pa_cons pe_int pa_nil))) (pa_cons (pe_lst (pa_cons pe_int pa_nil)) pa_nil))) (pe_callTy call_int1 (by rfl) T.int (by decide +kernel) (pa_cons (pe_cmpR op_lt (pv 1) pe_int (nomark _)) pa_nil)) (fun _ _ => rfl)) (nomark _))))) (pss_one (ps_ret pe_bl)) pss_nil)
      (pss_cons (ps_for PassesOwn.never rfl (pi_range2 (by rfl) T.range (pa_cons pe_int (pa_cons (pe_ifExp (pt_cmpR op_gt (pv 1) pe_int (nomark _)) (pv 1) pe_int) pa_nil))) (pg_name (i := 9) scGr.nd rfl (.inl rfl))
      (pss_cons (ps_set (i := 10) scGr.nd rfl (.inl rfl) (pe_ifExp (pt_cmpR op_lt (pv 9) (pe_callB call_len_seq (by rfl) T.len (by decide +kernel) (pa_cons (pv 8) pa_nil)) (nomark _)) (pe_ix (r := rIxL K) ix_list (pv 8) (pv 9) (fun _ _ => rfl)) pe_int))
      (pss_one (ps_if (pt_cmpR op_ne (pe_ix (r := rIxL K) ix_list (pv 4) (pv 9) (fun _ _ => rfl)) (pe_op op_add (pe_op op_mul (pe_op op_sub (pe_op op_add (pv 1) (pv 9)) pe_int) (pe_ix (r := rIxL K) ix_list (pv 8) (pe_op op_sub (pv 9) pe_int) (fun _ _ => rfl))) (pe_op op_mul (pv 9) (pv 10))) (nomark _)) (pss_one (ps_ret pe_bl)) pss_nil))))
      (pss_cons (ps_set (i := 11) scGr.nd rfl (.inl rfl) (pe_call GKn (hr.mono (by decide)) rfl gKn FKn.kp bKn .nil pass0 (pa_cons (pv 0) (pa_cons (pv 2) pa_nil))))
      (pss_cons (ps_set (i := 12) scGr.nd rfl (.inl rfl) (pe_lst (pa_cons (pv 11) (pa_cons (pe_op op_cat (pv 11) (pe_lst (pa_cons (pe_lst (pa_cons pe_int (pa_cons pe_int pa_nil))) (pa_cons (pe_lst (pa_cons pe_int (pa_cons (pe_op op_sub (pv 1) pe_int) pa_nil))) pa_nil)))) (pa_cons (pe_op op_cat (pv 11) (pe_slice (r := rSlL K) sl_list (pv 11) po_none (po_some pe_int))) (pa_cons (pe_callTy (T := "tuple") (r := rTup K) (by exact call_tupK) (by rfl) T.tuple (by decide +kernel) (pa_cons (pv 11) pa_nil)) (pa_cons pe_non (pa_cons pe_int (pa_cons pe_str (pa_cons pe_dnewK (pa_cons pe_bl pa_nil)))))))))))
      (pss_cons (ps_set (i := 12) scGr.nd rfl (.inl rfl) (pe_op op_cat (pv 12) (pe_lst (pa_cons (pe_lst (pa_cons (pe_lst (pa_cons pe_int (pa_cons (pv 1) pa_nil))) pa_nil)) (pa_cons (pe_lst (pa_cons (pe_lst (pa_cons pe_int pa_nil)) pa_nil)) (pa_cons (pe_lst (pa_cons (pe_lst pa_nil) pa_nil)) (pa_cons (pe_lst (pa_cons (pe_lst (pa_cons pe_int (pa_cons pe_int pa_nil))) pa_nil)) (pa_cons (pe_lst (pa_cons (pe_lst (pa_cons pe_bl (pa_cons pe_int pa_nil))) pa_nil)) (pa_cons (pe_lst (pa_cons (pe_tup (pa_cons pe_int (pa_cons pe_int pa_nil))) pa_nil)) (pa_cons (pe_op op_cat (pv 11) (pe_lst (pa_cons pe_non pa_nil))) (pa_cons (pe_op op_rep (pe_lst (pa_cons (pe_lst (pa_cons pe_int (pa_cons pe_int pa_nil))) pa_nil)) pe_int) pa_nil)))))))))))
      (pss_cons (ps_expr (pe_bm PySem.F.plainAttrs_list PySem.F.slot_list_append PySem.F.type_list_append mt_append (pv 12) (pa_cons (pe_lst (pa_cons (pe_listRg rfl (by rfl) T.list (prg_1 (by rfl) T.range (pv 1))) pa_nil)) pa_nil)))
      (pss_cons (ps_for PassesOwn.never rfl (pi_list (pv 12)) (pg_name (i := 13) scGr.nd rfl (.inl rfl))
      (pss_cons (ps_set (i := 14) scGr.nd rfl (.inl rfl) (pe_callB (id := "repr") (r := rReprD K) (by exact cr_reprD noG hr.units) (by rfl) gRepr (by decide +kernel) (pa_cons (pv 13) pa_nil)))
      (pss_one (ps_if (PW.pt (pw_or (pt_cmpR op_ne (pe_callB (id := "repr") (r := rReprD K) (by exact cr_reprD noG hr.units) (by rfl) gRepr (by decide +kernel) (pa_cons (pe_call GFam (hr.mono (by decide)) rfl U.gFam U.FFam.kp U.bFam .nil pass0 (pa_cons (pv 1) (pa_cons (pv 13) pa_nil))) pa_nil)) (pe_callB (id := "repr") (r := rReprD K) (by exact cr_reprD noG hr.units) (by rfl) gRepr (by decide +kernel) (pa_cons (pe_call GFits (hr.mono (by decide)) rfl gFits FFits.kp bFits .nil pass0 (pa_cons (pv 1) (pa_cons (pv 13) pa_nil))) pa_nil)) (nomark _)) (pw_or1 (pt_cmpR op_ne (pe_callB (id := "repr") (r := rReprD K) (by exact cr_reprD noG hr.units) (by rfl) gRepr (by decide +kernel) (pa_cons (pv 13) pa_nil)) (pv 14) (nomark _))))) (pss_one (ps_ret pe_bl)) pss_nil))))
      (pss_one (ps_ret (pe_callG GShr (hr.mono (by decide)) noG rfl gShr FShr.kp bShr .nil pass0 (pa_cons (pv 1) (pa_cons (pv 2) pa_nil)))))))))))))))))))), ?_⟩
    refine ⟨_, rfl, _, rfl, p, n, m, rfl, hP, Int.lt_of_lt_of_le mb (by decide), by omega, n2, fun l0 xs H1 lx bx hP1 g1 nl el => ⟨l0, xs, rfl, SqL.of el, bx, by omega, fun a cs H2 g2 na ea each ecs => ?_⟩⟩
    dsimp only
    have ap : a ≠ p := pch_ne hP1 na
    have cp : ∀ b ∈ cs, b.1 ≠ p := fun b hb => pch_ne hP1 (each b hb).2
    have hP2 := hP1.same g2
    have fam := famB_ok bx xs.length (Nat.le_refl _)
    have fl := famB_len xs xs.length
    have csl : cs.length = xs.length := by
      have q := congrArg List.length ecs
      rw [List.length_map] at q
      rw [q]
      exact (List.mergeSort_perm _ _).length_eq.trans fl
    have few : cs.length < 20 := by omega
    have isp : isP (cs.map (·.2)) = true := by
      rw [ecs]
      exact isP_fam fam (by rw [fl]; omega)
    obtain rfl : n = (cs.length : Int) + 1 := by omega
    obtain ⟨rs, ers⟩ : ∃ rs, rs = cs.map (·.2) := ⟨_, rfl⟩
    have rl : rs.length = cs.length := by rw [ers, List.length_map]
    have rok := isP_rows isp
    rw [← ers] at rok
    have sz : Sz (cs.map (·.2)) := by
      refine ⟨by rw [List.length_map]; omega, fun r hr => ?_⟩
      rw [← ers] at hr
      have := (rok r hr).2.2.2.2
      omega
    have hB2 : Rw K H2 a cs := ⟨SqL.of ea, fun b hb => SqL.of (each b hb).1⟩
    show tSeq _ _ _ [some (.ref p), some (.int ((cs.length : Int) + 1)), some (.ref a), none, none, none, none, none, none, none, none, none, none, none, none] H2
    refine ⟨_, rfl, a, rfl, ⟨_, hB2.top⟩, for_list (K := K) (xs := cs.map fun b => L2.V.ref b.1) (fun i σ G => ∃ o4, σ = [some (.ref p), some (.int ((cs.length : Int) + 1)), some (.ref a), some (.int (prodL (rs.take i))), o4, none, none, none, none, none, none, none, none, none, none] ∧ G = H2 ∧ 1 ≤ prodL (rs.take i) ∧ (prodL (rs.take i)).natAbs < 2 ^ (10 * i + 1))
      ⟨none, rfl, rfl, Int.le_refl _, Nat.lt_succ_self 1⟩ (fun i σ G _ ⟨o4, e, eh, v0, v1⟩ => by rw [eh]; exact hB2.top) (fun i x σ G hx ⟨o4, e, eh, v0, v1⟩ => ?_) fun σ G ⟨o4, e, eh, v0, v1⟩ => ?_⟩
    · subst e
      subst eh
      rw [List.getElem?_map] at hx
      obtain ⟨b, hb, rfl⟩ := Option.map_eq_some_iff.mp hx
      have mb := List.mem_of_getElem? hb
      have er : rs[i]? = some b.2 := by rw [ers, List.getElem?_map, hb]; rfl
      obtain ⟨_, _, _, l2, l3⟩ := rok b.2 (List.mem_of_getElem? er)
      have s10 : ((b.2.length : Int) - 1).natAbs < 2 ^ 10 := by omega
      refine ⟨_, rfl, _, rfl, b.1, _, rfl, .inl (hB2.each b mb), _, _, rfl, rfl, _, _, rfl, rfl, .inr ⟨by rw [List.length_map]; omega, by rw [List.length_map]; omega⟩, _, by rw [prod_take er, List.length_map]; rfl, rfl, ?_, ?_⟩
      · rw [prod_take er]
        have : (1 : Int) * 1 ≤ prodL (rs.take i) * ((b.2.length : Int) - 1) := Int.mul_le_mul v0 (by omega) (by decide) (by omega)
        omega
      · rw [prod_take er, show 10 * (i + 1) + 1 = (10 * i + 1) + 10 by omega]
        exact wide_lt v1 s10
    subst e
    subst eh
    rw [List.length_map, show rs.take cs.length = rs by rw [← rl]; exact List.take_length] at v1 v0 ⊢
    refine ⟨(by show 2 ≤ sizeLine; decide), fun t0 ht0 => ⟨t0, _, rfl, SqT.of upd_same, rfl, _, _, rfl, _, _, rfl, rfl, ?_⟩⟩
    show tSeq _ _ _ [some (.ref p), some (.int ((cs.length : Int) + 1)), some (.ref a), some (.int (prodL rs)), o4, some (.int 1), some (.int 1), none, none, none, none, none, none, none, none] _
    have g3 := Grows.new (o := .tup [.int 1, .int 1]) ht0
    generalize upd G t0 (.tup [.int 1, .int 1]) = G3 at g3
    refine ⟨_, rfl, 1, (cs.length : Int) + 1, rfl, ⟨by decide, by decide, by omega, by omega⟩, for_range (lo := 1) (n := ((cs.length : Int) + 1 - 1).toNat) (fun i σ G4 => ∃ o7, σ = [some (.ref p), some (.int ((cs.length : Int) + 1)), some (.ref a), some (.int (prodL rs)), o4, some (.int (facN i)), some (.int (evN i)), o7, none, none, none, none, none, none, none] ∧ G4 = G3)
      ⟨none, rfl, rfl⟩ (fun i σ G4 il ⟨o7, e, eg⟩ => ?_) fun σ G4 ⟨o7, e, eg⟩ => ?_⟩
    · subst e
      subst eg
      have q : 0 ≤ (1 + (i : Int)) * ((1 + (i : Int)) + 1) ∧ (1 + (i : Int)) * ((1 + (i : Int)) + 1) ≤ 20 * 21 := ⟨Int.mul_nonneg (by omega) (by omega), Int.mul_le_mul (by omega) (by omega) (by omega) (by decide)⟩
      exact ⟨_, rfl, _, rfl, _, _, rfl, rfl, .inr ⟨by omega, by omega⟩, _, rfl, _, rfl, _, rfl, _, _, rfl, rfl, _, _, rfl, rfl, .inl ⟨by omega, by omega⟩, _, _, rfl, rfl, wide_div (b := 2) (by decide) (by decide) (by decide) (by decide), _, _, rfl, rfl, .inr ⟨by omega, by omega⟩, _, _, rfl, some (.int (1 + (i : Int))), rfl, rfl⟩
    subst e
    subst eg
    rw [show ((cs.length : Int) + 1 - 1).toNat = cs.length by omega]
    obtain ⟨f1, f2, f3, f4⟩ := fac_ok few
    have hB4 := hB2.keep g3
    have c0 : CDivW (facN cs.length) (prodL rs) := wide_div (b := 10 * cs.length + 1) (by omega) v1 (by omega) (by omega)
    have eH : histI rs = facN cs.length / prodL rs := by
      unfold histI
      rw [f1, rl]
    refine ⟨_, rfl, a, cs, rfl, hB4, sz, isp, fun H5 g5 => ⟨_, rfl, _, rfl, _, _, rfl, rfl, c0, ?_⟩⟩
    rw [← ers, eH]
    refine ⟨rfl, _, rfl, ?_⟩
    rw [decide_eq_true rfl]
    refine iteF ⟨_, rfl, (cs.length : Int) + 1, rfl, by omega, by omega, fun H6 g6 => ⟨_, rfl, rfl, _, rfl, ?_⟩⟩
    rw [f2, decide_eq_true rfl]
    refine iteF ⟨_, rfl, (cs.length : Int) + 1, rfl, by omega, by omega, fun D7 H7 hD7 g7 e7 => ?_⟩
    dsimp only
    show tSeq _ _ _ [some (.ref p), some (.int ((cs.length : Int) + 1)), some (.ref a), some (.int (prodL rs)), some (.ref D7), some (.int (facN cs.length)), some (.int (hofI ((cs.length : Int) + 1))), o7, none, none, none, none, none, none, none] H7
    rw [show ((cs.length : Int) + 1 + 1 - 2).toNat = cs.length by omega] at e7
    refine tif_of (fun v G => ∃ D8, v = .ref D8 ∧ G D8 = some (.lst ((bfR cs.length).map L2.V.int))) (fun R kR => ?_) fun v H8 g8 ⟨D8, ev, e8⟩ => ?_
    · refine ⟨_, rfl, _, _, rfl, rfl, _, rfl, ?_⟩
      by_cases one : (1 : Int) < (cs.length : Int) + 1
      · rw [decide_eq_true one]
        refine iteT ⟨_, rfl, _, _, rfl, rfl, (cs.length : Int) + 1 - 1, rfl, by omega, by omega, fun D8 H8 _ g8 e8 => kR _ _ g8 ⟨D8, rfl, ?_⟩⟩
        rw [e8]
        have e : bfR cs.length = fcR ((cs.length : Int) + 1 - 1 + 1 - 2).toNat := by
          obtain ⟨c, ec⟩ : ∃ c, cs.length = c + 1 := ⟨cs.length - 1, by omega⟩
          rw [ec, show (((c + 1 : Nat) : Int) + 1 - 1 + 1 - 2).toNat = c by omega]
          rfl
        rw [e]
      · rw [decide_eq_false one]
        refine iteF ⟨(by show 1 ≤ sizeLine; decide), fun D8 hD8 => kR _ _ (Grows.new hD8) ⟨D8, rfl, ?_⟩⟩
        rw [upd_same, show cs.length = 0 by omega]
        rfl
    subst ev
    dsimp only [List.set_cons_succ, List.set_cons_zero]
    have e78 := g8 _ _ e7
    have l7 := fcR_len cs.length
    have t7 := f4
    generalize efc : fcR cs.length = fr at e78 l7 t7
    refine seq_no (fun R kR => ?_) fun H9 g9 => ?_
    · refine ⟨_, rfl, D7, _, rfl, .inl (SqL.of e78), _, rfl, rfl, _, rfl, ?_⟩
      rw [List.length_map, l7, decide_eq_true (show L2.V.int ((cs.length + 1 : Nat) : Int) = L2.V.int ((cs.length : Int) + 1) from rfl)]
      refine iteF ⟨_, rfl, 2, rfl, D7, _, rfl, SqL.of e78, fun q hq => ?_⟩
      obtain ⟨zs, ezs⟩ : ∃ zs : List Int, zs = if cs.length = 0 then [1] else [0, 1] := ⟨_, rfl⟩
      rw [cut_take _ (by decide), show (2 : Int).toNat = 2 from rfl, ← List.map_take, t7, ← ezs]
      refine ⟨(by show 2 ≤ sizeLine; decide), fun u1 hu1 => ⟨(by show 1 ≤ sizeLine; decide), fun u2 hu2 => ⟨(by show 2 ≤ sizeLine; decide), fun u3 hu3 => ⟨_, rfl, _, _, rfl, rfl, .inr ⟨_, rfl, ?_⟩⟩⟩⟩⟩
      have x1 := Grows.new (o := .lst [L2.V.int 0, .int 1]) hu1
      have x2 := Grows.new (o := .lst [L2.V.int 1]) hu2
      have x3 := Grows.new (o := .lst [L2.V.ref u1, .ref u2]) hu3
      have x23 := x2.trans x3
      have x13 := x1.trans x23
      have xq := (Grows.new (o := .lst (zs.map L2.V.int)) hq).trans x13
      have eq := x13 _ _ (upd_same (H := H8) (a := q) (o := .lst (zs.map L2.V.int)))
      by_cases c0 : cs.length = 0
      · rw [decide_eq_true (show (cs.length : Int) + 1 < 2 by omega)]
        refine ⟨u3, _, 1, .ref u2, rfl, rfl, SqL.of upd_same, rfl, ?_⟩
        refine ⟨.list (zs.map .int), .list ([1].map .int), .lst (SqL.of eq) (rows_dp zs), .lst (SqL.of (x3 _ _ upd_same)) (rows_dp [1]), shaped_ints zs, shaped_ints [1], _, rfl, ?_⟩
        rw [eqv_ints, decide_eq_true (by rw [ezs, if_pos c0])]
        exact kR _ xq
      · rw [decide_eq_false (show ¬ (cs.length : Int) + 1 < 2 by omega)]
        refine ⟨u3, _, 0, .ref u1, rfl, rfl, SqL.of upd_same, rfl, ?_⟩
        refine ⟨.list (zs.map .int), .list ([0, 1].map .int), .lst (SqL.of eq) (rows_dp zs), .lst (SqL.of (x23 _ _ upd_same)) (rows_dp [0, 1]), shaped_ints zs, shaped_ints [0, 1], _, rfl, ?_⟩
        rw [eqv_ints, decide_eq_true (by rw [ezs, if_neg c0])]
        exact kR _ xq
    have e79 := g9 _ _ e78
    have e89 := g9 _ _ e8
    have l8 : (bfR cs.length).length = if cs.length = 0 then 1 else cs.length := by
      cases hc : cs.length with
      | zero => rfl
      | succ c => exact fcR_len c
    have step : ∀ j : Nat, 2 ≤ j → j < cs.length + 1 → 2 ≤ cs.length → fr.getD j 0 = ((cs.length : Int) + 1 + (j : Int) - 2) * (bfR cs.length).getD (j - 1) 0 + (j : Int) * (if j < (bfR cs.length).length then (bfR cs.length).getD j 0 else 0) := fun j j1 j2 c2 => by
      obtain ⟨c, ec⟩ : ∃ c, cs.length = c + 1 := ⟨cs.length - 1, by omega⟩
      rw [← efc, ec]
      have q := fc_next (k := c) j1 (by omega)
      rw [show ((c + 1 : Nat) : Int) + 1 = (c : Int) + 2 by omega]
      exact q
    generalize bfR cs.length = bf at e89 l8 step
    refine seq_of (fun σ G => ∃ o9 o10, σ = [some (.ref p), some (.int ((cs.length : Int) + 1)), some (.ref a), some (.int (prodL rs)), some (.ref D7), some (.int (facN cs.length)), some (.int (hofI ((cs.length : Int) + 1))), o7, some (.ref D8), o9, o10, none, none, none, none] ∧ G = H9) (fun D' kD => ?_) fun σ G ⟨o9, o10, e, eg⟩ => ?_
    · refine ⟨_, rfl, _, _, rfl, rfl, _, rfl, ?_⟩
      by_cases c2 : (2 : Int) < (cs.length : Int) + 1
      rotate_left
      · rw [decide_eq_false c2]
        exact iteF ⟨2, 0, rfl, ⟨by decide, by decide, by decide, by decide⟩, for_range (lo := 2) (n := (0 - 2 : Int).toNat) (fun i σ G => σ = [some (.ref p), some (.int ((cs.length : Int) + 1)), some (.ref a), some (.int (prodL rs)), some (.ref D7), some (.int (facN cs.length)), some (.int (hofI ((cs.length : Int) + 1))), o7, some (.ref D8), none, none, none, none, none, none] ∧ G = H9) ⟨rfl, rfl⟩ (fun i σ G il _ => absurd il (by show ¬ i < 0; omega)) fun σ G ⟨e, eg⟩ => kD _ _ ⟨none, none, e, eg⟩⟩
      rw [decide_eq_true c2]
      rw [if_neg (show ¬ cs.length = 0 by omega)] at l8
      refine iteT ⟨_, rfl, 2, (cs.length : Int) + 1, rfl, ⟨by decide, by decide, by omega, by omega⟩, for_range (lo := 2) (n := ((cs.length : Int) + 1 - 2).toNat) (fun i σ G => ∃ o9 o10, σ = [some (.ref p), some (.int ((cs.length : Int) + 1)), some (.ref a), some (.int (prodL rs)), some (.ref D7), some (.int (facN cs.length)), some (.int (hofI ((cs.length : Int) + 1))), o7, some (.ref D8), o9, o10, none, none, none, none] ∧ G = H9)
        ⟨none, none, rfl, rfl⟩ (fun i σ G il ⟨o9, o10, e, eg⟩ => ?_) fun σ G z => kD _ _ z⟩
      subst e
      subst eg
      refine tif_of (fun v G2 => v = .int (if i + 2 < bf.length then bf.getD (i + 2) 0 else 0) ∧ G2 = G) (fun R kR => ?_) fun v G2 _ ⟨ev, eg⟩ => ?_
      · refine ⟨_, rfl, _, rfl, D8, _, rfl, .inl (SqL.of e89), _, _, rfl, rfl, _, rfl, ?_⟩
        rw [List.length_map]
        by_cases lt : 2 + (i : Int) < (bf.length : Int)
        · rw [decide_eq_true lt]
          have x := at_int (xs := bf) (z := 2 + (i : Int)) (by omega) lt
          rw [show (2 + (i : Int)).toNat = i + 2 by omega] at x
          refine iteT ⟨_, rfl, _, rfl, D8, _, 2 + (i : Int), _, rfl, rfl, SqL.of e89, x, kR _ _ .refl ⟨?_, rfl⟩⟩
          rw [if_pos (by omega)]
        · rw [decide_eq_false lt]
          refine iteF (kR _ _ .refl ⟨?_, rfl⟩)
          rw [if_neg (by omega)]
      · subst ev
        subst eg
        dsimp only [List.set_cons_succ, List.set_cons_zero]
        have x4 := at_int (xs := fr) (z := 2 + (i : Int)) (by omega) (by omega)
        have x8 := at_int (xs := bf) (z := 2 + (i : Int) - 1) (by omega) (by omega)
        rw [show (2 + (i : Int)).toNat = i + 2 by omega] at x4
        rw [show (2 + (i : Int) - 1).toNat = i + 1 by omega] at x8
        have st := step (i + 2) (by omega) (by omega) (by omega)
        refine ⟨_, rfl, _, rfl, D7, _, 2 + (i : Int), _, rfl, rfl, SqL.of e79, x4, _, rfl, _, rfl, _, _, rfl, rfl, _, _, rfl, rfl, _, rfl, _, rfl, _, _, rfl, rfl, D8, _, 2 + (i : Int) - 1, _, rfl, rfl, SqL.of e89, x8, _, _, rfl, rfl, .inl ⟨by omega, by omega⟩, _, rfl, _, rfl, _, _, rfl, rfl, .inl ⟨by omega, by omega⟩, _, _, rfl, rfl, rfl, _, rfl, ?_⟩
        have ee : fr.getD (i + 2) 0 = ((cs.length : Int) + 1 + (2 + (i : Int)) - 2) * bf.getD (i + 1) 0 + (2 + (i : Int)) * (if i + 2 < bf.length then bf.getD (i + 2) 0 else 0) := by
          rw [st, show ((i + 2 : Nat) : Int) = 2 + (i : Int) by omega]
          rfl
        rw [decide_eq_true (congrArg L2.V.int ee)]
        exact iteF ⟨_, _, rfl, rfl⟩
    subst e
    subst eg
    have gA := ((((g3.trans g5).trans g6).trans g7).trans g8).trans g9
    have hP9 := hP2.same gA
    have ea9 := gA _ _ ea
    refine ⟨_, rfl, _, rfl, p, a, _, cs, rfl, hP9, Int.lt_of_lt_of_le (show m + 100 < 2 ^ 50 by omega) (by decide), ap, ea9, fun b hb => ⟨gA _ _ (each b hb).1, cp b hb⟩, by omega, fun q ks H10 hP10 g10 nq eq eks sub nd lks => ?_⟩
    dsimp only
    show tSeq _ _ _ [some (.ref p), some (.int ((cs.length : Int) + 1)), some (.ref a), some (.int (prodL rs)), some (.ref D7), some (.int (facN cs.length)), some (.int (hofI ((cs.length : Int) + 1))), o7, some (.ref D8), o9, o10, some (.ref q), none, none, none] H10
    obtain ⟨kr, ekr⟩ : ∃ kr, kr = ks.map (·.2) := ⟨_, rfl⟩
    have krl : kr.length = ks.length := by rw [ekr, List.length_map]
    rw [← ekr] at sub nd
    have sm : ∀ r ∈ kr, Sm r := fun r hr => by
      have q := sub r hr
      rw [← ers] at q
      obtain ⟨_, _, z1, _, z2⟩ := rok r q
      exact ⟨by omega, fun x hx => by have := z1 x hx; omega⟩
    have smN : ∀ {x y : Int}, 0 ≤ x → x ≤ 30 → 0 ≤ y → y ≤ 30 → Sm [x, y] := fun h1 h2 h3 h4 => ⟨by show 2 ≤ 25; decide, fun z hz => by
      rcases List.mem_cons.mp hz with e | e
      · omega
      · have := List.mem_singleton.mp e
        omega⟩
    have all : DpAll K H10 (ks.map fun c => V.ref c.1) (rowsD kr) := by
      rw [ekr]
      exact rows_data fun b hb => SqL.of (eks b hb).1
    have kl19 : ks.length ≤ 19 := by omega
    have rdl : (rowsD kr).length ≤ 19 := by
      unfold rowsD
      rw [List.length_map]
      omega
    refine seq_lstT (H0 := H10) odd_last (mt_cons odd_last (odd_md (md_var rfl (.lst (SqL.of eq) all)) (fin_rows (by omega) sm) (tx_rows' (by omega) sm))
      (mt_cons odd_last (?_ : MT H10 _ _ (Odd K)) (mt_cons odd_last (?_ : MT H10 _ _ (Odd K)) (mt_cons odd_last (?_ : MT H10 _ _ (Odd K)) (mt_cons odd_last (odd_c md_non (by decide +kernel)) (mt_cons odd_last (odd_c md_int (by decide +kernel)) (mt_cons odd_last (odd_c md_str (by decide +kernel)) (mt_cons odd_last odd_dict (mt_cons odd_last (odd_c md_bl (by decide +kernel)) mt_nil))))))))) (by decide) .refl (fun vs q2 H11 g11 e11 l11 all11 => ?_)
    · have e2 : rowsD kr ++ [.list [.int 0, .int 1], .list [.int 1, .int ((cs.length : Int) + 1 - 1)]] = rowsD (kr ++ [[0, 1], [1, (cs.length : Int) + 1 - 1]]) := by
        unfold rowsD
        rw [List.map_append]
        rfl
      have sm2 : ∀ r ∈ kr ++ [[0, 1], [1, (cs.length : Int) + 1 - 1]], Sm r := fun r hr => by
        rcases List.mem_append.mp hr with m | m
        · exact sm r m
        · rcases List.mem_cons.mp m with e | e
          · rw [e]
            exact smN (by omega) (by omega) (by omega) (by omega)
          · rw [List.mem_singleton.mp e]
            exact smN (by omega) (by omega) (by omega) (by omega)
      have ll : (kr ++ [[0, 1], [1, (cs.length : Int) + 1 - 1]]).length ≤ 30 := by
        rw [List.length_append]
        show kr.length + 2 ≤ 30
        omega
      exact odd_md (md_cat (es := [.list [.int 0, .int 1], .list [.int 1, .int ((cs.length : Int) + 1 - 1)]]) rfl eq all (md_cons (md_lst (md_cons md_int (md_cons md_int md_nil)) (Nat.le_of_ble_eq_true rfl)) (md_cons (md_lst (md_cons md_int (md_cons (md_pred rfl) md_nil)) (Nat.le_of_ble_eq_true rfl)) md_nil)) (by show (rowsD kr).length + 2 ≤ 1000; omega)) (by rw [e2]; exact fin_rows (by omega) sm2) (by rw [e2]; exact tx_rows' ll sm2)
    · have e3 : rowsD kr ++ (rowsD kr).take 1 = rowsD (kr ++ kr.take 1) := by
        unfold rowsD
        rw [List.map_append, List.map_take]
      have sm3 : ∀ r ∈ kr ++ kr.take 1, Sm r := fun r hr => by
        rcases List.mem_append.mp hr with m | m
        · exact sm r m
        · exact sm r (List.mem_of_mem_take m)
      have ll : (kr ++ kr.take 1).length ≤ 30 := by
        rw [List.length_append, List.length_take]
        omega
      exact odd_md (md_catT (ys := (ks.map fun c => V.ref c.1).take 1) (es := (rowsD kr).take 1) rfl eq all (dp_take 1 all) (by rw [List.length_take]; omega) (fun H Q b kk => ⟨_, rfl, 1, rfl, q, _, rfl, SqL.of (b _ _ eq), fun p hp => by rw [cut_take _ (by decide)]; exact kk p hp⟩)) (by rw [e3]; exact fin_rows (by omega) sm3) (by rw [e3]; exact tx_rows' ll sm3)
    · exact odd_md (md_tupOf rfl (SqL.of eq) all) (fun ds e => nomatch e) (tx_big (tx_tuple (n := 1) (w := 2775) (m := 30) (tx_mems sm (Nat.le_refl _) (Nat.le_refl _)) (by omega)) (by decide) (by decide))
    dsimp only [List.set_cons_succ, List.set_cons_zero]
    have eq11 := g11 _ _ eq
    have all' := DpAll.grow g11 all
    have r0N : ∀ r ∈ [[0, (cs.length : Int) + 1]], Sm r := fun r hr => by
      rw [List.mem_singleton.mp hr]
      exact smN (by omega) (by omega) (by omega) (by omega)
    have rep : List.replicate 20 (PyData.list [.int 0, .int 1]) = rowsD (List.replicate 20 [0, 1]) := rfl
    have r20 : ∀ r ∈ List.replicate 20 ([0, 1] : List Int), Sm r := fun r hr => by
      rw [List.eq_of_mem_replicate hr]
      exact smN (by decide) (by decide) (by decide) (by decide)
    have i1 : ∀ (σ : L2.St), σ[1]? = some (some (.int ((cs.length : Int) + 1))) → MT H11 σ (tLst (tCons (tLst (tCons (tC (V.int 0)) (tCons (tVar 1) tNil))) tNil)) (Odd K) := fun σ h => odd_md (d := .list (rowsD [[0, (cs.length : Int) + 1]])) (md_lst (md_cons (md_lst (md_cons md_int (md_cons (md_var h (.int _)) md_nil)) (Nat.le_of_ble_eq_true rfl)) md_nil) (Nat.le_of_ble_eq_true rfl)) (fin_rows (Nat.le_of_ble_eq_true rfl) r0N) (tx_rows' (Nat.le_of_ble_eq_true rfl) r0N)
    have i7 : ∀ (σ : L2.St), σ[11]? = some (some (.ref q)) → MT H11 σ (tOp rCat (tVar 11) (tLst (tCons (tC V.non) tNil))) (Odd K) := fun σ h => odd_md (md_cat (es := [.none]) h eq11 all' (md_cons md_non md_nil) (by show (rowsD kr).length + 1 ≤ 1000; omega)) (fun ds e => by
        cases e
        refine ⟨by rw [List.length_append]; show (rowsD kr).length + 1 ≤ 60; omega, fun x hx => ?_⟩
        rcases List.mem_append.mp hx with m | m
        · exact (fin_rows (by omega) sm _ rfl).2 x m
        · rw [List.mem_singleton.mp m]
          exact ⟨by simp only [PyData.canLay0], by simp only [PyData.depth]; omega, fun es e => nomatch e⟩) (tx_big (tx_list (n := 1) (w := 2775) (m := 30) (fun d hd => by
        rcases List.mem_append.mp hd with m | m
        · exact tx_mems sm (Nat.le_refl _) (Nat.le_refl _) d m
        · rw [List.mem_singleton.mp m]
          exact tx_of (by decide +kernel)) (by rw [List.length_append]; show (rowsD kr).length + 1 ≤ 30; omega)) (by decide) (by decide))
    have i8 : ∀ (σ : L2.St), MT H11 σ (tOp rRep (tLst (tCons (tLst (tCons (tC (V.int 0)) (tCons (tC (V.int 1)) tNil))) tNil)) (tC (V.int 20))) (Odd K) := fun σ => odd_md (md_rep (k := 20) (md_lst (md_cons md_int (md_cons md_int md_nil)) (Nat.le_of_ble_eq_true rfl)) (by decide)) (by rw [rep]; exact fin_rows (by decide) r20) (by rw [rep]; exact tx_rows' (by decide) r20)
    refine seq_catU (H0 := H11) odd_last (mt_cons odd_last (i1 _ rfl) (mt_cons odd_last (odd_c (md_lst (md_cons (md_lst (md_cons md_int md_nil) (Nat.le_of_ble_eq_true rfl)) md_nil) (Nat.le_of_ble_eq_true rfl)) (by decide +kernel)) (mt_cons odd_last (odd_c (md_lst (md_cons (md_lst md_nil (Nat.le_of_ble_eq_true rfl)) md_nil) (Nat.le_of_ble_eq_true rfl)) (by decide +kernel))
      (mt_cons odd_last (odd_c (md_lst (md_cons (md_lst (md_cons md_int (md_cons md_int md_nil)) (Nat.le_of_ble_eq_true rfl)) md_nil) (Nat.le_of_ble_eq_true rfl)) (by decide +kernel)) (mt_cons odd_last (odd_c (md_lst (md_cons (md_lst (md_cons md_bl (md_cons md_int md_nil)) (Nat.le_of_ble_eq_true rfl)) md_nil) (Nat.le_of_ble_eq_true rfl)) (by decide +kernel))
      (mt_cons odd_last (odd_c (md_lst (md_cons (md_tup (md_cons md_int (md_cons md_int md_nil)) (Nat.le_of_ble_eq_true rfl)) md_nil) (Nat.le_of_ble_eq_true rfl)) (by decide +kernel)) (mt_cons odd_last (i7 _ rfl) (mt_cons odd_last (i8 _) mt_nil)))))))) rfl e11 all11 (by rw [l11]; decide) .refl (fun vs2 q3 H12 g12 n12 l12 all12 => ?_)
    dsimp only [List.set_cons_succ, List.set_cons_zero]
    obtain ⟨ys, eys⟩ : ∃ ys, ys = vs ++ vs2 := ⟨_, rfl⟩
    have yl : ys.length ≤ 17 := by
      rw [eys, List.length_append, l11, l12]
      decide
    rw [← eys] at all12 ⊢
    refine ⟨_, rfl, .inl ⟨rfl, _, SqL.of upd_same⟩, _, rfl, _, rfl, .of_le (by decide) (by omega) (by decide) (by omega), fun q4 hq4 => ⟨(by show 1 ≤ sizeLine; decide), fun q5 hq5 => ?_⟩⟩
    have y4 := Grows.new (o := .lst (rgV 0 ((cs.length : Int) + 1))) hq4
    have y5 := Grows.new (o := .lst [L2.V.ref q4]) hq5
    have y45 := y4.trans y5
    have e3q := y45 _ _ (upd_same (H := H12) (a := q3) (o := .lst ys))
    have e4q := y5 _ _ (upd_same (a := q4) (o := .lst (rgV 0 ((cs.length : Int) + 1))))
    have n43 : q4 ≠ q3 := (ne_of_none (upd_same (H := H12) (a := q3) (o := .lst ys)) hq4).symm
    have n53 : q5 ≠ q3 := (ne_of_none (y4 _ _ (upd_same (H := H12) (a := q3) (o := .lst ys))) hq5).symm
    have gF := upd_D (D := q3) (o := .lst (ys ++ [V.ref q5])) n12 ((upd_D (D := q3) (o := .lst ys) n12 .refl).trans y45)
    refine ⟨q3, _, _, rfl, rfl, e3q, Nat.lt_of_lt_of_le (show ys.length < 18 by omega) (by decide), ?_⟩
    have e3z := upd_same (H := upd (upd (upd H12 q3 (.lst ys)) q4 (.lst (rgV 0 ((cs.length : Int) + 1)))) q5 (.lst [L2.V.ref q4])) (a := q3) (o := .lst (ys ++ [V.ref q5]))
    have e4z := (upd_ne (H := upd (upd (upd H12 q3 (.lst ys)) q4 (.lst (rgV 0 ((cs.length : Int) + 1)))) q5 (.lst [L2.V.ref q4])) (o := .lst (ys ++ [V.ref q5])) n43).trans e4q
    have e5z := (upd_ne (H := upd (upd (upd H12 q3 (.lst ys)) q4 (.lst (rgV 0 ((cs.length : Int) + 1)))) q5 (.lst [L2.V.ref q4])) (o := .lst (ys ++ [V.ref q5])) n53).trans upd_same
    generalize upd (upd (upd (upd H12 q3 (.lst ys)) q4 (.lst (rgV 0 ((cs.length : Int) + 1)))) q5 (.lst [L2.V.ref q4])) q3 (.lst (ys ++ [V.ref q5])) = H14 at gF e3z e4z e5z
    have rg : rgV 0 ((cs.length : Int) + 1) = (upto (cs.length + 1)).map L2.V.int := rg_upto (cs.length + 1)
    rw [rg] at e4z
    have sU : ∀ r ∈ [upto (cs.length + 1)], Sm r := fun r hr => by
      rw [List.mem_singleton.mp hr]
      exact sm_upto (by omega)
    have odd14 : ∀ v ∈ ys ++ [V.ref q5], Odd K H14 v := fun v hv => by
      rcases List.mem_append.mp hv with m | m
      · exact odd_last _ _ _ (all12 v m) gF
      · rw [List.mem_singleton.mp m]
        exact ⟨.list (rowsD [upto (cs.length + 1)]), .inl (.lst (SqL.of e5z) (.cons (.lst (SqL.of e4z) (rows_dp _)) .nil)), fin_rows (Nat.le_of_ble_eq_true rfl) sU, tx_rows' (Nat.le_of_ble_eq_true rfl) sU⟩
    refine ⟨_, rfl, q3, rfl, ⟨_, SqL.of e3z⟩, for_list (K := K) (xs := ys ++ [V.ref q5]) (fun i σ G => ∃ o13 o14, σ = [some (.ref p), some (.int ((cs.length : Int) + 1)), some (.ref a), some (.int (prodL rs)), some (.ref D7), some (.int (facN cs.length)), some (.int (hofI ((cs.length : Int) + 1))), o7, some (.ref D8), o9, o10, some (.ref q), some (.ref q3), o13, o14] ∧ Grows H14 G)
      ⟨none, none, rfl, .refl⟩ (fun i σ G _ ⟨o13, o14, e, g⟩ => SqL.of (g _ _ e3z)) (fun i x σ G hx ⟨o13, o14, e, g⟩ => ?_) fun σ G ⟨o13, o14, e, g⟩ => ?_⟩
    · subst e
      obtain ⟨d, hd, fin, tx⟩ := odd_last _ _ _ (odd14 x (List.mem_of_getElem? hx)) g
      have gn := g
      refine ⟨_, rfl, x, d, rfl, hd, tx, ?_⟩
      have txb : ∀ b : Bool, Tx 20 100000 (.bool b) := fun b => tx_of (by cases b <;> decide +kernel)
      refine ⟨_, rfl, _, rfl, (cs.length : Int) + 1, x, d, rfl, by omega, by omega, hd, fin.lim, fun Ha ga => ⟨.bl _, .bool _, rfl, .inl (.bl _), txb _, _, rfl, _, rfl, (cs.length : Int) + 1, x, d, rfl, Dd.grow ga hd, fin, fun Hb gb => ⟨.bl _, .bool _, rfl, .inl (.bl _), txb _, rfl, _, rfl, ?_⟩⟩⟩
      rw [decide_eq_true rfl]
      have gab := ga.trans gb
      refine iteF ⟨_, rfl, x, d, rfl, Dd.grow gab hd, tx, _, rfl, rfl, _, rfl, ?_⟩
      rw [decide_eq_true rfl]
      exact iteF ⟨_, _, rfl, g.trans gab⟩
    · subst e
      have ea10 := g10 _ _ ap ea9
      have gEnd := (((g11.trans g12).trans gF).trans g)
      have hB : Rw K G a cs := ⟨SqL.of (gEnd _ _ ea10), fun b hb => SqL.of (gEnd _ _ (g10 _ _ (cp b hb) (gA _ _ (each b hb).1)))⟩
      refine ⟨_, rfl, _, rfl, cs.length + 1, a, cs, rfl, by omega, by omega, hB, fun b hb => ?_, fun Hz gz => k _ (((hP10.same gEnd).same gz).le (by omega)) ?_⟩
      · obtain ⟨z1, _, _, _, z2⟩ := rok b.2 (by rw [ers]; exact List.mem_map.mpr ⟨b, hb, rfl⟩)
        rw [rl] at z1 z2
        exact ⟨z1, z2⟩
      · exact g1.trans (g2.gr.trans (gA.gr.trans (g10.trans (gEnd.trans gz).gr)))
end
end K32

namespace K32
open PySem PySem.Spec PyProof.Rows L2 SortR LcM RepA
/-! ### data that stand as lists and tuples of one's own -/
mutual
inductive DL (H : Hp) : V → PyData → Prop
  | int (i : Int) : DL H (.int i) (.int i)
  | lst {a : Addr} {xs : List V} {ds : List PyData} (h : H a = some (.lst xs)) (t : DLs H xs ds) : DL H (.ref a) (.list ds)
  | tup {a : Addr} {xs : List V} {ds : List PyData} (h : H a = some (.tup xs)) (t : DLs H xs ds) : DL H (.ref a) (.tuple ds)
inductive DLs (H : Hp) : List V → List PyData → Prop
  | nil : DLs H [] []
  | cons {v : V} {d : PyData} {vs : List V} {ds : List PyData} (h : DL H v d) (t : DLs H vs ds) : DLs H (v :: vs) (d :: ds)
end
mutual
theorem DL.grow {H H' : Hp} (s : Grows H H') : ∀ {v : V} {d : PyData}, DL H v d → DL H' v d
  | _, _, .int i => .int i
  | _, _, .lst h t => .lst (s _ _ h) (DLs.grow s t)
  | _, _, .tup h t => .tup (s _ _ h) (DLs.grow s t)
theorem DLs.grow {H H' : Hp} (s : Grows H H') : ∀ {vs : List V} {ds : List PyData}, DLs H vs ds → DLs H' vs ds
  | _, _, .nil => .nil
  | _, _, .cons h t => .cons (DL.grow s h) (DLs.grow s t)
end
mutual
theorem DL.dp {K : PySem.W.Frag} {H : Hp} : ∀ {v : V} {d : PyData}, DL H v d → Dp K H v d
  | _, _, .int i => .int i
  | _, _, .lst h t => .lst (SqL.of h) (DLs.dp t)
  | _, _, .tup h t => .tup (SqT.of h) (DLs.dp t)
theorem DLs.dp {K : PySem.W.Frag} {H : Hp} : ∀ {vs : List V} {ds : List PyData}, DLs H vs ds → DpAll K H vs ds
  | _, _, .nil => .nil
  | _, _, .cons h t => .cons (DL.dp h) (DLs.dp t)
end
theorem DLs.len {H : Hp} : ∀ {vs : List V} {ds : List PyData}, DLs H vs ds → vs.length = ds.length
  | _, _, .nil => rfl
  | _, _, .cons _ t => congrArg (· + 1) (DLs.len t)
theorem DLs.app {H : Hp} : ∀ {vs ws : List V} {ds es : List PyData}, DLs H vs ds → DLs H ws es → DLs H (vs ++ ws) (ds ++ es)
  | _, _, _, _, .nil, h => h
  | _, _, _, _, .cons a b, h => .cons a (DLs.app b h)
theorem DLs.at {H : Hp} : ∀ {vs : List V} {ds : List PyData} {i : Nat} {x : V}, DLs H vs ds → vs[i]? = some x → ∃ d, ds[i]? = some d ∧ DL H x d
  | _, _, _, _, .nil, h => nomatch h
  | _, _, 0, _, .cons a _, h => by
    cases h
    exact ⟨_, rfl, a⟩
  | v :: vs, d :: ds, i + 1, x, .cons _ b, h => DLs.at (i := i) b h
theorem DLs.take {H : Hp} : ∀ (i : Nat) {vs : List V} {ds : List PyData}, DLs H vs ds → DLs H (vs.take i) (ds.take i)
  | 0, _, _, _ => .nil
  | _ + 1, _, _, .nil => .nil
  | i + 1, _, _, .cons a b => .cons a (DLs.take i b)
theorem DLs.drop {H : Hp} : ∀ (i : Nat) {vs : List V} {ds : List PyData}, DLs H vs ds → DLs H (vs.drop i) (ds.drop i)
  | 0, _, _, h => h
  | _ + 1, _, _, .nil => .nil
  | i + 1, _, _, .cons a b => DLs.drop i b
theorem DLs.rev {H : Hp} : ∀ {vs : List V} {ds : List PyData}, DLs H vs ds → DLs H vs.reverse ds.reverse
  | _, _, .nil => .nil
  | _, _, .cons a b => by
    rw [List.reverse_cons, List.reverse_cons]
    exact DLs.app (DLs.rev b) (.cons a .nil)
theorem DLs.ints {H : Hp} : ∀ ns : List Int, DLs H (ns.map V.int) (ns.map .int)
  | [] => .nil
  | n :: ns => .cons (.int n) (DLs.ints ns)
/-- a heap without one place -/
def off (D : Addr) (H : Hp) : Hp := fun b => if b = D then none else H b
theorem off_le {D : Addr} {H : Hp} : Grows (off D H) H := fun b o e => by
  unfold off at e
  by_cases z : b = D
  · rw [if_pos z] at e; cases e
  · rw [if_neg z] at e
    exact e
theorem off_of {D : Addr} {H0 H : Hp} (hD : H0 D = none) (g : Grows H0 H) : Grows H0 (off D H) := fun b o e => by
  unfold off
  rw [if_neg fun z => by rw [z, hD] at e; cases e]
  exact g _ _ e
theorem off_grow {D : Addr} {H H' : Hp} (g : Grows H H') : Grows (off D H) (off D H') := fun b o e => by
  unfold off at e ⊢
  by_cases z : b = D
  · rw [if_pos z] at e; cases e
  · rw [if_neg z] at e ⊢
    exact g _ _ e
theorem off_upd {D : Addr} {H : Hp} {o : HO} : off D (upd H D o) = off D H := by
  funext b
  unfold off
  by_cases z : b = D
  · rw [if_pos z, if_pos z]
  · rw [if_neg z, if_neg z, upd_ne z]
theorem off_at {D a : Addr} {H : Hp} {o : HO} (h : H a = some o) (n : a ≠ D) : off D H a = some o := by
  unfold off
  rw [if_neg n]
  exact h
section
variable {K : PySem.W.Frag} {a : Addr} {xs : List V} {ds : List PyData} {g : TG} {tt : TT} {te : TE} {vs : List Nat} {σ : L2.St} {H0 : Hp} {D : Addr} {Qd : Hp → Prop}
theorem filt_next (p : PyData → Bool) (F : PyData → PyData) {i : Nat} {d : PyData} (h : ds[i]? = some d) : ((ds.take (i + 1)).filter p).map F = ((ds.take i).filter p).map F ++ (if p d = true then [F d] else []) := by
  rw [take_nextD h, List.filter_append, List.map_append]
  congr 1
  cases e : p d with
  | true => rw [if_pos rfl, List.filter_cons, if_pos e]; rfl
  | false => rw [if_neg Bool.false_ne_true, List.filter_cons, if_neg (by rw [e]; exact Bool.false_ne_true)]; rfl
/-- [e for x in xs if c], by the data of its items -/
theorem lc_listDL (p : PyData → Bool) (F : PyData → PyData) (hD : H0 D = none) (hx : SqL K H0 a xs) (all : DLs H0 xs ds) (small : ds.length ≤ 1000)
    (turn : ∀ (i : Nat) (x : V) (d : PyData) (G : Hp) (Ry : V → Hp → Prop) (Rn : Hp → Prop), ds[i]? = some d → Grows H0 G → Grows H0 (off D G) → DL (off D G) x d → G D ≠ none → (p d = true → ∀ y H4, Grows G H4 → DL (off D H4) y (F d) → Ry y H4) → (p d = false → ∀ H4, Grows G H4 → Rn H4) →
      g x (wipe σ vs) G fun σ2 H2 => wipe σ2 vs = wipe σ vs ∧ tt σ2 H2 fun t H3 => if t = true then te σ2 H3 Ry else Rn H3)
    (done : ∀ G acc, Grows H0 G → G D = some (.lst acc) → DLs (off D G) acc ((ds.filter p).map F) → Qd G) :
    ∃ W : Nat → Nat → Hp → Prop, (∃ m, W 0 m (upd H0 D (.lst []))) ∧ ∀ i m H, W i m H →
      ((Itl K a).stop i H ∧ Qd H) ∨ ((Itl K a).go i H ∧ ∃ Nx : Hp → Prop, (∀ H', Nx H' → ∃ m', m' < m ∧ W (i + 1) m' H') ∧ ∀ x H', (Itl K a).yld i H x H' → g x (wipe σ vs) H' fun σ2 H2 => wipe σ2 vs = wipe σ vs ∧ tt σ2 H2 fun b H3 =>
        if b = true then te σ2 H3 fun y H4 => ∃ acc, H4 D = some (.lst acc) ∧ acc.length < sizeLine ∧ Nx (upd H4 D (.lst (acc ++ [y]))) else Nx H3) := by
  have xl := DLs.len all
  refine lc_list (fun i G => ∃ acc, Grows H0 G ∧ G D = some (.lst acc) ∧ DLs (off D G) acc (((ds.take i).filter p).map F)) ⟨[], Grows.new hD, upd_same, .nil⟩ (fun i G _ ⟨_, gg, _⟩ => gg.seq hx) (fun i x G ex ⟨acc, gg, eD, al⟩ => ?_) fun G ⟨acc, gg, eD, al⟩ => ?_
  · obtain ⟨d, hd, hdx⟩ := DLs.at all ex
    have go := off_of hD gg
    have al2 : acc.length ≤ 1000 := by
      rw [DLs.len al, List.length_map]
      have := List.length_filter_le p (ds.take i)
      rw [List.length_take] at this
      omega
    refine turn i x d G _ _ hd gg go (DL.grow go hdx) (by rw [eD]; exact fun z => nomatch z) (fun pd y H4 g4 hy => ?_) fun pd H4 g4 => ?_
    · refine ⟨acc, g4 _ _ eD, Nat.lt_of_le_of_lt al2 (by decide), acc ++ [y], upd_D hD (gg.trans g4), upd_same, ?_⟩
      rw [off_upd, filt_next p F hd, if_pos pd]
      exact DLs.app (DLs.grow (off_grow g4) al) (.cons hy .nil)
    · refine ⟨acc, gg.trans g4, g4 _ _ eD, ?_⟩
      rw [filt_next p F hd, if_neg (by rw [pd]; exact Bool.false_ne_true), List.append_nil]
      exact DLs.grow (off_grow g4) al
  · rw [xl, List.take_length] at al
    exact done G acc gg eD al
/-- [e for i in range(lo, ..)], by the data of its turns -/
theorem lc_rangeDL {lo : Int} {n : Nat} (F : Nat → PyData) (hD : H0 D = none) (small : n ≤ 1000)
    (turn : ∀ (i : Nat) (G : Hp) (Ry : V → Hp → Prop), i < n → Grows H0 G → Grows H0 (off D G) → G D ≠ none → (∀ y H4, Grows G H4 → DL (off D H4) y (F i) → Ry y H4) →
      g (.int (lo + i)) (wipe σ vs) G fun σ2 H2 => wipe σ2 vs = wipe σ vs ∧ te σ2 H2 Ry)
    (done : ∀ G acc, Grows H0 G → G D = some (.lst acc) → DLs (off D G) acc ((List.range n).map F) → Qd G) :
    ∃ W : Nat → Nat → Hp → Prop, (∃ m, W 0 m (upd H0 D (.lst []))) ∧ ∀ i m H, W i m H →
      ((Itr lo n).stop i H ∧ Qd H) ∨ ((Itr lo n).go i H ∧ ∃ Nx : Hp → Prop, (∀ H', Nx H' → ∃ m', m' < m ∧ W (i + 1) m' H') ∧ ∀ x H', (Itr lo n).yld i H x H' → g x (wipe σ vs) H' fun σ2 H2 => wipe σ2 vs = wipe σ vs ∧ tYes σ2 H2 fun b H3 =>
        if b = true then te σ2 H3 fun y H4 => ∃ acc, H4 D = some (.lst acc) ∧ acc.length < sizeLine ∧ Nx (upd H4 D (.lst (acc ++ [y]))) else Nx H3) := by
  refine lc_range (lo := lo) (n := n) (fun i G => ∃ acc, Grows H0 G ∧ G D = some (.lst acc) ∧ DLs (off D G) acc ((List.range i).map F)) ⟨[], Grows.new hD, upd_same, .nil⟩ (fun i G il ⟨acc, gg, eD, al⟩ => ?_) fun G ⟨acc, gg, eD, al⟩ => done G acc gg eD al
  rw [yes_eq (A := fun σ2 => wipe σ2 vs = wipe σ vs)]
  have al2 : acc.length ≤ 1000 := by
    rw [DLs.len al, List.length_map, List.length_range]
    omega
  refine turn i G _ il gg (off_of hD gg) (by rw [eD]; exact fun z => nomatch z) fun y H4 g4 hy => ⟨acc, g4 _ _ eD, Nat.lt_of_le_of_lt al2 (by decide), acc ++ [y], upd_D hD (gg.trans g4), upd_same, ?_⟩
  rw [off_upd, List.range_succ, List.map_append]
  exact DLs.app (DLs.grow (off_grow g4) al) (.cons hy .nil)
end
/-- x + y, lists of one's own: the list is new -/
theorem cat_DL {H : Hp} {D a b : Addr} {xs ys : List V} {ds es : List PyData} (ha : H a = some (.lst xs)) (hb : H b = some (.lst ys)) (h1 : DLs (off D H) xs ds) (h2 : DLs (off D H) ys es) (l : xs.length + ys.length ≤ 1000) (nD : H D ≠ none) {Q : VK}
    (k : ∀ y, H y = none → DL (off D (upd H y (.lst (xs ++ ys)))) (.ref y) (.list (ds ++ es)) → Q (.ref y) (upd H y (.lst (xs ++ ys)))) : rCat (.ref a) (.ref b) H Q :=
  ⟨a, b, xs, ys, rfl, rfl, ha, hb, Nat.le_trans l (by decide), fun y hy => k y hy (.lst (off_at upd_same fun z => nD (by rw [← z]; exact hy)) (DLs.app (DLs.grow (off_grow (Grows.new hy)) h1) (DLs.grow (off_grow (Grows.new hy)) h2)))⟩
end K32

namespace K32
open PySem PySem.Spec PyProof.Rows L2 SortR LcM RepA
abbrev sFams : Stmt := top 40
/-! ### all families of few persons -/
def famsD (fs : List (List (List Int))) : List PyData := fs.map fun rs => .list (rowsD rs)
def toF : PyData → List (List Int)
  | .list ds => ds.map toR
  | _ => []
theorem toR_row (r : List Int) : toR (rowD r) = r := by
  show (r.map PyData.int).map toI = r
  rw [List.map_map]
  exact (List.map_congr_left fun _ _ => rfl).trans (List.map_id r)
theorem toF_rows (rs : List (List Int)) : toF (.list (rowsD rs)) = rs := by
  show (rs.map rowD).map toR = rs
  rw [List.map_map]
  exact (List.map_congr_left fun r _ => toR_row r).trans (List.map_id rs)
def rowsM : Nat → List (List Int)
  | 0 => [[]]
  | k + 1 => rowsM k ++ (rowsM k).map fun r => r ++ [(k : Int)]
def fitB (row : List Int) (rs : List (List Int)) : Bool := rs.all fun old => !crossL old row
def stepM (fs : List (List (List Int))) (row : List Int) : List (List (List Int)) := fs ++ (fs.filter (fitB row)).map fun rs => rs ++ [row]
def lineB (n : Nat) (r : List Int) : Bool := decide ((1 : Int) < (r.length : Int)) && decide ((r.length : Int) < (n : Int))
def famsM (n : Nat) : List (List (List Int)) := ((rowsM n).filter (lineB n)).foldl stepM (if 1 < n then [[upto n]] else [[]])
/-- few in all -/
def smallB (n : Nat) : Bool := ((List.range (n + 1)).all fun k => decide ((rowsM k).length ≤ 100) && (rowsM k).all fun r => decide (r.length ≤ 100)) &&
  (List.range (((rowsM n).filter (lineB n)).length + 1)).all fun j => let fs := (((rowsM n).filter (lineB n)).take j).foldl stepM (if 1 < n then [[upto n]] else [[]]); decide (fs.length ≤ 100) && fs.all fun rs => decide (rs.length ≤ 100) && rs.all fun r => decide (r.length ≤ 100)
theorem small_all : ((List.range 5).all smallB) = true := by decide +kernel
theorem dl_list {H : Hp} {v : V} {ds : List PyData} (h : DL H v (.list ds)) : ∃ a xs, v = .ref a ∧ H a = some (.lst xs) ∧ DLs H xs ds := by
  cases h with
  | lst h t => exact ⟨_, _, rfl, h, t⟩
theorem dl_ints {H : Hp} : ∀ {xs : List V} {ns : List Int}, DLs H xs (ns.map .int) → xs = ns.map V.int
  | _, [], .nil => rfl
  | _, n :: ns, .cons (v := v) a b => by
    cases a
    rw [dl_ints b]
    rfl
theorem dl_row {H : Hp} {v : V} {r : List Int} (h : DL H v (rowD r)) : ∃ a, v = .ref a ∧ H a = some (.lst (r.map V.int)) := by
  obtain ⟨a, xs, rfl, e, t⟩ := dl_list h
  rw [dl_ints t] at e
  exact ⟨a, rfl, e⟩
theorem dl_of_row {H : Hp} {a : Addr} {r : List Int} (h : H a = some (.lst (r.map V.int))) : DL H (.ref a) (rowD r) := .lst h (DLs.ints r)
theorem rowsD_app (rs qs : List (List Int)) : rowsD (rs ++ qs) = rowsD rs ++ rowsD qs := List.map_append
theorem filt_yes {α : Type} (l : List α) : l.filter (fun _ => true) = l := List.filter_eq_self.mpr fun _ _ => rfl
theorem rows_small {n k : Nat} (h : n ≤ 4) (hk : k ≤ n) : (rowsM k).length ≤ 100 ∧ ∀ r ∈ rowsM k, r.length ≤ 100 := by
  have z := List.all_eq_true.mp small_all n (List.mem_range.mpr (by omega))
  unfold smallB at z
  rw [Bool.and_eq_true] at z
  have q := List.all_eq_true.mp z.1 k (List.mem_range.mpr (by omega))
  rw [Bool.and_eq_true, decide_eq_true_eq] at q
  exact ⟨q.1, fun r hr => of_decide_eq_true (List.all_eq_true.mp q.2 r hr)⟩
/-- the families after j rows -/
def foundM (n j : Nat) : List (List (List Int)) := (((rowsM n).filter (lineB n)).take j).foldl stepM (if 1 < n then [[upto n]] else [[]])
theorem found_small {n j : Nat} (h : n ≤ 4) (hj : j ≤ ((rowsM n).filter (lineB n)).length) : (foundM n j).length ≤ 100 ∧ ∀ rs ∈ foundM n j, rs.length ≤ 100 ∧ ∀ r ∈ rs, r.length ≤ 100 := by
  have z := List.all_eq_true.mp small_all n (List.mem_range.mpr (by omega))
  unfold smallB at z
  rw [Bool.and_eq_true] at z
  have q := List.all_eq_true.mp z.2 j (List.mem_range.mpr (by omega))
  rw [Bool.and_eq_true, decide_eq_true_eq] at q
  refine ⟨q.1, fun rs hrs => ?_⟩
  have q2 := List.all_eq_true.mp q.2 rs hrs
  rw [Bool.and_eq_true, decide_eq_true_eq] at q2
  exact ⟨q2.1, fun r hr => of_decide_eq_true (List.all_eq_true.mp q2.2 r hr)⟩
theorem found_next {n j : Nat} {r : List Int} (h : ((rowsM n).filter (lineB n))[j]? = some r) : foundM n (j + 1) = stepM (foundM n j) r := by
  unfold foundM
  rw [take_nextD h, List.foldl_append]
  rfl
theorem famsD_app (a b : List (List (List Int))) : famsD (a ++ b) = famsD a ++ famsD b := List.map_append
theorem filt_map {α β : Type} (f : α → β) (p : β → Bool) (q : α → Bool) (h : ∀ x, p (f x) = q x) (l : List α) : (l.map f).filter p = (l.filter q).map f := by
  rw [List.filter_map]
  congr 1
  exact List.filter_congr fun x _ => h x
/-- the families of n persons, new lists -/
def spFams : Sp := fun vs H Q _ => ∃ (n : Nat), vs = [.int (n : Int)] ∧ n ≤ 4 ∧ ∀ (q : Addr) (xs : List V) (H' : Hp), Grows H H' → H' q = some (.lst xs) → DLs H' xs (famsD (famsM n)) → Q (.ref q) H'
section
variable {P : Program} {w : World} {K : PySem.W.Frag} {mg : Str → Option Value} {base : Heap}
theorem scFams : FnScope ["many_here", "rows", "who", "row", "found", "line", "fits", "rest", "old"] ["many_here"] (defScope sFams) := ⟨rfl, rfl, rfl, by decide +kernel, rfl, by decide +kernel, by decide +kernel⟩
theorem ok_fams {f fC : Addr} {fd dC : FuncData} (F : Fun K "_law_families" "_law_families" sFams f fd) (T : TxtP mg) (TD : Txt0 mg) (FCrL : Fun K "_law_cross" "_law_cross" sCrL fC dC) (gCrL : mg "_law_cross" = some (.ref fC)) (bCrL : Binds K dC ["left", "right"] []) : FnOk P w K mg base CX0 2 f fd ["many_here"] spFams := by
  have GCrL := ok_crL (P := P) (w := w) (base := base) FCrL T TD
  refine F.ok scFams (fun vs H Q E h => ?_) (fun cdv A outer s H vs Q E hr h => ?_)
  · obtain ⟨n, rfl, _⟩ := h
    rfl
  · obtain ⟨n, rfl, n4, k⟩ := h
    refine ⟨_, (pss_cons (ps_set (i := 1) scFams.nd rfl (.inl rfl) (pe_lst (pa_cons (pe_lst pa_nil) pa_nil)))
      (pss_cons (ps_for PassesOwn.never rfl (pi_range1 (by rfl) T.range (pa_cons (pv 0) pa_nil)) (pg_name (i := 2) scFams.nd rfl (.inr rfl))
      (pss_one (ps_set (i := 1) scFams.nd rfl (.inl rfl) (pe_op op_cat (pv 1) (pe_lc (own := [("row", 3)]) (g := gName 3) (tt := tYes) rfl scFams.nd (pi_list (pv 1)) (blkOk_by (own := [("row", 3)]) (N := ["many_here", "rows", "who", "row", "found", "line", "fits", "rest", "old"]) (sc := defScope sFams) (by decide +kernel)) (fun _ _ _ _ _ => pg_name (i := 3) scFams.nd rfl (Or.inl rfl)) (fun _ _ _ _ _ => pts_nil) (fun _ _ _ _ _ => (pe_op op_cat (pv 3) (pe_lst (pa_cons (pv 2) pa_nil)))))))))
      (pss_cons (ps_set (i := 4) scFams.nd rfl (.inl rfl) (pe_ifExp (pt_cmpR op_gt (pv 0) pe_int (nomark _)) (pe_lst (pa_cons (pe_lst (pa_cons (pe_listRg rfl (by rfl) T.list (prg_1 (by rfl) T.range (pv 0))) pa_nil)) pa_nil)) (pe_lst (pa_cons (pe_lst pa_nil) pa_nil))))
      (pss_cons (ps_for PassesOwn.never rfl (pi_list (pe_lc (own := [("line", 5)]) (g := gName 5) rfl scFams.nd (pi_list (pv 1)) (blkOk_by (own := [("line", 5)]) (N := ["many_here", "rows", "who", "row", "found", "line", "fits", "rest", "old"]) (sc := defScope sFams) (by decide +kernel)) (fun _ _ _ _ _ => pg_name (i := 5) scFams.nd rfl (Or.inl rfl)) (fun _ _ _ _ _ => (pts_one (pt_chain op_lt op_lt pe_int (pe_callB (id := "len") (r := rLenS K) (by exact call_lenK) (by rfl) T.len (by decide +kernel) (pa_cons (pv 5) pa_nil)) (pv 0)))) (fun _ _ _ _ _ => (pv 5)))) (pg_name (i := 3) scFams.nd rfl (.inr rfl))
      (pss_cons (ps_setLc (i := 6) (own := [("rest", 7)]) (g := gName 7) rfl scFams.nd rfl rfl (sw_true rfl rfl rfl (by decide +kernel)) (pi_list (pv 4)) (blkOk_by (own := [("rest", 7)]) (N := ["many_here", "rows", "who", "row", "found", "line", "fits", "rest", "old"]) (sc := defScope sFams) (by decide +kernel)) (fun _ _ _ _ _ => pg_name (i := 7) scFams.nd rfl (Or.inl rfl)) (fun _ _ _ _ _ => (pts_one (pt_cmpR (r := rEqD K) (by exact op_eqD hr.units) (pe_lc (wi := iList K (tVar 7)) (own := [("old", 8)]) (g := gName 8) rfl scFams.nd (pi_list (pv 7)) (blkOk_by (own := [("old", 8)]) (N := ["many_here", "rows", "who", "row", "found", "line", "fits", "rest", "old"]) (sc := { kind := .function, names := [(".0", .local), ("rest", .local), ("row", .cell)], isGenerator := false, isCoroutine := false }) (by decide +kernel)) (fun _ _ _ _ _ => pg_name (i := 8) scFams.nd rfl (Or.inl rfl)) (fun _ _ _ _ _ => (pts_one (pt_val (pe_call GCrL (hr.mono (by decide)) rfl gCrL FCrL.kp bCrL .nil pass0 (pa_cons (pv 8) (pa_cons (pv 3) pa_nil)))))) (fun _ _ _ _ _ => pe_int)) (pe_lst pa_nil) (nomark _)))) (fun _ _ _ _ _ => (pv 7)))
      (pss_one (ps_set (i := 4) scFams.nd rfl (.inl rfl) (pe_op op_cat (pv 4) (pe_lc (own := [("rest", 7)]) (g := gName 7) (tt := tYes) rfl scFams.nd (pi_list (pv 6)) (blkOk_by (own := [("rest", 7)]) (N := ["many_here", "rows", "who", "row", "found", "line", "fits", "rest", "old"]) (sc := defScope sFams) (by decide +kernel)) (fun _ _ _ _ _ => pg_name (i := 7) scFams.nd rfl (Or.inl rfl)) (fun _ _ _ _ _ => pts_nil) (fun _ _ _ _ _ => (pe_op op_cat (pv 7) (pe_lst (pa_cons (pv 3) pa_nil))))))))))
      (pss_one (ps_ret (pv 4))))))), ?_⟩
    refine ⟨(by show 0 ≤ sizeLine; decide), fun q0 hq0 => ⟨(by show 1 ≤ sizeLine; decide), fun q1 hq1 => ?_⟩⟩
    have g0 := Grows.new (o := .lst []) hq0
    have g1 := Grows.new (o := .lst [V.ref q0]) hq1
    have d0 : DLs (upd (upd H q0 (.lst [])) q1 (.lst [V.ref q0])) [V.ref q0] (rowsD (rowsM 0)) := .cons (.lst (g1 _ _ upd_same) .nil) .nil
    refine ⟨_, rfl, (n : Int), rfl, by omega, by omega, for_range (lo := 0) (n := (n : Int).toNat) (fun i σ G => ∃ (a : Addr) (xs : List V) (o2 : Option V), σ = [some (.int (n : Int)), some (.ref a), o2, none, none, none, none, none, none] ∧ Grows H G ∧ G a = some (.lst xs) ∧ DLs G xs (rowsD (rowsM i)))
      ⟨q1, _, none, rfl, g0.trans g1, upd_same, d0⟩ (fun i σ G il ⟨a, xs, o2, e, g, ea, al⟩ => ?_) fun σ G ⟨a, xs, o2, e, g, ea, al⟩ => ?_⟩
    · subst e
      obtain ⟨s1, s2⟩ := rows_small (k := i) n4 (by omega)
      have xl := DLs.len al
      unfold rowsD at xl
      rw [List.length_map] at xl
      refine ⟨_, rfl, _, rfl, a, rfl, ⟨_, SqL.of ea⟩, fun D hD => lc_listDL (K := K) (fun _ => true) (fun d => rowD (toR d ++ [(i : Int)])) hD (SqL.of ea) al (by unfold rowsD; rw [List.length_map]; omega) (fun j x d G2 Ry Rn hd gg go hdx nD kY kN => ?_) fun G3 acc g3 eD al2 => ?_⟩
      · obtain ⟨r, hr2, rfl⟩ := List.mem_map.mp (List.mem_of_getElem? hd)
        obtain ⟨b, rfl, eb⟩ := dl_row hdx
        have rl := s2 r hr2
        rw [toR_row] at kY
        refine ⟨rfl, ?_⟩
        unfold tYes
        refine iteT ⟨_, rfl, _, rfl, (by show 1 ≤ sizeLine; decide), fun q hq => ?_⟩
        have gq := Grows.new (o := .lst [V.int (0 + (i : Int))]) hq
        have nDq : upd G2 q (.lst [V.int (0 + (i : Int))]) D ≠ none := by
          by_cases z : D = q
          · rw [z, upd_same]
            exact fun z => nomatch z
          · rw [upd_ne z]
            exact nD
        have e0 : [V.int (0 + (i : Int))] = [(i : Int)].map V.int := by rw [Int.zero_add]; rfl
        rw [e0] at gq nDq ⊢
        refine cat_DL (D := D) (gq _ _ (off_le _ _ eb)) upd_same (DLs.ints r) (DLs.ints [(i : Int)]) (by rw [List.length_map, List.length_map]; show r.length + 1 ≤ 1000; omega) nDq fun y hy hdl => kY rfl _ _ (gq.trans (Grows.new hy)) ?_
        have e9 : PyData.list (r.map .int ++ [(i : Int)].map .int) = rowD (r ++ [(i : Int)]) := by
          show _ = PyData.list ((r ++ [(i : Int)]).map .int)
          rw [List.map_append]
        rw [e9] at hdl
        exact hdl
      · rw [filt_yes] at al2
        have e2 : (rowsD (rowsM i)).map (fun d => rowD (toR d ++ [(i : Int)])) = rowsD ((rowsM i).map fun r => r ++ [(i : Int)]) := by
          unfold rowsD
          rw [List.map_map, List.map_map]
          refine List.map_congr_left fun r _ => ?_
          show rowD (toR (rowD r) ++ [(i : Int)]) = rowD (r ++ [(i : Int)])
          rw [toR_row]
        rw [e2] at al2
        have accl := DLs.len al2
        unfold rowsD at accl
        rw [List.length_map, List.length_map] at accl
        refine ⟨a, D, xs, acc, rfl, rfl, g3 _ _ ea, eD, Nat.le_trans (show xs.length + acc.length ≤ 1000 by omega) (by decide), fun y hy => ⟨y, xs ++ acc, _, rfl, g.trans (g3.trans (Grows.new hy)), upd_same, ?_⟩⟩
        have gy := Grows.new (o := .lst (xs ++ acc)) hy
        show DLs _ _ (rowsD (rowsM i ++ _))
        rw [rowsD_app]
        exact DLs.app (DLs.grow (g3.trans gy) al) (DLs.grow (off_le.trans gy) al2)
    subst e
    rw [Int.toNat_natCast] at al
    obtain ⟨s1, s2⟩ := rows_small (k := n) n4 (Nat.le_refl _)
    dsimp only
    refine tif_of (fun v G2 => ∃ b ys, v = .ref b ∧ G2 b = some (.lst ys) ∧ DLs G2 ys (famsD (foundM n 0))) (fun R kR => ?_) fun v G2 g2 ⟨b, ys, ev, eb, bl⟩ => ?_
    · refine ⟨_, rfl, _, _, rfl, rfl, _, rfl, ?_⟩
      by_cases one : (1 : Int) < (n : Int)
      · rw [decide_eq_true one]
        refine iteT ⟨_, rfl, _, rfl, .of_le (by decide) (by omega) (by decide) (by omega), fun u1 hu1 => ⟨(by show 1 ≤ sizeLine; decide), fun u2 hu2 => ⟨(by show 1 ≤ sizeLine; decide), fun u3 hu3 => ?_⟩⟩⟩
        have w1 := Grows.new (o := .lst (rgV 0 (n : Int))) hu1
        have w2 := Grows.new (o := .lst [V.ref u1]) hu2
        have w3 := Grows.new (o := .lst [V.ref u2]) hu3
        refine kR _ _ (w1.trans (w2.trans w3)) ⟨u3, _, rfl, upd_same, ?_⟩
        have ef : famsD (foundM n 0) = [.list [rowD (upto n)]] := by
          unfold foundM
          rw [if_pos (by omega)]
          rfl
        rw [ef]
        refine .cons (.lst (w3 _ _ upd_same) (.cons (dl_of_row ((w2.trans w3) _ _ ?_)) .nil)) .nil
        rw [upd_same, rg_upto]
      · rw [decide_eq_false one]
        refine iteF ⟨(by show 0 ≤ sizeLine; decide), fun u1 hu1 => ⟨(by show 1 ≤ sizeLine; decide), fun u2 hu2 => ?_⟩⟩
        have w1 := Grows.new (o := .lst []) hu1
        have w2 := Grows.new (o := .lst [V.ref u1]) hu2
        refine kR _ _ (w1.trans w2) ⟨u2, _, rfl, upd_same, ?_⟩
        have ef : famsD (foundM n 0) = [.list []] := by
          unfold foundM
          rw [if_neg (by omega)]
          rfl
        rw [ef]
        exact .cons (.lst (w2 _ _ upd_same) .nil) .nil
    subst ev
    dsimp only [List.set_cons_succ, List.set_cons_zero]
    have ea2 := g2 _ _ ea
    have al2 := DLs.grow g2 al
    have xl := DLs.len al
    unfold rowsD at xl
    rw [List.length_map] at xl
    refine ⟨_, rfl, a, rfl, ⟨_, SqL.of ea2⟩, fun D hD => lc_listDL (K := K) (fun d => lineB n (toR d)) (fun d => d) hD (SqL.of ea2) al2 (by unfold rowsD; rw [List.length_map]; omega) (fun j x d G3 Ry Rn hd gg go hdx nD kY kN => ?_) fun G3 acc g3 eD al3 => ?_⟩
    · obtain ⟨r, hr2, rfl⟩ := List.mem_map.mp (List.mem_of_getElem? hd)
      obtain ⟨c, rfl, ec⟩ := dl_row hdx
      rw [toR_row] at kY kN
      refine ⟨rfl, _, rfl, c, _, rfl, .inl (SqL.of (off_le _ _ ec)), _, _, rfl, rfl, _, rfl, ?_⟩
      rw [List.length_map]
      unfold lineB at kY kN
      by_cases l1 : (1 : Int) < (r.length : Int)
      · rw [decide_eq_true l1, Bool.true_and] at kY kN
        rw [if_pos (decide_eq_true l1)]
        refine ⟨_, rfl, _, _, rfl, rfl, _, rfl, ?_⟩
        by_cases l2 : (r.length : Int) < (n : Int)
        · rw [decide_eq_true l2] at kY ⊢
          exact iteT ⟨_, rfl, kY rfl _ _ .refl hdx⟩
        · rw [decide_eq_false l2] at kN ⊢
          exact iteF (kN rfl _ .refl)
      · rw [decide_eq_false l1, Bool.false_and] at kN
        rw [decide_eq_false l1]
        exact iteF ⟨_, rfl, iteF (kN rfl _ .refl)⟩
    have eR : ((rowsD (rowsM n)).filter fun d => lineB n (toR d)).map (fun d => d) = rowsD ((rowsM n).filter (lineB n)) := by
      rw [List.map_id']
      exact filt_map rowD _ (lineB n) (fun r => by rw [toR_row]) _
    rw [eR] at al3
    have al3' := DLs.grow off_le al3
    have eb3 := g3 _ _ eb
    have bl3 := DLs.grow g3 bl
    obtain ⟨R, eRR⟩ : ∃ R, R = (rowsM n).filter (lineB n) := ⟨_, rfl⟩
    have accl : acc.length = R.length := by
      rw [DLs.len al3, ← eRR]
      exact List.length_map ..
    refine ⟨D, rfl, ⟨_, SqL.of eD⟩, for_list (K := K) (a := D) (xs := acc) (fun j σ G4 => ∃ (b : Addr) (ys : List V) (o3 o6 : Option V), σ = [some (.int (n : Int)), some (.ref a), o2, o3, some (.ref b), none, o6, none, none] ∧ Grows G3 G4 ∧ G4 b = some (.lst ys) ∧ DLs G4 ys (famsD (foundM n j)))
      ⟨b, ys, none, none, rfl, .refl, eb3, bl3⟩ (fun j σ G4 _ ⟨b, ys, o3, o6, e, g4, eb, bl⟩ => SqL.of (g4 _ _ eD)) (fun j x σ G4 hx ⟨b, ys, o3, o6, e, g4, eb, bl⟩ => ?_) fun σ G4 ⟨b, ys, o3, o6, e, g4, eb, bl⟩ => ?_⟩
    rotate_left
    · subst e
      refine ⟨_, rfl, k b ys G4 (g.trans (g2.trans (g3.trans g4))) eb ?_⟩
      have ej : foundM n acc.length = famsM n := by
        unfold foundM famsM
        rw [accl, eRR, List.take_length]
      rw [ej] at bl
      exact bl
    subst e
    obtain ⟨d, hd, hdx⟩ := DLs.at al3' hx
    have hdr : (R.map rowD)[j]? = some d := by rw [eRR]; exact hd
    rw [List.getElem?_map] at hdr
    obtain ⟨r, hr2, rfl⟩ := Option.map_eq_some_iff.mp hdr
    have jl := (List.getElem?_eq_some_iff.mp hr2).1
    have hdx4 := DL.grow g4 hdx
    obtain ⟨c, rfl, ec⟩ := dl_row hdx4
    obtain ⟨z1, z2⟩ := found_small (n := n) (j := j) n4 (by rw [← eRR]; omega)
    have yl := DLs.len bl
    unfold famsD at yl
    rw [List.length_map] at yl
    refine ⟨_, rfl, b, rfl, ⟨_, SqL.of eb⟩, fun D2 hD2 => lc_listDL (K := K) (fun d => fitB r (toF d)) (fun d => d) hD2 (SqL.of eb) bl (by unfold famsD; rw [List.length_map]; omega) (fun j2 x2 d2 G5 Ry Rn hd2 gg go hdx2 nD kY kN => ?_) fun G5 acc2 g5 eD2 al5 => ?_⟩
    · obtain ⟨rs, hrs, rfl⟩ := List.mem_map.mp (List.mem_of_getElem? hd2)
      obtain ⟨c2, zs, rfl, ec2, tz⟩ := dl_list hdx2
      obtain ⟨z3, z4⟩ := z2 rs hrs
      have zl := DLs.len tz
      unfold rowsD at zl
      rw [List.length_map] at zl
      rw [toF_rows] at kY kN
      have ec5 := gg _ _ ec
      refine ⟨rfl, _, rfl, c2, rfl, ⟨_, SqL.of (off_le _ _ ec2)⟩, fun D3 hD3 => lc_listT (K := K) (fun k => crossL (rs.getD k []) r) (fun _ => V.int 1) hD3 (SqL.of (off_le _ _ ec2)) (by omega) (fun k y G6 Ry2 Rn2 hy sm kY2 kN2 => ?_) fun G6 s6 e6 => ?_⟩
      · obtain ⟨e, he, hey⟩ := DLs.at tz hy
        unfold rowsD at he
        rw [List.getElem?_map] at he
        obtain ⟨q, hq, rfl⟩ := Option.map_eq_some_iff.mp he
        have eg : rs.getD k [] = q := by rw [List.getD_eq_getElem?_getD, hq]; rfl
        rw [eg] at kY2 kN2
        obtain ⟨u, rfl, eu⟩ := dl_row hey
        have ql := z4 q (List.mem_of_getElem? hq)
        refine ⟨rfl, _, rfl, _, rfl, u, c, q, r, rfl, SqL.of (sm _ _ (off_le _ _ eu)), SqL.of (sm _ _ ec5), by omega, fun H8 g8 => ⟨_, rfl, ?_⟩⟩
        cases hx2 : crossL q r with
        | true => exact iteT (kY2 hx2 _ g8)
        | false => exact iteF (kN2 hx2 _ g8)
      · rw [zl] at e6
        unfold kept at e6
        obtain ⟨is, eis⟩ : ∃ is, is = (List.range rs.length).filter fun k => crossL (rs.getD k []) r := ⟨_, rfl⟩
        rw [← eis] at e6
        refine ⟨(by show 0 ≤ sizeLine; decide), fun n1 hn1 => ?_⟩
        have gn := Grows.new (o := .lst []) hn1
        refine ⟨.list (is.map fun _ => .int 1), .list [], .lst (SqL.of (gn _ _ e6)) (dp_map is fun _ _ => .int 1), .lst (SqL.of upd_same) .nil, shaped_all (fun e he => ?_), shaped_all (fun _ h => nomatch h), _, rfl, ?_⟩
        · obtain ⟨_, _, rfl⟩ := List.mem_map.mp he
          exact ⟨by simp only [PyData.canLay0], by simp only [PyData.depth]; omega⟩
        rw [eqv_nil]
        have nil_iff : is = [] ↔ fitB r rs = true := by
          unfold fitB
          rw [← all_at [] (fun old => !crossL old r) rs, eis, List.filter_eq_nil_iff, List.all_eq_true]
          refine forall_congr' fun j => forall_congr' fun _ => ?_
          cases crossL (rs.getD j []) r <;> simp
        have g56 := s6.trans gn
        by_cases hb : fitB r rs = true
        · rw [decide_eq_true (List.map_eq_nil_iff.mpr (nil_iff.mpr hb))]
          exact iteT ⟨_, rfl, kY hb _ _ g56 (DL.grow (off_grow g56) hdx2)⟩
        · rw [decide_eq_false fun z => hb (nil_iff.mp (List.map_eq_nil_iff.mp z))]
          exact iteF (kN (Bool.eq_false_iff.mpr hb) _ g56)
    · have e5 : ((famsD (foundM n j)).filter fun d => fitB r (toF d)).map (fun d => d) = famsD ((foundM n j).filter (fitB r)) := by
        rw [List.map_id']
        exact filt_map (fun rs => PyData.list (rowsD rs)) _ (fitB r) (fun rs => by rw [toF_rows]) _
      rw [e5] at al5
      have al5' := DLs.grow off_le al5
      have a5l := DLs.len al5
      unfold famsD at a5l
      rw [List.length_map] at a5l
      have fl5 := List.length_filter_le (fitB r) (foundM n j)
      dsimp only
      refine ⟨_, rfl, _, rfl, D2, rfl, ⟨_, SqL.of eD2⟩, fun D3 hD3 => lc_listDL (K := K) (fun _ => true) (fun d => .list (rowsD (toF d ++ [r]))) hD3 (SqL.of eD2) al5' (by unfold famsD; rw [List.length_map]; omega) (fun j2 x2 d2 G6 Ry Rn hd2 gg go hdx2 nD kY kN => ?_) fun G6 acc3 g6 eD3 al6 => ?_⟩
      · obtain ⟨rs, hrs, rfl⟩ := List.mem_map.mp (List.mem_of_getElem? hd2)
        obtain ⟨c2, zs, rfl, ec2, tz⟩ := dl_list hdx2
        obtain ⟨z3, z4⟩ := z2 rs (List.mem_filter.mp hrs).1
        have zl := DLs.len tz
        unfold rowsD at zl
        rw [List.length_map] at zl
        rw [toF_rows] at kY
        refine ⟨rfl, ?_⟩
        unfold tYes
        refine iteT ⟨_, rfl, _, rfl, (by show 1 ≤ sizeLine; decide), fun q hq => ?_⟩
        have gq := Grows.new (o := .lst [V.ref c]) hq
        have nDq : upd G6 q (.lst [V.ref c]) D3 ≠ none := by
          by_cases z : D3 = q
          · rw [z, upd_same]
            exact fun z => nomatch z
          · rw [upd_ne z]
            exact nD
        have hc5 : DL G5 (.ref c) (rowD r) := DL.grow g5 hdx4
        have hc6 : DL (off D3 G6) (.ref c) (rowD r) := DL.grow go hc5
        refine cat_DL (D := D3) (gq _ _ (off_le _ _ ec2)) upd_same (DLs.grow (off_grow gq) tz) (.cons (DL.grow (off_grow gq) hc6) .nil) (by show zs.length + 1 ≤ 1000; omega) nDq fun y hy hdl => kY rfl _ _ (gq.trans (Grows.new hy)) ?_
        rw [rowsD_app]
        exact hdl
      · rw [filt_yes] at al6
        have e6 : (famsD ((foundM n j).filter (fitB r))).map (fun d => .list (rowsD (toF d ++ [r]))) = famsD (((foundM n j).filter (fitB r)).map fun rs => rs ++ [r]) := by
          unfold famsD
          rw [List.map_map, List.map_map]
          refine List.map_congr_left fun rs _ => ?_
          show PyData.list (rowsD (toF (.list (rowsD rs)) ++ [r])) = .list (rowsD (rs ++ [r]))
          rw [toF_rows]
        rw [e6] at al6
        have a6l := DLs.len al6
        unfold famsD at a6l
        rw [List.length_map, List.length_map] at a6l
        have eb6 := g6 _ _ (g5 _ _ eb)
        refine ⟨b, D3, ys, acc3, rfl, rfl, eb6, eD3, Nat.le_trans (show ys.length + acc3.length ≤ 1000 by omega) (by decide), fun y hy => ⟨y, ys ++ acc3, _, _, rfl, g4.trans (g5.trans (g6.trans (Grows.new hy))), upd_same, ?_⟩⟩
        have gy := Grows.new (o := .lst (ys ++ acc3)) hy
        rw [found_next (by rw [← eRR]; exact hr2)]
        unfold stepM
        rw [famsD_app]
        exact DLs.app (DLs.grow (g5.trans (g6.trans gy)) bl) (DLs.grow (off_le.trans gy) al6)
end
end K32

namespace K32
open PySem PySem.Spec PyProof.Rows L2 SortR LcM RepA
/-! ### sorting that the kernel can do -/
def ins {α : Type} (le : α → α → Bool) (x : α) : List α → List α
  | [] => [x]
  | y :: ys => if le x y = true then x :: y :: ys else y :: ins le x ys
def isort {α : Type} (le : α → α → Bool) : List α → List α
  | [] => []
  | x :: xs => ins le x (isort le xs)
theorem ins_perm {α : Type} (le : α → α → Bool) (x : α) : ∀ ys : List α, (ins le x ys).Perm (x :: ys)
  | [] => .refl _
  | y :: ys => by
    unfold ins
    split
    · exact .refl _
    · exact ((ins_perm le x ys).cons y).trans (List.Perm.swap _ _ _)
theorem isort_perm {α : Type} (le : α → α → Bool) : ∀ xs : List α, (isort le xs).Perm xs
  | [] => .refl _
  | x :: xs => (ins_perm le x _).trans ((isort_perm le xs).cons x)
theorem ins_up {α : Type} {le : α → α → Bool} (tr : ∀ a b c, le a b = true → le b c = true → le a c = true) (tot : ∀ a b, le a b = true ∨ le b a = true) (x : α) : ∀ ys : List α, ys.Pairwise (fun a b => le a b = true) → (ins le x ys).Pairwise (fun a b => le a b = true)
  | [], _ => List.pairwise_singleton _ _
  | y :: ys, h => by
    obtain ⟨h1, h2⟩ := List.pairwise_cons.mp h
    unfold ins
    by_cases e : le x y = true
    · rw [if_pos e]
      refine List.pairwise_cons.mpr ⟨fun z hz => ?_, h⟩
      rcases List.mem_cons.mp hz with q | q
      · rw [q]; exact e
      · exact tr _ _ _ e (h1 z q)
    · rw [if_neg e]
      refine List.pairwise_cons.mpr ⟨fun z hz => ?_, ins_up tr tot x ys h2⟩
      rcases List.mem_cons.mp ((ins_perm le x ys).mem_iff.mp hz) with q | q
      · rw [q]; exact (tot x y).resolve_left e
      · exact h1 z q
theorem isort_up {α : Type} {le : α → α → Bool} (tr : ∀ a b c, le a b = true → le b c = true → le a c = true) (tot : ∀ a b, le a b = true ∨ le b a = true) : ∀ xs : List α, (isort le xs).Pairwise (fun a b => le a b = true)
  | [] => .nil
  | x :: xs => ins_up tr tot x _ (isort_up tr tot xs)
theorem sort_is {α : Type} {le : α → α → Bool} (tr : ∀ a b c, le a b = true → le b c = true → le a c = true) (tot : ∀ a b, le a b = true ∨ le b a = true) (anti : ∀ a b, le a b = true → le b a = true → a = b) (xs : List α) : xs.mergeSort le = isort le xs :=
  List.Perm.eq_of_pairwise (le := fun a b => le a b = true) (fun a b _ _ => anti a b) (List.pairwise_mergeSort tr (fun a b => by
    rcases tot a b with h | h
    · rw [h]; rfl
    · rw [h, Bool.or_true]) xs) (isort_up tr tot xs) ((List.mergeSort_perm _ _).trans (isort_perm le xs).symm)
def rowB (p q : List Int) : Bool := decide (p ≤ q)
theorem sort_rowsI (xs : List (List Int)) : (xs.mergeSort fun p q => decide (p ≤ q)) = isort rowB xs :=
  sort_is (le := rowB) (fun a b c h1 h2 => decide_eq_true (List.le_trans (of_decide_eq_true h1) (of_decide_eq_true h2))) (fun a b => (List.le_total a b).imp decide_eq_true decide_eq_true) (fun a b h1 h2 => List.le_antisymm (of_decide_eq_true h1) (of_decide_eq_true h2)) xs
theorem sort_intsI (xs : List Int) : xs.mergeSort intLe = isort intLe xs :=
  sort_is (fun a b c h1 h2 => by
    unfold intLe at *
    simp only [decide_eq_true_eq] at *
    omega) (fun a b => by
    unfold intLe
    simp only [decide_eq_true_eq]
    omega) (fun a b h1 h2 => by
    unfold intLe at *
    simp only [decide_eq_true_eq] at *
    omega) xs
/-- the ints of a list in order are one list -/
theorem sorted_one {ns ns' : List Int} (p : ns'.Perm ns) (u : ns'.Pairwise (· ≤ ·)) : ns' = isort intLe ns := by
  have up := isort_up (le := intLe) (fun a b c h1 h2 => by
    unfold intLe at *
    simp only [decide_eq_true_eq] at *
    omega) (fun a b => by
    unfold intLe
    simp only [decide_eq_true_eq]
    omega) ns
  refine List.Perm.eq_of_pairwise (le := fun a b => a ≤ b) (fun a b _ _ h1 h2 => by omega) u (up.imp fun {a b} h => ?_) (p.trans (isort_perm intLe ns).symm)
  unfold intLe at h
  exact of_decide_eq_true h
/-- sorted(rows) -/
def rSrtR (K : PySem.W.Frag) : List V → Hp → VK → Prop := fun vs H Q => ∃ (a : Addr) (xs : List V) (rs : List (List Int)), vs = [.ref a] ∧ H a = some (.lst xs) ∧ DLs H xs (rowsD rs) ∧ ∀ p xs', H p = none → (∀ H2, DLs H2 xs (rowsD rs) → DLs H2 xs' (rowsD (isort rowB rs))) → Q (.ref p) (upd H p (.lst xs'))
theorem dl_rows {H : Hp} : ∀ {xs : List V} {rs : List (List Int)}, DLs H xs (rowsD rs) → ∃ bs : List (Addr × List Int), xs = bs.map (fun b => V.ref b.1) ∧ bs.map (·.2) = rs ∧ ∀ b ∈ bs, H b.1 = some (.lst (b.2.map V.int))
  | _, [], .nil => ⟨[], rfl, rfl, fun _ h => nomatch h⟩
  | _, r :: rs, .cons a t => by
    obtain ⟨bs, e1, e2, e3⟩ := dl_rows t
    obtain ⟨b, rfl, eb⟩ := dl_row a
    refine ⟨(b, r) :: bs, by rw [e1]; rfl, by rw [← e2]; rfl, fun c hc => ?_⟩
    rcases List.mem_cons.mp hc with e | e
    · rw [e]
      exact eb
    · exact e3 c e
theorem dl_of_rows {H : Hp} : ∀ {bs : List (Addr × List Int)}, (∀ b ∈ bs, H b.1 = some (.lst (b.2.map V.int))) → DLs H (bs.map fun b => V.ref b.1) (rowsD (bs.map (·.2)))
  | [], _ => .nil
  | b :: bs, h => .cons (dl_of_row (h b List.mem_cons_self)) (dl_of_rows fun c hc => h c (List.mem_cons_of_mem _ hc))
theorem pairs_eq : ∀ {bs cs : List (Addr × List Int)}, bs.map (fun b => V.ref b.1) = cs.map (fun b => V.ref b.1) → bs.map (·.2) = cs.map (·.2) → bs = cs
  | [], [], _, _ => rfl
  | [], _ :: _, e, _ => nomatch e
  | _ :: _, [], e, _ => nomatch e
  | (a, r) :: bs, (b, q) :: cs, e1, e2 => by
    obtain ⟨e3, e4⟩ := List.cons.inj e1
    obtain ⟨e5, e6⟩ := List.cons.inj e2
    have e3 : a = b := V.ref.inj e3
    have e5 : r = q := e5
    rw [e3, e5, pairs_eq e4 e6]
theorem cr_srtR {X : Cx} (hu : X.A.units + 64 < cLine) : CallR X (.builtin "sorted") (rSrtR X.K) := by
  intro pins s σ H xs us Q I r h
  obtain ⟨a, ys, rs, rfl, ea, al, q⟩ := h
  obtain ⟨bs, e1, e2, e3⟩ := dl_rows al
  subst e1
  refine call_sortedR hu pins s σ H _ us Q I r ⟨a, bs, rfl, SqL.of ea, fun b hb => SqL.of (e3 b hb), fun p hp => q p _ hp fun H2 al2 => ?_⟩
  obtain ⟨cs, c1, c2, c3⟩ := dl_rows al2
  obtain rfl : bs = cs := pairs_eq c1 (by rw [e2, c2])
  have e4 : (bs.mergeSort rowLe).map (·.2) = isort rowB rs := by
    rw [sort_snd, e2]
    exact sort_rowsI rs
  rw [← e4]
  exact dl_of_rows fun b hb => c3 b ((List.mergeSort_perm _ _).mem_iff.mp hb)
section
variable {K : PySem.W.Frag} {a : Addr} {xs : List V} {ds : List PyData} {g : TG} {tt : TT} {te : TE} {vs : List Nat} {σ : L2.St} {H0 : Hp} {D : Addr} {Qd : Hp → Prop}
/-- [e for i, x in enumerate(xs) if c], by the data of its items -/
theorem lc_enumDL (p : Nat → Bool) (F : Nat → PyData) (hD : H0 D = none) (hx : SqL K H0 a xs) (all : DLs H0 xs ds) (small : ds.length ≤ 1000)
    (turn : ∀ (i : Nat) (x : V) (d : PyData) (T : Addr) (G : Hp) (Ry : V → Hp → Prop) (Rn : Hp → Prop), ds[i]? = some d → Grows H0 G → DL (off D G) x d → G D ≠ none → G T = none → (p i = true → ∀ y H4, Grows (upd G T (.tup [.int (i : Nat), x])) H4 → DL (off D H4) y (F i) → Ry y H4) → (p i = false → ∀ H4, Grows (upd G T (.tup [.int (i : Nat), x])) H4 → Rn H4) →
      g (.ref T) (wipe σ vs) (upd G T (.tup [.int (i : Nat), x])) fun σ2 H2 => wipe σ2 vs = wipe σ vs ∧ tt σ2 H2 fun t H3 => if t = true then te σ2 H3 Ry else Rn H3)
    (done : ∀ G acc, Grows H0 G → G D = some (.lst acc) → DLs (off D G) acc (((List.range ds.length).filter p).map F) → Qd G) :
    ∃ W : Nat → Nat → Hp → Prop, (∃ m, W 0 m (upd H0 D (.lst []))) ∧ ∀ i m H, W i m H →
      ((Ite K a).stop i H ∧ Qd H) ∨ ((Ite K a).go i H ∧ ∃ Nx : Hp → Prop, (∀ H', Nx H' → ∃ m', m' < m ∧ W (i + 1) m' H') ∧ ∀ x H', (Ite K a).yld i H x H' → g x (wipe σ vs) H' fun σ2 H2 => wipe σ2 vs = wipe σ vs ∧ tt σ2 H2 fun b H3 =>
        if b = true then te σ2 H3 fun y H4 => ∃ acc, H4 D = some (.lst acc) ∧ acc.length < sizeLine ∧ Nx (upd H4 D (.lst (acc ++ [y]))) else Nx H3) := by
  have xl := DLs.len all
  refine SortR.lc_enumL (fun i G => i ≤ xs.length ∧ ∃ acc, Grows H0 G ∧ G D = some (.lst acc) ∧ DLs (off D G) acc (((List.range i).filter p).map F)) ⟨Nat.zero_le _, [], Grows.new hD, upd_same, .nil⟩ (fun i G ⟨_, _, gg, _⟩ => gg.seq hx) (fun i x T G ex ⟨il0, acc, gg, eD, al⟩ hT => ?_) fun G ⟨_, acc, gg, eD, al⟩ => ?_
  · obtain ⟨d, hd, hdx⟩ := DLs.at all ex
    have il := (List.getElem?_eq_some_iff.mp ex).1
    have go := off_of hD gg
    have gT := Grows.new (o := .tup [.int (i : Nat), x]) hT
    have al2 : acc.length ≤ 1000 := by
      rw [DLs.len al, List.length_map]
      have := List.length_filter_le p (List.range i)
      rw [List.length_range] at this
      omega
    refine turn i x d T G _ _ hd gg (DL.grow go hdx) (by rw [eD]; exact fun z => nomatch z) hT (fun pd y H4 g4 hy => ?_) fun pd H4 g4 => ?_
    · have g4' := gT.trans g4
      refine ⟨acc, g4' _ _ eD, Nat.lt_of_le_of_lt al2 (by decide), il, acc ++ [y], upd_D hD (gg.trans g4'), upd_same, ?_⟩
      rw [off_upd, List.range_succ, List.filter_append, List.map_append, List.filter_cons, if_pos pd]
      exact DLs.app (DLs.grow (off_grow g4') al) (.cons hy .nil)
    · have g4' := gT.trans g4
      refine ⟨il, acc, gg.trans g4', g4' _ _ eD, ?_⟩
      rw [List.range_succ, List.filter_append, List.map_append, List.filter_cons, if_neg (by rw [pd]; exact Bool.false_ne_true)]
      show DLs _ acc (_ ++ [])
      rw [List.append_nil]
      exact DLs.grow (off_grow g4') al
  · rw [xl] at al
    exact done G acc gg eD al
end
end K32

namespace K32
open PySem PySem.Spec PyProof.Rows L2 SortR LcM RepA
abbrev sHs : Stmt := top 41
/-! ### all histories of few persons -/
abbrev Lm := List (List Int) × List (List Int)
def freshM (lanes : List (List Int)) (l r : Nat) : List Int := isort intLe (lanes.getD l [] ++ lanes.getD r [])
def keepB (l r : Nat) (i : Nat) : Bool := !(decide (i = l) || decide (i = r))
def restM (lanes : List (List Int)) (l r : Nat) : List (List Int) := ((List.range lanes.length).filter (keepB l r)).map fun i => lanes.getD i []
def oneM (lm : Lm) (r l : Nat) : Lm := (restM lm.1 l r ++ [freshM lm.1 l r], lm.2 ++ [freshM lm.1 l r])
def moreM (lm : Lm) : List Lm := (List.range lm.1.length).flatMap fun r => (List.range r).map (oneM lm r)
def histsN (n : Nat) : Nat → List Lm
  | 0 => [((List.range n).map fun i : Nat => [(i : Int)], [])]
  | t + 1 => (histsN n t).flatMap moreM
def histsM (n : Nat) : List (List (List Int)) := (histsN n (n - 1)).map fun lm => isort rowB lm.2
def pairD (lm : Lm) : PyData := .tuple [.list (rowsD lm.1), .list (rowsD lm.2)]
def lmB (lm : Lm) : Bool := decide (lm.1.length ≤ 4) && decide (lm.2.length ≤ 4) && (lm.1.all fun r => decide (r.length ≤ 4)) && lm.2.all fun r => decide (r.length ≤ 4)
theorem hists_all : ((List.range 5).all fun n => (List.range n).all fun t => decide ((histsN n t).length ≤ 20) && (histsN n t).all lmB) = true := by decide +kernel
theorem hists_ok {n t : Nat} (h : n ≤ 4) (ht : t < n) : (histsN n t).length ≤ 20 ∧ ∀ lm ∈ histsN n t, lm.1.length ≤ 4 ∧ lm.2.length ≤ 4 ∧ (∀ r ∈ lm.1, r.length ≤ 4) ∧ ∀ r ∈ lm.2, r.length ≤ 4 := by
  have z := List.all_eq_true.mp (List.all_eq_true.mp hists_all n (List.mem_range.mpr (by omega))) t (List.mem_range.mpr ht)
  rw [Bool.and_eq_true, decide_eq_true_eq] at z
  refine ⟨z.1, fun lm hl => ?_⟩
  have q := List.all_eq_true.mp z.2 lm hl
  unfold lmB at q
  rw [Bool.and_eq_true, Bool.and_eq_true, Bool.and_eq_true, decide_eq_true_eq, decide_eq_true_eq] at q
  exact ⟨q.1.1.1, q.1.1.2, fun r hr => of_decide_eq_true (List.all_eq_true.mp q.1.2 r hr), fun r hr => of_decide_eq_true (List.all_eq_true.mp q.2 r hr)⟩
theorem dl_tup {H : Hp} {v : V} {ds : List PyData} (h : DL H v (.tuple ds)) : ∃ a xs, v = .ref a ∧ H a = some (.tup xs) ∧ DLs H xs ds := by
  cases h with
  | tup h t => exact ⟨_, _, rfl, h, t⟩
theorem dl_pair {H : Hp} {v : V} {lm : Lm} (h : DL H v (pairD lm)) : ∃ t l m xs ys, v = .ref t ∧ H t = some (.tup [.ref l, .ref m]) ∧ H l = some (.lst xs) ∧ DLs H xs (rowsD lm.1) ∧ H m = some (.lst ys) ∧ DLs H ys (rowsD lm.2) := by
  obtain ⟨t, zs, rfl, e, al⟩ := dl_tup h
  cases al with
  | cons a b =>
    cases b with
    | cons c d =>
      cases d
      obtain ⟨l, xs, rfl, e1, t1⟩ := dl_list a
      obtain ⟨m, ys, rfl, e2, t2⟩ := dl_list c
      exact ⟨t, l, m, xs, ys, rfl, e, e1, t1, e2, t2⟩
theorem dls_kept {H : Hp} {xs : List V} {ds : List PyData} (h : DLs H xs ds) : ∀ is : List Nat, (∀ i ∈ is, i < ds.length) → DLs H (is.map fun i => xs.getD i .non) (is.map fun i => ds.getD i .none)
  | [], _ => .nil
  | i :: is, hi => by
    have l : i < ds.length := hi i List.mem_cons_self
    have lx : i < xs.length := by rw [DLs.len h]; exact l
    obtain ⟨d, hd, q⟩ := DLs.at h (List.getElem?_eq_getElem lx)
    refine .cons ?_ (dls_kept h is fun j hj => hi j (List.mem_cons_of_mem _ hj))
    show DL H (xs.getD i .non) (ds.getD i .none)
    rw [List.getD_eq_getElem?_getD, List.getElem?_eq_getElem lx, List.getD_eq_getElem?_getD, hd]
    exact q
section
variable {K : PySem.W.Frag} {a : Addr} {xs : List V} {g : TG} {tt : TT} {te : TE} {vs : List Nat} {σ : L2.St} {H0 : Hp} {D : Addr} {Qd : Hp → Prop}
/-- [e for i, x in enumerate(xs) if c], by the value of each turn -/
theorem lc_enumV (p : Nat → Bool) (F : Nat → V) (hD : H0 D = none) (hx : SqL K H0 a xs) (small : xs.length ≤ 1000)
    (turn : ∀ (i : Nat) (x : V) (T : Addr) (G : Hp) (Ry : V → Hp → Prop) (Rn : Hp → Prop), xs[i]? = some x → Grows H0 G → G T = none → (p i = true → ∀ H4, Grows (upd G T (.tup [.int (i : Nat), x])) H4 → Ry (F i) H4) → (p i = false → ∀ H4, Grows (upd G T (.tup [.int (i : Nat), x])) H4 → Rn H4) →
      g (.ref T) (wipe σ vs) (upd G T (.tup [.int (i : Nat), x])) fun σ2 H2 => wipe σ2 vs = wipe σ vs ∧ tt σ2 H2 fun t H3 => if t = true then te σ2 H3 Ry else Rn H3)
    (done : ∀ G, Grows H0 G → G D = some (.lst (kept p F xs.length)) → Qd G) :
    ∃ W : Nat → Nat → Hp → Prop, (∃ m, W 0 m (upd H0 D (.lst []))) ∧ ∀ i m H, W i m H →
      ((Ite K a).stop i H ∧ Qd H) ∨ ((Ite K a).go i H ∧ ∃ Nx : Hp → Prop, (∀ H', Nx H' → ∃ m', m' < m ∧ W (i + 1) m' H') ∧ ∀ x H', (Ite K a).yld i H x H' → g x (wipe σ vs) H' fun σ2 H2 => wipe σ2 vs = wipe σ vs ∧ tt σ2 H2 fun b H3 =>
        if b = true then te σ2 H3 fun y H4 => ∃ acc, H4 D = some (.lst acc) ∧ acc.length < sizeLine ∧ Nx (upd H4 D (.lst (acc ++ [y]))) else Nx H3) := by
  refine SortR.lc_enumL (fun i G => i ≤ xs.length ∧ Grows H0 G ∧ G D = some (.lst (kept p F i))) ⟨Nat.zero_le _, Grows.new hD, upd_same⟩ (fun i G ⟨_, gg, _⟩ => gg.seq hx) (fun i x T G ex ⟨il0, gg, eD⟩ hT => ?_) fun G ⟨_, gg, eD⟩ => done G gg eD
  have il := (List.getElem?_eq_some_iff.mp ex).1
  have gT := Grows.new (o := .tup [.int (i : Nat), x]) hT
  refine turn i x T G _ _ ex gg hT (fun pd H4 g4 => ?_) fun pd H4 g4 => ?_
  · have g4' := gT.trans g4
    refine ⟨_, g4' _ _ eD, Nat.lt_of_le_of_lt (kept_le p F i) (Nat.lt_of_lt_of_le (show i < 1000 by omega) (by decide)), il, upd_D hD (gg.trans g4'), ?_⟩
    rw [upd_same, kept_yes pd]
  · have g4' := gT.trans g4
    refine ⟨il, gg.trans g4', ?_⟩
    rw [kept_no pd]
    exact g4' _ _ eD
end
def madeD : PyData → List (List Int)
  | .tuple [_, .list ds] => ds.map toR
  | _ => []
theorem more_next (X : List Lm) (f : Nat → Lm) (u : Nat) : (X ++ (List.range (u + 1)).map f).map pairD = (X ++ (List.range u).map f).map pairD ++ [pairD (f u)] := by
  simp [List.range_succ]
theorem made_pair (lm : Lm) : madeD (pairD lm) = lm.2 := toF_rows lm.2
theorem not_pair {l r i : Nat} : (!inV (.int (i : Int)) [.int (l : Int), .int (r : Int)]) = keepB l r i := by
  have e : [V.int (l : Int), V.int (r : Int)] = [(l : Int), (r : Int)].map V.int := rfl
  rw [e, inV_ints]
  unfold keepB
  congr 1
  rw [Bool.eq_iff_iff, decide_eq_true_eq, Bool.or_eq_true, decide_eq_true_eq, decide_eq_true_eq, List.mem_cons, List.mem_singleton]
  omega
/-- the histories of n persons, new lists -/
def spHs : Sp := fun vs H Q _ => ∃ (n : Nat), vs = [.int (n : Int)] ∧ 1 ≤ n ∧ n ≤ 4 ∧ ∀ (q : Addr) (xs : List V) (H' : Hp), Grows H H' → H' q = some (.lst xs) → DLs H' xs (famsD (histsM n)) → Q (.ref q) H'
section
variable {P : Program} {w : World} {K : PySem.W.Frag} {mg : Str → Option Value} {base : Heap}
theorem scHs : FnScope ["many_here", "found", "who", "turn", "later", "lanes", "made", "right", "left", "fresh", "rest", "place", "lane"] ["many_here"] (defScope sHs) := ⟨rfl, rfl, rfl, by decide +kernel, rfl, by decide +kernel, by decide +kernel⟩
theorem ok_hists {f : Addr} {fd : FuncData} (F : Fun K "_law_histories" "_law_histories" sHs f fd) (T : TxtP mg) : FnOk P w K mg base CX0 1 f fd ["many_here"] spHs := by
  refine F.ok scHs (fun vs H Q E h => ?_) (fun cdv A outer s H vs Q E hr h => ?_)
  · obtain ⟨n, rfl, _⟩ := h
    rfl
  · obtain ⟨n, rfl, n1, n4, k⟩ := h
    refine ⟨_, (pss_cons (ps_set (i := 1) scHs.nd rfl (.inl rfl) (pe_lst (pa_cons (pe_tup (pa_cons (pe_lc (own := [("who", 2)]) (g := gName 2) (tt := tYes) rfl scHs.nd (pi_range1 (by rfl) T.range (pa_cons (pv 0) pa_nil)) (blkOk_by (own := [("who", 2)]) (N := ["many_here", "found", "who", "turn", "later", "lanes", "made", "right", "left", "fresh", "rest", "place", "lane"]) (sc := defScope sHs) (by decide +kernel)) (fun _ _ _ _ _ => pg_name (i := 2) scHs.nd rfl (Or.inl rfl)) (fun _ _ _ _ _ => pts_nil) (fun _ _ _ _ _ => (pe_lst (pa_cons (pv 2) pa_nil)))) (pa_cons (pe_lst pa_nil) pa_nil))) pa_nil)))
      (pss_cons (ps_for PassesOwn.never rfl (pi_range1 (by rfl) T.range (pa_cons (pe_op op_sub (pv 0) pe_int) pa_nil)) (pg_name (i := 3) scHs.nd rfl (.inl rfl))
      (pss_cons (ps_set (i := 4) scHs.nd rfl (.inl rfl) (pe_lst pa_nil))
      (pss_cons (ps_for PassesOwn.never rfl (pi_list (pv 1)) (pg_tup (by rfl) (pgs_cons (pg_name (i := 5) scHs.nd rfl (.inl rfl)) (pgs_cons (pg_name (i := 6) scHs.nd rfl (.inl rfl)) pgs_nil)))
      (pss_one (ps_for PassesOwn.never rfl (pi_range1 (by rfl) T.range (pa_cons (pe_callB call_len_seq (by rfl) T.len (by decide +kernel) (pa_cons (pv 5) pa_nil)) pa_nil)) (pg_name (i := 7) scHs.nd rfl (.inr rfl))
      (pss_one (ps_for PassesOwn.never rfl (pi_range1 (by rfl) T.range (pa_cons (pv 7) pa_nil)) (pg_name (i := 8) scHs.nd rfl (.inr rfl))
      (pss_cons (ps_set (i := 9) scHs.nd rfl (.inl rfl) (pe_callB (id := "sorted") (r := rSorted K) (by exact cr_sorted) (by rfl) T.sorted (by decide +kernel) (pa_cons (pe_op op_cat (pe_ix (r := rIxL K) ix_list (pv 5) (pv 8) (fun _ _ => rfl)) (pe_ix (r := rIxL K) ix_list (pv 5) (pv 7) (fun _ _ => rfl))) pa_nil)))
      (pss_cons (ps_setLc (i := 10) (own := [("place", 11), ("lane", 12)]) (g := (gTup K 2 (gCons (gName 11) (gCons (gName 12) gNil)))) rfl scHs.nd rfl rfl (sw_true rfl rfl rfl (by decide +kernel)) (pi_enum (by rfl) T.enumerate (pa_cons (pv 5) pa_nil)) (blkOk_by (own := [("place", 11), ("lane", 12)]) (N := ["many_here", "found", "who", "turn", "later", "lanes", "made", "right", "left", "fresh", "rest", "place", "lane"]) (sc := defScope sHs) (by decide +kernel)) (fun _ _ _ _ _ => pg_tup rfl (pgs_cons (pg_name (i := 11) scHs.nd rfl (Or.inl rfl)) (pgs_cons (pg_name (i := 12) scHs.nd rfl (Or.inl rfl)) pgs_nil))) (fun _ _ _ _ _ => (pts_one (pt_cmpR (r := rIn K true) (by exact op_notIn_seq) (pv 11) (pe_tup (pa_cons (pv 8) (pa_cons (pv 7) pa_nil))) (by rfl)))) (fun _ _ _ _ _ => (pv 12)))
      (pss_one (ps_expr (pe_bm PySem.F.plainAttrs_list PySem.F.slot_list_append PySem.F.type_list_append mt_append (pv 4) (pa_cons (pe_tup (pa_cons (pe_op op_cat (pv 10) (pe_lst (pa_cons (pv 9) pa_nil))) (pa_cons (pe_op op_cat (pv 6) (pe_lst (pa_cons (pv 9) pa_nil))) pa_nil))) pa_nil)))))))))))
      (pss_one (ps_set (i := 1) scHs.nd rfl (.inl rfl) (pv 4))))))
      (pss_one (ps_ret (pe_lc (own := [("lanes", 5), ("made", 6)]) (g := (gTup K 2 (gCons (gName 5) (gCons (gName 6) gNil)))) (tt := tYes) rfl scHs.nd (pi_list (pv 1)) (blkOk_by (own := [("lanes", 5), ("made", 6)]) (N := ["many_here", "found", "who", "turn", "later", "lanes", "made", "right", "left", "fresh", "rest", "place", "lane"]) (sc := defScope sHs) (by decide +kernel)) (fun _ _ _ _ _ => pg_tup rfl (pgs_cons (pg_name (i := 5) scHs.nd rfl (Or.inl rfl)) (pgs_cons (pg_name (i := 6) scHs.nd rfl (Or.inl rfl)) pgs_nil))) (fun _ _ _ _ _ => pts_nil) (fun _ _ _ _ _ => (pe_callB (id := "sorted") (r := rSrtR K) (by exact cr_srtR hr.units) (by rfl) T.sorted (by decide +kernel) (pa_cons (pv 6) pa_nil)))))))), ?_⟩
    refine ⟨_, rfl, (n : Int), rfl, by omega, by omega, fun D hD => lc_rangeDL (n := (n : Int).toNat) (fun i => rowD [(i : Int)]) hD (by omega) (fun i G Ry il gg go nD kY => ?_) fun G acc g0 eD al => ?_⟩
    · refine ⟨rfl, _, rfl, (by show 1 ≤ sizeLine; decide), fun y hy => kY _ _ (Grows.new hy) ?_⟩
      have e0 : [V.int (0 + (i : Int))] = [(i : Int)].map V.int := by rw [Int.zero_add]; rfl
      rw [e0]
      exact dl_of_row (off_at upd_same fun z => nD (by rw [← z]; exact hy))
    rw [Int.toNat_natCast] at al
    have eln : (List.range n).map (fun i : Nat => rowD [(i : Int)]) = rowsD ((List.range n).map fun i : Nat => [(i : Int)]) := by
      unfold rowsD
      rw [List.map_map]
      rfl
    rw [eln] at al
    refine ⟨(by show 0 ≤ sizeLine; decide), fun q0 hq0 => ⟨(by show 2 ≤ sizeLine; decide), fun t0 ht0 => ⟨(by show 1 ≤ sizeLine; decide), fun F0 hF0 => ?_⟩⟩⟩
    have w1 := Grows.new (o := .lst []) hq0
    have w2 := Grows.new (o := .tup [V.ref D, V.ref q0]) ht0
    have w3 := Grows.new (o := .lst [V.ref t0]) hF0
    have w23 := w2.trans w3
    have w13 := w1.trans w23
    have init : DLs (upd (upd (upd G q0 (.lst [])) t0 (.tup [V.ref D, V.ref q0])) F0 (.lst [V.ref t0])) [V.ref t0] ((histsN n 0).map pairD) := .cons (.tup (w3 _ _ upd_same) (.cons (.lst (w13 _ _ eD) (DLs.grow (off_le.trans w13) al)) (.cons (.lst (w23 _ _ upd_same) .nil) .nil))) .nil
    refine ⟨_, rfl, _, _, rfl, rfl, (n : Int) - 1, rfl, by omega, by omega, for_range (lo := 0) (n := ((n : Int) - 1).toNat) (fun i σ G => ∃ (F : Addr) (xs : List V) (o3 o4 o5 o6 o7 o8 o9 o10 : Option V), σ = [some (.int (n : Int)), some (.ref F), none, o3, o4, o5, o6, o7, o8, o9, o10, none, none] ∧ Grows H G ∧ G F = some (.lst xs) ∧ DLs G xs ((histsN n i).map pairD))
      ⟨F0, _, none, none, none, none, none, none, none, none, rfl, g0.trans w13, upd_same, init⟩ (fun i σ B il ⟨F, xs, o3, o4, o5, o6, o7, o8, o9, o10, e, gB, eF, bl⟩ => ?_) fun σ B ⟨F, xs, o3, o4, o5, o6, o7, o8, o9, o10, e, gB, eF, bl⟩ => ?_⟩
    · subst e
      obtain ⟨c1, c2⟩ := hists_ok (n := n) (t := i) n4 (by omega)
      have nx : histsN n (i + 1) = (histsN n i).flatMap moreM := rfl
      generalize histsN n i = hs at bl c1 c2 nx
      have xl := DLs.len bl
      rw [List.length_map] at xl
      refine ⟨(by show 0 ≤ sizeLine; decide), fun L hL => ?_⟩
      have gL := Grows.new (o := .lst []) hL
      refine ⟨_, rfl, F, rfl, ⟨_, SqL.of (gL _ _ eF)⟩, for_list (K := K) (a := F) (xs := xs) (fun j σ G => ∃ (o5 o6 o7 o8 o9 o10 : Option V) (acc : List V), σ = [some (.int (n : Int)), some (.ref F), none, some (.int (0 + (i : Int))), some (.ref L), o5, o6, o7, o8, o9, o10, none, none] ∧ Grows B G ∧ G L = some (.lst acc) ∧ DLs (off L G) acc (((hs.take j).flatMap moreM).map pairD) ∧ acc.length ≤ 64 * j)
        ⟨_, _, _, _, _, _, [], rfl, gL, upd_same, .nil, Nat.le_refl _⟩ (fun j σ G _ ⟨_, _, _, _, _, _, _, _, g, _⟩ => SqL.of (g _ _ eF)) (fun j x σ G hx ⟨o5, o6, o7, o8, o9, o10, acc, e, g, eL, al, sz⟩ => ?_) fun σ G ⟨o5, o6, o7, o8, o9, o10, acc, e, g, eL, al, sz⟩ => ?_⟩
      · subst e
        obtain ⟨d, hd, hdx⟩ := DLs.at bl hx
        rw [List.getElem?_map] at hd
        obtain ⟨lm, hlm, rfl⟩ := Option.map_eq_some_iff.mp hd
        obtain ⟨c3, c4, c5, c6⟩ := c2 lm (List.mem_of_getElem? hlm)
        have jl := (List.getElem?_eq_some_iff.mp hlm).1
        obtain ⟨t, l, m, zs, ms, rfl, et, el, tz, em, tm⟩ := dl_pair hdx
        have zl := DLs.len tz
        unfold rowsD at zl
        rw [List.length_map] at zl
        have ml := DLs.len tm
        unfold rowsD at ml
        rw [List.length_map] at ml
        rw [take_nextD hlm, List.flatMap_append]
        obtain ⟨pre, epre⟩ : ∃ pre, pre = (hs.take j).flatMap moreM := ⟨_, rfl⟩
        rw [← epre] at al ⊢
        have e1 : [lm].flatMap moreM = (List.range lm.1.length).flatMap fun r => (List.range r).map (oneM lm r) := by
          rw [List.flatMap_cons, List.flatMap_nil, List.append_nil]
          rfl
        rw [e1]
        refine ⟨t, _, rfl, SqT.of (g _ _ et), rfl, _, _, rfl, _, _, rfl, rfl, ?_⟩
        refine ⟨_, rfl, l, _, rfl, .inl (SqL.of (g _ _ el)), (zs.length : Int), rfl, by omega, by omega, for_range (lo := 0) (n := (zs.length : Int).toNat) (fun r σ G => ∃ (o7 o8 o9 o10 : Option V) (acc : List V), σ = [some (.int (n : Int)), some (.ref F), none, some (.int (0 + (i : Int))), some (.ref L), some (.ref l), some (.ref m), o7, o8, o9, o10, none, none] ∧ Grows B G ∧ G L = some (.lst acc) ∧ DLs (off L G) acc ((pre ++ (List.range r).flatMap fun r => (List.range r).map (oneM lm r)).map pairD) ∧ acc.length ≤ 64 * j + 4 * r)
          ⟨_, _, _, _, acc, rfl, g, eL, by rw [List.range_zero, List.flatMap_nil, List.append_nil]; exact al, by omega⟩ (fun r σ G rl ⟨o7, o8, o9, o10, acc, e, g, eL, al, sz⟩ => ?_) fun σ G ⟨o7, o8, o9, o10, acc, e, g, eL, al, sz⟩ => ?_⟩
        · subst e
          rw [Int.zero_add]
          have rz : r < zs.length := by omega
          refine ⟨_, rfl, (r : Int), rfl, by omega, by omega, for_range (lo := 0) (n := (r : Int).toNat) (fun u σ G => ∃ (o8 o9 o10 : Option V) (acc : List V), σ = [some (.int (n : Int)), some (.ref F), none, some (.int (0 + (i : Int))), some (.ref L), some (.ref l), some (.ref m), some (.int (r : Int)), o8, o9, o10, none, none] ∧ Grows B G ∧ G L = some (.lst acc) ∧ DLs (off L G) acc (((pre ++ (List.range r).flatMap fun r => (List.range r).map (oneM lm r)) ++ (List.range u).map (oneM lm r)).map pairD) ∧ acc.length ≤ 64 * j + 4 * r + u)
            ⟨_, _, _, acc, rfl, g, eL, by rw [List.range_zero, List.map_nil, List.append_nil]; exact al, by omega⟩ (fun u σ G ul ⟨o8, o9, o10, acc, e, g, eL, al, sz⟩ => ?_) fun σ G ⟨o8, o9, o10, acc, e, g, eL, al, sz⟩ => ?_⟩
          · subst e
            rw [Int.zero_add]
            have uz : u < zs.length := by omega
            obtain ⟨d1, hd1, hx1⟩ := DLs.at tz (List.getElem?_eq_getElem uz)
            obtain ⟨d2, hd2, hx2⟩ := DLs.at tz (List.getElem?_eq_getElem rz)
            unfold rowsD at hd1 hd2
            rw [List.getElem?_map] at hd1 hd2
            obtain ⟨q1, hq1, rfl⟩ := Option.map_eq_some_iff.mp hd1
            obtain ⟨q2, hq2, rfl⟩ := Option.map_eq_some_iff.mp hd2
            have s1 := c5 q1 (List.mem_of_getElem? hq1)
            have s2 := c5 q2 (List.mem_of_getElem? hq2)
            obtain ⟨b1, v1, eb1⟩ := dl_row hx1
            obtain ⟨b2, v2, eb2⟩ := dl_row hx2
            have at1 : zs[u]? = some (.ref b1) := by rw [List.getElem?_eq_getElem uz, v1]
            have at2 : zs[r]? = some (.ref b2) := by rw [List.getElem?_eq_getElem rz, v2]
            have g1 : lm.1.getD u [] = q1 := by rw [List.getD_eq_getElem?_getD, hq1]; rfl
            have g2 : lm.1.getD r [] = q2 := by rw [List.getD_eq_getElem?_getD, hq2]; rfl
            have el5 := g _ _ el
            refine ⟨_, rfl, _, rfl, l, _, (u : Int), _, rfl, rfl, SqL.of el5, atI_nat at1, _, rfl, _, rfl, l, _, (r : Int), _, rfl, rfl, SqL.of el5, atI_nat at2, b1, b2, _, _, rfl, rfl, g _ _ eb1, g _ _ eb2, by rw [List.length_map, List.length_map]; exact Nat.le_trans (show q1.length + q2.length ≤ 8 by omega) (by decide), fun y hy => ⟨y, q1 ++ q2, rfl, SqL.of (by rw [upd_same, List.map_append]), by rw [List.length_append]; omega, fun ns' p1 perm up hp1 => ?_⟩⟩
            have ef : ns' = freshM lm.1 u r := by
              unfold freshM
              rw [g1, g2]
              exact sorted_one perm up
            subst ef
            have x1 := Grows.new (o := .lst (q1.map V.int ++ q2.map V.int)) hy
            have x2 := Grows.new (o := .lst ((freshM lm.1 u r).map V.int)) hp1
            have g6 := g.trans (x1.trans x2)
            have e6 := upd_same (H := upd G y (.lst (q1.map V.int ++ q2.map V.int))) (a := p1) (o := .lst ((freshM lm.1 u r).map V.int))
            have eL6 := (x1.trans x2) _ _ eL
            have al6 := DLs.grow (off_grow (x1.trans x2)) al
            have n1L : p1 ≠ L := fun z => by rw [z, x1 _ _ eL] at hp1; cases hp1
            generalize upd (upd G y (.lst (q1.map V.int ++ q2.map V.int))) p1 (.lst ((freshM lm.1 u r).map V.int)) = G6 at g6 e6 eL6 al6
            clear x1 x2
            have el6 := g6 _ _ el
            dsimp only [List.set_cons_succ, List.set_cons_zero]
            refine ⟨_, rfl, l, _, rfl, SqL.of el6, fun D3 hD3 => lc_enumV (K := K) (keepB u r) (fun i => zs.getD i .non) hD3 (SqL.of el6) (by omega) (fun i2 x2 T G7 Ry Rn hx2' gg hT kY kN => ?_) fun G7 g7 e7 => ?_⟩
            · have ex : zs.getD i2 .non = x2 := by rw [List.getD_eq_getElem?_getD, hx2']; rfl
              rw [ex] at kY
              refine ⟨T, _, rfl, SqT.of upd_same, rfl, _, _, rfl, _, _, rfl, rfl, rfl, _, rfl, _, rfl, _, rfl, (by show 2 ≤ sizeLine; decide), fun v hv => ⟨v, _, rfl, .inr (SqT.of upd_same), rfl, rfl, _, rfl, ?_⟩⟩
              show if (!inV (.int (i2 : Int)) [.int (u : Int), .int (r : Int)]) = true then _ else _
              rw [not_pair]
              have gv := Grows.new (o := .tup [V.int (u : Int), .int (r : Int)]) hv
              cases hk : keepB u r i2 with
              | true => exact iteT ⟨_, rfl, kY hk _ gv⟩
              | false => exact iteF (kN hk _ gv)
            have g67 := g6.trans g7
            have eL7 := g7 _ _ eL6
            have e7p := g7 _ _ e6
            have al7 := DLs.grow (off_grow g7) al6
            have kl := kept_le (keepB u r) (fun i => zs.getD i .non) zs.length
            refine ⟨_, rfl, .inl ⟨rfl, _, SqL.of eL7⟩, ?_⟩
            refine ⟨_, rfl, _, rfl, (by show 1 ≤ sizeLine; decide), fun u1 hu1 => ?_⟩
            have y1 := Grows.new (o := .lst [V.ref p1]) hu1
            refine ⟨D3, u1, _, _, rfl, rfl, y1 _ _ e7, upd_same, Nat.le_trans (show _ + 1 ≤ 1000 by omega) (by decide), fun v1 hv1 => ?_⟩
            have y2 := Grows.new (o := .lst (kept (keepB u r) (fun i => zs.getD i .non) zs.length ++ [V.ref p1])) hv1
            refine ⟨_, rfl, _, rfl, (by show 1 ≤ sizeLine; decide), fun u2 hu2 => ?_⟩
            have y3 := Grows.new (o := .lst [V.ref p1]) hu2
            have em7 := y3 _ _ (y2 _ _ (y1 _ _ (g67 _ _ em)))
            refine ⟨m, u2, _, _, rfl, rfl, em7, upd_same, Nat.le_trans (show ms.length + 1 ≤ 1000 by omega) (by decide), fun v2 hv2 => ?_⟩
            have y4 := Grows.new (o := .lst (ms ++ [V.ref p1])) hv2
            refine ⟨(by show 2 ≤ sizeLine; decide), fun t1 ht1 => ?_⟩
            have y5 := Grows.new (o := .tup [V.ref v1, V.ref v2]) ht1
            have y45 := y4.trans y5
            have y345 := y3.trans y45
            have y25 := y2.trans y345
            have y15 := y1.trans y25
            have eL8 := y15 _ _ eL7
            have eL2 := y1 _ _ eL7
            have eL3 := (y2.trans y3) _ _ eL2
            have eL4 := y4 _ _ eL3
            have nv1 : v1 ≠ L := fun z => by rw [z, eL2] at hv1; cases hv1
            have nv2 : v2 ≠ L := fun z => by rw [z, eL3] at hv2; cases hv2
            have nt1 : t1 ≠ L := fun z => by rw [z, eL4] at ht1; cases ht1
            have f1 := y345 _ _ (upd_same (a := v1) (o := .lst (kept (keepB u r) (fun i => zs.getD i .non) zs.length ++ [V.ref p1])))
            have f2 := y5 _ _ (upd_same (a := v2) (o := .lst (ms ++ [V.ref p1])))
            refine ⟨L, _, _, rfl, rfl, eL8, Nat.lt_of_lt_of_le (show acc.length < 10000 by omega) (by decide), _, _, _, acc ++ [V.ref t1], rfl, upd_D hL (g67.trans y15), upd_same, ?_, by rw [List.length_append]; show acc.length + 1 ≤ _; omega⟩
            rw [off_upd, more_next]
            have tz8 := DLs.grow (off_of hL (g67.trans y15)) tz
            have tm8 := DLs.grow (off_of hL (g67.trans y15)) tm
            have fr8 := dl_of_row (off_at (y15 _ _ e7p) n1L)
            have rest8 := dls_kept tz8 ((List.range zs.length).filter (keepB u r)) fun i hi => by
              have := List.mem_range.mp (List.mem_filter.mp hi).1
              unfold rowsD
              rw [List.length_map]
              omega
            have er : ((List.range zs.length).filter (keepB u r)).map (fun i => (rowsD lm.1).getD i .none) = rowsD (restM lm.1 u r) := by
              unfold restM rowsD
              rw [List.map_map, zl]
              refine List.map_congr_left fun i hi => ?_
              have il := List.mem_range.mp (List.mem_filter.mp hi).1
              show (lm.1.map rowD).getD i .none = rowD (lm.1.getD i [])
              rw [List.getD_eq_getElem?_getD, List.getElem?_map, List.getElem?_eq_getElem il, List.getD_eq_getElem?_getD, List.getElem?_eq_getElem il]
              rfl
            rw [er] at rest8
            refine DLs.app (DLs.grow (off_grow y15) al7) (.cons (.tup (off_at upd_same nt1) (.cons (.lst (off_at f1 nv1) ?_) (.cons (.lst (off_at f2 nv2) ?_) .nil))) .nil)
            · show DLs _ _ (rowsD (restM lm.1 u r ++ [freshM lm.1 u r]))
              rw [rowsD_app]
              exact DLs.app rest8 (.cons fr8 .nil)
            · show DLs _ _ (rowsD (lm.2 ++ [freshM lm.1 u r]))
              rw [rowsD_app]
              exact DLs.app tm8 (.cons fr8 .nil)
          · subst e
            rw [Int.toNat_natCast] at al sz
            refine ⟨_, _, _, _, acc, rfl, g, eL, ?_, by omega⟩
            rw [List.range_succ, List.flatMap_append, List.flatMap_cons, List.flatMap_nil, List.append_nil, ← List.append_assoc]
            exact al
        · subst e
          rw [Int.toNat_natCast, zl] at al sz
          exact ⟨_, _, _, _, _, _, acc, rfl, g, eL, al, by omega⟩
      · subst e
        rw [xl, List.take_length] at al
        refine ⟨_, rfl, L, acc, _, _, _, _, _, _, _, _, rfl, gB.trans g, eL, ?_⟩
        rw [nx]
        exact DLs.grow off_le al
    · subst e
      have ei : ((n : Int) - 1).toNat = n - 1 := by omega
      rw [ei] at bl
      obtain ⟨c1, c2⟩ := hists_ok (n := n) (t := n - 1) n4 (by omega)
      have xl := DLs.len bl
      rw [List.length_map] at xl
      refine ⟨_, rfl, F, rfl, ⟨_, SqL.of eF⟩, fun D hD => lc_listDL (K := K) (fun _ => true) (fun d => .list (rowsD (isort rowB (madeD d)))) hD (SqL.of eF) bl (by rw [List.length_map]; omega) (fun j x d G Ry Rn hd gg go hdx nD kY kN => ?_) fun G acc g1 eD al => ?_⟩
      · obtain ⟨lm, hlm, rfl⟩ := List.mem_map.mp (List.mem_of_getElem? hd)
        obtain ⟨t, l, m, zs, ms, rfl, et, el, tz, em, tm⟩ := dl_pair hdx
        rw [made_pair] at kY
        refine ⟨t, _, rfl, SqT.of (off_le _ _ et), rfl, _, _, rfl, _, _, rfl, rfl, rfl, ?_⟩
        unfold tYes
        refine iteT ⟨_, rfl, m, ms, lm.2, rfl, off_le _ _ em, DLs.grow off_le tm, fun p xs' hp hl => kY rfl _ _ (Grows.new hp) (.lst (off_at upd_same fun z => nD (by rw [← z]; exact hp)) (DLs.grow (off_grow (Grows.new hp)) (hl _ tm)))⟩
      · rw [filt_yes] at al
        have e9 : ((histsN n (n - 1)).map pairD).map (fun d => PyData.list (rowsD (isort rowB (madeD d)))) = famsD (histsM n) := by
          unfold famsD histsM
          rw [List.map_map, List.map_map]
          refine List.map_congr_left fun lm _ => ?_
          show PyData.list (rowsD (isort rowB (madeD (pairD lm)))) = _
          rw [made_pair]
          rfl
        rw [e9] at al
        exact k D acc G (gB.trans g1) eD (DLs.grow off_le al)
end
end K32

namespace K32
open PySem PySem.Spec PyProof.Rows L2 SortR LcM RepA
abbrev sAR : Stmt := top 42
theorem pe_revN {K : PySem.W.Frag} {X : Cx} {te : TE} {x : Str} {p p2 p3 p4 pos : Pos} {j : Nat} (hk : X.K = K) (he : PE X (.Name x p) te) : PE X (.Subscript (.Name x p) (.Slice none none (some (.UnaryOp .USub (.Constant (.int 1) j p2) p3)) p4) pos) (tRev K te) := by
  subst hk
  exact pe_rev he
/-- all by place, or all by name -/
def selL {α : Type} : List α → List α → List α
  | [], ws => ws
  | us, [] => us
  | _, _ => []
structure KwF (K : PySem.W.Frag) (mg : Str → Option Value) (U : FmF K mg) : Prop where
  kbFC : KBinds K U.dFC ["persons"] ["persons"] selL selL
  kbFam : KBinds K U.dFam ["persons", "thing"] ["persons", "thing"] selL selL
  kbAHi : KBinds K U.dAHi ["persons"] ["persons"] selL selL
  kbHist : KBinds K U.dHist ["parting"] ["parting"] selL selL
  kbHS : KBinds K U.dHS ["persons", "group"] ["persons", "group"] selL selL
def cntM (M : List (List (List Int))) (row : List Int) : Int := ((M.countP fun rs => decide (row ∈ rs) : Nat) : Int)
def lotOk (n : Nat) (M : List (List (List Int))) (lot : List (List Int)) : Bool := isP lot && decide (lot.length ≤ 20) && decide (histI lot = ((M.countP fun rs => decide (rs = lot) : Nat) : Int)) && decide ((histI lot).natAbs < 10 ^ 12) &&
  lot.all fun row => group n row && decide (2 ≤ row.length) && decide (row.length ≤ n) && decide (low (cntM M row) (M.length : Int) = hsI n row.length) && decide ((hsI n row.length).1.natAbs < 10 ^ 12) && decide ((hsI n row.length).2.natAbs < 10 ^ 12)
def allOk (n : Nat) : Bool := let F := famsM n; let M := histsM n
  decide (fcR (n - 1) = (List.range (max 1 n)).map fun p : Nat => (((F.map fun rs => (rs.length : Int)).count (p : Int) : Nat) : Int)) && decide ((fcR (n - 1)).length ≤ 10) && (fcR (n - 1)).all (fun x => decide (x.natAbs < 10 ^ 12)) &&
  decide (F.length ≤ 60) && F.all (fun rs => famD n (.list (rowsD rs.reverse)) && decide (rs.length ≤ 20) && rs.all fun r => decide (r.length ≤ 20) && r.all fun x => decide (0 ≤ x) && decide (x ≤ 30)) &&
  decide (hofI (n : Int) = (M.length : Int)) && decide (1 ≤ M.length) && decide (M.length ≤ 20) && M.all fun lot => lotOk n M lot && decide (lot.length ≤ 20) && lot.all fun r => decide (r.length ≤ 20) && r.all fun x => decide (0 ≤ x) && decide (x ≤ 30)
theorem all_ok : ((List.range 4).all fun k => allOk (k + 1)) = true := by decide +kernel
theorem facts {n : Nat} (n1 : 1 ≤ n) (n4 : n ≤ 4) : fcR (n - 1) = ((List.range (max 1 n)).map fun p : Nat => ((((famsM n).map fun rs => (rs.length : Int)).count (p : Int) : Nat) : Int)) ∧ (fcR (n - 1)).length ≤ 10 ∧ (∀ x ∈ fcR (n - 1), x.natAbs < 10 ^ 12) ∧
    (famsM n).length ≤ 60 ∧ (∀ rs ∈ famsM n, famD n (.list (rowsD rs.reverse)) = true ∧ rs.length ≤ 20 ∧ ∀ r ∈ rs, Sm r) ∧ hofI (n : Int) = ((histsM n).length : Int) ∧ 1 ≤ (histsM n).length ∧ (histsM n).length ≤ 20 ∧ ∀ lot ∈ histsM n, lotOk n (histsM n) lot = true ∧ lot.length ≤ 20 ∧ ∀ r ∈ lot, Sm r := by
  have z := List.all_eq_true.mp all_ok (n - 1) (List.mem_range.mpr (by omega))
  rw [show n - 1 + 1 = n by omega] at z
  unfold allOk at z
  simp only [Bool.and_eq_true, decide_eq_true_eq, List.all_eq_true] at z
  obtain ⟨⟨⟨⟨⟨⟨⟨⟨a1, a2⟩, a3⟩, a4⟩, a5⟩, a6⟩, a7⟩, a8⟩, a9⟩ := z
  refine ⟨a1, a2, a3, a4, fun rs h => ?_, a6, a7, a8, fun lot h => ?_⟩
  · obtain ⟨⟨b1, b2⟩, b3⟩ := a5 rs h
    exact ⟨b1, b2, fun r hr => ⟨by have := (b3 r hr).1; omega, fun x hx => by have := (b3 r hr).2 x hx; omega⟩⟩
  · obtain ⟨⟨b1, b2⟩, b3⟩ := a9 lot h
    exact ⟨b1, b2, fun r hr => ⟨by have := (b3 r hr).1; omega, fun x hx => by have := (b3 r hr).2 x hx; omega⟩⟩
theorem cut_last (ys : List V) (v : V) : cutV (ys ++ [v]) none (some (-1)) = ys := by
  unfold cutV HT.sIx
  show List.take ((if (-1 : Int) < 0 then ((-1 : Int) + (((ys ++ [v]).length : Nat) : Int)).toNat else min (-1 : Int).toNat (ys ++ [v]).length) - 0) (List.drop 0 (ys ++ [v])) = ys
  rw [if_pos (by decide), List.drop_zero, Nat.sub_zero, List.length_append]
  show List.take ((-1 : Int) + ((ys.length + 1 : Nat) : Int)).toNat (ys ++ [v]) = ys
  rw [show ((-1 : Int) + ((ys.length + 1 : Nat) : Int)).toNat = ys.length by omega]
  exact List.take_left
theorem cut_mem {xs : List V} {a b : Option Int} {x : V} (h : x ∈ cutV xs a b) : x ∈ xs := by
  unfold cutV at h
  exact List.mem_of_mem_drop (List.mem_of_mem_take h)
theorem cut_len (xs : List V) (a b : Option Int) : (cutV xs a b).length ≤ xs.length := by
  unfold cutV
  rw [List.length_take, List.length_drop]
  omega
theorem DLs.mem {H : Hp} : ∀ {vs : List V} {ds : List PyData} {x : V}, DLs H vs ds → x ∈ vs → ∃ d ∈ ds, DL H x d
  | _, _, _, .nil, h => nomatch h
  | _, _, x, .cons a b, h => by
    rcases List.mem_cons.mp h with e | e
    · rw [e]
      exact ⟨_, List.mem_cons_self, a⟩
    · obtain ⟨d, hd, q⟩ := DLs.mem b e
      exact ⟨d, List.mem_cons_of_mem _ hd, q⟩
theorem kept_none (F : Nat → V) (n : Nat) : kept (fun _ => false) F n = [] := by
  unfold kept
  rw [List.filter_eq_nil_iff.mpr fun _ _ => Bool.false_ne_true]
  rfl
theorem lay_row (r : List Int) : (rowD r).canLay0 = true ∧ (rowD r).depth ≤ 20 := by
  refine ⟨?_, ?_⟩
  · show PyData.canLay0 (.list (r.map .int)) = true
    simp only [PyData.canLay0, lay_ints]
  · show PyData.depth (.list (r.map .int)) ≤ 20
    simp only [PyData.depth, PySem.W.depth_ints]
    decide
theorem lay_fam (rs : List (List Int)) : (PyData.list (rowsD rs)).canLay0 = true ∧ (PyData.list (rowsD rs)).depth ≤ 21 := by
  obtain ⟨a, b⟩ := lay_all (rowsD rs) fun e he => by
    obtain ⟨r, _, rfl⟩ := List.mem_map.mp he
    exact lay_row r
  refine ⟨?_, ?_⟩
  · simp only [PyData.canLay0, a]
  · simp only [PyData.depth]
    omega
theorem lay_fams : ∀ fs : List (List (List Int)), PyData.canLayAll0 (famsD fs) = true
  | [] => by
    unfold famsD
    simp only [List.map_nil, PyData.canLayAll0]
  | f :: fs => by
    show PyData.canLayAll0 (.list (rowsD f) :: famsD fs) = true
    simp only [PyData.canLayAll0, (lay_fam f).1, lay_fams fs, Bool.and_self]
theorem shaped_fam (rs : List (List Int)) : SeqAt.shaped (.list (rowsD rs)) = true := by
  obtain ⟨a, b⟩ := lay_fam rs
  unfold SeqAt.shaped
  rw [a, decide_eq_true (show (PyData.list (rowsD rs)).depth ≤ 64 by omega)]
  rfl
theorem count_fams (M : List (List (List Int))) (lot : List (List Int)) : ((famsD M).countP fun z => PyData.eqv z (.list (rowsD lot))) = M.countP fun rs => decide (rs = lot) := by
  unfold famsD
  rw [List.countP_map]
  exact List.countP_congr fun rs _ => by
    show PyData.eqv (.list (rowsD rs)) (.list (rowsD lot)) = true ↔ _
    rw [show PyData.eqv (.list (rowsD rs)) (.list (rowsD lot)) = decide (rs = lot) from eqv_rows rs lot]
theorem any_rowsD (rs : List (List Int)) (r : List Int) : ((rowsD rs).any fun z => PyData.eqv z (rowD r)) = decide (r ∈ rs) := by
  unfold rowsD
  rw [List.any_map, Bool.eq_iff_iff, List.any_eq_true, decide_eq_true_eq]
  refine ⟨fun ⟨q, h1, h2⟩ => ?_, fun h => ⟨r, h, ?_⟩⟩
  · have h2 : PyData.eqv (rowD q) (rowD r) = true := h2
    rw [show PyData.eqv (rowD q) (rowD r) = decide (q = r) from eqv_ints q r, decide_eq_true_eq] at h2
    rw [← h2]
    exact h1
  · show PyData.eqv (rowD r) (rowD r) = true
    rw [show PyData.eqv (rowD r) (rowD r) = decide (r = r) from eqv_ints r r]
    exact decide_eq_true rfl
theorem kept_cnt (M : List (List (List Int))) (F : Nat → V) (r : List Int) : ((kept (fun k => decide (r ∈ M.getD k [])) F M.length).length : Int) = cntM M r := by
  unfold kept cntM
  rw [List.length_map, List.countP_eq_length_filter]
  have q := congrArg List.length (filtA [] (fun rs => decide (r ∈ rs)) M)
  rw [List.length_map] at q
  rw [q]
theorem tx_int' {i : Int} (h : i.natAbs < 10 ^ 12) : Tx 20 100000 (.int i) := tx_big (tx_int h) (by decide) (by decide)
theorem tx_ints {ns : List Int} (l : ns.length ≤ 30) (h : ∀ x ∈ ns, x.natAbs < 10 ^ 12) : Tx 20 100000 (.list (ns.map .int)) :=
  tx_big (tx_list (n := 0) (w := 110) (m := 30) (fun d hd => by
    obtain ⟨x, hx, rfl⟩ := List.mem_map.mp hd
    exact tx_int (h x hx)) (by rw [List.length_map]; exact l)) (by decide) (by decide)
def spAR : Sp := fun vs H Q _ => ∃ n : Nat, vs = [.int (n : Int)] ∧ 1 ≤ n ∧ n ≤ 4 ∧ ∀ H', Grows H H' → Q (.bl true) H'
section
variable {P : Program} {w : World} {K : PySem.W.Frag} {mg : Str → Option Value} {base : Heap}
theorem scAR : FnScope ["many_here", "every", "made", "sizes_here", "row", "shown", "place", "lot", "due", "rest"] ["many_here"] (defScope sAR) := ⟨rfl, rfl, rfl, by decide +kernel, rfl, by decide +kernel, by decide +kernel⟩
theorem ok_allR {f fF fHs fL : Addr} {fd dF dHs dL : FuncData} (F : Fun K "_law_all_right" "_law_all_right" sAR f fd) (Z : ProgF K mg) (T : TxtP mg) (T0 : Txt0 mg) (gRepr : mg "repr" = none) (U : FmF K mg) (W : KwF K mg U) (FLow : Fun K "_law_lowest" "_law_lowest" sLow fL dL) (gLow : mg "_law_lowest" = some (.ref fL)) (bLow : Binds K dL ["top", "bottom"] [])
    (GFams : FnOk P w K mg base CX0 2 fF dF ["many_here"] spFams) (FFams : Fun K "_law_families" "_law_families" sFams fF dF) (gFams : mg "_law_families" = some (.ref fF)) (bFams : Binds K dF ["many_here"] [])
    (GHs : FnOk P w K mg base CX0 1 fHs dHs ["many_here"] spHs) (FHs : Fun K "_law_histories" "_law_histories" sHs fHs dHs) (gHs : mg "_law_histories" = some (.ref fHs)) (bHs : Binds K dHs ["many_here"] []) : FnG P w K mg base CX0 9 f fd ["many_here"] spAR := by
  have GLow := ok_low (P := P) (w := w) (base := base) FLow T
  have GHS := ok_hs (P := P) (w := w) (base := base) Z T U
  have GHist := ok_hist (P := P) (w := w) (base := base) Z T U
  have GAHi := ok_ahi (P := P) (w := w) (base := base) Z T U
  have GFC := ok_fc (P := P) (w := w) (base := base) Z T U
  have GFam := ok_fam (P := P) (w := w) (base := base) Z T U
  refine okG F scAR (fun vs H Q E h => ?_) (fun cdv A outer s0 H vs Q E hr noG h => ?_)
  · obtain ⟨n, rfl, _⟩ := h
    rfl
  · obtain ⟨n, rfl, n1, n4, k⟩ := h
    refine ⟨_, (pss_cons (ps_par (i := 1) (j := 2) (by rfl) scAR.nd rfl rfl (by decide) rfl rfl (pa_cons (pe_call GFams (hr.mono (by decide)) rfl gFams FFams.kp bFams .nil pass0 (pa_cons (pv 0) pa_nil)) (pa_cons (pe_call GHs (hr.mono (by decide)) rfl gHs FHs.kp bHs .nil pass0 (pa_cons (pv 0) pa_nil)) pa_nil)) (by rfl))
      (pss_cons (ps_set (i := 3) scAR.nd rfl (.inr rfl) (pe_lc (own := [("row", 4)]) (g := gName 4) (tt := tYes) rfl scAR.nd (pi_list (pv 1)) (blkOk_by (own := [("row", 4)]) (N := ["many_here", "every", "made", "sizes_here", "row", "shown", "place", "lot", "due", "rest"]) (sc := defScope sAR) (by decide +kernel)) (fun _ _ _ _ _ => pg_name (i := 4) scAR.nd rfl (Or.inl rfl)) (fun _ _ _ _ _ => pts_nil) (fun _ _ _ _ _ => (pe_callB (id := "len") (r := rLenS K) (by exact call_lenK) (by rfl) T.len (by decide +kernel) (pa_cons (pv 4) pa_nil)))))
      (pss_cons (ps_set (i := 5) scAR.nd rfl (.inl rfl) (pe_callKw GFC (hr.mono (by decide)) rfl U.gFC U.FFC.kp W.kbFC pass0 (pk_cons (pv 0) pk_nil)))
      (pss_cons (ps_if (pt_cmpR op_ne (pe_callB (id := "repr") (r := rReprD K) (by exact cr_reprD noG hr.units) (by rfl) gRepr (by decide +kernel) (pa_cons (pv 5) pa_nil)) (pe_callB (id := "repr") (r := rReprD K) (by exact cr_reprD noG hr.units) (by rfl) gRepr (by decide +kernel) (pa_cons (pe_lc (te := tBM K "list" (rCntI K) (tVar 3) (tCons (tVar 6) tNil)) (own := [("place", 6)]) (g := gName 6) (tt := tYes) rfl scAR.nd (pi_range1 (by rfl) T.range (pa_cons (pe_callB (call_max2 rfl) (by rfl) T0.max (by decide +kernel) (pa_cons pe_int (pa_cons (pv 0) pa_nil))) pa_nil)) (blkOk_by (own := [("place", 6)]) (N := ["many_here", "every", "made", "sizes_here", "row", "shown", "place", "lot", "due", "rest"]) (sc := defScope sAR) (by decide +kernel)) (fun _ _ _ _ _ => pg_name (i := 6) scAR.nd rfl (Or.inl rfl)) (fun _ _ _ _ _ => pts_nil) (fun _ _ _ _ _ => (pe_bm PySem.F.plainAttrs_list PySem.F.slot_list_count PySem.F.type_list_count mt_lcount (pv 3) (pa_cons (pv 6) pa_nil)))) pa_nil)) (nomark _)) (pss_one (ps_ret pe_bl)) pss_nil)
      (pss_cons (ps_expr (pe_bm PySem.F.plainAttrs_list PySem.F.slot_list_append PySem.F.type_list_append mt_append (pv 5) (pa_cons pe_non pa_nil)))
      (pss_cons (ps_if (pt_cmpR (op_neD hr.units) (pe_lc (own := [("row", 4)]) (g := gName 4) rfl scAR.nd (pi_list (pv 1)) (blkOk_by (own := [("row", 4)]) (N := ["many_here", "every", "made", "sizes_here", "row", "shown", "place", "lot", "due", "rest"]) (sc := defScope sAR) (by decide +kernel)) (fun _ _ _ _ _ => pg_name (i := 4) scAR.nd rfl (Or.inl rfl)) (fun _ _ _ _ _ => (pts_one (pt_cmpR op_isnot_bl (pe_callKw GFam (hr.mono (by decide)) rfl U.gFam U.FFam.kp W.kbFam pass0 (pk_cons (pv 0) (pk_cons (pe_revN (K := K) rfl (pv 4)) pk_nil))) pe_bl (nomark _)))) (fun _ _ _ _ _ => pe_int)) (pe_lst pa_nil) (nomark _)) (pss_one (ps_ret pe_bl)) pss_nil)
      (pss_cons (ps_if (PW.pt (pw_or (pt_cmpR (op_neD hr.units) (pe_call GFC (hr.mono (by decide)) rfl U.gFC U.FFC.kp U.bFC .nil pass0 (pa_cons (pv 0) pa_nil)) (pe_slice (r := rSlL K) (by exact sl_list) (pv 5) po_none (po_some (pe_un un_neg pe_int))) (nomark _)) (pw_or1 (pt_cmpR op_ne (pe_callKw GAHi (hr.mono (by decide)) rfl U.gAHi U.FAHi.kp W.kbAHi pass0 (pk_cons (pv 0) pk_nil)) (pe_callB call_len_seq (by rfl) T.len (by decide +kernel) (pa_cons (pv 2) pa_nil)) (nomark _))))) (pss_one (ps_ret pe_bl)) pss_nil)
      (pss_cons (ps_for PassesOwn.never rfl (pi_list (pe_op op_cat (pe_slice (r := rSlL K) (by exact sl_list) (pv 2) po_none (po_some pe_int)) (pe_slice (r := rSlL K) (by exact sl_list) (pv 2) (po_some (pe_un un_neg pe_int)) po_none))) (pg_name (i := 7) scAR.nd rfl (.inl rfl))
      (pss_cons (ps_if (pt_cmpR op_ne (pe_callB (id := "repr") (r := rReprD K) (by exact cr_reprD noG hr.units) (by rfl) gRepr (by decide +kernel) (pa_cons (pe_callKw GHist (hr.mono (by decide)) rfl U.gHist U.FHist.kp W.kbHist pass0 (pk_cons (pv 7) pk_nil)) pa_nil)) (pe_callB (id := "repr") (r := rReprD K) (by exact cr_reprD noG hr.units) (by rfl) gRepr (by decide +kernel) (pa_cons (pe_bm PySem.F.plainAttrs_list PySem.F.slot_list_count PySem.F.type_list_count (CountD.mt_countD (units65 hr)) (pv 2) (pa_cons (pv 7) pa_nil)) pa_nil)) (nomark _)) (pss_one (ps_ret pe_bl)) pss_nil)
      (pss_one (ps_for PassesOwn.never rfl (pi_list (pv 7)) (pg_name (i := 4) scAR.nd rfl (.inr rfl))
      (pss_cons (ps_set (i := 8) scAR.nd rfl (.inl rfl) (pe_call GLow (hr.mono (by decide)) rfl gLow FLow.kp bLow .nil pass0 (pa_cons (pe_callB call_len_seq (by rfl) T.len (by decide +kernel) (pa_cons (pe_lc (own := [("rest", 9)]) (g := gName 9) rfl scAR.nd (pi_list (pv 2)) (blkOk_by (own := [("rest", 9)]) (N := ["many_here", "every", "made", "sizes_here", "row", "shown", "place", "lot", "due", "rest"]) (sc := defScope sAR) (by decide +kernel)) (fun _ _ _ _ _ => pg_name (i := 9) scAR.nd rfl (Or.inl rfl)) (fun _ _ _ _ _ => (pts_one (pt_cmpR (r := rInD K) (by exact op_inD (units65 hr)) (pv 4) (pv 9) (by rfl)))) (fun _ _ _ _ _ => (pv 9))) pa_nil)) (pa_cons (pe_callB call_len_seq (by rfl) T.len (by decide +kernel) (pa_cons (pv 2) pa_nil)) pa_nil))))
      (pss_one (ps_if (pt_cmpR op_ne (pe_callB (id := "repr") (r := rReprD K) (by exact cr_reprD noG hr.units) (by rfl) gRepr (by decide +kernel) (pa_cons (pe_callKw GHS (hr.mono (by decide)) rfl U.gHS U.FHS.kp W.kbHS pass0 (pk_cons (pv 0) (pk_cons (pv 4) pk_nil))) pa_nil)) (pe_callB (id := "repr") (r := rReprD K) (by exact cr_reprD noG hr.units) (by rfl) gRepr (by decide +kernel) (pa_cons (pv 8) pa_nil)) (nomark _)) (pss_one (ps_ret pe_bl)) pss_nil)))))))
      (pss_one (ps_ret pe_bl)))))))))), ?_⟩
    obtain ⟨a1, a2, a3, a4, a5, a6, a7, a8, a9⟩ := facts n1 n4
    refine ⟨_, rfl, n, rfl, n4, fun q1 xs1 H1 g1 e1 l1 => ⟨_, rfl, n, rfl, n1, n4, fun q2 xs2 H2 g2 e2 l2 => ⟨_, _, rfl, ?_⟩⟩⟩
    dsimp only
    generalize famsM n = FF at a1 a4 a5 l1
    generalize histsM n = MM at a6 a7 a8 a9 l2
    have e12 := g2 _ _ e1
    have l12 := DLs.grow g2 l1
    have x1l := DLs.len l1
    unfold famsD at x1l
    rw [List.length_map] at x1l
    have x2l := DLs.len l2
    unfold famsD at x2l
    rw [List.length_map] at x2l
    obtain ⟨sz, esz⟩ : ∃ sz, sz = FF.map fun rs => (rs.length : Int) := ⟨_, rfl⟩
    rw [← esz] at a1
    refine ⟨_, rfl, q1, rfl, ⟨_, SqL.of e12⟩, fun D hD => lc_listDL (K := K) (fun _ => true) (fun d => .int ((toF d).length : Int)) hD (SqL.of e12) l12 (by unfold famsD; rw [List.length_map]; omega) (fun j x d G Ry Rn hd gg go hdx nD kY kN => ?_) fun H3 acc g3 eD al => ?_⟩
    · obtain ⟨rs, hrs, rfl⟩ := List.mem_map.mp (List.mem_of_getElem? hd)
      obtain ⟨c, zs, rfl, ec, tz⟩ := dl_list hdx
      have zl := DLs.len tz
      unfold rowsD at zl
      rw [List.length_map] at zl
      rw [toF_rows, ← zl] at kY
      refine ⟨rfl, ?_⟩
      unfold tYes
      exact iteT ⟨_, rfl, c, zs, rfl, .inl (SqL.of (off_le _ _ ec)), kY rfl _ _ .refl (.int _)⟩
    rw [filt_yes] at al
    have eal : (famsD FF).map (fun d => PyData.int ((toF d).length : Int)) = sz.map .int := by
      rw [esz]
      unfold famsD
      rw [List.map_map, List.map_map]
      refine List.map_congr_left fun rs _ => ?_
      show PyData.int ((toF (.list (rowsD rs))).length : Int) = _
      rw [toF_rows]
      rfl
    rw [eal] at al
    have eacc := dl_ints al
    subst eacc
    dsimp only [List.set_cons_succ, List.set_cons_zero]
    refine ⟨_, rfl, (n : Int), rfl, by omega, by omega, fun D5 H5 hD5 g5 e5 => ?_⟩
    rw [show ((n : Int) + 1 - 2).toNat = n - 1 by omega] at e5
    dsimp only [List.set_cons_succ, List.set_cons_zero]
    obtain ⟨fr, efr⟩ : ∃ fr, fr = fcR (n - 1) := ⟨_, rfl⟩
    rw [← efr] at e5 a1 a2 a3
    have eD5 := g5 _ _ eD
    have txf : Tx 20 100000 (.list (fr.map .int)) := tx_ints (by omega) a3
    obtain ⟨N, eN⟩ : ∃ N : Nat, N = max 1 n := ⟨_, rfl⟩
    have eJ : (if (n : Int) > 1 then (n : Int) else 1) = (N : Int) := by split <;> omega
    refine seq_no (fun R kR => ?_) fun H6 g6 => ?_
    · refine ⟨_, rfl, _, _, rfl, .inl (.lst (SqL.of e5) (rows_dp fr)), txf, _, rfl, 1, (n : Int), rfl, (N : Int), congrArg (fun z => [V.int z]) eJ, by omega, by omega, fun D6 hD6 => lc_rangeDL (n := (N : Int).toNat) (fun p => .int ((sz.count (p : Int) : Nat) : Int)) hD6 (by omega) (fun p G Ry pl gg go nD kY => ?_) fun G acc6 g6 eD6 al6 => ?_⟩
      · rw [Int.zero_add]
        exact ⟨rfl, _, rfl, .inl ⟨rfl, _, SqL.of (gg _ _ eD5)⟩, _, rfl, D, sz, (p : Int), rfl, rfl, SqL.of (gg _ _ eD5), kY _ _ .refl (.int _)⟩
      · rw [Int.toNat_natCast, eN] at al6
        have e6 : (List.range (max 1 n)).map (fun p : Nat => PyData.int ((sz.count (p : Int) : Nat) : Int)) = fr.map .int := by
          rw [a1, List.map_map]
          rfl
        rw [e6] at al6
        refine ⟨_, _, rfl, .inl (.lst (SqL.of eD6) (DLs.dp (DLs.grow off_le al6))), txf, rfl, _, rfl, ?_⟩
        rw [decide_eq_true rfl]
        exact kR _ g6
    have g16 : Grows H3 H6 := g5.trans g6
    have e56 := g6 _ _ e5
    refine ⟨_, rfl, .inl ⟨rfl, _, SqL.of e56⟩, D5, _, _, rfl, rfl, e56, by rw [List.length_map]; exact Nat.lt_of_le_of_lt a2 (by decide), ?_⟩
    have g7 := upd_D (o := .lst (fr.map V.int ++ [V.non])) hD5 g16
    have e57 := upd_same (H := H6) (a := D5) (o := .lst (fr.map V.int ++ [V.non]))
    generalize upd H6 D5 (.lst (fr.map V.int ++ [V.non])) = H7 at g7 e57
    have e17 := g7 _ _ (g3 _ _ e12)
    have l17 := DLs.grow (g3.trans g7) l12
    have e27 := g7 _ _ (g3 _ _ e2)
    have l27 := DLs.grow (g3.trans g7) l2
    clear e17
    dsimp only
    refine seq_no (fun R kR => ?_) fun H8 g8 => ?_
    · refine ⟨_, rfl, q1, rfl, ⟨_, SqL.of (g7 _ _ (g3 _ _ e12))⟩, fun D8 hD8 => lc_listT (K := K) (fun _ => false) (fun _ => V.int 1) hD8 (SqL.of (g7 _ _ (g3 _ _ e12))) (by omega) (fun j x G Ry Rn hx sm kY kN => ?_) fun G s8 e8 => ?_⟩
      · obtain ⟨d, hd, hdx⟩ := DLs.at l17 hx
        obtain ⟨rs, hrs, rfl⟩ := List.mem_map.mp (List.mem_of_getElem? hd)
        obtain ⟨c, zs, rfl, ec, tz⟩ := dl_list hdx
        obtain ⟨y1, y2, y3⟩ := a5 rs hrs
        have er : (rowsD rs).reverse = rowsD rs.reverse := (List.map_reverse ..).symm
        refine ⟨rfl, _, rfl, _, rfl, c, zs, rfl, SqL.of (sm _ _ ec), fun D9 hD9 => ⟨(n : Int), .ref D9, .list (rowsD rs.reverse), rfl, by omega, by omega, .inl (.lst (SqL.of upd_same) ?_), (fin_rows (by rw [List.length_reverse]; omega) fun r hr => y3 r (List.mem_reverse.mp hr)).lim, fun H9 g9 => ⟨_, _, rfl, rfl, _, rfl, ?_⟩⟩⟩
        · rw [← er]
          exact DLs.dp (DLs.rev (DLs.grow (sm.trans (Grows.new hD9)) tz))
        · rw [y1]
          exact iteF (kN rfl _ ((Grows.new hD9).trans g9))
      · rw [kept_none] at e8
        refine ⟨(by show 0 ≤ sizeLine; decide), fun n0 hn0 => ?_⟩
        have gn := Grows.new (o := .lst []) hn0
        refine ⟨.list [], .list [], .lst (SqL.of (gn _ _ e8)) .nil, .lst (SqL.of upd_same) .nil, shaped_all (fun _ h => nomatch h), shaped_all (fun _ h => nomatch h), _, rfl, ?_⟩
        rw [eqv_nil, decide_eq_true rfl]
        exact kR _ (s8.trans gn)
    have e58 := g8 _ _ e57
    have e28 := g8 _ _ e27
    have l28 := DLs.grow g8 l27
    refine seq_no (fun R kR => ?_) fun H9 g9 => ?_
    · refine ⟨_, rfl, (n : Int), rfl, by omega, by omega, fun Da Ha hDa ga ea => ⟨_, rfl, _, rfl, -1, rfl, D5, _, rfl, SqL.of (ga _ _ e58), fun q hq => ?_⟩⟩
      rw [show ((n : Int) + 1 - 2).toNat = n - 1 by omega, ← efr] at ea
      rw [cut_last]
      have gq := Grows.new (o := .lst (fr.map V.int)) hq
      refine ⟨.list (fr.map .int), .list (fr.map .int), .lst (SqL.of (gq _ _ ea)) (rows_dp fr), .lst (SqL.of upd_same) (rows_dp fr), shaped_ints _, shaped_ints _, _, rfl, ?_⟩
      rw [eqv_ints, decide_eq_true rfl]
      refine iteF ⟨_, rfl, (n : Int), rfl, by omega, by omega, fun Hb gb => ⟨_, rfl, q2, _, rfl, .inl (SqL.of (gb _ _ (gq _ _ (ga _ _ e28)))), rfl, _, rfl, ?_⟩⟩
      rw [a6, x2l, decide_eq_true rfl]
      exact kR _ (ga.trans (gq.trans gb))
    have e29 := g9 _ _ e28
    have l29 := DLs.grow g9 l28
    have gAll : Grows H H9 := g1.trans (g2.trans (g3.trans (g7.trans (g8.trans g9))))
    clear e57 e58 e27 e28 l27 l28 l17 g8 g9 g7 e56 g16
    refine ⟨_, rfl, 12, rfl, q2, _, rfl, SqL.of e29, fun u1 hu1 => ⟨_, rfl, _, rfl, -3, rfl, q2, _, rfl, SqL.of ((Grows.new hu1) _ _ e29), fun u2 hu2 => ⟨u1, u2, _, _, rfl, rfl, (Grows.new hu2) _ _ upd_same, upd_same, Nat.le_trans (show _ + _ ≤ 1000 by have c1 := cut_len xs2 none (some 12); have c2 := cut_len xs2 (some (-3)) none; omega) (by decide), fun u3 hu3 => ?_⟩⟩⟩
    have v1 := Grows.new (o := .lst (cutV xs2 none (some 12))) hu1
    have v2 := Grows.new (o := .lst (cutV xs2 (some (-3)) none)) hu2
    have v3 := Grows.new (o := .lst (cutV xs2 none (some 12) ++ cutV xs2 (some (-3)) none)) hu3
    have v13 := v1.trans (v2.trans v3)
    have e3u := upd_same (H := upd (upd H9 u1 (.lst (cutV xs2 none (some 12)))) u2 (.lst (cutV xs2 (some (-3)) none))) (a := u3) (o := .lst (cutV xs2 none (some 12) ++ cutV xs2 (some (-3)) none))
    have inn : ∀ x ∈ cutV xs2 none (some 12) ++ cutV xs2 (some (-3)) none, x ∈ xs2 := fun x hx => by
      rcases List.mem_append.mp hx with m | m
      · exact cut_mem m
      · exact cut_mem m
    generalize cutV xs2 none (some 12) ++ cutV xs2 (some (-3)) none = ls at e3u inn v13
    generalize upd (upd (upd H9 u1 (.lst (cutV xs2 none (some 12)))) u2 (.lst (cutV xs2 (some (-3)) none))) u3 (.lst ls) = HB at v13 e3u
    have e2B := v13 _ _ e29
    have l2B := DLs.grow v13 l29
    refine ⟨u3, rfl, ⟨_, SqL.of e3u⟩, for_list (K := K) (a := u3) (xs := ls) (fun i σ G => ∃ o4 o7 o8, σ = [some (.int (n : Int)), some (.ref q1), some (.ref q2), some (.ref D), o4, some (.ref D5), none, o7, o8, none] ∧ Grows HB G)
      ⟨_, _, _, rfl, .refl⟩ (fun i σ G _ ⟨_, _, _, _, g⟩ => SqL.of (g _ _ e3u)) (fun i x σ G hx ⟨o4, o7, o8, e, g⟩ => ?_) fun σ G ⟨o4, o7, o8, e, g⟩ => ?_⟩
    rotate_left
    · subst e
      exact k G (gAll.trans (v13.trans g))
    subst e
    obtain ⟨d, hd, hdx⟩ := DLs.mem l2B (inn x (List.mem_of_getElem? hx))
    obtain ⟨lot, hlot, rfl⟩ := List.mem_map.mp hd
    obtain ⟨y1, y2, y3⟩ := a9 lot hlot
    unfold lotOk at y1
    rw [Bool.and_eq_true, Bool.and_eq_true, Bool.and_eq_true, Bool.and_eq_true, decide_eq_true_eq, decide_eq_true_eq, decide_eq_true_eq] at y1
    obtain ⟨⟨⟨⟨z1, _⟩, z3⟩, z4⟩, z5⟩ := y1
    have hdx4 := DL.grow g hdx
    obtain ⟨c, zs, rfl, ec, tz⟩ := dl_list hdx4
    obtain ⟨bs, b1, b2, b3⟩ := dl_rows tz
    subst b1
    have hB : Rw K G c bs := ⟨SqL.of ec, fun b hb => SqL.of (b3 b hb)⟩
    have szB : Sz (bs.map (·.2)) := by
      rw [b2]
      exact ⟨by omega, fun r hr => by have := (y3 r hr).1; omega⟩
    have e2G := g _ _ e2B
    have l2G := DLs.grow g l2B
    dsimp only
    refine seq_no (fun R kR => ?_) fun Gc gc => ?_
    · refine ⟨_, rfl, c, bs, rfl, hB, szB, by rw [b2]; exact z1, fun Ha ga => ⟨.int _, .int _, rfl, .inl (.int _), tx_int' (by rw [b2]; exact z4), ?_⟩⟩
      refine ⟨_, rfl, .inl ⟨rfl, _, SqL.of (ga _ _ e2G)⟩, _, rfl, q2, xs2, famsD MM, .ref c, .list (rowsD lot), rfl, rfl, SqL.of (ga _ _ e2G), DLs.dp (DLs.grow ga l2G), DL.dp (DL.grow ga hdx4), PyData.plainAll_of_canLay0 _ (lay_fams MM), PyData.plain_of_canLay0 _ (lay_fam lot).1, by have := (lay_fam lot).2; omega, ?_⟩
      rw [count_fams, ← z3, b2]
      refine ⟨.int _, .int _, rfl, .inl (.int _), tx_int' z4, rfl, _, rfl, ?_⟩
      rw [decide_eq_true rfl]
      exact kR _ ga
    have e2C := gc _ _ e2G
    have l2C := DLs.grow gc l2G
    have hBC := hB.keep gc
    refine ⟨_, rfl, c, rfl, ⟨_, hBC.top⟩, for_list (K := K) (a := c) (xs := bs.map fun b => V.ref b.1) (fun j σ Gd => ∃ o4 o8, σ = [some (.int (n : Int)), some (.ref q1), some (.ref q2), some (.ref D), o4, some (.ref D5), none, some (.ref c), o8, none] ∧ Grows Gc Gd)
      ⟨_, _, rfl, .refl⟩ (fun j σ Gd _ ⟨_, _, _, gd⟩ => gd.seq hBC.top) (fun j x σ Gd hx ⟨o4, o8, e, gd⟩ => ?_) fun σ Gd ⟨o4, o8, e, gd⟩ => ?_⟩
    rotate_left
    · subst e
      exact ⟨_, _, _, rfl, g.trans (gc.trans gd)⟩
    subst e
    rw [List.getElem?_map] at hx
    obtain ⟨b, hb, rfl⟩ := Option.map_eq_some_iff.mp hx
    have mb := List.mem_of_getElem? hb
    obtain ⟨r, er⟩ : ∃ r, r = b.2 := ⟨_, rfl⟩
    have hr2 : r ∈ lot := by
      rw [← b2, er]
      exact List.mem_map.mpr ⟨b, mb, rfl⟩
    have z6 := List.all_eq_true.mp z5 r hr2
    simp only [Bool.and_eq_true, decide_eq_true_eq] at z6
    obtain ⟨⟨⟨⟨⟨k1, k2⟩, k3⟩, k4⟩, k5⟩, k6⟩ := z6
    have eb := gd _ _ (gc _ _ (b3 b mb))
    rw [← er] at eb
    have hrow : DL Gd (.ref b.1) (rowD r) := dl_of_row eb
    have e2D := gd _ _ e2C
    have l2D := DLs.grow gd l2C
    refine ⟨_, rfl, q2, rfl, ⟨_, SqL.of e2D⟩, fun D9 hD9 => lc_listT (K := K) (fun k => decide (r ∈ MM.getD k [])) (fun k => xs2.getD k .non) hD9 (SqL.of e2D) (by omega) (fun k x G5 Ry Rn hx2 sm kY kN => ?_) fun G5 s5 e5' => ?_⟩
    · obtain ⟨d, hd2, hdx2⟩ := DLs.at l2D hx2
      unfold famsD at hd2
      rw [List.getElem?_map] at hd2
      obtain ⟨rs, hrs, rfl⟩ := Option.map_eq_some_iff.mp hd2
      have ed : MM.getD k [] = rs := by rw [List.getD_eq_getElem?_getD, hrs]; rfl
      have ex : xs2.getD k .non = x := by rw [List.getD_eq_getElem?_getD, hx2]; rfl
      rw [ed] at kY kN
      rw [ex] at kY
      refine ⟨rfl, _, rfl, _, rfl, rowD r, rowsD rs, DL.dp (DL.grow sm hrow), DL.dp (DL.grow sm hdx2), shaped_ints r, shaped_fam rs, _, rfl, ?_⟩
      rw [any_rowsD]
      cases hq : decide (r ∈ rs) with
      | true => exact iteT ⟨_, rfl, kY hq _ .refl⟩
      | false => exact iteF (kN hq _ .refl)
    · rw [x2l] at e5'
      have cnt := kept_cnt MM (fun k => xs2.getD k .non) r
      have c0 : (0 : Int) ≤ cntM MM r := by
        unfold cntM
        omega
      have c1 : cntM MM r ≤ 20 := by
        rw [← cnt]
        have := kept_le (fun k => decide (r ∈ MM.getD k [])) (fun k => xs2.getD k .non) MM.length
        omega
      refine ⟨D9, _, rfl, .inl (SqL.of e5'), _, rfl, q2, _, rfl, .inl (SqL.of (s5 _ _ e2D)), cntM MM r, (MM.length : Int), by rw [cnt, x2l]; rfl, c0, by omega, by omega, by omega, fun t ht => ?_⟩
      have gt := Grows.new (o := .tup [.int (low (cntM MM r) (MM.length : Int)).1, .int (low (cntM MM r) (MM.length : Int)).2]) ht
      have et := upd_same (H := G5) (a := t) (o := .tup [.int (low (cntM MM r) (MM.length : Int)).1, .int (low (cntM MM r) (MM.length : Int)).2])
      rw [k4] at gt et
      have g5t := s5.trans gt
      rw [k4]
      generalize upd G5 t (.tup [.int (hsI n r.length).1, .int (hsI n r.length).2]) = G6 at gt et g5t
      have ebt := g5t _ _ eb
      refine ⟨_, rfl, _, rfl, (n : Int), b.1, r, rfl, by omega, by omega, SqL.of ebt, by omega, k1, by omega, by omega, fun t2 G7 g7 ht2 => ?_⟩
      have e2t := Grows.new (o := .tup [.int (hsI n r.length).1, .int (hsI n r.length).2]) ht2
      refine ⟨_, _, rfl, .inl (dp_two upd_same), tx_two k5 k6, _, rfl, _, _, rfl, .inl (dp_two (e2t _ _ (g7 _ _ et))), tx_two k5 k6, rfl, _, rfl, ?_⟩
      rw [decide_eq_true rfl]
      exact iteF ⟨_, _, rfl, gd.trans (g5t.trans (g7.trans e2t))⟩
end
end K32

namespace K32
open PySem PySem.Spec PyProof.Rows L2 SortR LcM RepA
abbrev sLaw : Stmt := top 45
def spLaw (K : PySem.W.Frag) : Sp := fun vs H Q _ => ∃ (a : Addr) (ns : List Int), vs = [.ref a] ∧ SqL K H a (ns.map L2.V.int) ∧ ns.length ≤ 63 ∧ ∀ H', Q (.bl true) H'
theorem mm (k : Int) : ∃ J : Int, 1 ≤ J ∧ J ≤ 4 ∧ (if (if k < 4 then k else 4) > 1 then (if k < 4 then k else 4) else 1) = J := by
  refine ⟨_, ?_, ?_, rfl⟩
  · split <;> omega
  · split <;> split <;> omega
theorem gr_grows {sd : Addr} {H H0 H1 G : Hp} (g0 : Grows H H0) (n : H sd = none) (g : Gr sd H1 G) (g1 : Grows H0 H1) : Grows H G := fun b o e => g b o (fun z => by rw [z, n] at e; cases e) (g1 _ _ (g0 b o e))
theorem nm_d {i : Nat} {v : L2.V} {t : TS} {D : Ends} {σ : L2.St} {H : Hp} (h : t D (σ.set i (some v)) H) : gName i v σ H (fun σ2 H2 => t D σ2 H2) := h
theorem vals : fcR 3 = [0, 1, 10, 15] ∧ fcR 0 = [1] ∧ fcR 1 = [0, 1] ∧ (fcR 19).take 3 = [0, 1, 1048554] ∧ hsI 4 2 = (2, 9) ∧ hsI 20 2 = (2, 57) ∧ hofI 4 = 18 := by decide +kernel
theorem cut19 : cutV ((fcR 19).map V.int) (some 1) (some 3) = [V.int 1, .int 1048554] := by decide +kernel
theorem eqv29 : PyData.eqv (.tuple [.int 2, .int 9]) (.tuple [.int 2, .int 9]) = true := by decide +kernel
theorem eqv257 : PyData.eqv (.tuple [.int 2, .int 57]) (.tuple [.int 2, .int 57]) = true := by decide +kernel
theorem shp29 : SeqAt.shaped (.tuple [.int 2, .int 9]) = true := by decide +kernel
theorem shp257 : SeqAt.shaped (.tuple [.int 2, .int 57]) = true := by decide +kernel
theorem grp1 : group 4 [0, 1] = true := by decide +kernel
theorem grp2 : group 20 [3, 7] = true := by decide +kernel
section
variable {P : Program} {w : World} {K : PySem.W.Frag} {mg : Str → Option Value} {base : Heap}
theorem scLaw : FnScope ["script", "many_here", "k", "store", "top", "row"] ["script"] (defScope sLaw) := ⟨rfl, rfl, rfl, by decide +kernel, rfl, by decide +kernel, by decide +kernel⟩
theorem ok_law {f fStore fGr fAR : Addr} {fd dStore dGr dAR : FuncData} (F : Fun K "law" "law" sLaw f fd) (Z : ProgF K mg) (T : TxtP mg) (T0 : Txt0 mg) (U : FmF K mg) (L : LwF P w base K mg)
    (GStore : FnOk P w K mg base CX0 1 fStore dStore ["script", "k"] (spStore K)) (FStore : Fun K "_law_store" "_law_store" sStore fStore dStore) (gStore : mg "_law_store" = some (.ref fStore)) (bStore : Binds K dStore ["script", "k"] [])
    (FGr : Fun K "_law_great_right" "_law_great_right" sGr fGr dGr) (gGr : mg "_law_great_right" = some (.ref fGr)) (bGr : Binds K dGr ["store", "many_here"] [])
    (GAR : FnG P w K mg base CX0 9 fAR dAR ["many_here"] spAR) (FAR : Fun K "_law_all_right" "_law_all_right" sAR fAR dAR) (gAR : mg "_law_all_right" = some (.ref fAR)) (bAR : Binds K dAR ["many_here"] []) : FnG P w K mg base CX0 10 f fd ["script"] (spLaw K) := by
  have GGr : FnG P w K mg base CX0 9 fGr dGr ["store", "many_here"] spGr := ok_great FGr Z T U L
  have GHS := ok_hs (P := P) (w := w) (base := base) Z T U
  have GAHi := ok_ahi (P := P) (w := w) (base := base) Z T U
  have GFC := ok_fc (P := P) (w := w) (base := base) Z T U
  obtain ⟨fPick, fCome, fGroups, fKn, fFits, fShr, dPick, dCome, dGroups, dKn, dFits, dShr, FPick, FCome, FGroups, FKn, FFits, FShr, gPick, gCome, gGroups, gKn, gFits, gShr, bPick, bCome, bGroups, bKn, bFits, bShr, gRepr, GPick, GCome, GGroups, GKn, GFits, GShr⟩ := L
  refine okG F scLaw (fun vs H Q E h => ?_) (fun cdv A outer s H vs Q E hr noG h => ?_)
  · obtain ⟨a, ns, rfl, _⟩ := h
    rfl
  · obtain ⟨a, ns, rfl, hS, hl, kq⟩ := h
    refine ⟨_, (pss_cons (ps_for PassesOwn.never rfl (pi_range2 (by rfl) T.range (pa_cons pe_int (pa_cons pe_int pa_nil))) (pg_name (i := 1) scLaw.nd rfl (.inl rfl))
      (pss_one (ps_if (pt_not (pt_val (pe_callG GAR (hr.mono (by decide)) noG rfl gAR FAR.kp bAR .nil pass0 (pa_cons (pv 1) pa_nil)))) (pss_one (ps_ret pe_bl)) pss_nil)))
      (pss_cons (ps_for PassesOwn.never rfl (pi_range1 (by rfl) T.range (pa_cons (pe_callB (call_max2 rfl) (by rfl) T0.max (by decide +kernel) (pa_cons pe_int (pa_cons (pe_callB (call_min2 rfl) (by rfl) T0.min (by decide +kernel) (pa_cons pe_int (pa_cons (pe_callB call_len_seq (by rfl) T.len (by decide +kernel) (pa_cons (pv 0) pa_nil)) pa_nil))) pa_nil))) pa_nil)) (pg_name (i := 2) scLaw.nd rfl (.inl rfl))
      (pss_cons (ps_set (i := 3) scLaw.nd rfl (.inl rfl) (pe_call GStore (hr.mono (by decide)) rfl gStore FStore.kp bStore .nil pass0 (pa_cons (pv 0) (pa_cons (pv 2) pa_nil))))
      (pss_one (ps_for PassesOwn.never rfl (pi_tup (pe_tup (pa_cons pe_int (pa_cons pe_int pa_nil)))) (pg_name (i := 4) scLaw.nd rfl (.inl rfl))
      (pss_one (ps_if (pt_not (pt_val (pe_callG GGr (hr.mono (by decide)) noG rfl gGr FGr.kp bGr .nil pass0 (pa_cons (pv 3) (pa_cons (pe_op op_sub (pv 4) (pe_call GPick (hr.mono (by decide)) rfl gPick FPick.kp bPick .nil pass0 (pa_cons (pv 3) (pa_cons (pe_ix (r := rIxL K) ix_list (pe_lst (pa_cons pe_int (pa_cons (pv 4) pa_nil))) (pe_call GPick (hr.mono (by decide)) rfl gPick FPick.kp bPick .nil pass0 (pa_cons (pv 3) (pa_cons pe_int pa_nil))) (fun _ _ => rfl)) pa_nil)))) pa_nil))))) (pss_one (ps_ret pe_bl)) pss_nil))))))
      (pss_cons (ps_set (i := 5) scLaw.nd rfl (.inl rfl) (pe_call GFC (hr.mono (by decide)) rfl U.gFC U.FFC.kp U.bFC .nil pass0 (pa_cons pe_int pa_nil)))
      (pss_cons (ps_if (pt_cmpR (op_neD hr.units) (pe_lst (pa_cons (pe_call GFC (hr.mono (by decide)) rfl U.gFC U.FFC.kp U.bFC .nil pass0 (pa_cons pe_int pa_nil)) (pa_cons (pe_call GFC (hr.mono (by decide)) rfl U.gFC U.FFC.kp U.bFC .nil pass0 (pa_cons pe_int pa_nil)) (pa_cons (pe_call GFC (hr.mono (by decide)) rfl U.gFC U.FFC.kp U.bFC .nil pass0 (pa_cons pe_int pa_nil)) pa_nil)))) (pe_lst (pa_cons (pe_lst (pa_cons pe_int (pa_cons pe_int (pa_cons pe_int (pa_cons pe_int pa_nil))))) (pa_cons (pe_lst (pa_cons pe_int pa_nil)) (pa_cons (pe_lst (pa_cons pe_int (pa_cons pe_int pa_nil))) pa_nil)))) (nomark _)) (pss_one (ps_ret pe_bl)) pss_nil)
      (pss_cons (ps_if (pt_cmpR (op_neD hr.units) (pe_slice (r := rSlL K) (by exact sl_list) (pv 5) (po_some pe_int) (po_some pe_int)) (pe_lst (pa_cons pe_int (pa_cons pe_int pa_nil))) (nomark _)) (pss_one (ps_ret pe_bl)) pss_nil)
      (pss_one (ps_ret (pe_and (pe_cmpR (op_eqD hr.units) (pe_call GHS (hr.mono (by decide)) rfl U.gHS U.FHS.kp U.bHS .nil pass0 (pa_cons pe_int (pa_cons (pe_lst (pa_cons pe_int (pa_cons pe_int pa_nil))) pa_nil))) (pe_tup (pa_cons pe_int (pa_cons pe_int pa_nil))) (nomark _)) (pe_and (pe_cmpR (op_eqD hr.units) (pe_call GHS (hr.mono (by decide)) rfl U.gHS U.FHS.kp U.bHS .nil pass0 (pa_cons pe_int (pa_cons (pe_lst (pa_cons pe_int (pa_cons pe_int pa_nil))) pa_nil))) (pe_tup (pa_cons pe_int (pa_cons pe_int pa_nil))) (nomark _)) (pe_one (pe_cmpR op_eq (pe_call GAHi (hr.mono (by decide)) rfl U.gAHi U.FAHi.kp U.bAHi .nil pass0 (pa_cons pe_int pa_nil)) pe_int (nomark _)))))))))))), ?_⟩
    obtain ⟨v1, v2, v3, v4, v5, v6, v7⟩ := vals
    refine ⟨1, 5, rfl, ⟨by decide, by decide, by decide, by decide⟩, for_range (lo := 1) (n := (5 - 1 : Int).toNat) (fun i σ G => ∃ o1, σ = [some (.ref a), o1, none, none, none, none] ∧ Grows H G) ⟨none, rfl, .refl⟩ (fun i σ G hi ⟨o1, e, g⟩ => ?_) fun σ H1 ⟨o1, e, g1⟩ => ?_⟩
    · subst e
      have hi : i < 4 := hi
      exact ⟨_, rfl, i + 1, by rw [show ((i + 1 : Nat) : Int) = 1 + (i : Int) by omega]; rfl, by omega, by omega, fun G2 g2 => ⟨_, rfl, iteF ⟨_, rfl, g.trans g2⟩⟩⟩
    subst e
    obtain ⟨J, J1, J4, eJ⟩ := mm ((ns.map L2.V.int).length : Nat)
    refine ⟨_, rfl, a, _, rfl, .inl (g1.seq hS), 4, _, rfl, 1, _, rfl, J, congrArg (fun z => [L2.V.int z]) eJ, by omega, by omega, for_range (fun i σ H' => ∃ o2 o3 o4, σ = [some (.ref a), o1, o2, o3, o4, none] ∧ Grows H H') ⟨none, none, none, rfl, g1⟩ (fun i σ H1 hi ⟨o2, o3, o4, e, g1⟩ => ?_) fun σ H1 ⟨o2, o3, o4, e, g1⟩ => ?_⟩
    · subst e
      refine ⟨_, rfl, _, rfl, a, _, ns, rfl, g1.seq hS, by omega, by omega, fun p H2 np g2 hP2 => ?_⟩
      have Hp0 : H p = none := none_back g1 np
      have g2' := g1.trans g2
      refine ⟨(by show 2 ≤ sizeLine; decide), fun t ht => ⟨t, rfl, ⟨_, SqT.of upd_same⟩, ?_⟩⟩
      have tp : t ≠ p := fun z => by
        obtain ⟨_, _, _, eo, _⟩ := hP2
        rw [z, eo] at ht
        cases ht
      have gt := Grows.new (o := .tup [L2.V.int 20, L2.V.int 6]) ht
      have hPt := hP2.same gt
      have et : (upd H2 t (.tup [L2.V.int 20, L2.V.int 6])) t = some (.tup [L2.V.int 20, L2.V.int 6]) := upd_same
      generalize upd H2 t (.tup [L2.V.int 20, L2.V.int 6]) = H5 at gt hPt et
      have g25 := g2'.trans gt
      refine for_tup (K := K) (xs := [L2.V.int 20, L2.V.int 6]) (fun j σ G => ∃ o4, σ = [some (.ref a), o1, some (.int (0 + (i : Nat))), some (.ref p), o4, none] ∧ Gr p H5 G ∧ Pch G p (2 + 5000 * j)) ⟨_, rfl, .refl, hPt.le (by omega)⟩ (fun j σ G _ ⟨_, _, g, _⟩ => SqT.of (g _ _ tp et)) (fun j x σ G hx ⟨o4, e, g, hp⟩ => ?_) fun σ G ⟨o4, e, g, hp⟩ => ?_
      · subst e
        have hj : j < 2 := (List.getElem?_eq_some_iff.mp hx).1
        obtain ⟨n, rfl, n2, n20⟩ : ∃ n, x = L2.V.int n ∧ 5 ≤ n ∧ n ≤ 20 := by
          have hm := List.mem_of_getElem? hx
          simp only [List.mem_cons, List.not_mem_nil, or_false] at hm
          rcases hm with rfl | rfl <;> exact ⟨_, rfl, by omega, by omega⟩
        refine nm_d ?_
        dsimp only [List.set_cons_succ, List.set_cons_zero]
        refine ⟨_, rfl, _, rfl, _, rfl, _, rfl, (by show 2 ≤ sizeLine; decide), fun q hq => ⟨_, rfl, p, 2, _, rfl, hp.same (.new hq), Int.lt_of_le_of_lt (show (2 + 5000 * (j : Int)) ≤ 100000 by omega) (by decide), by decide, by decide, fun v G2 v0 v1 hp2 but2 => ?_⟩⟩
        have nqp := pch_ne hp hq
        have e0 : G2 q = some (.lst [.int 2, .int n]) := (but2 q nqp).trans upd_same
        have gr2 : Gr p G G2 := (Gr.new hq).trans (but_gr but2)
        obtain ⟨z, hz, az⟩ := at_in (xs := [L2.V.int 2, .int n]) v0 (by show v < 2; omega)
        obtain ⟨wd, er, w2, wn⟩ : ∃ wd : Int, z = .int wd ∧ 2 ≤ wd ∧ wd ≤ n := by
          simp only [List.mem_cons, List.not_mem_nil, or_false] at hz
          rcases hz with rfl | rfl
          · exact ⟨2, rfl, by omega, by omega⟩
          · exact ⟨n, rfl, by omega, by omega⟩
        subst er
        refine ⟨q, _, v, _, rfl, rfl, SqL.of e0, az, p, wd, _, rfl, hp2, Int.lt_of_le_of_lt (show (2 + 5000 * (j : Int) + 1) ≤ 100000 by omega) (by decide), by omega, Nat.lt_of_le_of_lt (show wd.natAbs ≤ 20 by omega) (by decide), fun v2 G3 v20 v21 hp3 but3 => ⟨_, _, rfl, rfl, p, n - v2, _, rfl, hp3, Int.lt_of_le_of_lt (show (2 + 5000 * (j : Int) + 1 + 1) ≤ 100000 by omega) (by decide), by omega, by omega, fun G4 hp4 g4 => ⟨_, rfl, ?_⟩⟩⟩
        exact iteF ⟨_, rfl, g.trans (gr2.trans ((but_gr but3).trans g4)), hp4.le (by omega)⟩
      · subst e
        exact ⟨_, _, _, rfl, gr_grows g25 Hp0 g .refl⟩
    subst e
    refine ⟨_, rfl, by decide, by decide, fun D H2 hD g2 eD => ?_⟩
    dsimp only [List.set_cons_succ, List.set_cons_zero]
    rw [show ((20 : Int) + 1 - 2).toNat = 19 from rfl] at eD
    show tSeq _ _ _ [some (.ref a), o1, o2, o3, o4, some (.ref D)] H2
    refine seq_no (fun R kR => ?_) fun H3 g3 => ?_
    · refine ⟨4, rfl, by decide, by decide, fun Da Ha hDa ga ea => ⟨1, rfl, by decide, by decide, fun Db Hb hDb gb eb => ⟨2, rfl, by decide, by decide, fun Dc Hc hDc gc ec => ⟨(by show 3 ≤ sizeLine; decide), fun q hq => ⟨(by show 4 ≤ sizeLine; decide), fun r1 hr1 => ⟨(by show 1 ≤ sizeLine; decide), fun r2 hr2 => ⟨(by show 2 ≤ sizeLine; decide), fun r3 hr3 => ⟨(by show 3 ≤ sizeLine; decide), fun q2 hq2 => ?_⟩⟩⟩⟩⟩⟩⟩⟩
      rw [show ((4 : Int) + 1 - 2).toNat = 3 from rfl, v1] at ea
      rw [show ((1 : Int) + 1 - 2).toNat = 0 from rfl, v2] at eb
      rw [show ((2 : Int) + 1 - 2).toNat = 1 from rfl, v3] at ec
      have w0 := Grows.new (o := .lst [V.ref Da, .ref Db, .ref Dc]) hq
      have w1 := Grows.new (o := .lst [V.int 0, .int 1, .int 10, .int 15]) hr1
      have w2 := Grows.new (o := .lst [V.int 1]) hr2
      have w3 := Grows.new (o := .lst [V.int 0, .int 1]) hr3
      have w4 := Grows.new (o := .lst [V.ref r1, .ref r2, .ref r3]) hq2
      have w34 := w3.trans w4
      have w24 := w2.trans w34
      have w14 := w1.trans w24
      have w04 := w0.trans w14
      refine ⟨.list (rowsD [[0, 1, 10, 15], [1], [0, 1]]), .list (rowsD [[0, 1, 10, 15], [1], [0, 1]]), .lst (SqL.of (w14 _ _ upd_same)) (.cons (.lst (SqL.of (w04 _ _ (gc _ _ (gb _ _ ea)))) (rows_dp _)) (.cons (.lst (SqL.of (w04 _ _ (gc _ _ eb))) (rows_dp _)) (.cons (.lst (SqL.of (w04 _ _ ec)) (rows_dp _)) .nil))),
        .lst (SqL.of upd_same) (.cons (.lst (SqL.of (w24 _ _ upd_same)) (rows_dp [0, 1, 10, 15])) (.cons (.lst (SqL.of (w34 _ _ upd_same)) (rows_dp [1])) (.cons (.lst (SqL.of (w4 _ _ upd_same)) (rows_dp [0, 1])) .nil))), shaped_rows [[0, 1, 10, 15], [1], [0, 1]], shaped_rows [[0, 1, 10, 15], [1], [0, 1]], _, rfl, ?_⟩
      rw [show PyData.eqv (.list (rowsD [[0, 1, 10, 15], [1], [0, 1]])) (.list (rowsD [[0, 1, 10, 15], [1], [0, 1]])) = true from (eqv_rows _ _).trans (decide_eq_true rfl)]
      exact kR _ (ga.trans (gb.trans (gc.trans w04)))
    have eD3 := g3 _ _ eD
    refine seq_no (fun R kR => ?_) fun H4 g4 => ?_
    · refine ⟨_, rfl, 1, rfl, 3, rfl, D, _, rfl, SqL.of eD3, fun q hq => ?_⟩
      rw [cut19]
      refine ⟨(by show 2 ≤ sizeLine; decide), fun q2 hq2 => ?_⟩
      have w1 := Grows.new (o := .lst [V.int 1, .int 1048554]) hq
      have w2 := Grows.new (o := .lst [V.int 1, .int 1048554]) hq2
      refine ⟨.list ([1, 1048554].map .int), .list ([1, 1048554].map .int), .lst (SqL.of (w2 _ _ upd_same)) (rows_dp [1, 1048554]), .lst (SqL.of upd_same) (rows_dp [1, 1048554]), shaped_ints _, shaped_ints _, _, rfl, ?_⟩
      rw [eqv_ints, decide_eq_true rfl]
      exact kR _ (w1.trans w2)
    refine ⟨(by show 2 ≤ sizeLine; decide), fun s1 hs1 => ⟨4, s1, [0, 1], rfl, by decide, by decide, SqL.of upd_same, by decide, grp1, by decide, by decide, fun t1 G1 gg1 ht1 => ?_⟩⟩
    rw [show hsI 4 (([0, 1] : List Int).length : Int) = (2, 9) from v5]
    refine ⟨(by show 2 ≤ sizeLine; decide), fun t2 ht2 => ⟨.tuple [.int 2, .int 9], .tuple [.int 2, .int 9], dp_two (Grows.new ht2 _ _ upd_same), dp_two upd_same, shp29, shp29, ?_⟩⟩
    rw [eqv29]
    refine ⟨_, rfl, iteT ⟨(by show 2 ≤ sizeLine; decide), fun s2 hs2 => ⟨20, s2, [3, 7], rfl, by decide, by decide, SqL.of upd_same, by decide, grp2, by decide, by decide, fun t3 G3 gg3 ht3 => ?_⟩⟩⟩
    rw [show hsI 20 (([3, 7] : List Int).length : Int) = (2, 57) from v6]
    refine ⟨(by show 2 ≤ sizeLine; decide), fun t4 ht4 => ⟨.tuple [.int 2, .int 57], .tuple [.int 2, .int 57], dp_two (Grows.new ht4 _ _ upd_same), dp_two upd_same, shp257, shp257, ?_⟩⟩
    rw [eqv257]
    refine ⟨_, rfl, iteT ⟨4, rfl, by decide, by decide, fun H5 g5 => ⟨rfl, ?_⟩⟩⟩
    rw [v7, decide_eq_true rfl]
    exact kq _
end
end K32

namespace K32
open PySem PySem.Spec PyProof.Rows L2 SortR LcM RepA
theorem kb_two {K : PySem.W.Frag} {fd : FuncData} {x y : Str} (h2 : ∀ (s : Shared) (a b : Value), BindsTo s fd ⟨[], [(x, a), (y, b)]⟩ [(x, a), (y, b)]) (h0 : ∀ (s : Shared) (a b : Value), BindsTo s fd ⟨[a, b], []⟩ [(x, a), (y, b)]) :
    KBinds K fd [x, y] [x, y] selL selL := by
  refine ⟨fun s us ws _ h => ?_, fun r r2 => ?_⟩
  · match us, ws, h with
    | [], [_, _], _ => exact h2 _ _ _
    | [_, _], [], _ => exact h0 _ _ _
    | [], [], e => cases e
    | [], [_], e => cases e
    | [], _ :: _ :: _ :: _, e => cases e
    | [_], [], e => cases e
    | _ :: _ :: _ :: _, [], e => cases e
    | _ :: _, _ :: _, e => cases e
  · cases r with
    | nil => exact r2
    | cons a b =>
      cases r2 with
      | nil => exact .cons a b
      | cons c d => exact .nil
theorem kb_one {K : PySem.W.Frag} {fd : FuncData} {x : Str} (h2 : ∀ (s : Shared) (a : Value), BindsTo s fd ⟨[], [(x, a)]⟩ [(x, a)]) (h0 : ∀ (s : Shared) (a : Value), BindsTo s fd ⟨[a], []⟩ [(x, a)]) :
    KBinds K fd [x] [x] selL selL := by
  refine ⟨fun s us ws _ h => ?_, fun r r2 => ?_⟩
  · match us, ws, h with
    | [], [_], _ => exact h2 _ _
    | [_], [], _ => exact h0 _ _
    | [], [], e => cases e
    | [], _ :: _ :: _, e => cases e
    | _ :: _ :: _, [], e => cases e
    | _ :: _, _ :: _, e => cases e
  · cases r with
    | nil => exact r2
    | cons a b =>
      cases r2 with
      | nil => exact .cons a b
      | cons c d => exact .nil
theorem all_mk {l : PySem.W.OpenLaw} {w : World} {K : PySem.W.Frag} {h : Heap} {mg : Str → Option Value} {fa fNum fPer fAsc fPL fGr fMask fCross fAny fIs fPs fNPs fFC fHof fAHi fHist fFrac fHM fHS fAre fFam fStore fPick fCome fGroups fKn fCrL fLow fFits fFams fHs fAR fShr fGre fL : Addr} (X : K.In h) (G : h.Ns mainGlobals mg) (hfa : mg "law" = some (.ref fa))
    {odNum anNum odPer anPer odAsc anAsc odPL anPL odGr anGr odMask anMask odCross anCross odAny anAny odIs anIs odPs anPs odNPs anNPs odFC anFC odHof anHof odAHi anAHi odHist anHist odFrac anFrac odHM anHM odHS anHS odAre anAre odFam anFam odStore anStore odPick anPick odCome anCome odGroups anGroups odKn anKn odCrL anCrL odLow anLow odFits anFits odFams anFams odHs anHs odAR anAR odShr anShr odGre anGre odL anL : Option Addr} {slNum slPer slAsc slPL slGr slMask slCross slAny slIs slPs slNPs slFC slHof slAHi slHist slFrac slHM slHS slAre slFam slStore slPick slCome slGroups slKn slCrL slLow slFits slFams slHs slAR slShr slGre slL : Array (Option Value)} {ocNum kVNum dcNum pmNum cvNum ctNum ocPer kVPer dcPer pmPer cvPer ctPer ocAsc kVAsc dcAsc pmAsc cvAsc ctAsc ocPL kVPL dcPL pmPL cvPL ctPL ocGr kVGr dcGr pmGr cvGr ctGr ocMask kVMask dcMask pmMask cvMask ctMask ocCross kVCross dcCross pmCross cvCross ctCross ocAny kVAny dcAny pmAny cvAny ctAny ocIs kVIs dcIs pmIs cvIs ctIs ocPs kVPs dcPs pmPs cvPs ctPs ocNPs kVNPs dcNPs pmNPs cvNPs ctNPs ocFC kVFC dcFC pmFC cvFC ctFC ocHof kVHof dcHof pmHof cvHof ctHof ocAHi kVAHi dcAHi pmAHi cvAHi ctAHi ocHist kVHist dcHist pmHist cvHist ctHist ocFrac kVFrac dcFrac pmFrac cvFrac ctFrac ocHM kVHM dcHM pmHM cvHM ctHM ocHS kVHS dcHS pmHS cvHS ctHS ocAre kVAre dcAre pmAre cvAre ctAre ocFam kVFam dcFam pmFam cvFam ctFam ocStore kVStore dcStore pmStore cvStore ctStore ocPick kVPick dcPick pmPick cvPick ctPick ocCome kVCome dcCome pmCome cvCome ctCome ocGroups kVGroups dcGroups pmGroups cvGroups ctGroups ocKn kVKn dcKn pmKn cvKn ctKn ocCrL kVCrL dcCrL pmCrL cvCrL ctCrL ocLow kVLow dcLow pmLow cvLow ctLow ocFits kVFits dcFits pmFits cvFits ctFits ocFams kVFams dcFams pmFams cvFams ctFams ocHs kVHs dcHs pmHs cvHs ctHs ocAR kVAR dcAR pmAR cvAR ctAR ocShr kVShr dcShr pmShr cvShr ctShr ocGre kVGre dcGre pmGre cvGre ctGre ocL kVL dcL pmL cvL ctL : Value} {mtok : Tok}
    (aNum : PySem.W.nsIn K mainGlobals "is_number" = some (some (.ref fNum))) (lNum : K.lookup fNum = some ⟨ocNum, odNum, .func (PySem.W.fnOf "is_number" "is_number" (defArgs sNumber) (defBody sNumber) (defScope sNumber) .none kVNum dcNum pmNum anNum cvNum ctNum), slNum⟩) (xNum : PySem.W.codeIn K cvNum "is_number" = true) (kNum : PySem.W.keepIn K (.ref fNum) = true)
    (aPer : PySem.W.nsIn K mainGlobals "is_person" = some (some (.ref fPer))) (lPer : K.lookup fPer = some ⟨ocPer, odPer, .func (PySem.W.fnOf "is_person" "is_person" (defArgs sPerson) (defBody sPerson) (defScope sPerson) .none kVPer dcPer pmPer anPer cvPer ctPer), slPer⟩) (xPer : PySem.W.codeIn K cvPer "is_person" = true) (kPer : PySem.W.keepIn K (.ref fPer) = true)
    (aAsc : PySem.W.nsIn K mainGlobals "is_ascending" = some (some (.ref fAsc))) (lAsc : K.lookup fAsc = some ⟨ocAsc, odAsc, .func (PySem.W.fnOf "is_ascending" "is_ascending" (defArgs sAsc) (defBody sAsc) (defScope sAsc) .none kVAsc dcAsc pmAsc anAsc cvAsc ctAsc), slAsc⟩) (xAsc : PySem.W.codeIn K cvAsc "is_ascending" = true) (kAsc : PySem.W.keepIn K (.ref fAsc) = true)
    (aPL : PySem.W.nsIn K mainGlobals "is_person_list" = some (some (.ref fPL))) (lPL : K.lookup fPL = some ⟨ocPL, odPL, .func (PySem.W.fnOf "is_person_list" "is_person_list" (defArgs sPList) (defBody sPList) (defScope sPList) .none kVPL dcPL pmPL anPL cvPL ctPL), slPL⟩) (xPL : PySem.W.codeIn K cvPL "is_person_list" = true) (kPL : PySem.W.keepIn K (.ref fPL) = true)
    (aGr : PySem.W.nsIn K mainGlobals "is_group" = some (some (.ref fGr))) (lGr : K.lookup fGr = some ⟨ocGr, odGr, .func (PySem.W.fnOf "is_group" "is_group" (defArgs sGroup) (defBody sGroup) (defScope sGroup) .none kVGr dcGr pmGr anGr cvGr ctGr), slGr⟩) (xGr : PySem.W.codeIn K cvGr "is_group" = true) (kGr : PySem.W.keepIn K (.ref fGr) = true)
    (aMask : PySem.W.nsIn K mainGlobals "mask_of" = some (some (.ref fMask))) (lMask : K.lookup fMask = some ⟨ocMask, odMask, .func (PySem.W.fnOf "mask_of" "mask_of" (defArgs sMask) (defBody sMask) (defScope sMask) .none kVMask dcMask pmMask anMask cvMask ctMask), slMask⟩) (xMask : PySem.W.codeIn K cvMask "mask_of" = true) (kMask : PySem.W.keepIn K (.ref fMask) = true)
    (aCross : PySem.W.nsIn K mainGlobals "masks_cross" = some (some (.ref fCross))) (lCross : K.lookup fCross = some ⟨ocCross, odCross, .func (PySem.W.fnOf "masks_cross" "masks_cross" (defArgs sCross) (defBody sCross) (defScope sCross) .none kVCross dcCross pmCross anCross cvCross ctCross), slCross⟩) (xCross : PySem.W.codeIn K cvCross "masks_cross" = true) (kCross : PySem.W.keepIn K (.ref fCross) = true)
    (aAny : PySem.W.nsIn K mainGlobals "any_cross" = some (some (.ref fAny))) (lAny : K.lookup fAny = some ⟨ocAny, odAny, .func (PySem.W.fnOf "any_cross" "any_cross" (defArgs sAny) (defBody sAny) (defScope sAny) .none kVAny dcAny pmAny anAny cvAny ctAny), slAny⟩) (xAny : PySem.W.codeIn K cvAny "any_cross" = true) (kAny : PySem.W.keepIn K (.ref fAny) = true)
    (aIs : PySem.W.nsIn K mainGlobals "is_parting" = some (some (.ref fIs))) (lIs : K.lookup fIs = some ⟨ocIs, odIs, .func (PySem.W.fnOf "is_parting" "is_parting" (defArgs sParting) (defBody sParting) (defScope sParting) .none kVIs dcIs pmIs anIs cvIs ctIs), slIs⟩) (xIs : PySem.W.codeIn K cvIs "is_parting" = true) (kIs : PySem.W.keepIn K (.ref fIs) = true)
    (aPs : PySem.W.nsIn K mainGlobals "persons_of" = some (some (.ref fPs))) (lPs : K.lookup fPs = some ⟨ocPs, odPs, .func (PySem.W.fnOf "persons_of" "persons_of" (defArgs sPersons) (defBody sPersons) (defScope sPersons) .none kVPs dcPs pmPs anPs cvPs ctPs), slPs⟩) (xPs : PySem.W.codeIn K cvPs "persons_of" = true) (kPs : PySem.W.keepIn K (.ref fPs) = true)
    (aNPs : PySem.W.nsIn K mainGlobals "need_persons" = some (some (.ref fNPs))) (lNPs : K.lookup fNPs = some ⟨ocNPs, odNPs, .func (PySem.W.fnOf "need_persons" "need_persons" (defArgs sNPs) (defBody sNPs) (defScope sNPs) .none kVNPs dcNPs pmNPs anNPs cvNPs ctNPs), slNPs⟩) (xNPs : PySem.W.codeIn K cvNPs "need_persons" = true) (kNPs : PySem.W.keepIn K (.ref fNPs) = true)
    (aFC : PySem.W.nsIn K mainGlobals "family_counts" = some (some (.ref fFC))) (lFC : K.lookup fFC = some ⟨ocFC, odFC, .func (PySem.W.fnOf "family_counts" "family_counts" (defArgs sFC) (defBody sFC) (defScope sFC) .none kVFC dcFC pmFC anFC cvFC ctFC), slFC⟩) (xFC : PySem.W.codeIn K cvFC "family_counts" = true) (kFC : PySem.W.keepIn K (.ref fFC) = true)
    (aHof : PySem.W.nsIn K mainGlobals "histories_of" = some (some (.ref fHof))) (lHof : K.lookup fHof = some ⟨ocHof, odHof, .func (PySem.W.fnOf "histories_of" "histories_of" (defArgs sHof) (defBody sHof) (defScope sHof) .none kVHof dcHof pmHof anHof cvHof ctHof), slHof⟩) (xHof : PySem.W.codeIn K cvHof "histories_of" = true) (kHof : PySem.W.keepIn K (.ref fHof) = true)
    (aAHi : PySem.W.nsIn K mainGlobals "all_histories" = some (some (.ref fAHi))) (lAHi : K.lookup fAHi = some ⟨ocAHi, odAHi, .func (PySem.W.fnOf "all_histories" "all_histories" (defArgs sAHi) (defBody sAHi) (defScope sAHi) .none kVAHi dcAHi pmAHi anAHi cvAHi ctAHi), slAHi⟩) (xAHi : PySem.W.codeIn K cvAHi "all_histories" = true) (kAHi : PySem.W.keepIn K (.ref fAHi) = true)
    (aHist : PySem.W.nsIn K mainGlobals "histories" = some (some (.ref fHist))) (lHist : K.lookup fHist = some ⟨ocHist, odHist, .func (PySem.W.fnOf "histories" "histories" (defArgs sHist) (defBody sHist) (defScope sHist) .none kVHist dcHist pmHist anHist cvHist ctHist), slHist⟩) (xHist : PySem.W.codeIn K cvHist "histories" = true) (kHist : PySem.W.keepIn K (.ref fHist) = true)
    (aFrac : PySem.W.nsIn K mainGlobals "fraction" = some (some (.ref fFrac))) (lFrac : K.lookup fFrac = some ⟨ocFrac, odFrac, .func (PySem.W.fnOf "fraction" "fraction" (defArgs sFrac) (defBody sFrac) (defScope sFrac) .none kVFrac dcFrac pmFrac anFrac cvFrac ctFrac), slFrac⟩) (xFrac : PySem.W.codeIn K cvFrac "fraction" = true) (kFrac : PySem.W.keepIn K (.ref fFrac) = true)
    (aHM : PySem.W.nsIn K mainGlobals "histories_making" = some (some (.ref fHM))) (lHM : K.lookup fHM = some ⟨ocHM, odHM, .func (PySem.W.fnOf "histories_making" "histories_making" (defArgs sHM) (defBody sHM) (defScope sHM) .none kVHM dcHM pmHM anHM cvHM ctHM), slHM⟩) (xHM : PySem.W.codeIn K cvHM "histories_making" = true) (kHM : PySem.W.keepIn K (.ref fHM) = true)
    (aHS : PySem.W.nsIn K mainGlobals "history_share" = some (some (.ref fHS))) (lHS : K.lookup fHS = some ⟨ocHS, odHS, .func (PySem.W.fnOf "history_share" "history_share" (defArgs sHS) (defBody sHS) (defScope sHS) .none kVHS dcHS pmHS anHS cvHS ctHS), slHS⟩) (xHS : PySem.W.codeIn K cvHS "history_share" = true) (kHS : PySem.W.keepIn K (.ref fHS) = true)
    (aAre : PySem.W.nsIn K mainGlobals "are_groups" = some (some (.ref fAre))) (lAre : K.lookup fAre = some ⟨ocAre, odAre, .func (PySem.W.fnOf "are_groups" "are_groups" (defArgs sAre) (defBody sAre) (defScope sAre) .none kVAre dcAre pmAre anAre cvAre ctAre), slAre⟩) (xAre : PySem.W.codeIn K cvAre "are_groups" = true) (kAre : PySem.W.keepIn K (.ref fAre) = true)
    (aFam : PySem.W.nsIn K mainGlobals "is_family" = some (some (.ref fFam))) (lFam : K.lookup fFam = some ⟨ocFam, odFam, .func (PySem.W.fnOf "is_family" "is_family" (defArgs sFam) (defBody sFam) (defScope sFam) .none kVFam dcFam pmFam anFam cvFam ctFam), slFam⟩) (xFam : PySem.W.codeIn K cvFam "is_family" = true) (kFam : PySem.W.keepIn K (.ref fFam) = true)
    (aStore : PySem.W.nsIn K mainGlobals "_law_store" = some (some (.ref fStore))) (lStore : K.lookup fStore = some ⟨ocStore, odStore, .func (PySem.W.fnOf "_law_store" "_law_store" (defArgs sStore) (defBody sStore) (defScope sStore) .none kVStore dcStore pmStore anStore cvStore ctStore), slStore⟩) (xStore : PySem.W.codeIn K cvStore "_law_store" = true) (kStore : PySem.W.keepIn K (.ref fStore) = true)
    (aPick : PySem.W.nsIn K mainGlobals "_law_pick" = some (some (.ref fPick))) (lPick : K.lookup fPick = some ⟨ocPick, odPick, .func (PySem.W.fnOf "_law_pick" "_law_pick" (defArgs sPick) (defBody sPick) (defScope sPick) .none kVPick dcPick pmPick anPick cvPick ctPick), slPick⟩) (xPick : PySem.W.codeIn K cvPick "_law_pick" = true) (kPick : PySem.W.keepIn K (.ref fPick) = true)
    (aCome : PySem.W.nsIn K mainGlobals "_law_come" = some (some (.ref fCome))) (lCome : K.lookup fCome = some ⟨ocCome, odCome, .func (PySem.W.fnOf "_law_come" "_law_come" (defArgs sCome) (defBody sCome) (defScope sCome) .none kVCome dcCome pmCome anCome cvCome ctCome), slCome⟩) (xCome : PySem.W.codeIn K cvCome "_law_come" = true) (kCome : PySem.W.keepIn K (.ref fCome) = true)
    (aGroups : PySem.W.nsIn K mainGlobals "_law_groups" = some (some (.ref fGroups))) (lGroups : K.lookup fGroups = some ⟨ocGroups, odGroups, .func (PySem.W.fnOf "_law_groups" "_law_groups" (defArgs sGroups) (defBody sGroups) (defScope sGroups) .none kVGroups dcGroups pmGroups anGroups cvGroups ctGroups), slGroups⟩) (xGroups : PySem.W.codeIn K cvGroups "_law_groups" = true) (kGroups : PySem.W.keepIn K (.ref fGroups) = true)
    (aKn : PySem.W.nsIn K mainGlobals "_law_knots" = some (some (.ref fKn))) (lKn : K.lookup fKn = some ⟨ocKn, odKn, .func (PySem.W.fnOf "_law_knots" "_law_knots" (defArgs sKn) (defBody sKn) (defScope sKn) .none kVKn dcKn pmKn anKn cvKn ctKn), slKn⟩) (xKn : PySem.W.codeIn K cvKn "_law_knots" = true) (kKn : PySem.W.keepIn K (.ref fKn) = true)
    (aCrL : PySem.W.nsIn K mainGlobals "_law_cross" = some (some (.ref fCrL))) (lCrL : K.lookup fCrL = some ⟨ocCrL, odCrL, .func (PySem.W.fnOf "_law_cross" "_law_cross" (defArgs sCrL) (defBody sCrL) (defScope sCrL) .none kVCrL dcCrL pmCrL anCrL cvCrL ctCrL), slCrL⟩) (xCrL : PySem.W.codeIn K cvCrL "_law_cross" = true) (kCrL : PySem.W.keepIn K (.ref fCrL) = true)
    (aLow : PySem.W.nsIn K mainGlobals "_law_lowest" = some (some (.ref fLow))) (lLow : K.lookup fLow = some ⟨ocLow, odLow, .func (PySem.W.fnOf "_law_lowest" "_law_lowest" (defArgs sLow) (defBody sLow) (defScope sLow) .none kVLow dcLow pmLow anLow cvLow ctLow), slLow⟩) (xLow : PySem.W.codeIn K cvLow "_law_lowest" = true) (kLow : PySem.W.keepIn K (.ref fLow) = true)
    (aFits : PySem.W.nsIn K mainGlobals "_law_fits" = some (some (.ref fFits))) (lFits : K.lookup fFits = some ⟨ocFits, odFits, .func (PySem.W.fnOf "_law_fits" "_law_fits" (defArgs sFits) (defBody sFits) (defScope sFits) .none kVFits dcFits pmFits anFits cvFits ctFits), slFits⟩) (xFits : PySem.W.codeIn K cvFits "_law_fits" = true) (kFits : PySem.W.keepIn K (.ref fFits) = true)
    (aFams : PySem.W.nsIn K mainGlobals "_law_families" = some (some (.ref fFams))) (lFams : K.lookup fFams = some ⟨ocFams, odFams, .func (PySem.W.fnOf "_law_families" "_law_families" (defArgs sFams) (defBody sFams) (defScope sFams) .none kVFams dcFams pmFams anFams cvFams ctFams), slFams⟩) (xFams : PySem.W.codeIn K cvFams "_law_families" = true) (kFams : PySem.W.keepIn K (.ref fFams) = true)
    (aHs : PySem.W.nsIn K mainGlobals "_law_histories" = some (some (.ref fHs))) (lHs : K.lookup fHs = some ⟨ocHs, odHs, .func (PySem.W.fnOf "_law_histories" "_law_histories" (defArgs sHs) (defBody sHs) (defScope sHs) .none kVHs dcHs pmHs anHs cvHs ctHs), slHs⟩) (xHs : PySem.W.codeIn K cvHs "_law_histories" = true) (kHs : PySem.W.keepIn K (.ref fHs) = true)
    (aAR : PySem.W.nsIn K mainGlobals "_law_all_right" = some (some (.ref fAR))) (lAR : K.lookup fAR = some ⟨ocAR, odAR, .func (PySem.W.fnOf "_law_all_right" "_law_all_right" (defArgs sAR) (defBody sAR) (defScope sAR) .none kVAR dcAR pmAR anAR cvAR ctAR), slAR⟩) (xAR : PySem.W.codeIn K cvAR "_law_all_right" = true) (kAR : PySem.W.keepIn K (.ref fAR) = true)
    (aShr : PySem.W.nsIn K mainGlobals "_law_shares_right" = some (some (.ref fShr))) (lShr : K.lookup fShr = some ⟨ocShr, odShr, .func (PySem.W.fnOf "_law_shares_right" "_law_shares_right" (defArgs sShr) (defBody sShr) (defScope sShr) .none kVShr dcShr pmShr anShr cvShr ctShr), slShr⟩) (xShr : PySem.W.codeIn K cvShr "_law_shares_right" = true) (kShr : PySem.W.keepIn K (.ref fShr) = true)
    (aGre : PySem.W.nsIn K mainGlobals "_law_great_right" = some (some (.ref fGre))) (lGre : K.lookup fGre = some ⟨ocGre, odGre, .func (PySem.W.fnOf "_law_great_right" "_law_great_right" (defArgs sGr) (defBody sGr) (defScope sGr) .none kVGre dcGre pmGre anGre cvGre ctGre), slGre⟩) (xGre : PySem.W.codeIn K cvGre "_law_great_right" = true) (kGre : PySem.W.keepIn K (.ref fGre) = true)
    (aL : PySem.W.nsIn K mainGlobals "law" = some (some (.ref fL))) (lL : K.lookup fL = some ⟨ocL, odL, .func (PySem.W.fnOf "law" "law" (defArgs sLaw) (defBody sLaw) (defScope sLaw) .none kVL dcL pmL anL cvL ctL), slL⟩) (xL : PySem.W.codeIn K cvL "law" = true) (kL : PySem.W.keepIn K (.ref fL) = true)
    (y_isinstance : PySem.W.nsIn K mainGlobals "isinstance" = some none)
    (y_int : PySem.W.nsIn K mainGlobals "int" = some none)
    (y_bool : PySem.W.nsIn K mainGlobals "bool" = some none)
    (y_list : PySem.W.nsIn K mainGlobals "list" = some none)
    (y_len : PySem.W.nsIn K mainGlobals "len" = some none)
    (y_all : PySem.W.nsIn K mainGlobals "all" = some none)
    (y_any : PySem.W.nsIn K mainGlobals "any" = some none)
    (y_sum : PySem.W.nsIn K mainGlobals "sum" = some none)
    (y_zip : PySem.W.nsIn K mainGlobals "zip" = some none)
    (y_sorted : PySem.W.nsIn K mainGlobals "sorted" = some none)
    (y_tuple : PySem.W.nsIn K mainGlobals "tuple" = some none)
    (y_range : PySem.W.nsIn K mainGlobals "range" = some none)
    (y_enumerate : PySem.W.nsIn K mainGlobals "enumerate" = some none)
    (y_abs : PySem.W.nsIn K mainGlobals "abs" = some none)
    (y_max : PySem.W.nsIn K mainGlobals "max" = some none)
    (y_min : PySem.W.nsIn K mainGlobals "min" = some none)
    (y_repr : PySem.W.nsIn K mainGlobals "repr" = some none)
    (y_set : PySem.W.nsIn K mainGlobals "set" = some none)
    (zComb : PySem.W.nsIn K mainGlobals "combinations" = some (some (.type "itertools.combinations"))) (zMost : PySem.W.nsIn K mainGlobals "MOST_PERSONS" = some (some (.int 20 mtok))) (zGcd : PySem.W.nsIn K mainGlobals "gcd" = some (some (.builtin "math.gcd"))) (zCom2 : PySem.W.nsIn K mainGlobals "comb" = some (some (.builtin "math.comb"))) (zFact : PySem.W.nsIn K mainGlobals "factorial" = some (some (.builtin "math.factorial"))) :
    ∃ fd : FuncData, (∀ (s : Shared) (v : Value), BindsTo s fd ⟨[v], []⟩ [("script", v)]) ∧ ∀ base : Heap, K.In base → base.Ns mainGlobals mg → FnG l.prog w K mg base CX0 10 fa fd ["script"] (spLaw K) := by
  have e := hfa.symm.trans (PySem.W.mg_of X G aL)
  cases e
  have FNum := fun_mk (st := sNumber) lNum xNum kNum
  have bNum := FNum.binds (ps := ["thing"]) fun _ _ _ _ _ _ us hl => match us, hl with | [_], _ => rfl
  have FPer := fun_mk (st := sPerson) lPer xPer kPer
  have bPer := FPer.binds (ps := ["thing", "persons"]) fun _ _ _ _ _ _ us hl => match us, hl with | [_, _], _ => rfl
  have FAsc := fun_mk (st := sAsc) lAsc xAsc kAsc
  have bAsc := FAsc.binds (ps := ["items"]) fun _ _ _ _ _ _ us hl => match us, hl with | [_], _ => rfl
  have FPL := fun_mk (st := sPList) lPL xPL kPL
  have bPL := FPL.binds (ps := ["thing", "persons"]) fun _ _ _ _ _ _ us hl => match us, hl with | [_, _], _ => rfl
  have FGr := fun_mk (st := sGroup) lGr xGr kGr
  have bGr := FGr.binds (ps := ["thing", "persons"]) fun _ _ _ _ _ _ us hl => match us, hl with | [_, _], _ => rfl
  have FMask := fun_mk (st := sMask) lMask xMask kMask
  have bMask := FMask.binds (ps := ["group"]) fun _ _ _ _ _ _ us hl => match us, hl with | [_], _ => rfl
  have FCross := fun_mk (st := sCross) lCross xCross kCross
  have bCross := FCross.binds (ps := ["one", "other"]) fun _ _ _ _ _ _ us hl => match us, hl with | [_, _], _ => rfl
  have FAny := fun_mk (st := sAny) lAny xAny kAny
  have bAny := FAny.binds (ps := ["groups"]) fun _ _ _ _ _ _ us hl => match us, hl with | [_], _ => rfl
  have FIs := fun_mk (st := sParting) lIs xIs kIs
  have bIs := FIs.binds (ps := ["thing"]) fun _ _ _ _ _ _ us hl => match us, hl with | [_], _ => rfl
  have FPs := fun_mk (st := sPersons) lPs xPs kPs
  have bPs := FPs.binds (ps := ["parting"]) fun _ _ _ _ _ _ us hl => match us, hl with | [_], _ => rfl
  have FNPs := fun_mk (st := sNPs) lNPs xNPs kNPs
  have bNPs := FNPs.binds (ps := ["persons"]) fun _ _ _ _ _ _ us hl => match us, hl with | [_], _ => rfl
  have FFC := fun_mk (st := sFC) lFC xFC kFC
  have bFC := FFC.binds (ps := ["persons"]) fun _ _ _ _ _ _ us hl => match us, hl with | [_], _ => rfl
  have FHof := fun_mk (st := sHof) lHof xHof kHof
  have bHof := FHof.binds (ps := ["parts"]) fun _ _ _ _ _ _ us hl => match us, hl with | [_], _ => rfl
  have FAHi := fun_mk (st := sAHi) lAHi xAHi kAHi
  have bAHi := FAHi.binds (ps := ["persons"]) fun _ _ _ _ _ _ us hl => match us, hl with | [_], _ => rfl
  have FHist := fun_mk (st := sHist) lHist xHist kHist
  have bHist := FHist.binds (ps := ["parting"]) fun _ _ _ _ _ _ us hl => match us, hl with | [_], _ => rfl
  have FFrac := fun_mk (st := sFrac) lFrac xFrac kFrac
  have bFrac := FFrac.binds (ps := ["top", "bottom"]) fun _ _ _ _ _ _ us hl => match us, hl with | [_, _], _ => rfl
  have FHM := fun_mk (st := sHM) lHM xHM kHM
  have bHM := FHM.binds (ps := ["size", "others"]) fun _ _ _ _ _ _ us hl => match us, hl with | [_, _], _ => rfl
  have FHS := fun_mk (st := sHS) lHS xHS kHS
  have bHS := FHS.binds (ps := ["persons", "group"]) fun _ _ _ _ _ _ us hl => match us, hl with | [_, _], _ => rfl
  have FAre := fun_mk (st := sAre) lAre xAre kAre
  have bAre := FAre.binds (ps := ["thing", "persons"]) fun _ _ _ _ _ _ us hl => match us, hl with | [_, _], _ => rfl
  have FFam := fun_mk (st := sFam) lFam xFam kFam
  have bFam := FFam.binds (ps := ["persons", "thing"]) fun _ _ _ _ _ _ us hl => match us, hl with | [_, _], _ => rfl
  have FStore := fun_mk (st := sStore) lStore xStore kStore
  have bStore := FStore.binds (ps := ["script", "k"]) fun _ _ _ _ _ _ us hl => match us, hl with | [_, _], _ => rfl
  have FPick := fun_mk (st := sPick) lPick xPick kPick
  have bPick := FPick.binds (ps := ["store", "bound"]) fun _ _ _ _ _ _ us hl => match us, hl with | [_, _], _ => rfl
  have FCome := fun_mk (st := sCome) lCome xCome kCome
  have bCome := FCome.binds (ps := ["store", "many_here"]) fun _ _ _ _ _ _ us hl => match us, hl with | [_, _], _ => rfl
  have FGroups := fun_mk (st := sGroups) lGroups xGroups kGroups
  have bGroups := FGroups.binds (ps := ["items"]) fun _ _ _ _ _ _ us hl => match us, hl with | [_], _ => rfl
  have FKn := fun_mk (st := sKn) lKn xKn kKn
  have bKn := FKn.binds (ps := ["store", "lot"]) fun _ _ _ _ _ _ us hl => match us, hl with | [_, _], _ => rfl
  have FCrL := fun_mk (st := sCrL) lCrL xCrL kCrL
  have bCrL := FCrL.binds (ps := ["left", "right"]) fun _ _ _ _ _ _ us hl => match us, hl with | [_, _], _ => rfl
  have FLow := fun_mk (st := sLow) lLow xLow kLow
  have bLow := FLow.binds (ps := ["top", "bottom"]) fun _ _ _ _ _ _ us hl => match us, hl with | [_, _], _ => rfl
  have FFits := fun_mk (st := sFits) lFits xFits kFits
  have bFits := FFits.binds (ps := ["many_here", "bad"]) fun _ _ _ _ _ _ us hl => match us, hl with | [_, _], _ => rfl
  have FFams := fun_mk (st := sFams) lFams xFams kFams
  have bFams := FFams.binds (ps := ["many_here"]) fun _ _ _ _ _ _ us hl => match us, hl with | [_], _ => rfl
  have FHs := fun_mk (st := sHs) lHs xHs kHs
  have bHs := FHs.binds (ps := ["many_here"]) fun _ _ _ _ _ _ us hl => match us, hl with | [_], _ => rfl
  have FAR := fun_mk (st := sAR) lAR xAR kAR
  have bAR := FAR.binds (ps := ["many_here"]) fun _ _ _ _ _ _ us hl => match us, hl with | [_], _ => rfl
  have FShr := fun_mk (st := sShr) lShr xShr kShr
  have bShr := FShr.binds (ps := ["many_here", "lot"]) fun _ _ _ _ _ _ us hl => match us, hl with | [_, _], _ => rfl
  have FGre := fun_mk (st := sGr) lGre xGre kGre
  have bGre := FGre.binds (ps := ["store", "many_here"]) fun _ _ _ _ _ _ us hl => match us, hl with | [_, _], _ => rfl
  have FL := fun_mk (st := sLaw) lL xL kL
  have bL := FL.binds (ps := ["script"]) fun _ _ _ _ _ _ us hl => match us, hl with | [_], _ => rfl
  have T : TxtP mg := ⟨PySem.W.mg_none_of X G y_isinstance, PySem.W.mg_none_of X G y_int, PySem.W.mg_none_of X G y_bool, PySem.W.mg_none_of X G y_list, PySem.W.mg_none_of X G y_len, PySem.W.mg_none_of X G y_all, PySem.W.mg_none_of X G y_any, PySem.W.mg_none_of X G y_sum, PySem.W.mg_none_of X G y_zip, PySem.W.mg_none_of X G y_sorted, PySem.W.mg_none_of X G y_tuple, PySem.W.mg_none_of X G y_range, PySem.W.mg_none_of X G y_enumerate⟩
  have T0 : Txt0 mg := ⟨PySem.W.mg_none_of X G y_int, PySem.W.mg_none_of X G y_range, PySem.W.mg_none_of X G y_len, PySem.W.mg_none_of X G y_abs, PySem.W.mg_none_of X G y_max, PySem.W.mg_none_of X G y_min⟩
  have T1 : TxtP1 mg fPick := ⟨T0, PySem.W.mg_of X G aPick⟩
  have Z : ProgF K mg := { fNum := fNum, dNum := _, FNum := FNum, gNum := PySem.W.mg_of X G aNum, bNum := bNum, fPer := fPer, dPer := _, FPer := FPer, gPer := PySem.W.mg_of X G aPer, bPer := bPer, fAsc := fAsc, dAsc := _, FAsc := FAsc, gAsc := PySem.W.mg_of X G aAsc, bAsc := bAsc, fPL := fPL, dPL := _, FPL := FPL, gPL := PySem.W.mg_of X G aPL, bPL := bPL, fGr := fGr, dGr := _, FGr := FGr, gGr := PySem.W.mg_of X G aGr, bGr := bGr, fMask := fMask, dMask := _, FMask := FMask, gMask := PySem.W.mg_of X G aMask, bMask := bMask, fCross := fCross, dCross := _, FCross := FCross, gCross := PySem.W.mg_of X G aCross, bCross := bCross, fAny := fAny, dAny := _, FAny := FAny, gAny := PySem.W.mg_of X G aAny, bAny := bAny, fIs := fIs, dIs := _, FIs := FIs, gIs := PySem.W.mg_of X G aIs, bIs := bIs, fPs := fPs, dPs := _, FPs := FPs, gPs := PySem.W.mg_of X G aPs, bPs := bPs, gComb := PySem.W.mg_of X G zComb, mostT := _, gMost := PySem.W.mg_of X G zMost }
  refine ⟨PySem.W.fnOf "law" "law" (defArgs sLaw) (defBody sLaw) (defScope sLaw) .none kVL dcL pmL anL cvL ctL, fun s v => .of_eq rfl, fun base _ _ => ?_⟩
  have GPick := ok_pick (P := l.prog) (w := w) (K := K) (base := base) FPick T0
  have KW : KwF K mg ({ fNPs := fNPs, dNPs := _, FNPs := FNPs, gNPs := PySem.W.mg_of X G aNPs, bNPs := bNPs, fFC := fFC, dFC := _, FFC := FFC, gFC := PySem.W.mg_of X G aFC, bFC := bFC, fHof := fHof, dHof := _, FHof := FHof, gHof := PySem.W.mg_of X G aHof, bHof := bHof, fAHi := fAHi, dAHi := _, FAHi := FAHi, gAHi := PySem.W.mg_of X G aAHi, bAHi := bAHi, fHist := fHist, dHist := _, FHist := FHist, gHist := PySem.W.mg_of X G aHist, bHist := bHist, fFrac := fFrac, dFrac := _, FFrac := FFrac, gFrac := PySem.W.mg_of X G aFrac, bFrac := bFrac, fHM := fHM, dHM := _, FHM := FHM, gHM := PySem.W.mg_of X G aHM, bHM := bHM, fHS := fHS, dHS := _, FHS := FHS, gHS := PySem.W.mg_of X G aHS, bHS := bHS, fAre := fAre, dAre := _, FAre := FAre, gAre := PySem.W.mg_of X G aAre, bAre := bAre, fFam := fFam, dFam := _, FFam := FFam, gFam := PySem.W.mg_of X G aFam, bFam := bFam, gComb2 := PySem.W.mg_of X G zCom2, gFact := PySem.W.mg_of X G zFact, gGcd := PySem.W.mg_of X G zGcd } : FmF K mg) := ⟨kb_one (fun s a => .of_eq rfl) (fun s a => .of_eq rfl), kb_two (fun s a b => .of_eq rfl) (fun s a b => .of_eq rfl), kb_one (fun s a => .of_eq rfl) (fun s a => .of_eq rfl), kb_one (fun s a => .of_eq rfl) (fun s a => .of_eq rfl), kb_two (fun s a b => .of_eq rfl) (fun s a b => .of_eq rfl)⟩
  have L : LwF l.prog w base K mg := { fPick := fPick, dPick := _, FPick := FPick, gPick := PySem.W.mg_of X G aPick, bPick := bPick, fCome := fCome, dCome := _, FCome := FCome, gCome := PySem.W.mg_of X G aCome, bCome := bCome, fGroups := fGroups, dGroups := _, FGroups := FGroups, gGroups := PySem.W.mg_of X G aGroups, bGroups := bGroups, fKn := fKn, dKn := _, FKn := FKn, gKn := PySem.W.mg_of X G aKn, bKn := bKn, fFits := fFits, dFits := _, FFits := FFits, gFits := PySem.W.mg_of X G aFits, bFits := bFits, fShr := fShr, dShr := _, FShr := FShr, gShr := PySem.W.mg_of X G aShr, bShr := bShr, gRepr := PySem.W.mg_none_of X G y_repr, GPick := GPick, GCome := ok_come FCome T1 FPick bPick, GGroups := ok_groups FGroups T, GKn := ok_kn FKn T GPick FPick (PySem.W.mg_of X G aPick) bPick, GFits := ok_fits FFits T (PySem.W.mg_none_of X G y_set) T0 FCrL (PySem.W.mg_of X G aCrL) bCrL, GShr := ok_shr FShr Z T (PySem.W.mg_none_of X G y_repr) ({ fNPs := fNPs, dNPs := _, FNPs := FNPs, gNPs := PySem.W.mg_of X G aNPs, bNPs := bNPs, fFC := fFC, dFC := _, FFC := FFC, gFC := PySem.W.mg_of X G aFC, bFC := bFC, fHof := fHof, dHof := _, FHof := FHof, gHof := PySem.W.mg_of X G aHof, bHof := bHof, fAHi := fAHi, dAHi := _, FAHi := FAHi, gAHi := PySem.W.mg_of X G aAHi, bAHi := bAHi, fHist := fHist, dHist := _, FHist := FHist, gHist := PySem.W.mg_of X G aHist, bHist := bHist, fFrac := fFrac, dFrac := _, FFrac := FFrac, gFrac := PySem.W.mg_of X G aFrac, bFrac := bFrac, fHM := fHM, dHM := _, FHM := FHM, gHM := PySem.W.mg_of X G aHM, bHM := bHM, fHS := fHS, dHS := _, FHS := FHS, gHS := PySem.W.mg_of X G aHS, bHS := bHS, fAre := fAre, dAre := _, FAre := FAre, gAre := PySem.W.mg_of X G aAre, bAre := bAre, fFam := fFam, dFam := _, FFam := FFam, gFam := PySem.W.mg_of X G aFam, bFam := bFam, gComb2 := PySem.W.mg_of X G zCom2, gFact := PySem.W.mg_of X G zFact, gGcd := PySem.W.mg_of X G zGcd } : FmF K mg) FLow (PySem.W.mg_of X G aLow) bLow }
  have GAR := ok_allR FAR Z T T0 (PySem.W.mg_none_of X G y_repr) ({ fNPs := fNPs, dNPs := _, FNPs := FNPs, gNPs := PySem.W.mg_of X G aNPs, bNPs := bNPs, fFC := fFC, dFC := _, FFC := FFC, gFC := PySem.W.mg_of X G aFC, bFC := bFC, fHof := fHof, dHof := _, FHof := FHof, gHof := PySem.W.mg_of X G aHof, bHof := bHof, fAHi := fAHi, dAHi := _, FAHi := FAHi, gAHi := PySem.W.mg_of X G aAHi, bAHi := bAHi, fHist := fHist, dHist := _, FHist := FHist, gHist := PySem.W.mg_of X G aHist, bHist := bHist, fFrac := fFrac, dFrac := _, FFrac := FFrac, gFrac := PySem.W.mg_of X G aFrac, bFrac := bFrac, fHM := fHM, dHM := _, FHM := FHM, gHM := PySem.W.mg_of X G aHM, bHM := bHM, fHS := fHS, dHS := _, FHS := FHS, gHS := PySem.W.mg_of X G aHS, bHS := bHS, fAre := fAre, dAre := _, FAre := FAre, gAre := PySem.W.mg_of X G aAre, bAre := bAre, fFam := fFam, dFam := _, FFam := FFam, gFam := PySem.W.mg_of X G aFam, bFam := bFam, gComb2 := PySem.W.mg_of X G zCom2, gFact := PySem.W.mg_of X G zFact, gGcd := PySem.W.mg_of X G zGcd } : FmF K mg) KW FLow (PySem.W.mg_of X G aLow) bLow (ok_fams (P := l.prog) (w := w) (base := base) FFams T T0 FCrL (PySem.W.mg_of X G aCrL) bCrL) FFams (PySem.W.mg_of X G aFams) bFams (ok_hists FHs T) FHs (PySem.W.mg_of X G aHs) bHs
  exact ok_law FL Z T T0 ({ fNPs := fNPs, dNPs := _, FNPs := FNPs, gNPs := PySem.W.mg_of X G aNPs, bNPs := bNPs, fFC := fFC, dFC := _, FFC := FFC, gFC := PySem.W.mg_of X G aFC, bFC := bFC, fHof := fHof, dHof := _, FHof := FHof, gHof := PySem.W.mg_of X G aHof, bHof := bHof, fAHi := fAHi, dAHi := _, FAHi := FAHi, gAHi := PySem.W.mg_of X G aAHi, bAHi := bAHi, fHist := fHist, dHist := _, FHist := FHist, gHist := PySem.W.mg_of X G aHist, bHist := bHist, fFrac := fFrac, dFrac := _, FFrac := FFrac, gFrac := PySem.W.mg_of X G aFrac, bFrac := bFrac, fHM := fHM, dHM := _, FHM := FHM, gHM := PySem.W.mg_of X G aHM, bHM := bHM, fHS := fHS, dHS := _, FHS := FHS, gHS := PySem.W.mg_of X G aHS, bHS := bHS, fAre := fAre, dAre := _, FAre := FAre, gAre := PySem.W.mg_of X G aAre, bAre := bAre, fFam := fFam, dFam := _, FFam := FFam, gFam := PySem.W.mg_of X G aFam, bFam := bFam, gComb2 := PySem.W.mg_of X G zCom2, gFact := PySem.W.mg_of X G zFact, gGcd := PySem.W.mg_of X G zGcd } : FmF K mg) L (ok_store FStore T0) FStore (PySem.W.mg_of X G aStore) bStore FGre (PySem.W.mg_of X G aGre) bGre GAR FAR (PySem.W.mg_of X G aAR) bAR
theorem walk {l : PySem.W.OpenLaw} {q : Program} {loose : List Str} {XP : (Str → Option Value) → Heap → Prop} {YP : World → Heap → Prop} {d : DefRec} {K : Params → PySem.W.Frag} (hn : l.most = some 63) (hdf : d.params.defaults = [])
    (hY : ∀ (w : World) (h : Heap), YP w h → (K w.params).In h)
    (F : ∀ (w : World) (mg : Str → Option Value) (fa : Addr) (h : Heap), (K w.params).In h → h.Ns mainGlobals mg → mg d.name = some (.ref fa) →
      ∃ fd : FuncData, (∀ (s : Shared) (u : Value), BindsTo s fd ⟨[u], []⟩ [("script", u)]) ∧ ∀ base : Heap, (K w.params).In base → base.Ns mainGlobals mg → FnG l.prog w (K w.params) mg base CX0 10 fa fd ["script"] (spLaw (K w.params))) :
    PySem.W.WalkO q loose XP YP l.row.toRowW d [] (fun f vs => PySem.call f vs) :=
  walk_ofG (n := 63) (lv := 10) (x := "script") (cx := fun _ => CX0) (prom := fun w => spLaw (K w.params)) hn (by decide) hdf ⟨rfl, by decide, by decide⟩ hY F (fun _ _ a ns hl _ _ hS => ⟨a, ns, rfl, hS, hl, fun _ => rfl⟩) fun _ _ _ _ _ z => z
end K32


open PySem PySem.W PyProof.Rows in
set_option maxRecDepth 100000 in
set_option maxHeartbeats 0 in
theorem PySem.Challenge.cw_twopartings_k32_families_and_histories_holds : PySem.Challenge.rw_twopartings_k32_families_and_histories.Holds := by
  w_on; o_law; k_head; (case hw => w_witness2)
  k_fill
  refine K32.walk (l := PySem.Challenge.rw_twopartings_k32_families_and_histories) rfl rfl (fun w h Y => PySem.W.kIn_of Y) ?F
  case F =>
    intro w mg fa h KX G hmg
    refine' K32.all_mk KX G hmg ?aNum ?lNum ?xNum ?kNum ?aPer ?lPer ?xPer ?kPer ?aAsc ?lAsc ?xAsc ?kAsc ?aPL ?lPL ?xPL ?kPL ?aGr ?lGr ?xGr ?kGr ?aMask ?lMask ?xMask ?kMask ?aCross ?lCross ?xCross ?kCross ?aAny ?lAny ?xAny ?kAny ?aIs ?lIs ?xIs ?kIs ?aPs ?lPs ?xPs ?kPs ?aNPs ?lNPs ?xNPs ?kNPs ?aFC ?lFC ?xFC ?kFC ?aHof ?lHof ?xHof ?kHof ?aAHi ?lAHi ?xAHi ?kAHi ?aHist ?lHist ?xHist ?kHist ?aFrac ?lFrac ?xFrac ?kFrac ?aHM ?lHM ?xHM ?kHM ?aHS ?lHS ?xHS ?kHS ?aAre ?lAre ?xAre ?kAre ?aFam ?lFam ?xFam ?kFam ?aStore ?lStore ?xStore ?kStore ?aPick ?lPick ?xPick ?kPick ?aCome ?lCome ?xCome ?kCome ?aGroups ?lGroups ?xGroups ?kGroups ?aKn ?lKn ?xKn ?kKn ?aCrL ?lCrL ?xCrL ?kCrL ?aLow ?lLow ?xLow ?kLow ?aFits ?lFits ?xFits ?kFits ?aFams ?lFams ?xFams ?kFams ?aHs ?lHs ?xHs ?kHs ?aAR ?lAR ?xAR ?kAR ?aShr ?lShr ?xShr ?kShr ?aGre ?lGre ?xGre ?kGre ?aL ?lL ?xL ?kL ?y_isinstance ?y_int ?y_bool ?y_list ?y_len ?y_all ?y_any ?y_sum ?y_zip ?y_sorted ?y_tuple ?y_range ?y_enumerate ?y_abs ?y_max ?y_min ?y_repr ?y_set ?zComb ?zMost ?zGcd ?zCom2 ?zFact
    (case aNum => k_is)
    (case lNum => k_is)
    (case xNum => k_is)
    (case kNum => k_is)
    (case aPer => k_is)
    (case lPer => k_is)
    (case xPer => k_is)
    (case kPer => k_is)
    (case aAsc => k_is)
    (case lAsc => k_is)
    (case xAsc => k_is)
    (case kAsc => k_is)
    (case aPL => k_is)
    (case lPL => k_is)
    (case xPL => k_is)
    (case kPL => k_is)
    (case aGr => k_is)
    (case lGr => k_is)
    (case xGr => k_is)
    (case kGr => k_is)
    (case aMask => k_is)
    (case lMask => k_is)
    (case xMask => k_is)
    (case kMask => k_is)
    (case aCross => k_is)
    (case lCross => k_is)
    (case xCross => k_is)
    (case kCross => k_is)
    (case aAny => k_is)
    (case lAny => k_is)
    (case xAny => k_is)
    (case kAny => k_is)
    (case aIs => k_is)
    (case lIs => k_is)
    (case xIs => k_is)
    (case kIs => k_is)
    (case aPs => k_is)
    (case lPs => k_is)
    (case xPs => k_is)
    (case kPs => k_is)
    (case aNPs => k_is)
    (case lNPs => k_is)
    (case xNPs => k_is)
    (case kNPs => k_is)
    (case aFC => k_is)
    (case lFC => k_is)
    (case xFC => k_is)
    (case kFC => k_is)
    (case aHof => k_is)
    (case lHof => k_is)
    (case xHof => k_is)
    (case kHof => k_is)
    (case aAHi => k_is)
    (case lAHi => k_is)
    (case xAHi => k_is)
    (case kAHi => k_is)
    (case aHist => k_is)
    (case lHist => k_is)
    (case xHist => k_is)
    (case kHist => k_is)
    (case aFrac => k_is)
    (case lFrac => k_is)
    (case xFrac => k_is)
    (case kFrac => k_is)
    (case aHM => k_is)
    (case lHM => k_is)
    (case xHM => k_is)
    (case kHM => k_is)
    (case aHS => k_is)
    (case lHS => k_is)
    (case xHS => k_is)
    (case kHS => k_is)
    (case aAre => k_is)
    (case lAre => k_is)
    (case xAre => k_is)
    (case kAre => k_is)
    (case aFam => k_is)
    (case lFam => k_is)
    (case xFam => k_is)
    (case kFam => k_is)
    (case aStore => k_is)
    (case lStore => k_is)
    (case xStore => k_is)
    (case kStore => k_is)
    (case aPick => k_is)
    (case lPick => k_is)
    (case xPick => k_is)
    (case kPick => k_is)
    (case aCome => k_is)
    (case lCome => k_is)
    (case xCome => k_is)
    (case kCome => k_is)
    (case aGroups => k_is)
    (case lGroups => k_is)
    (case xGroups => k_is)
    (case kGroups => k_is)
    (case aKn => k_is)
    (case lKn => k_is)
    (case xKn => k_is)
    (case kKn => k_is)
    (case aCrL => k_is)
    (case lCrL => k_is)
    (case xCrL => k_is)
    (case kCrL => k_is)
    (case aLow => k_is)
    (case lLow => k_is)
    (case xLow => k_is)
    (case kLow => k_is)
    (case aFits => k_is)
    (case lFits => k_is)
    (case xFits => k_is)
    (case kFits => k_is)
    (case aFams => k_is)
    (case lFams => k_is)
    (case xFams => k_is)
    (case kFams => k_is)
    (case aHs => k_is)
    (case lHs => k_is)
    (case xHs => k_is)
    (case kHs => k_is)
    (case aAR => k_is)
    (case lAR => k_is)
    (case xAR => k_is)
    (case kAR => k_is)
    (case aShr => k_is)
    (case lShr => k_is)
    (case xShr => k_is)
    (case kShr => k_is)
    (case aGre => k_is)
    (case lGre => k_is)
    (case xGre => k_is)
    (case kGre => k_is)
    (case aL => k_is)
    (case lL => k_is)
    (case xL => k_is)
    (case kL => k_is)
    (case y_isinstance => k_is)
    (case y_int => k_is)
    (case y_bool => k_is)
    (case y_list => k_is)
    (case y_len => k_is)
    (case y_all => k_is)
    (case y_any => k_is)
    (case y_sum => k_is)
    (case y_zip => k_is)
    (case y_sorted => k_is)
    (case y_tuple => k_is)
    (case y_range => k_is)
    (case y_enumerate => k_is)
    (case y_abs => k_is)
    (case y_max => k_is)
    (case y_min => k_is)
    (case y_repr => k_is)
    (case y_set => k_is)
    (case zComb => k_is)
    (case zMost => k_is)
    (case zGcd => k_is)
    (case zCom2 => k_is)
    (case zFact => k_is)
