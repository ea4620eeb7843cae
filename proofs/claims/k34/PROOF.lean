import PyProof.Rows.All
import Wide.All
import OpenK.AllK
import Wide.FinOn
import PySem.Challenge.RW_twopartings_k34_rows_of_changes
import HandS.ForMost
import HandS.Wide
import HandS.WideBits
import PyProof.ReprRoads
import HandS.EndBits
import PyProof.ZipIter
import PyProof.CallType
import PyProof.Walk
import PyProof.WalkLemmas
import PyProof.RangeIter
import PyProof.RulesTry
import PyProof.TupleOfSeq
import KE.SortData
import KE.DataCmp
import HandS.DictComp
import HandS.Conv
import PyProof.ReprLen
import KE.KRevSl
import HandS.Sort
import KE.KDictSum
import HandS.Gcd
import KE.KMathGC
import HandS.ExcCtx
import HandS.HotCalls
import HandS.Iter
import HandS.DictTup
import HandS.SetFor
import HandS.Deep
import KE.DataFind
import KE.KDictDisplayH
import KE.KDictPairs
import KE.KTupSum
import HandS.IsInst
set_option Elab.async false
set_option linter.all false
set_option maxRecDepth 100000
set_option maxHeartbeats 40000000
namespace RepA
open PySem PySem.Spec PyProof.Rows L2

/-! ### data without a dict -/
mutual
theorem dp_nodict {K : PySem.W.Frag} {H : Hp} : ∀ (d : PyData) (v : V), Dp K H v d → d.hasDict = false
  | .none, _, _ => by simp only [PyData.hasDict]
  | .bool _, _, _ => by simp only [PyData.hasDict]
  | .int _, _, _ => by simp only [PyData.hasDict]
  | .str _, _, _ => by simp only [PyData.hasDict]
  | .list ds, _, h => by
    cases h with
    | lst hs ha =>
      simp only [PyData.hasDict]
      exact dpAll_nodict ds _ ha
  | .tuple ds, _, h => by
    cases h with
    | tup hs ha =>
      simp only [PyData.hasDict]
      exact dpAll_nodict ds _ ha
  | .dict _, _, h => by cases h
theorem dpAll_nodict {K : PySem.W.Frag} {H : Hp} : ∀ (ds : List PyData) (vs : List V), DpAll K H vs ds → PyData.hasDictAll ds = false
  | [], _, _ => by simp only [PyData.hasDictAll]
  | d :: ds, _, h => by
    cases h with
    | cons h1 h2 => simp only [PyData.hasDictAll, dp_nodict d _ h1, dpAll_nodict ds _ h2, Bool.or_self]
end

/-! ### an item: data, or an empty dict -/
def Dd (K : PySem.W.Frag) (H : Hp) (v : V) (d : PyData) : Prop := Dp K H v d ∨ ∃ a, v = .ref a ∧ H a = some (.dK []) ∧ d = .dict []
inductive DdAll (K : PySem.W.Frag) (H : Hp) : List V → List PyData → Prop
  | nil : DdAll K H [] []
  | cons {v : V} {vs : List V} {d : PyData} {ds : List PyData} : Dd K H v d → DdAll K H vs ds → DdAll K H (v :: vs) (d :: ds)
theorem DdAll.of_dp {K : PySem.W.Frag} {H : Hp} : ∀ {vs : List V} {ds : List PyData}, DpAll K H vs ds → DdAll K H vs ds
  | _, _, .nil => .nil
  | _, _, .cons h r => .cons (.inl h) (.of_dp r)

section
variable {X : Cx} {pins : List (Addr × Obj)} {σ : L2.St} {H : Hp} {s : Shared}
theorem dd_reads (I : Inv X pins σ H s) {v : V} {u : Value} {d : PyData} (h : Dd X.K H v d) (r : RelV v u) : ∃ as, Reads s.heap u d as ∧ (d.hasDict = true → sysModules ∉ as) := by
  rcases h with h | ⟨a, rfl, ha, rfl⟩
  · obtain ⟨as, q⟩ := Dp.reads I d v u h r
    exact ⟨as, q, fun e => by rw [dp_nodict d v h] at e; cases e⟩
  · obtain rfl : u = Value.ref a := r
    obtain ⟨_, hn, vs, rel, dd⟩ := dk_of I.hok ha
    obtain ⟨o, es, ep, e1, e2, e3, e4⟩ := dd
    cases rel
    have hes : es.toList = [] := by
      have q := e4.2.1
      generalize es.toList = l at q
      cases q
      rfl
    refine ⟨[a], ?_, fun _ hm => ?_⟩
    · refine Reads.dict (as := []) (bs := []) e1 e2.1 e3 ?_ ?_
      · rw [hes]
        exact ReadsAll.nil
      · rw [hes]
        exact ReadsAll.nil
    · rcases List.mem_cons.mp hm with q | q
      · rw [q] at hn
        rw [beq_self_eq_true] at hn
        cases hn
      · cases q

/-- all items, each by itself -/
theorem dd_all (I : Inv X pins σ H s) : ∀ {vs : List V} {ds : List PyData} {us : List Value}, DdAll X.K H vs ds → Vals vs us → PyData.showableAll ds = true → (∀ t ∈ PyData.shownAll ds, t.length ≤ sizeLine) →
    (∃ as, ReadsAll s.heap us ds as) ∧ ∃ bs, ReadAtMost s.heap (PyData.depthAll ds) bs ∧ ReprAllK X.prog X.w bs s.heap (PyData.depthAll ds) us (PyData.shownAll ds)
  | _, _, _, .nil, .nil, _, _ => ⟨⟨_, .nil⟩, [], (fun _ h => nomatch h), by simp only [PyData.shownAll]; exact .nil⟩
  | _, _, _, .cons (d := d) (ds := ds) h hr, .cons r rr, hs, hz => by
    obtain ⟨s1, s2⟩ : d.showable = true ∧ PyData.showableAll ds = true := by simpa [PyData.showableAll] using hs
    obtain ⟨a1, q1, n1⟩ := dd_reads I h r
    obtain ⟨b1, m1, k1⟩ := ReprK.of_reads (prog := X.prog) (w := X.w) q1 s1 n1 (hz _ (by simp only [PyData.shownAll]; exact List.mem_cons_self ..))
    obtain ⟨⟨a2, q2⟩, b2, m2, k2⟩ := dd_all I hr rr s2 fun t ht => hz t (by simp only [PyData.shownAll]; exact List.mem_cons_of_mem _ ht)
    have l1 : d.depth ≤ PyData.depthAll (d :: ds) := by simp only [PyData.depthAll]; omega
    have l2 : PyData.depthAll ds ≤ PyData.depthAll (d :: ds) := by simp only [PyData.depthAll]; omega
    refine ⟨⟨_, .cons q1 q2⟩, b1 ++ b2, fun b hb => ?_, ?_⟩
    · rcases List.mem_append.mp hb with hb | hb
      · obtain ⟨d', as', r', z⟩ := m1 b hb
        exact ⟨d', as', r', Nat.le_trans z l1⟩
      · obtain ⟨d', as', r', z⟩ := m2 b hb
        exact ⟨d', as', r', Nat.le_trans z l2⟩
    · simp only [PyData.shownAll]
      exact .cons ((k1.more fun b hb => List.mem_append.mpr (.inl hb)).level_le l1) (k2.more_le (fun b hb => List.mem_append.mpr (.inr hb)) l2)

/-- repr of a list of data and empty dicts, where no guard stands -/
theorem call_reprL (hg : X.A.guards = some []) (hu : X.A.units + 64 < cLine) : CallR X (.builtin "repr") (fun xs H Q => ∃ a ys ds, xs = [V.ref a] ∧ SqL X.K H a ys ∧ DdAll X.K H ys ds ∧ PyData.showableAll ds = true ∧ PyData.depthAll ds ≤ 40 ∧
    (listText (PyData.shownAll ds)).length ≤ sizeLine ∧ Q (.str (PyData.list ds).shown) H) := by
  intro pins s σ H xs us Q I r h
  obtain ⟨a, ys, ds, rfl, hs, hd, hw, hdp, hz, q⟩ := h
  obtain ⟨u, rfl, ru⟩ := vals1 r
  obtain rfl : u = Value.ref a := ru
  obtain ⟨its, rv, ⟨o, n, ho, hc, hne, hda⟩, hsz⟩ := I.list hs
  obtain ⟨⟨as, hR⟩, bs, hb, hk⟩ := dd_all I hd rv hw fun t ht => Nat.le_trans (listText_mem_le ht) hz
  have rd : Reads s.heap (.ref a) (.list ds) (a :: as) := .list ho hc hda hR
  have hna : a ∉ bs := not_mem_of_deeper rd (by simp only [PyData.depth]; omega) hb
  have fin : ∀ (t tk : Nat) (h' : Heap), (∀ b o, s.heap.get? b = some o → h'.get? b = some o) → EP X pins σ Q (.str (listText (PyData.shownAll ds)) t) { s with heap := h', toks := tk } := fun t tk h' k =>
    ⟨.str _, H, I.kept k, ⟨t, rfl⟩, by simpa only [PyData.shown] using q⟩
  refine call_repr_slot (by omega) ⟨o, ho, hc⟩ F.slot_list_repr.toG ?_
  obtain ⟨l⟩ : ∃ l, l = its := ⟨_, rfl⟩
  cases its with
  | nil =>
    cases hR
    exact call_list_repr_empty ⟨o, ho, hc⟩ ho hda ⟨_, _, rfl, by simpa only [PyData.shownAll, listText_nil] using fin s.toks (s.toks + 1) s.heap fun _ _ e => e⟩
  | cons x l =>
    refine call_list_reprK (h₀ := s.heap) ho hc hda hna (by simpa using hk.length_eq) (fun i y e => hk.item i y (by simpa using e)) hg (fun b _ => Clear.nil b) (by show X.A.units + 1 + (PyData.depthAll ds + 1) < cLine; omega) (fun _ _ e => e) (fun h' t tk k => ⟨_, _, rfl, fin t tk h' k⟩) hz
end
end RepA

namespace RepA
open PySem PySem.Spec PyProof.Rows L2

/-! ### the promise of a def that is called where no guard stands -/
structure FnG (Pg : Program) (wd : World) (Kf : PySem.W.Frag) (gl : Str → Option Value) (bs : Heap) (cx : CXT) (lv : Nat) (fa : Addr) (dat : FuncData) (names : List Str) (prom : Sp) : Prop where
  cnt : ∀ xs G Qv Ex, prom xs G Qv Ex → xs.length = names.length
  go : ∀ (Ar : Around) (fr : List Env) (sh : Shared) (G : Hp) (ar : Args) (us : List Value) (xs : List V) (Qv : VK) (Ex : XK), Room lv Ar → Ar.guards = some [] →
    Env0 Pg wd Kf gl bs Ar fr sh G → BindsTo sh dat ar (names.zip us) → Vals xs us → prom xs G Qv Ex →
    codeAny (model Pg wd) Ar (.call (.ref fa) ar) (CR cx fr Pg wd G sh Qv Ex) sh

theorem FnG.of {Pg : Program} {wd : World} {Kf : PySem.W.Frag} {gl : Str → Option Value} {bs : Heap} {cx : CXT} {lv : Nat} {fa : Addr} {dat : FuncData} {names : List Str} {prom : Sp}
    (f : FnOk Pg wd Kf gl bs cx lv fa dat names prom) : FnG Pg wd Kf gl bs cx lv fa dat names prom :=
  ⟨f.len, fun Ar fr sh G ar us xs Qv Ex r _ e b v p => f.run Ar fr sh G ar us xs Qv Ex r e b v p⟩

/-- a def of the text by its body, where no guard stands -/
theorem okG {Pg : Program} {wd : World} {Kf : PySem.W.Frag} {gl : Str → Option Value} {bs : Heap} {nm qn : Str} {st : Stmt} {fa : Addr} {dat : FuncData} {slots names : List Str} {lv : Nat} {prom : Sp}
    (F : Fun Kf nm qn st fa dat) (S : FnScope slots names (defScope st)) (cnt : ∀ xs G Qv Ex, prom xs G Qv Ex → xs.length = names.length)
    (body : ∀ (cd : Value) (Ar : Around) (fr : List Env) (sh : Shared) (G : Hp) (xs : List V) (Qv : VK) (Ex : XK), Room lv (Ar.deeper (envOfC qn (defScope st) sh.heap.objs.size fa cd)) → Ar.guards = some [] → prom xs G Qv Ex →
      ∃ t, PSs (cxOf CX0 Pg wd Kf gl bs slots qn (defScope st) fa cd Ar fr sh G Ex).nox (defBody st) t ∧ t { nx := fun _ G' => Qv .non G', rt := Qv } (start slots xs) G) :
    FnG Pg wd Kf gl bs CX0 (lv + 1) fa dat names prom := by
  obtain ⟨oc, od, kV, doc, pm, an, cd, ct, osl, rfl, look, code⟩ := F.ex
  refine ⟨cnt, fun Ar fr sh G ar us xs Qv Ex room noG env bind vals hp => ?_⟩
  have sz := cnt _ _ _ _ hp
  have inK : Kf.In sh.heap := env.mod.kin.keeps fun b o q => (env.bs b o q).1
  have noL : sh.heap.NoLimit := env.mod.nolimit.keeps fun b o q => (env.bs b o q).1
  have kinds : ∀ y ∈ names.zip us, (defScope st).names.lookup y.1 = some .local ∨ ((defScope st).names.lookup y.1 = some .cell ∧ ((cellsFrom (sh.heap.objs.size + 1) (defScope st).names []).lookup y.1).isSome = true) := by
    rintro ⟨n, v⟩ hy
    rcases S.par n (List.of_mem_zip hy).1 with z | z
    · exact .inl z
    · exact .inr ⟨z, PySem.W.cellsFrom_some _ _ _ (.inl z)⟩
  refine codeAny_call_function room.depth (inK _ _ look) rfl S.co S.gen rfl (PySem.W.codeRec_of inK code) (bind _ _ _ _ ?_)
  refine wpAny_newFunctionEnv_cells S.kind kinds fun en hen sh1 inC => ?_
  subst hen
  refine ⟨noL.keeps inC.toInCall.keep, codeAny_func ?_⟩
  obtain ⟨t, walk, read⟩ := body cd Ar fr sh G xs Qv Ex (room.deeper _) noG hp
  have I0 := inv_start (CX := CX0) (P := Pg) (w := wd) (K := Kf) (mg := gl) (base := bs) (E := Ex) S room.hd env sz vals inC
  refine wpAny_mono (walk.nox.run [] sh1 _ G _ I0 read) (fun fl sh2 out => ?_) fun _ _ x => x
  cases fl with
  | ret u =>
    obtain ⟨v, σ2, G2, J, rel, q⟩ := out
    exact ⟨v, G2, J.os, J.bare, J.base, J.hok, rel, q⟩
  | next =>
    obtain ⟨σ2, G2, J, q⟩ := out
    exact ⟨V.non, G2, J.os, J.bare, J.base, J.hok, (rfl : RelV V.non Value.none), q⟩
  | brk => exact out.elim fun _ z => z.elim fun _ z => z.2.elim
  | cont => exact out.elim fun _ z => z.elim fun _ z => z.2.elim

section
variable {X : Cx} {x : Str} {p pos : Pos} {e : Expr} {es : List Expr} {t : TA} {CX : CXT} {k : Nat} {f : Addr} {fd : FuncData} {ps : List Str} {sp : Sp} {ds : List Value} {dvs : List V} {E : XK}
/-- f(e, ..), f such a def -/
theorem pe_callG (F : FnG X.prog X.w X.K X.mg X.base CX k f fd ps sp) (room : Room k X.A) (noG : X.A.guards = some []) (hg : Gl X x) (hm : X.mg x = some (.ref f)) (kp : PySem.W.keepIn X.K (.ref f) = true) (bd : Binds X.K fd ps ds) (dv : Vals dvs ds) (ps' : Passes CX X E)
    (args : PA X (e :: es) t) (hdb : (x == ("__debug__" : Str)) = false := by decide) (h1 : starEach (e :: es) X.env = (false, eval e X.env) :: starEach es X.env := by rfl) (h2 : (backTo pos (starEach es X.env)).any (·.1) = false := by rfl) :
    PE X (.Call (.Name x p) (e :: es) [] pos) (tCall sp dvs E t) := by
  refine ⟨fun pins s σ H Q I rd => ?_⟩
  refine wpAny_Call_Name_kw (ld_glob I hg hm ?_ hdb)
  refine PySem.W.callWith_K (h₀ := X.base) I.ok.mod.kin kp (thn (args.run pos pins s σ H _ I rd) fun us s1 ⟨vs, H1, I1, rv, q⟩ => ⟨I1.kIn, ?_⟩) h1 h2
  have rv2 : Vals (vs ++ dvs) (us ++ ds) := rv.append dv
  have sz : (us ++ ds).length = ps.length := rv2.length.symm.trans (F.cnt _ _ _ _ q)
  refine wpAny_call (codeAny_mono (F.go X.A X.stack s1 H1 ⟨us, []⟩ _ _ Q E room noG I1.env0 (bd s1 us I1.kIn sz) rv2 q) fun r s2 out => ?_)
  match r, out with
  | .error er, out => exact ps' pins σ H1 s1 er s2 I1 out
  | .ok (.ret u), out => exact I1.after out
  | .ok .next, out => exact out.elim
  | .ok .brk, out => exact out.elim
  | .ok .cont, out => exact out.elim
end
end RepA

namespace RepA
open PySem PySem.Spec PyProof.Rows L2

/-- the law's call from the caller, over an abstract heap that holds at most the script -/
theorem from_caller {Pg : Program} {wd : World} {Kf : PySem.W.Frag} {gl mb : Str → Option Value} {cx : CXT} {lv : Nat} {fa a : Addr} {dat : FuncData} {x : Str} {prom : Sp} {sh : Shared} {ob : Obj} {n0 : Nat} {vals : Array Value}
    (inK : Kf.In sh.heap) (nG : sh.heap.Ns mainGlobals gl) (nB : sh.heap.Ns builtinsNs mb) (isB : ∀ y : Str, y ≠ "__name__" → mb y = bootBuiltins y) (noL : sh.heap.NoLimit) (noGen : sh.gens = #[]) (at_a : sh.heap.get? a = some ob) (list_a : ob.data = .seq vals n0)
    (room : Room lv callerA) (F : ∀ bs : Heap, Kf.In bs → bs.Ns mainGlobals gl → FnG Pg wd Kf gl bs cx lv fa dat [x] prom) (bd : ∀ (s : Shared) (u : Value), BindsTo s dat ⟨[u], []⟩ [(x, u)])
    (noX : ∀ G e s', cx [] G sh (fun _ _ _ => False) e s' → False) (G : Hp) (only : Only G) (keeps : HOk Pg wd G sh.heap) (justA : ∀ b, G b ≠ none → b = a) (notK : G a ≠ none → Kf.lookup a = none)
    (hp : prom [.ref a] G (fun v _ => v = .bl true) fun _ _ _ => False) :
    codeAny (model Pg wd) callerA (.call (.ref fa) ⟨[.ref a], []⟩) (fun r s' => r = .ok (.ret (.bool true)) ∧ OldK sh.heap s'.heap ∧ s'.os = sh.os ∧ AllBare s'.gens) sh := by
  have free : ∀ {b : Addr}, b ≠ a → G b = none := fun {b} ne => Classical.byContradiction fun z => ne (justA b z)
  have hides : ∀ {b : Addr} {o : Obj}, sh.heap.get? b = some o → G b = none → (hidT sh.heap G).get? b = some o := fun q z => hidT_get q z
  have ns : ∀ {b : Addr} {m : Str → Option Value}, sh.heap.Ns b m → (hidT sh.heap G).Ns b m := fun {b m} h => by
    obtain ⟨o, es, ep, q, dd, rest⟩ := h
    refine ⟨o, es, ep, hides q (free fun z => ?_), dd, rest⟩
    rw [z, at_a] at q
    cases q
    rw [list_a] at dd
    cases dd
  have inK' : Kf.In (hidT sh.heap G) := fun b o q => hides (inK b o q) (by
    rcases Option.eq_none_or_eq_some (G b) with z | ⟨u, z⟩
    · exact z
    · have ne : G b ≠ none := by rw [z]; exact fun c => nomatch c
      have ba := justA b ne
      rw [ba] at q ne
      rw [notK ne] at q
      cases q)
  have md : Mod Kf gl (hidT sh.heap G) := ⟨inK', ns nG, ⟨mb, ns nB, isB⟩, let ⟨mc, z1, z2⟩ := noL; ⟨mc, ns z1, z2⟩⟩
  have env : Env0 Pg wd Kf gl (hidT sh.heap G) callerA [] sh G := ⟨rfl, md, fun _ _ q => of_hidT q, Nat.le_of_eq (hidT_size _ _), trivial, (fun b hb => nomatch hb), keeps, .of_eq noGen⟩
  refine codeAny_mono ((F _ inK' (ns nG)).go callerA [] sh G ⟨[.ref a], []⟩ [.ref a] [.ref a] _ _ room rfl env (bd sh (.ref a)) (.cons rfl .nil) hp) fun r s' out => ?_
  match r, out with
  | .error er, out => exact (noX G er s' out).elim
  | .ok .next, out => exact out.elim
  | .ok .brk, out => exact out.elim
  | .ok .cont, out => exact out.elim
  | .ok (.ret u), out =>
    obtain ⟨v, G', hos, hbare, un, keeps', rel, ev⟩ := out
    have ev' : v = .bl true := ev
    subst ev'
    obtain rfl : u = Value.bool true := rel
    refine ⟨rfl, OldK.of_keep fun b o q => ?_, hos, hbare⟩
    rcases only b with z | ⟨o2, ys, z⟩
    · exact un.keep b o q z (fun c => nomatch c) (fun c => nomatch c)
    · obtain ⟨w1, _⟩ := keeps b _ z
      obtain ⟨w2, _⟩ := keeps' b _ (un.frzs b o2 _ z)
      rw [q] at w1
      cases w1
      exact w2

theorem law_callG {Pg : Program} {wd : World} {Kf : PySem.W.Frag} {gl mb : Str → Option Value} {cx : CXT} {lv : Nat} {fa a : Addr} {dat : FuncData} {x : Str} {prom : Sp} {sh : Shared} {vals : List Value} {ns : List Int}
    (inK : Kf.In sh.heap) (nG : sh.heap.Ns mainGlobals gl) (nB : sh.heap.Ns builtinsNs mb) (isB : ∀ y : Str, y ≠ "__name__" → mb y = bootBuiltins y) (noL : sh.heap.NoLimit) (noGen : sh.gens = #[])
    (at_a : sh.heap.get? a = some { cls := .type "list", data := .seq vals.toArray }) (inz : IntsAre vals ns) (short : ns.length ≤ sizeLine) (room : Room lv callerA)
    (F : ∀ bs : Heap, Kf.In bs → bs.Ns mainGlobals gl → FnG Pg wd Kf gl bs cx lv fa dat [x] prom) (bd : ∀ (s : Shared) (u : Value), BindsTo s dat ⟨[u], []⟩ [(x, u)])
    (hp : ∀ G : Hp, Only G → SqL Kf G a (ns.map V.int) → prom [.ref a] G (fun v _ => v = .bl true) fun _ _ _ => False) (noX : ∀ G e s', cx [] G sh (fun _ _ _ => False) e s' → False) :
    codeAny (model Pg wd) callerA (.call (.ref fa) ⟨[.ref a], []⟩) (fun r s' => r = .ok (.ret (.bool true)) ∧ OldK sh.heap s'.heap ∧ s'.os = sh.os ∧ AllBare s'.gens) sh := by
  have rv := vals_ints inz
  rcases Option.eq_none_or_eq_some (Kf.lookup a) with nk | ⟨o, isK⟩
  · let G : Hp := fun b => if b = a then some (.frz { cls := .type "list", data := .seq vals.toArray } (.lst (ns.map V.int))) else none
    have ga : G a = some (.frz { cls := .type "list", data := .seq vals.toArray } (.lst (ns.map V.int))) := if_pos rfl
    have gb : ∀ {b : Addr}, b ≠ a → G b = none := fun ne => if_neg ne
    have justA : ∀ b, G b ≠ none → b = a := fun b z => Classical.byContradiction fun ne => z (gb ne)
    have only : Only G := fun b => by
      by_cases ne : b = a
      · subst ne
        exact .inr ⟨_, _, ga⟩
      · exact .inl (gb ne)
    refine from_caller inK nG nB isB noL noGen at_a rfl room F bd noX G only (fun b u z => ?_) justA (fun _ => nk) (hp G only (.inl (.inr ⟨_, ga⟩)))
    have ba := justA b (by rw [z]; exact fun c => nomatch c)
    subst ba
    rw [ga] at z
    cases z
    exact ⟨at_a, by rw [List.length_map]; exact short, vals, _, rv, at_a⟩
  · have e := inK a o isK
    rw [at_a] at e
    cases e
    exact from_caller inK nG nB isB noL noGen at_a rfl room F bd noX (fun _ => none) (fun _ => .inl rfl) (fun b u z => nomatch z) (fun b z => absurd rfl z) (fun z => absurd rfl z)
      (hp _ (fun _ => .inl rfl) (.inr ⟨_, vals.toArray, _, isK, rfl, rfl, rfl, by rw [List.size_toArray, inz.length]; exact short, by simpa using rv⟩))

/-- the end of a law row, for a law that asks where no guard stands; the script's bits told -/
theorem walk_ofG {l : PySem.W.OpenLaw} {n lv : Nat} {q : Program} {loose : List Str} {XP : (Str → Option Value) → Heap → Prop} {YP : World → Heap → Prop} {d : DefRec} {K : Params → PySem.W.Frag} {cx : World → CXT} {prom : World → Sp} {x : Str}
    (most : l.most = some n) (short : n ≤ sizeLine) (noD : d.params.defaults = []) (room : Room lv callerA) (hY : ∀ (w : World) (h : Heap), YP w h → (K w.params).In h)
    (F : ∀ (w : World) (gl : Str → Option Value) (fa : Addr) (h : Heap), (K w.params).In h → h.Ns mainGlobals gl → gl d.name = some (.ref fa) →
      ∃ dat : FuncData, (∀ (s : Shared) (u : Value), BindsTo s dat ⟨[u], []⟩ [(x, u)]) ∧ ∀ bs : Heap, (K w.params).In bs → bs.Ns mainGlobals gl → FnG l.prog w (K w.params) gl bs (cx w) lv fa dat [x] (prom w))
    (hp : ∀ (w : World) (G : Hp) (a : Addr) (ns : List Int), ns.length ≤ n → (∀ z ∈ ns, Builtin.Int.intBits z ≤ 1048576) → Only G → SqL (K w.params) G a (ns.map V.int) → prom w [.ref a] G (fun v _ => v = .bl true) fun _ _ _ => False)
    (noX : ∀ (w : World) (G : Hp) (s : Shared) (e : Value) (s' : Shared), cx w [] G s (fun _ _ _ => False) e s' → False) :
    PySem.W.WalkO q loose XP YP l.row.toRowW d [] (fun f vs => PySem.call f vs) := by
  refine Att.attach_callB most noD fun w _ sh gl mb fa _ _ _ _ a vals ns gr y _ _ _ named at_a inz few bits noGen => ?_
  obtain ⟨dat, bd, FG⟩ := F w gl fa _ (hY w _ y) gr.T.g named
  exact law_callG (hY w _ y) gr.T.g gr.T.b gr.T.builtins gr.T.nolimit noGen at_a inz (Nat.le_trans few short) room FG bd (fun G o s => hp w G a ns few bits o s) fun G e s' => noX w G sh e s'
end RepA

/-! repr of a list of data in which dicts of one text stand too. -/
namespace RepA
open PySem PySem.Spec PyProof.Rows L2
mutual
inductive Dq (K : PySem.W.Frag) (H : Hp) : V → PyData → Prop
  | base {v : V} {d : PyData} : Dd K H v d → Dq K H v d
  | one {a : Addr} {s : Str} {x : V} {e : PyData} : H a = some (.dK [(Sum.inr s, x)]) → Dq K H x e → Dq K H (.ref a) (.dict [(.str s, e)])
  | lst {a : Addr} {xs : List V} {ds : List PyData} : SqL K H a xs → DqAll K H xs ds → Dq K H (.ref a) (.list ds)
inductive DqAll (K : PySem.W.Frag) (H : Hp) : List V → List PyData → Prop
  | nil : DqAll K H [] []
  | cons {v : V} {vs : List V} {d : PyData} {ds : List PyData} : Dq K H v d → DqAll K H vs ds → DqAll K H (v :: vs) (d :: ds)
end
/-- how a value is shown, and where it stands -/
def Shw (prog : Program) (w : World) (h : Heap) (u : Value) (d : PyData) : Prop := ∃ as bs, Reads h u d as ∧ ReadAtMost h d.depth bs ∧ ReprK prog w bs h d.depth u d.shown
def ShwAll (prog : Program) (w : World) (h : Heap) (us : List Value) (ds : List PyData) : Prop := ∃ as bs, ReadsAll h us ds as ∧ ReadAtMost h (PyData.depthAll ds) bs ∧ ReprAllK prog w bs h (PyData.depthAll ds) us (PyData.shownAll ds)
section
variable {X : Cx} {pins : List (Addr × Obj)} {σ : L2.St} {H : Hp} {s : Shared}
theorem shw_dd (I : Inv X pins σ H s) {v : V} {u : Value} {d : PyData} (h : Dd X.K H v d) (r : RelV v u) (hs : d.showable = true) (hz : d.shown.length ≤ sizeLine) : Shw X.prog X.w s.heap u d := by
  obtain ⟨as, q, n⟩ := dd_reads I h r
  obtain ⟨bs, m, k⟩ := ReprK.of_reads (prog := X.prog) (w := X.w) q hs n hz
  exact ⟨as, bs, q, m, k⟩
mutual
theorem shw_dq (I : Inv X pins σ H s) : ∀ {v : V} {u : Value} {d : PyData}, Dq X.K H v d → RelV v u → d.showable = true → d.shown.length ≤ sizeLine → Shw X.prog X.w s.heap u d
  | _, _, _, .base h, r, hs, hz => shw_dd I h r hs hz
  | _, _, _, .one (a := a) (s := z) (x := x) (e := e) ha hx, r, hs, hz => by
    rename_i u
    obtain rfl : u = Value.ref a := r
    obtain ⟨_, hn, vs, rel, dd⟩ := dk_of I.hok ha
    obtain ⟨o, es, ep, e1, e2, e3, e4⟩ := dd
    obtain ⟨en, ux, ees, ekey, eval, rx⟩ : ∃ (en : DictEntry) (ux : Value), es.toList = [en] ∧ (∃ t, en.key = .str z t) ∧ en.val = ux ∧ RelV x ux := by
      cases rel with
      | cons hd tl =>
        cases tl
        have q := e4.2.1
        generalize es.toList = l at q
        rename_i b
        obtain ⟨kb, ux⟩ := b
        obtain ⟨e5, e6⟩ := hd
        cases e5
        cases q with
        | cons p1 p2 p3 =>
          cases p3
          refine ⟨_, ux, rfl, ?_, p2, e6⟩
          rcases keyIs_shape (show keyIs (Sum.inr z) _ = true from p1) with ⟨i, t, q1, q2⟩ | ⟨y, t, q1, q2⟩
          · cases q1
          · cases q1
            exact ⟨t, q2⟩
    obtain ⟨t, ek⟩ := ekey
    have hz' : (dictText (PyData.shownKv [(.str z, e)])).length ≤ sizeLine := by simpa only [PyData.shown] using hz
    have hs2 : e.showable = true := by
      have q := (PyData.showableKv_split [(.str z, e)] (by simpa [PyData.showable] using hs)).2
      simpa [PyData.showableAll] using q
    have hs1 : (PyData.str z).showable = true := by
      have q := (PyData.showableKv_split [(.str z, e)] (by simpa [PyData.showable] using hs)).1
      simpa [PyData.showableAll] using q
    have key_le : ∀ t ∈ PyData.shownAll [PyData.str z], t.length ≤ sizeLine := fun t ht => by
      obtain ⟨p, hp, l⟩ := PyData.shownKv_key_le [(.str z, e)] t ht
      exact Nat.le_trans l (Nat.le_trans (dictText_mem_le hp) hz')
    have val_le : ∀ t ∈ PyData.shownAll [e], t.length ≤ sizeLine := fun t ht => by
      obtain ⟨p, hp, l⟩ := PyData.shownKv_val_le [(.str z, e)] t ht
      exact Nat.le_trans l (Nat.le_trans (dictText_mem_le hp) hz')
    obtain ⟨b1, m1, k1⟩ := ReprK.of_reads (prog := X.prog) (w := X.w) (Reads.str (h := s.heap) z t) hs1 (fun _ h => nomatch h) (key_le _ (by simp only [PyData.shownAll]; exact List.mem_cons_self ..))
    obtain ⟨a2, b2, q2, m2, k2⟩ := shw_dq I hx rx hs2 (val_le _ (by simp only [PyData.shownAll]; exact List.mem_cons_self ..))
    have rd : Reads s.heap (.ref a) (.dict [(.str z, e)]) _ := .dict (kvs := [(PyData.str z, e)]) e1 e2.1 e3 (by rw [ees]; show ReadsAll s.heap [en.key] [PyData.str z] _; rw [ek]; exact .cons (.str z t) .nil) (by rw [ees]; show ReadsAll s.heap [en.val] [e] _; rw [eval]; exact .cons q2 .nil)
    have hd1 : (PyData.str z).depth ≤ PyData.depthKv [(.str z, e)] := by simp only [PyData.depthKv, PyData.depth]; omega
    have hd2 : e.depth ≤ PyData.depthKv [(.str z, e)] := by simp only [PyData.depthKv]; omega
    have hb : ReadAtMost s.heap (PyData.depthKv [(.str z, e)]) (b1 ++ b2) := (m1.mono hd1).append (m2.mono hd2)
    have hna : a ∉ b1 ++ b2 := not_mem_of_deeper rd (by simp only [PyData.depth]; omega) hb
    refine ⟨_, a :: (b1 ++ b2), rd, ReadAtMost.cons rd (by simp only [PyData.depth]; omega) hb, ?_⟩
    simp only [PyData.depth, PyData.shown, PyData.shownKv]
    refine ReprK.dict e1 e2.1 e3 hn hna ?_
    rw [ees]
    refine .cons ?_ ?_ .nil
    · rw [ek]
      exact (k1.more fun b hb => List.mem_append.mpr (.inl hb)).level_le hd1
    · rw [eval]
      exact (k2.more fun b hb => List.mem_append.mpr (.inr hb)).level_le hd2
  | _, _, _, .lst (a := a) (xs := xs) (ds := ds) hl hall, r, hs, hz => by
    rename_i u
    obtain rfl : u = Value.ref a := r
    obtain ⟨its, rv, ⟨o, n, ho, hc, hne, hda⟩, hsz⟩ := I.list hl
    have hz' : (listText (PyData.shownAll ds)).length ≤ sizeLine := by simpa only [PyData.shown] using hz
    obtain ⟨as, bs, q, m, k⟩ := shw_all I hall rv (by simpa [PyData.showable] using hs) fun t ht => Nat.le_trans (listText_mem_le ht) hz'
    have rd : Reads s.heap (.ref a) (.list ds) (a :: as) := .list ho hc hda q
    have hna : a ∉ bs := not_mem_of_deeper rd (by simp only [PyData.depth]; omega) m
    refine ⟨_, a :: bs, rd, ReadAtMost.cons rd (by simp only [PyData.depth]; omega) m, ?_⟩
    simp only [PyData.depth, PyData.shown]
    cases its with
    | nil =>
      cases q
      simp only [PyData.shownAll, listText_nil]
      exact ReprK.listEmpty ho hc hda
    | cons y l => exact ReprK.list ho hc hda hna (by simpa using k.length_eq) (fun i y e => k.item i y (by simpa using e))
theorem shw_all (I : Inv X pins σ H s) : ∀ {vs : List V} {ds : List PyData} {us : List Value}, DqAll X.K H vs ds → Vals vs us → PyData.showableAll ds = true → (∀ t ∈ PyData.shownAll ds, t.length ≤ sizeLine) → ShwAll X.prog X.w s.heap us ds
  | _, _, _, .nil, .nil, _, _ => ⟨_, [], .nil, (fun _ h => nomatch h), by simp only [PyData.shownAll]; exact .nil⟩
  | _, _, _, .cons (d := d) (ds := ds) h hr, .cons r rr, hs, hz => by
    obtain ⟨s1, s2⟩ : d.showable = true ∧ PyData.showableAll ds = true := by simpa [PyData.showableAll] using hs
    obtain ⟨a1, b1, q1, m1, k1⟩ := shw_dq I h r s1 (hz _ (by simp only [PyData.shownAll]; exact List.mem_cons_self ..))
    obtain ⟨a2, b2, q2, m2, k2⟩ := shw_all I hr rr s2 fun t ht => hz t (by simp only [PyData.shownAll]; exact List.mem_cons_of_mem _ ht)
    have l1 : d.depth ≤ PyData.depthAll (d :: ds) := by simp only [PyData.depthAll]; omega
    have l2 : PyData.depthAll ds ≤ PyData.depthAll (d :: ds) := by simp only [PyData.depthAll]; omega
    refine ⟨_, b1 ++ b2, .cons q1 q2, (m1.mono l1).append (m2.mono l2), ?_⟩
    simp only [PyData.shownAll]
    exact .cons ((k1.more fun b hb => List.mem_append.mpr (.inl hb)).level_le l1) (k2.more_le (fun b hb => List.mem_append.mpr (.inr hb)) l2)
end
/-- repr of such a list, where no guard stands -/
theorem call_reprQ (hg : X.A.guards = some []) (hu : X.A.units + 64 < cLine) : CallR X (.builtin "repr") (fun xs H Q => ∃ a ys ds, xs = [V.ref a] ∧ SqL X.K H a ys ∧ DqAll X.K H ys ds ∧ PyData.showableAll ds = true ∧ PyData.depthAll ds ≤ 40 ∧
    (listText (PyData.shownAll ds)).length ≤ sizeLine ∧ Q (.str (PyData.list ds).shown) H) := by
  intro pins s σ H xs us Q I r h
  obtain ⟨a, ys, ds, rfl, hs, hd, hw, hdp, hz, q⟩ := h
  obtain ⟨u, rfl, ru⟩ := vals1 r
  obtain rfl : u = Value.ref a := ru
  obtain ⟨its, rv, ⟨o, n, ho, hc, hne, hda⟩, hsz⟩ := I.list hs
  obtain ⟨as, bs, hR, hb, hk⟩ := shw_all I hd rv hw fun t ht => Nat.le_trans (listText_mem_le ht) hz
  have rd : Reads s.heap (.ref a) (.list ds) (a :: as) := .list ho hc hda hR
  have hna : a ∉ bs := not_mem_of_deeper rd (by simp only [PyData.depth]; omega) hb
  have fin : ∀ (t tk : Nat) (h' : Heap), (∀ b o, s.heap.get? b = some o → h'.get? b = some o) → EP X pins σ Q (.str (listText (PyData.shownAll ds)) t) { s with heap := h', toks := tk } := fun t tk h' k =>
    ⟨.str _, H, I.kept k, ⟨t, rfl⟩, by simpa only [PyData.shown] using q⟩
  refine call_repr_slot (by omega) ⟨o, ho, hc⟩ PySem.F.slot_list_repr.toG ?_
  cases its with
  | nil =>
    cases hR
    exact call_list_repr_empty ⟨o, ho, hc⟩ ho hda ⟨_, _, rfl, by simpa only [PyData.shownAll, listText_nil] using fin s.toks (s.toks + 1) s.heap fun _ _ e => e⟩
  | cons x l =>
    refine call_list_reprK (h₀ := s.heap) ho hc hda hna (by simpa using hk.length_eq) (fun i y e => hk.item i y (by simpa using e)) hg (fun b _ => Clear.nil b) (by show X.A.units + 1 + (PyData.depthAll ds + 1) < cLine; omega) (fun _ _ e => e) (fun h' t tk k => ⟨_, _, rfl, fin t tk h' k⟩) hz
end
end RepA

/-! itertools.combinations(list, 2), made and drawn. -/
namespace Comb
open PySem PySem.Spec
open Sem (wp)
abbrev cName : String := "itertools.combinations"
theorem cMro : mroOf (.type "itertools.combinations") = pure [.type "itertools.combinations", .type "object"] := by rw [mroOf_type]; kernel_rfl
theorem cNew : typeLookup (.type "itertools.combinations") "__new__" = pure (some (.builtin "itertools.combinations.__new__")) := by rw [typeLookup_type, builtinLookup_eq_fast]; kernel_rfl
theorem cInit : Slot "itertools.combinations" "__init__" "object.__init__" :=
  .of (owner := "object") (n := "__init__") (by rw [typeLookup_type, builtinLookup_eq_fast]; kernel_rfl) (by decide +kernel) (by decide +kernel) (by decide +kernel) (by first | exact .inl (by decide +kernel) | exact .inr (by decide +kernel)) (by rw [isSubtype_type]; kernel_rfl)
theorem cSub : isSubtype (.type "itertools.combinations") (.type "itertools.combinations") = pure true := by rw [isSubtype_type]; kernel_rfl
theorem cCalled : TypeCalled "itertools.combinations" "itertools.combinations.__new__" "object.__init__" :=
  ⟨by decide +kernel, by decide +kernel, ⟨_, _, cMro⟩, madeBy_type cMro cNew (by decide +kernel), by decide +kernel, cSub, cInit⟩
theorem cType2 (a b : Value) : checkTypeCall "itertools.combinations" ⟨[a, b], []⟩ = pure () := by kernel_rfl
theorem cNew2 (a b : Value) : checkBuiltinCall "itertools.combinations.__new__" ⟨[.type "itertools.combinations", a, b], []⟩ = pure () := by kernel_rfl
theorem cEntryNew : entryFor table "itertools.combinations.__new__" = some Builtin.«itertools.combinations.__new__» := entryFor_of_tree (by kernel_rfl)
theorem cEntryNext : entryFor table "itertools.combinations.__next__" = some Builtin.«itertools.combinations.__next__» := entryFor_of_tree (by kernel_rfl)
theorem cEntryIter : entryFor table "itertools.combinations.__iter__" = some Builtin.«dict_keyiterator.__iter__» :=
  entryFor_alias (id' := "dict_keyiterator.__iter__") (by kernel_rfl) (by first | rfl | decide +kernel | (unfold String.splitOn; simp +decide [String.splitOnAux])) (by decide +kernel) (by kernel_rfl)
theorem cIter : Slot "itertools.combinations" "__iter__" "itertools.combinations.__iter__" :=
  .of (owner := "itertools.combinations") (n := "__iter__") (by rw [typeLookup_type, builtinLookup_eq_fast]; kernel_rfl) (by decide +kernel) (by decide +kernel) (by decide +kernel) (by first | exact .inl (by decide +kernel) | exact .inr (by decide +kernel)) cSub
theorem cNext : Slot "itertools.combinations" "__next__" "itertools.combinations.__next__" :=
  .of (owner := "itertools.combinations") (n := "__next__") (by rw [typeLookup_type, builtinLookup_eq_fast]; kernel_rfl) (by decide +kernel) (by decide +kernel) (by decide +kernel) (by first | exact .inl (by decide +kernel) | exact .inr (by decide +kernel)) cSub
theorem cOwner : Manifest.owners.lookup (String.ofList "snoitanibmoc.slootreti".toList.reverse) = some Manifest.sig_itertools_combinations := by kernel_rfl
theorem cArgsIter (a : Value) : argsOk "itertools.combinations.__iter__" ⟨[a], []⟩ := by
  unfold argsOk
  rw [signature?_of (id := "itertools.combinations.__iter__") (n := ['_', '_', 'r', 'e', 't', 'i', '_', '_']) (o := "snoitanibmoc.slootreti".toList) (by kernel_rfl) cOwner]
  kernel_rfl
theorem cArgsNext (a : Value) : argsOk "itertools.combinations.__next__" ⟨[a], []⟩ := by
  unfold argsOk
  rw [signature?_of (id := "itertools.combinations.__next__") (n := ['_', '_', 't', 'x', 'e', 'n', '_', '_']) (o := "snoitanibmoc.slootreti".toList) (by kernel_rfl) cOwner]
  kernel_rfl
theorem cNoDict : typeHasDict (.type "itertools.combinations") = false := by decide +kernel

/-- such an object: its pool, its state, what it handed out last, its places -/
def recC (pool : Addr) (st : Int) (last : Value) (i j : Int) : Obj := { cls := .type "itertools.combinations", dict := none, data := .fields #[.ref pool, rawInt st, last, rawInt i, rawInt j], slots := #[] }
abbrev IsC (h : Heap) (it pool : Addr) (st : Int) (last : Value) (i j : Int) : Prop := h.get? it = some (recC pool st last i j)
def tupO (xs : Array Value) : Obj := { cls := .type "tuple", data := .seq xs }

end Comb

namespace Comb
open PySem PySem.Spec
open Sem (wp)
theorem joinName : "itertools." ++ "combinations" = "itertools.combinations" := by decide
theorem new_meets (l : Addr) (o : Obj) (items : Array Value) (n : Nat) (t : Tok) (hc : o.cls = .type "list") (hd : o.data = .seq items n) (hsz : items.size ≤ sizeLine) :
    Meets (Builtin.«itertools.combinations.__new__» ⟨[.type "itertools.combinations", .ref l, .int 2 t], []⟩)
      (fun _ R s => s.heap.get? l = some o ∧ ∀ h' : Heap, (∀ b u, s.heap.get? b = some u → h'.get? b = some u) → R (.ok (.ret (.ref (h'.objs.size + 1)))) { s with heap := (h'.push (tupO items)).push (recC h'.objs.size (if 2 > items.size then 2 else 0) .none 0 1) }) :=
  .of_wp fun prog w A R s h => by
    obtain ⟨hp, g, dd, tk, os⟩ := s
    obtain ⟨at_l, h⟩ := h
    have hsub := cSub
    have hdic := cNoDict
    have hT : Shared.TypeIs ⟨hp, g, dd, tk, os⟩ (.ref l) "list" := ⟨o, at_l, hc⟩
    unfold Builtin.«itertools.combinations.__new__»
    repeat (first
      | (with_reducible refine wpAny_collect_seq (hsz := hsz) l (.inl rfl) at_l hc hd fun h' keep => ?_)
      | wp_step
      | (rw [joinName]))
    refine ⟨_, rfl, ?_⟩
    have e1 : items.toList.toArray = items := by simp
    have e2 : (h'.push (tupO items)).objs.size = h'.objs.size + 1 := Heap.size_push ..
    have e3 : items.toList.length = items.size := by simp
    rw [e1, e3]
    have q := h h' keep
    rw [← e2] at q
    exact q

end Comb

namespace Comb
open PySem PySem.Spec
open Sem (wp)
section
variable {prog : Program} {w : World} {A : Around} {E : Value → Shared → Prop} {s : Shared}
/-- combinations(l, 2): the heap grows by what is kept, then by the pool and the record -/
theorem call_comb {l : Addr} {o : Obj} {items : Array Value} {n : Nat} {t : Tok} {Q : Value → Shared → Prop} (at_l : s.heap.get? l = some o) (hc : o.cls = .type "list") (hd : o.data = .seq items n) (hsz : items.size ≤ sizeLine)
    (h : ∀ h1 : Heap, (∀ b u, s.heap.get? b = some u → h1.get? b = some u) → Q (.ref (h1.objs.size + 1)) { s with heap := (h1.push (tupO items)).push (recC h1.objs.size (if 2 > items.size then 2 else 0) .none 0 1) }) :
    wpAny (model prog w) A (call (.type "itertools.combinations") [.ref l, .int 2 t]) Q E s := by
  refine callType_new cCalled (by decide +kernel) (cType2 _ _) (cNew2 _ _) (fun obj => F.args_object_init_3 obj _ _) cEntryNew (new_meets l o items n t hc hd hsz) ?_
  refine ⟨at_l, fun h1 keep => ⟨⟨recC h1.objs.size (if 2 > items.size then 2 else 0) .none 0 1, ?_, rfl⟩, h h1 keep⟩⟩
  have sz : (h1.push (tupO items)).objs.size = h1.objs.size + 1 := Heap.size_push ..
  show Heap.get? _ (h1.objs.size + 1) = some (recC h1.objs.size (if 2 > items.size then 2 else 0) .none 0 1)
  rw [← sz]
  exact Heap.get?_push_size _ rfl
theorem iter_comb {it pool : Addr} {st i j : Int} {last : Value} {Q : Value → Shared → Prop} (hit : IsC s.heap it pool st last i j) (h : Q (.ref it) s) : wpAny (model prog w) A (pyIter (.ref it)) Q E s := by
  have hT : s.TypeIs (.ref it) "itertools.combinations" := ⟨_, hit, rfl⟩
  refine wpAny_pyIter_slot hT cIter (wpAny_call_entry cIter hT cEntryIter ?_ (cArgsIter _))
  show wpAny _ _ (ret (.ref it)) _ _ s
  exact wpAny_pure ⟨_, rfl, "itertools.combinations", _, hT, cNext.lookup, h⟩

theorem apart {h : Heap} {it pool : Addr} {st i j : Int} {last : Value} {items : Array Value} (hit : IsC h it pool st last i j) (hp : h.get? pool = some (tupO items)) : it ≠ pool := fun e => by
  rw [e] at hit
  have z : Value.type "tuple" = Value.type "itertools.combinations" := congrArg Obj.cls (Option.some.inj (hp.symm.trans hit))
  exact absurd (Value.type.inj z) (by decide)
/-- what is handed out is laid, then held by the record -/
theorem handed {h U : Heap} {it pool : Addr} {last : Value} {i j : Int} {xs : Array Value} (hU : IsC U it pool 1 last i j) (keep : ∀ b, b ≠ it → U.get? b = h.get? b) (sz : U.objs.size = h.objs.size) :
    (∀ b, b ≠ it → ∀ u, h.get? b = some u → ((U.push (tupO xs)).update it (Obj.mapFields fun x => x.setIfInBounds 2 (.ref U.objs.size))).get? b = some u) ∧
    ((U.push (tupO xs)).update it (Obj.mapFields fun x => x.setIfInBounds 2 (.ref U.objs.size))).get? h.objs.size = some (tupO xs) ∧
    IsC ((U.push (tupO xs)).update it (Obj.mapFields fun x => x.setIfInBounds 2 (.ref U.objs.size))) it pool 1 (.ref h.objs.size) i j := by
  have lt : it < U.objs.size := Heap.lt_size hU
  refine ⟨fun b ne u q => ?_, ?_, ?_⟩
  · exact (Heap.get?_update_other _ _ ne.symm).trans (Heap.get?_push_of_some _ ((keep b ne).trans q))
  · rw [← sz]
    exact (Heap.get?_update_other _ _ (Nat.ne_of_lt lt)).trans (Heap.get?_push_size _ rfl)
  · rw [← sz]
    exact Heap.get?_update_self _ (Heap.get?_push_of_some _ hU) rfl
theorem next_first {it pool : Addr} {last : Value} {items : Array Value} {n : Nat} {Q : Option Value → Shared → Prop} (hit : IsC s.heap it pool 0 last 0 1) (hp : s.heap.get? pool = some (tupO items)) (h2 : 2 ≤ items.size)
    (hQ : ∀ h', (∀ b, b ≠ it → ∀ u, s.heap.get? b = some u → h'.get? b = some u) → h'.get? s.heap.objs.size = some (tupO #[items.getD 0 .none, items.getD 1 .none]) → IsC h' it pool 1 (.ref s.heap.objs.size) 0 1 → Q (some (.ref s.heap.objs.size)) { s with heap := h' }) :
    wpAny (model prog w) A (pyNext (.ref it)) Q E s := by
  have hT : s.TypeIs (.ref it) "itertools.combinations" := ⟨_, hit, rfl⟩
  unfold pyNext
  refine wpAny_bind (wpAny_attempt (wpAny_callSpecial?_slot (name := Str.ofString "__next__") hT cNext (wpAny_call_entry cNext hT cEntryNext ?_ (cArgsNext _))))
  unfold Builtin.«itertools.combinations.__next__»
  have nip := apart hit hp
  have hp1 : (s.heap.update it (Obj.mapFields fun x => x.setIfInBounds 1 (rawInt 1))).get? pool = some (tupO items) := (Heap.get?_update_other _ _ nip).trans hp
  have hit1 : IsC (s.heap.update it (Obj.mapFields fun x => x.setIfInBounds 1 (rawInt 1))) it pool 1 last 0 1 := Heap.get?_update_self _ hit rfl
  repeat wp_step
  obtain ⟨q1, q2, q3⟩ := handed (xs := #[items.getD 0 .none, items.getD 1 .none]) hit1 (h := s.heap) (fun b ne => Heap.get?_update_other _ _ ne.symm) (Heap.size_update ..)
  refine ⟨_, rfl, wpAny_pure ?_⟩
  have z := hQ _ q1 q2 q3
  rw [show (s.heap.update it (Obj.mapFields fun x => x.setIfInBounds 1 (rawInt 1))).objs.size = s.heap.objs.size from Heap.size_update ..] at z ⊢
  exact z
end
end Comb

namespace Comb
open PySem PySem.Spec
open Sem (wp)
section
variable {prog : Program} {w : World} {A : Around} {E : Value → Shared → Prop} {s : Shared}
theorem next_more {it pool : Addr} {last : Value} {items : Array Value} {i j i' j' : Nat} {Q : Option Value → Shared → Prop} (hit : IsC s.heap it pool 1 last i j) (hp : s.heap.get? pool = some (tupO items))
    (hn : (match (List.range 2).reverse.find? fun k => [i, j].getD k 0 != k + items.size - 2 with | none => none | some k => some ([i, j].take k ++ (List.range (2 - k)).map ([i, j].getD k 0 + 1 + ·))) = some [i', j'])
    (hQ : ∀ h', (∀ b, b ≠ it → ∀ u, s.heap.get? b = some u → h'.get? b = some u) → h'.get? s.heap.objs.size = some (tupO #[items.getD i' .none, items.getD j' .none]) → IsC h' it pool 1 (.ref s.heap.objs.size) i' j' → Q (some (.ref s.heap.objs.size)) { s with heap := h' }) :
    wpAny (model prog w) A (pyNext (.ref it)) Q E s := by
  have hT : s.TypeIs (.ref it) "itertools.combinations" := ⟨_, hit, rfl⟩
  unfold pyNext
  refine wpAny_bind (wpAny_attempt (wpAny_callSpecial?_slot (name := Str.ofString "__next__") hT cNext (wpAny_call_entry cNext hT cEntryNext ?_ (cArgsNext _))))
  unfold Builtin.«itertools.combinations.__next__»
  repeat wp_step
  split
  · rename_i next hnx
    obtain rfl : next = [i', j'] := Option.some.inj (hnx.symm.trans hn)
    have nip := apart hit hp
    have hp1 : (s.heap.update it (Obj.mapFields fun x => x.extract 0 3 ++ (List.map (fun (n : Nat) => rawInt n) [i', j']).toArray)).get? pool = some (tupO items) := (Heap.get?_update_other _ _ nip).trans hp
    have hit1 : IsC (s.heap.update it (Obj.mapFields fun x => x.extract 0 3 ++ (List.map (fun (n : Nat) => rawInt n) [i', j']).toArray)) it pool 1 last i' j' := Heap.get?_update_self _ hit rfl
    repeat wp_step
    obtain ⟨q1, q2, q3⟩ := handed (xs := #[items.getD i' .none, items.getD j' .none]) hit1 (h := s.heap) (fun b ne => Heap.get?_update_other _ _ ne.symm) (Heap.size_update ..)
    refine ⟨_, rfl, wpAny_pure ?_⟩
    have z := hQ _ q1 q2 q3
    rw [show (s.heap.update it (Obj.mapFields fun x => x.extract 0 3 ++ (List.map (fun (n : Nat) => rawInt n) [i', j']).toArray)).objs.size = s.heap.objs.size from Heap.size_update ..] at z ⊢
    exact z
  · rename_i hnx
    cases hnx.symm.trans hn
theorem next_end {it pool : Addr} {last : Value} {items : Array Value} {i j : Nat} {Q : Option Value → Shared → Prop} (hh : A.handled = none) (hit : IsC s.heap it pool 1 last i j) (hp : s.heap.get? pool = some (tupO items))
    (hn : (match (List.range 2).reverse.find? fun k => [i, j].getD k 0 != k + items.size - 2 with | none => none | some k => some ([i, j].take k ++ (List.range (2 - k)).map ([i, j].getD k 0 + 1 + ·))) = none)
    (hQ : ∀ h', Heap.ExtBut it s.heap h' → Q none { s with heap := h' }) : wpAny (model prog w) A (pyNext (.ref it)) Q E s := by
  have hT : s.TypeIs (.ref it) "itertools.combinations" := ⟨_, hit, rfl⟩
  unfold pyNext
  refine wpAny_bind (wpAny_attempt (wpAny_callSpecial?_slot (name := Str.ofString "__next__") hT cNext (wpAny_call_entry cNext hT cEntryNext ?_ (cArgsNext _))))
  unfold Builtin.«itertools.combinations.__next__»
  repeat wp_step
  split
  · rename_i next hnx
    cases hn.symm.trans hnx
  · repeat wp_step
    simp only [raiseNew]; refine wpAny_bind (wpAny_handled ?_); rw [show A.in1.handled = none from hh]
    refine wpAny_bind (wpAny_pure (wpAny_throw ?_)); refine wpAny_bind (wpAny_isInstance (T := "StopIteration") (b := true) ⟨_, Heap.get?_push_size _ rfl, rfl⟩ isSubtype_stop ?_)
    exact wpAny_pure (hQ _ (fun b u ne q => Heap.get?_push_of_some _ (Heap.get?_push_of_some _ ((Heap.get?_update_other _ _ (Ne.symm ne)).trans q))))
theorem next_none {it pool : Addr} {last : Value} {items : Array Value} {i j : Nat} {Q : Option Value → Shared → Prop} (hh : A.handled = none) (hit : IsC s.heap it pool 2 last i j) (hp : s.heap.get? pool = some (tupO items))
    (hQ : ∀ h', Heap.ExtBut it s.heap h' → Q none { s with heap := h' }) : wpAny (model prog w) A (pyNext (.ref it)) Q E s := by
  have hT : s.TypeIs (.ref it) "itertools.combinations" := ⟨_, hit, rfl⟩
  unfold pyNext
  refine wpAny_bind (wpAny_attempt (wpAny_callSpecial?_slot (name := Str.ofString "__next__") hT cNext (wpAny_call_entry cNext hT cEntryNext ?_ (cArgsNext _))))
  unfold Builtin.«itertools.combinations.__next__»
  repeat wp_step
  simp only [raiseNew]; refine wpAny_bind (wpAny_handled ?_); rw [show A.in1.handled = none from hh]
  refine wpAny_bind (wpAny_pure (wpAny_throw ?_)); refine wpAny_bind (wpAny_isInstance (T := "StopIteration") (b := true) ⟨_, Heap.get?_push_size _ rfl, rfl⟩ isSubtype_stop ?_)
  exact wpAny_pure (hQ _ (((Heap.ExtBut.refl it s.heap).push _).push _))
end
end Comb

namespace Comb
open PySem PySem.Spec PyProof.Rows L2
/-! ### the pairs of places, in their sequence -/
def rows : Nat → Nat → List (Nat × Nat)
  | 0, _ => []
  | k + 1, i => (List.range (k + 1)).map (fun d => (i, i + 1 + d)) ++ rows k (i + 1)
def prs (n : Nat) : List (Nat × Nat) := rows (n - 1) 0
def nx (n i j : Nat) : Option (Nat × Nat) := if j + 1 < n then some (i, j + 1) else if i + 2 < n then some (i + 1, i + 2) else none
theorem rows_zero (k i : Nat) : (rows (k + 1) i)[0]? = some (i, i + 1) := by
  unfold rows
  rw [List.getElem?_append_left (by rw [List.length_map, List.length_range]; omega), List.getElem?_map, List.getElem?_range (Nat.succ_pos k)]
  rfl
theorem rows_step : ∀ (k i t a b : Nat), (rows k i)[t]? = some (a, b) → a < b ∧ b < i + 1 + k ∧ (rows k i)[t + 1]? = nx (i + 1 + k) a b
  | 0, _, _, _, _, h => by
    unfold rows at h
    rw [List.getElem?_nil] at h
    cases h
  | k + 1, i, t, a, b, h => by
    unfold rows at h ⊢
    have len : ((List.range (k + 1)).map (fun d => (i, i + 1 + d))).length = k + 1 := by rw [List.length_map, List.length_range]
    rcases Nat.lt_or_ge t (k + 1) with lt | ge
    · rw [List.getElem?_append_left (by omega), List.getElem?_map, List.getElem?_range lt] at h
      have h' : (i, i + 1 + t) = (a, b) := Option.some.inj h
      obtain ⟨rfl, rfl⟩ := Prod.mk.inj h'
      refine ⟨by omega, by omega, ?_⟩
      rcases Nat.lt_or_ge (t + 1) (k + 1) with l2 | g2
      · rw [List.getElem?_append_left (by omega), List.getElem?_map, List.getElem?_range l2]
        unfold nx
        rw [if_pos (by omega)]
        rfl
      · have et : t = k := by omega
        subst et
        rw [List.getElem?_append_right (by omega), len, Nat.sub_self]
        unfold nx
        rw [if_neg (by omega)]
        cases t with
        | zero =>
          rw [if_neg (by omega)]
          rfl
        | succ m =>
          rw [if_pos (by omega)]
          exact rows_zero m (i + 1)
    · rw [List.getElem?_append_right (by omega), len] at h
      obtain ⟨h1, h2, h3⟩ := rows_step k (i + 1) (t - (k + 1)) a b h
      refine ⟨h1, by omega, ?_⟩
      rw [List.getElem?_append_right (by omega), len, show t + 1 - (k + 1) = t - (k + 1) + 1 by omega, h3]
      congr 1
      omega
theorem prs_step {n t a b : Nat} (h : (prs n)[t]? = some (a, b)) : a < b ∧ b < n ∧ (prs n)[t + 1]? = nx n a b := by
  obtain ⟨h1, h2, h3⟩ := rows_step (n - 1) 0 t a b h
  have hn : 0 + 1 + (n - 1) = n := by omega
  rw [hn] at h2 h3
  exact ⟨h1, h2, h3⟩
theorem rows_mem : ∀ (k i a b : Nat), (a, b) ∈ rows k i ↔ i ≤ a ∧ a < b ∧ b < i + 1 + k
  | 0, i, a, b => by
    unfold rows
    constructor
    · intro h
      cases h
    · rintro ⟨h1, h2, h3⟩
      omega
  | k + 1, i, a, b => by
    unfold rows
    rw [List.mem_append, rows_mem k (i + 1) a b, List.mem_map]
    constructor
    · rintro (⟨d, hd, e⟩ | h)
      · have := List.mem_range.mp hd
        obtain ⟨rfl, rfl⟩ := Prod.mk.inj e
        omega
      · omega
    · rintro ⟨h1, h2, h3⟩
      rcases Nat.eq_or_lt_of_le h1 with e | l
      · exact .inl ⟨b - (i + 1), List.mem_range.mpr (by omega), by rw [← e]; congr 1; omega⟩
      · exact .inr ⟨l, h2, by omega⟩
theorem prs_mem {n a b : Nat} : (a, b) ∈ prs n ↔ a < b ∧ b < n := by
  unfold prs
  rw [rows_mem]
  omega
theorem rows_len : ∀ k i, (rows k i).length ≤ k * k
  | 0, i => Nat.zero_le _
  | k + 1, i => by
    unfold rows
    rw [List.length_append, List.length_map, List.length_range]
    have := rows_len k (i + 1)
    have e : (k + 1) * (k + 1) = k * k + k + (k + 1) := by rw [Nat.succ_mul, Nat.mul_succ]
    omega
theorem prs_none {n : Nat} (h : n < 2) : prs n = [] := by
  unfold prs
  rw [show n - 1 = 0 by omega]
  rfl
theorem prs_zero {n : Nat} (h : 2 ≤ n) : (prs n)[0]? = some (0, 1) := by
  unfold prs
  obtain ⟨m, rfl⟩ : ∃ m, n = m + 2 := ⟨n - 2, by omega⟩
  exact rows_zero m 0
/-- the model's own step is this one -/
theorem nx_some {n i j a b : Nat} (hi : i < j) (hj : j < n) (h : nx n i j = some (a, b)) :
    (match (List.range 2).reverse.find? fun k => [i, j].getD k 0 != k + n - 2 with | none => none | some k => some ([i, j].take k ++ (List.range (2 - k)).map ([i, j].getD k 0 + 1 + ·))) = some [a, b] := by
  have e : (List.range 2).reverse = [1, 0] := rfl
  rw [e]
  unfold nx at h
  by_cases h1 : j + 1 < n
  · rw [if_pos h1] at h
    cases h
    have z : ([i, j].getD 1 0 != 1 + n - 2) = true := by
      show (j != 1 + n - 2) = true
      rw [bne_iff_ne]
      omega
    rw [List.find?_cons_of_pos (p := fun k => [i, j].getD k 0 != k + n - 2) (a := 1) z]
    rfl
  · rw [if_neg h1] at h
    have z : ¬ ([i, j].getD 1 0 != 1 + n - 2) = true := by
      show ¬ (j != 1 + n - 2) = true
      rw [bne_iff_ne]
      omega
    by_cases h2 : i + 2 < n
    · rw [if_pos h2] at h
      cases h
      have z2 : ([i, j].getD 0 0 != 0 + n - 2) = true := by
        show (i != 0 + n - 2) = true
        rw [bne_iff_ne]
        omega
      rw [List.find?_cons_of_neg (p := fun k => [i, j].getD k 0 != k + n - 2) (a := 1) z, List.find?_cons_of_pos (p := fun k => [i, j].getD k 0 != k + n - 2) (a := 0) z2]
      rfl
    · rw [if_neg h2] at h
      cases h
theorem nx_none {n i j : Nat} (hi : i < j) (hj : j < n) (h : nx n i j = none) :
    (match (List.range 2).reverse.find? fun k => [i, j].getD k 0 != k + n - 2 with | none => none | some k => some ([i, j].take k ++ (List.range (2 - k)).map ([i, j].getD k 0 + 1 + ·))) = none := by
  have e : (List.range 2).reverse = [1, 0] := rfl
  rw [e]
  unfold nx at h
  by_cases h1 : j + 1 < n
  · rw [if_pos h1] at h
    cases h
  · rw [if_neg h1] at h
    by_cases h2 : i + 2 < n
    · rw [if_pos h2] at h
      cases h
    · have z : ¬ ([i, j].getD 1 0 != 1 + n - 2) = true := by
        show ¬ (j != 1 + n - 2) = true
        rw [bne_iff_ne]
        omega
      have z2 : ¬ ([i, j].getD 0 0 != 0 + n - 2) = true := by
        show ¬ (i != 0 + n - 2) = true
        rw [bne_iff_ne]
        omega
      rw [List.find?_cons_of_neg (p := fun k => [i, j].getD k 0 != k + n - 2) (a := 1) z, List.find?_cons_of_neg (p := fun k => [i, j].getD k 0 != k + n - 2) (a := 0) z2]
      rfl
end Comb

namespace Comb
open PySem PySem.Spec PyProof.Rows L2
/-- the pairs of these values, as new tuples -/
def Itcb (xs : List V) : It :=
  ⟨fun t _ => t < (prs xs.length).length,
    fun t H v H' => ∃ T i j x y, v = .ref T ∧ H T = none ∧ H' = upd H T (.tup [x, y]) ∧ (prs xs.length)[t]? = some (i, j) ∧ xs[i]? = some x ∧ xs[j]? = some y,
    fun t _ => (prs xs.length).length ≤ t⟩
def Stt (it pool : Addr) (items : Array Value) (t : Nat) (h : Heap) : Prop :=
  h.get? pool = some (tupO items) ∧ ((t = 0 ∧ IsC h it pool (if 2 > items.size then 2 else 0) .none 0 1) ∨ ∃ (u i j : Nat) (last : Value), t = u + 1 ∧ (prs items.size)[u]? = some (i, j) ∧ IsC h it pool 1 last i j)
theorem turn_comb {P : Program} {w : World} {K : PySem.W.Frag} {tg : Expr} {xs : List V} {its : List Value} (rv : Vals xs its) (it pool : Addr) (lt : pool < it) : Turn P w K tg (Itcb xs) [it, pool] it (Stt it pool its.toArray) where
  mem := by simp
  obj := fun t h st b hb => by
    obtain ⟨hp, st⟩ := st
    have e : b = it ∨ b = pool := by simpa using hb
    rcases e with e | e
    · rw [e]
      rcases st with ⟨_, c⟩ | ⟨_, _, _, _, _, _, c⟩ <;> exact ⟨_, c, fun v q => nomatch q⟩
    · rw [e]
      exact ⟨_, hp, fun v q => nomatch q⟩
  keep := fun t h h' st k => by
    obtain ⟨hp, st⟩ := st
    refine ⟨k pool (by simp) _ hp, ?_⟩
    rcases st with ⟨e, c⟩ | ⟨u, i, j, last, e, hu, c⟩
    · exact .inl ⟨e, k it (by simp) _ c⟩
    · exact .inr ⟨u, i, j, last, e, hu, k it (by simp) _ c⟩
  item := by
    intro X hP hw hK hc t pins s σ H E I hf st hg
    subst hP hw hK
    obtain ⟨hp, st⟩ := st
    have len := rv.length
    have sz : its.toArray.size = xs.length := by rw [List.size_toArray, len]
    -- what comes of the pair (i, j)
    have out : ∀ (i j : Nat) (h' : Heap), (prs xs.length)[t]? = some (i, j) → (∀ b, b ≠ it → ∀ u, s.heap.get? b = some u → h'.get? b = some u) → h'.get? s.heap.objs.size = some (tupO #[its.toArray.getD i .none, its.toArray.getD j .none]) →
        IsC h' it pool 1 (.ref s.heap.objs.size) i j → ∃ u, some (Value.ref s.heap.objs.size) = some u ∧
        wpAny (model X.prog X.w) X.A (letOwnedTupleGo tg (.ref it) u) (fun _ s2 => ∃ x H', Inv X pins σ H' s2 ∧ RelV x u ∧ (Itcb xs).yld t H x H' ∧ Stt it pool its.toArray (t + 1) s2.heap ∧ ∀ b ∈ [it, pool], H' b = none) E { s with heap := h' } := by
      intro i j h' ht keep new rec
      obtain ⟨l1, l2, _⟩ := prs_step ht
      have hx : xs[i]? = some xs[i] := List.getElem?_eq_getElem (by omega)
      have hy : xs[j]? = some xs[j] := List.getElem?_eq_getElem (by omega)
      obtain ⟨u1, hu1, r1⟩ := rv.get hx
      obtain ⟨u2, hu2, r2⟩ := rv.get hy
      have g1 : its.toArray.getD i .none = u1 := by
        rw [Array.getD_eq_getD_getElem?, List.getElem?_toArray, hu1]
        rfl
      have g2 : its.toArray.getD j .none = u2 := by
        rw [Array.getD_eq_getD_getElem?, List.getElem?_toArray, hu2]
        rfl
      rw [g1, g2] at new
      have obj : ObjOk X.prog X.w (upd H s.heap.objs.size (.tup [xs[i], xs[j]])) h' s.heap.objs.size (.tup [xs[i], xs[j]]) :=
        ⟨by show 2 ≤ sizeLine; decide, [u1, u2], .cons r1 (.cons r2 .nil), ⟨_, new, rfl, _, rfl⟩⟩
      have I1 : Inv X pins σ (upd H s.heap.objs.size (.tup [xs[i], xs[j]])) { s with heap := h' } :=
        I.turnedNew (t' := s.toks) (ch := [it, pool]) (fun c o hb q => keep c (fun z => hb (by simp [z])) o q) hf (Nat.le_refl _) obj
      refine ⟨_, rfl, go_of (s := { s with heap := h' }) rec rfl rfl (by decide) ⟨.ref s.heap.objs.size, _, I1, rfl, ⟨_, i, j, _, _, rfl, I.hok.fresh (Nat.le_refl _), rfl, ht, hx, hy⟩, ⟨keep pool (Nat.ne_of_lt lt) _ hp, .inr ⟨t, i, j, _, rfl, by rw [sz]; exact ht, rec⟩⟩, fun c hcm => ?_⟩⟩
      have small : c < s.heap.objs.size := by
        have e : c = it ∨ c = pool := by simpa using hcm
        have hit : it < s.heap.objs.size := by
          rcases st with ⟨_, c⟩ | ⟨_, _, _, _, _, _, c⟩ <;> exact Heap.lt_size c
        rcases e with e | e
        · rw [e]; exact hit
        · rw [e]; exact Nat.lt_trans lt hit
      rw [upd_ne (Nat.ne_of_lt small)]
      exact (hf c hcm).1
    have hg' : t < (prs xs.length).length := hg
    obtain ⟨⟨i, j⟩, hij⟩ : ∃ q, (prs xs.length)[t]? = some q := ⟨_, List.getElem?_eq_getElem hg'⟩
    rcases st with ⟨e, c⟩ | ⟨u, i0, j0, last, e, hu, c⟩
    · subst e
      have h2 : 2 ≤ xs.length := by
        rcases Nat.lt_or_ge xs.length 2 with z | z
        · rw [prs_none z] at hg'
          cases hg'
        · exact z
      rw [prs_zero h2] at hij
      cases hij
      rw [sz, if_neg (by omega)] at c
      exact next_first (n := 0) c hp (by rw [sz]; exact h2) fun h' k new rec => out 0 1 h' (prs_zero h2) k new rec
    · subst e
      rw [sz] at hu
      obtain ⟨l1, l2, l3⟩ := prs_step hu
      refine next_more c hp (nx_some l1 (by rw [sz]; exact l2) (by rw [sz, ← l3]; exact hij)) fun h' k new rec => out i j h' hij k new rec
  done := by
    intro X hP hw hK hc t pins s σ H E I hf st hg
    subst hP hw hK
    obtain ⟨hp, st⟩ := st
    have len := rv.length
    have sz : its.toArray.size = xs.length := by rw [List.size_toArray, len]
    have hg' : (prs xs.length).length ≤ t := hg
    obtain ⟨f0, f1, f2, f3, f4, f5⟩ := hf it (by simp)
    have fin : ∀ h', Heap.ExtBut it s.heap h' → (none : Option Value) = none ∧ Inv X pins σ H { s with heap := h' } := fun h' eb => ⟨rfl, I.turned (t' := s.toks) (fun b o hb e => eb b o hb e) f0 f1 f3 f4 f5⟩
    rcases st with ⟨e, c⟩ | ⟨u, i0, j0, last, e, hu, c⟩
    · subst e
      have h2 : xs.length < 2 := by
        rcases Nat.lt_or_ge xs.length 2 with z | z
        · exact z
        · have := prs_zero z
          rw [List.getElem?_eq_none hg'] at this
          cases this
      rw [sz, if_pos (by omega)] at c
      exact next_none (i := 0) (j := 1) (I.ok.hd hc) c hp fin
    · subst e
      rw [sz] at hu
      obtain ⟨l1, l2, l3⟩ := prs_step hu
      rw [List.getElem?_eq_none hg'] at l3
      exact next_end (I.ok.hd hc) c hp (nx_none l1 (by rw [sz]; exact l2) (by rw [sz]; exact l3.symm)) fin
  self := fun A t s Q E st h => by
    obtain ⟨hp, st⟩ := st
    rcases st with ⟨_, c⟩ | ⟨_, _, _, _, _, _, c⟩ <;> exact iter_comb c h

section
variable {X : Cx} {tg : Expr}
def iComb (K : PySem.W.Frag) (ta : TA) : TI := fun σ H R => ta σ H fun vs H1 => ∃ a xs, vs = [.ref a, .int 2] ∧ SqL K H1 a xs ∧ R (Itcb xs) H1
theorem pi_comb {x : Str} {e e2 : Expr} {ta : TA} {p pos : Pos} (hg : Gl X x) (hm : X.mg x = some (.type "itertools.combinations")) (ha : PA X [e, e2] ta) (hdb : (x == ("__debug__" : Str)) = false := by decide)
    (hs : starEach [e, e2] X.env = (false, eval e X.env) :: starEach [e2] X.env := by rfl) (hpl : (backTo pos (starEach [e2] X.env)).any (·.1) = false := by rfl) :
    PI X tg (.Call (.Name x p) [e, e2] [] pos) (iComb X.K ta) := by
  refine ⟨fun pins s σ H R I h => ?_⟩
  refine wpAny_Call_Name_kw (ld_glob I hg hm ?_ hdb)
  refine PyProof.Rows.callWith_type1 (thn (ha.run pos pins s σ H _ I h) fun us s1 ⟨vs, H1, I1, r1, q1⟩ => ?_) hs hpl
  obtain ⟨a, xs, rfl, hq, q⟩ := q1
  obtain ⟨u1, u2, rfl, e1, ⟨t, rfl⟩⟩ := vals2 r1
  obtain rfl : u1 = Value.ref a := e1
  obtain ⟨its, rv, ⟨o, n, ho, hcl, hne, hda⟩, hz⟩ := I1.list hq
  have len := rv.length
  refine call_comb ho hcl hda (by rw [List.size_toArray, ← len]; exact hz) fun h1 keep => ?_
  have J0 : Inv X pins σ H1 { s1 with heap := h1 } := I1.kept (t' := s1.toks) keep
  have sz1 : (h1.push (tupO its.toArray)).objs.size = h1.objs.size + 1 := Heap.size_push ..
  have g1 : ((h1.push (tupO its.toArray)).push (recC h1.objs.size (if 2 > its.toArray.size then 2 else 0) .none 0 1)).get? h1.objs.size = some (tupO its.toArray) := Heap.get?_push_of_some _ (Heap.get?_push_size _ rfl)
  have g2 : ((h1.push (tupO its.toArray)).push (recC h1.objs.size (if 2 > its.toArray.size then 2 else 0) .none 0 1)).get? (h1.objs.size + 1) = some (recC h1.objs.size (if 2 > its.toArray.size then 2 else 0) .none 0 1) := by
    rw [← sz1]
    exact Heap.get?_push_size _ rfl
  refine iter_comb (s := { s1 with heap := _ }) g2 ?_
  have J1 : Inv X pins σ H1 { s1 with heap := (h1.push (tupO its.toArray)).push (recC h1.objs.size (if 2 > its.toArray.size then 2 else 0) .none 0 1) } :=
    I1.kept (t' := s1.toks) fun b o z => Heap.get?_push_of_some _ (Heap.get?_push_of_some _ (keep b o z))
  refine ⟨h1.objs.size + 1, [h1.objs.size + 1, h1.objs.size], _, _, H1, rfl, J1, turn_comb rv (h1.objs.size + 1) h1.objs.size (Nat.lt_succ_self _), ⟨g1, .inl ⟨rfl, g2⟩⟩, fun b hb => ?_, q⟩
  have low : h1.objs.size ≤ b := by
    have e : b = h1.objs.size + 1 ∨ b = h1.objs.size := by simpa using hb
    rcases e with e | e
    · rw [e]; exact Nat.le_succ _
    · rw [e]; exact Nat.le_refl _
  exact J0.fpOk low (J0.hok.fresh low)

/-- a comprehension over the pairs -/
theorem lc_comb {xs : List V} {g : TG} {tt : TT} {te : TE} {vs : List Nat} {σ : L2.St} {H1 : Hp} {D : Addr} {Qd : Hp → Prop} (Pv : Nat → Hp → Prop) (h0 : Pv 0 (upd H1 D (.lst [])))
    (hs : ∀ (t i j : Nat) (x y : V) (T : Addr) (H : Hp), (prs xs.length)[t]? = some (i, j) → xs[i]? = some x → xs[j]? = some y → Pv t H → H T = none → g (.ref T) (wipe σ vs) (upd H T (.tup [x, y])) fun σ2 H2 => wipe σ2 vs = wipe σ vs ∧ tt σ2 H2 fun b H3 =>
      if b = true then te σ2 H3 fun y H4 => ∃ acc, H4 D = some (.lst acc) ∧ acc.length < sizeLine ∧ Pv (t + 1) (upd H4 D (.lst (acc ++ [y]))) else Pv (t + 1) H3) (hd : ∀ H, Pv (prs xs.length).length H → Qd H) :
    ∃ W : Nat → Nat → Hp → Prop, (∃ m, W 0 m (upd H1 D (.lst []))) ∧ ∀ t m H, W t m H →
      ((Itcb xs).stop t H ∧ Qd H) ∨ ((Itcb xs).go t H ∧ ∃ Nx : Hp → Prop, (∀ H', Nx H' → ∃ m', m' < m ∧ W (t + 1) m' H') ∧ ∀ x H', (Itcb xs).yld t H x H' → g x (wipe σ vs) H' fun σ2 H2 => wipe σ2 vs = wipe σ vs ∧ tt σ2 H2 fun b H3 =>
        if b = true then te σ2 H3 fun y H4 => ∃ acc, H4 D = some (.lst acc) ∧ acc.length < sizeLine ∧ Nx (upd H4 D (.lst (acc ++ [y]))) else Nx H3) := by
  refine ⟨fun t m H => m = (prs xs.length).length - t ∧ t ≤ (prs xs.length).length ∧ Pv t H, ⟨_, rfl, Nat.zero_le _, h0⟩, ?_⟩
  rintro t m H ⟨rfl, ht, pv⟩
  rcases Nat.lt_or_ge t (prs xs.length).length with lt | ge
  · refine .inr ⟨lt, Pv (t + 1), fun H' p' => ⟨(prs xs.length).length - (t + 1), by omega, rfl, lt, p'⟩, fun v H' y => ?_⟩
    obtain ⟨T, i, j, a, b, rfl, hT, rfl, h1, h2, h3⟩ := y
    exact hs t i j a b T H h1 h2 h3 pv hT
  · have e : t = (prs xs.length).length := by omega
    subst e
    exact .inl ⟨Nat.le_refl _, hd H pv⟩
end
end Comb

namespace SortR
open PySem PySem.Spec PyProof.Rows L2 PySem.W
/-- lists of ints by their sequence -/
def rowLe (p q : Addr × List Int) : Bool := decide (p.2 ≤ q.2)
theorem enc_alike (p q : Addr × List Int) : alike (PyData.list (p.2.map .int)) (PyData.list (q.2.map .int)) = true := by
  simp only [alike]
  exact alike_ints p.2 q.2
theorem rows_dp {K : PySem.W.Frag} {H : Hp} : ∀ ns : List Int, DpAll K H (ns.map V.int) (ns.map PyData.int)
  | [] => .nil
  | n :: ns => .cons (.int n) (rows_dp ns)
theorem vals_each {h : Heap} {K : PySem.W.Frag} {H : Hp} {P : Addr × List Int → Prop} : ∀ {bs : List (Addr × List Int)} {us : List Value}, Vals (bs.map fun b => V.ref b.1) us → (∀ b ∈ bs, P b) → EachIs (fun v b => v = Value.ref b.1 ∧ P b) us bs
  | [], us, r, _ => by
    cases r
    exact .nil
  | b :: bs, us, r, hp => by
    cases r with
    | cons r1 r2 =>
      have e : _ = Value.ref b.1 := r1
      exact .cons ⟨e, hp b List.mem_cons_self⟩ (vals_each (h := h) (K := K) (H := H) r2 fun c hc => hp c (List.mem_cons_of_mem _ hc))
theorem each_back {P : Addr × List Int → Prop} : ∀ {us : List Value} {bs : List (Addr × List Int)}, EachIs (fun v b => v = Value.ref b.1 ∧ P b) us bs → Vals (bs.map fun b => V.ref b.1) us
  | _, _, .nil => .nil
  | _, _, .cons h t => .cons h.1 (each_back t)
theorem each_mono {α β : Type} {R S : α → β → Prop} : ∀ {as : List α} {bs : List β}, EachIs R as bs → (∀ a b, R a b → S a b) → EachIs S as bs
  | _, _, .nil, _ => .nil
  | _, _, .cons h t, f => .cons (f _ _ h) (each_mono t f)
section
variable {X : Cx}
/-- sorted(xs), xs a list of lists of ints, of any length -/
theorem call_sortedR (hu : X.A.units + 64 < cLine) : CallR X (.builtin "sorted") (fun xs H Q => ∃ (a : Addr) (bs : List (Addr × List Int)), xs = [V.ref a] ∧ SqL X.K H a (bs.map fun b => V.ref b.1) ∧ (∀ b ∈ bs, SqL X.K H b.1 (b.2.map V.int)) ∧
    ∀ p, H p = none → Q (.ref p) (upd H p (.lst ((bs.mergeSort rowLe).map fun b => V.ref b.1)))) := by
  intro pins s σ H xs us Q I r h
  obtain ⟨a, bs, rfl, hs, hb, q⟩ := h
  obtain ⟨u, rfl, ru⟩ := vals1 r
  obtain rfl : u = Value.ref a := ru
  obtain ⟨its, rv, hl, hz⟩ := I.list hs
  have each : EachIs (fun v b => v = Value.ref b.1 ∧ SqL X.K H b.1 (b.2.map V.int)) its bs := vals_each (h := s.heap) (K := X.K) (H := H) rv hb
  have len : its.length = bs.length := by rw [← rv.length, List.length_map]
  have each2 : EachIs (fun v (b : Addr × List Int) => ∃ as, Reads s.heap v (PyData.list (b.2.map .int)) as) its bs := each_mono each fun v b ⟨e, hq⟩ => by
    rw [e]
    exact Dp.reads I (PyData.list (b.2.map .int)) (.ref b.1) (.ref b.1) (.lst hq (rows_dp b.2)) rfl
  have le : dataLe false (fun b : Addr × List Int => PyData.list (b.2.map .int)) = rowLe := dataLe_rows (fun b : Addr × List Int => b.2)
  refine sorted_data (enc := fun b : Addr × List Int => PyData.list (b.2.map .int)) hl.isList each each2 (AllAlike.of enc_alike) (Sortable.others fun b => ⟨(fun z => nomatch z), fun xs z => nomatch z⟩) (by rw [← len]; rw [List.length_map] at hz; rw [len]; exact hz) (fun b _ => by
    have d : (PyData.list (b.2.map .int)).depth = 1 := by
      simp only [PyData.depth, depth_ints]
    rw [d]
    omega) fun out ho each3 => ?_
  rw [le] at each3
  have back := each_back each3
  obtain ⟨n, hn⟩ := sortedAll_at s.heap its out.toArray
  refine ⟨.ref (s.heap.objs.size + 1), upd H (s.heap.objs.size + 1) (.lst ((bs.mergeSort rowLe).map fun b => V.ref b.1)), I.laid (t' := s.toks) (fun b o e => sortedAll_old e) (Nat.le_succ _) ⟨?_, out, n, back, hn⟩, rfl, q _ (I.hok.fresh (Nat.le_succ _))⟩
  rw [List.length_map, List.length_mergeSort]
  rw [List.length_map] at hz
  exact hz
end
end SortR

namespace SortR
open PySem PySem.Spec PyProof.Rows L2 PySem.W
section
variable {X : Cx}
def rLtR (K : PySem.W.Frag) : R2 := fun x y H Q => ∃ (a b : Addr) (ns ms : List Int), x = .ref a ∧ y = .ref b ∧ SqL K H a (ns.map V.int) ∧ SqL K H b (ms.map V.int) ∧ Q (.bl (decide (ns < ms))) H
/-- xs < ys, two lists of ints -/
theorem op_ltR (hu : X.A.units + 64 < cLine) : OpR X (compareOp .Lt) (rLtR X.K) := by
  intro pins s σ H x y v u Q I rx ry h
  obtain ⟨a, b, ns, ms, rfl, rfl, hs, hm, q⟩ := h
  obtain ⟨as, r1⟩ := Dp.reads I (PyData.list (ns.map .int)) (.ref a) v (.lst hs (rows_dp ns)) rx
  obtain ⟨bs, r2⟩ := Dp.reads I (PyData.list (ms.map .int)) (.ref b) u (.lst hm (rows_dp ms)) ry
  have dep : (PyData.list (ns.map .int)).depth = 1 := by simp only [PyData.depth, depth_ints]
  have lt := rcLt_alike (PyData.list (ns.map .int)) (PyData.list (ms.map .int)) X.A s v u as bs r1 r2 (enc_alike (a, ns) (b, ms)) (fun z => nomatch z) (by rw [dep]; omega)
  have e : dataLt (PyData.list (ns.map .int)) (PyData.list (ms.map .int)) = decide (ns < ms) := by
    rw [dataLt_list]
    exact dataLt_ints ns ms
  rw [e] at lt
  exact lt _ _ _ _ ⟨.bl _, H, I, rfl, q⟩
/-- a comprehension over zip of two lists that stand still -/
theorem lc_zipL {K : PySem.W.Frag} {a b : Addr} {xs ys : List V} {g : TG} {tt : TT} {te : TE} {vs : List Nat} {σ : L2.St} {H1 : Hp} {D : Addr} {Qd : Hp → Prop} (Pv : Nat → Hp → Prop) (h0 : Pv 0 (upd H1 D (.lst []))) (hl : ∀ i H, Pv i H → SqL K H a xs ∧ SqL K H b ys)
    (hs : ∀ (i : Nat) (x y : V) (T : Addr) (H : Hp), xs[i]? = some x → ys[i]? = some y → Pv i H → H T = none → g (.ref T) (wipe σ vs) (upd H T (.tup [x, y])) fun σ2 H2 => wipe σ2 vs = wipe σ vs ∧ tt σ2 H2 fun b H3 =>
      if b = true then te σ2 H3 fun y H4 => ∃ acc, H4 D = some (.lst acc) ∧ acc.length < sizeLine ∧ Pv (i + 1) (upd H4 D (.lst (acc ++ [y]))) else Pv (i + 1) H3) (hd : ∀ H, Pv (min xs.length ys.length) H → Qd H) :
    ∃ W : Nat → Nat → Hp → Prop, (∃ m, W 0 m (upd H1 D (.lst []))) ∧ ∀ i m H, W i m H →
      ((Itz K a b).stop i H ∧ Qd H) ∨ ((Itz K a b).go i H ∧ ∃ Nx : Hp → Prop, (∀ H', Nx H' → ∃ m', m' < m ∧ W (i + 1) m' H') ∧ ∀ x H', (Itz K a b).yld i H x H' → g x (wipe σ vs) H' fun σ2 H2 => wipe σ2 vs = wipe σ vs ∧ tt σ2 H2 fun b H3 =>
        if b = true then te σ2 H3 fun y H4 => ∃ acc, H4 D = some (.lst acc) ∧ acc.length < sizeLine ∧ Nx (upd H4 D (.lst (acc ++ [y]))) else Nx H3) := by
  refine ⟨fun i m H => m = min xs.length ys.length - i ∧ i ≤ min xs.length ys.length ∧ Pv i H, ⟨_, rfl, Nat.zero_le _, h0⟩, ?_⟩
  rintro i m H ⟨rfl, hi, pv⟩
  obtain ⟨qx, qy⟩ := hl i H pv
  rcases Nat.lt_or_ge i (min xs.length ys.length) with lt | ge
  · have ex : xs[i]? = some xs[i] := List.getElem?_eq_getElem (by omega)
    have ey : ys[i]? = some ys[i] := List.getElem?_eq_getElem (by omega)
    refine .inr ⟨⟨xs, ys, _, _, qx, qy, ex, ey⟩, Pv (i + 1), fun H' p' => ⟨min xs.length ys.length - (i + 1), by omega, rfl, lt, p'⟩, fun v H' y => ?_⟩
    obtain ⟨T, x', y', rfl, hT, rfl, f1, f2⟩ := y
    exact hs i x' y' T H (f1 xs qx) (f2 ys qy) pv hT
  · have e : i = min xs.length ys.length := by omega
    subst e
    exact .inl ⟨⟨xs, ys, qx, qy, by omega⟩, hd H pv⟩
/-- a comprehension over enumerate of a list that stands still -/
theorem lc_enumL {K : PySem.W.Frag} {a : Addr} {xs : List V} {g : TG} {tt : TT} {te : TE} {vs : List Nat} {σ : L2.St} {H1 : Hp} {D : Addr} {Qd : Hp → Prop} (Pv : Nat → Hp → Prop) (h0 : Pv 0 (upd H1 D (.lst []))) (hl : ∀ i H, Pv i H → SqL K H a xs)
    (hs : ∀ (i : Nat) (x : V) (T : Addr) (H : Hp), xs[i]? = some x → Pv i H → H T = none → g (.ref T) (wipe σ vs) (upd H T (.tup [.int (i : Nat), x])) fun σ2 H2 => wipe σ2 vs = wipe σ vs ∧ tt σ2 H2 fun b H3 =>
      if b = true then te σ2 H3 fun y H4 => ∃ acc, H4 D = some (.lst acc) ∧ acc.length < sizeLine ∧ Pv (i + 1) (upd H4 D (.lst (acc ++ [y]))) else Pv (i + 1) H3) (hd : ∀ H, Pv xs.length H → Qd H) :
    ∃ W : Nat → Nat → Hp → Prop, (∃ m, W 0 m (upd H1 D (.lst []))) ∧ ∀ i m H, W i m H →
      ((Ite K a).stop i H ∧ Qd H) ∨ ((Ite K a).go i H ∧ ∃ Nx : Hp → Prop, (∀ H', Nx H' → ∃ m', m' < m ∧ W (i + 1) m' H') ∧ ∀ x H', (Ite K a).yld i H x H' → g x (wipe σ vs) H' fun σ2 H2 => wipe σ2 vs = wipe σ vs ∧ tt σ2 H2 fun b H3 =>
        if b = true then te σ2 H3 fun y H4 => ∃ acc, H4 D = some (.lst acc) ∧ acc.length < sizeLine ∧ Nx (upd H4 D (.lst (acc ++ [y]))) else Nx H3) := by
  refine ⟨fun i m H => m = xs.length - i ∧ i ≤ xs.length ∧ Pv i H, ⟨_, rfl, Nat.zero_le _, h0⟩, ?_⟩
  rintro i m H ⟨rfl, hi, pv⟩
  have qx := hl i H pv
  rcases Nat.lt_or_ge i xs.length with lt | ge
  · have ex : xs[i]? = some xs[i] := List.getElem?_eq_getElem lt
    refine .inr ⟨⟨xs, _, qx, ex⟩, Pv (i + 1), fun H' p' => ⟨xs.length - (i + 1), by omega, rfl, lt, p'⟩, fun v H' y => ?_⟩
    obtain ⟨T, x', rfl, hT, rfl, f1⟩ := y
    exact hs i x' T H (f1 xs qx) pv hT
  · have e : i = xs.length := by omega
    subst e
    exact .inl ⟨⟨xs, qx, Nat.le_refl _⟩, hd H pv⟩
end
end SortR

/-! Comprehensions without a test, by the value of each turn: what stood stands. -/
namespace LcM
open PySem PySem.Spec PyProof.Rows L2
/-- all that stood stands -/
def Grows (H H' : Hp) : Prop := ∀ b o, H b = some o → H' b = some o
theorem Grows.refl {H : Hp} : Grows H H := fun _ _ e => e
theorem Grows.trans {H H1 H2 : Hp} (x : Grows H H1) (y : Grows H1 H2) : Grows H H2 := fun b o e => y b o (x b o e)
theorem Grows.new {a : Addr} {H : Hp} {o : HO} (h : H a = none) : Grows H (upd H a o) := fun b u e => by
  rw [upd_ne (ne_of_none e h)]
  exact e
theorem Grows.seq {K : PySem.W.Frag} {H H' : Hp} {a : Addr} {xs : List V} (s : Grows H H') (h : SqL K H a xs) : SqL K H' a xs := by
  rcases h with (h | ⟨o, h⟩) | h
  · exact .inl (.inl (s _ _ h))
  · exact .inl (.inr ⟨o, s _ _ h⟩)
  · exact .inr h
theorem Grows.tup {K : PySem.W.Frag} {H H' : Hp} {a : Addr} {xs : List V} (s : Grows H H') (h : SqT K H a xs) : SqT K H' a xs := by
  rcases h with (h | ⟨o, h⟩) | h
  · exact .inl (.inl (s _ _ h))
  · exact .inl (.inr ⟨o, s _ _ h⟩)
  · exact .inr h
/-- the list that is made -/
def Ma (H0 : Hp) (D : Addr) (F : Nat → V) (i : Nat) (H : Hp) : Prop := Grows H0 H ∧ H D = some (.lst ((List.range i).map F))
theorem Ma.start {H0 : Hp} {D : Addr} {F : Nat → V} (hD : H0 D = none) : Ma H0 D F 0 (upd H0 D (.lst [])) := ⟨Grows.new hD, upd_same⟩
theorem yes_eq {te : TE} {A : L2.St → Prop} {R : V → Hp → Prop} {Y : Hp → Prop} :
    (fun (σ2 : L2.St) (H2 : Hp) => A σ2 ∧ tYes σ2 H2 fun b H3 => if b = true then te σ2 H3 R else Y H3) = fun σ2 H2 => A σ2 ∧ te σ2 H2 R := by
  funext σ2 H2
  unfold tYes
  dsimp only
  rw [if_pos rfl]
/-- one more -/
theorem Ma.more {H0 H H4 : Hp} {D : Addr} {F : Nat → V} {i : Nat} (hD : H0 D = none) (m : Ma H0 D F i H) (s : Grows H H4) (small : i < 1000000) :
    ∃ acc, H4 D = some (.lst acc) ∧ acc.length < sizeLine ∧ Ma H0 D F (i + 1) (upd H4 D (.lst (acc ++ [F i]))) := by
  refine ⟨_, s _ _ m.2, ?_, fun b o e => ?_, ?_⟩
  · rw [List.length_map, List.length_range]
    exact Nat.lt_trans small (by decide)
  · rw [upd_ne (ne_of_none e hD)]
    exact s _ _ (m.1 _ _ e)
  · rw [upd_same, List.range_succ, List.map_append]
    rfl
section
variable {K : PySem.W.Frag} {a b : Addr} {xs ys : List V} {g : TG} {te : TE} {vs : List Nat} {σ : L2.St} {H0 : Hp} {D : Addr} {Qd : Hp → Prop}
theorem lc_listM (F : Nat → V) (hD : H0 D = none) (hx : SqL K H0 a xs) (small : xs.length ≤ 1000000)
    (turn : ∀ (i : Nat) (x : V) (H : Hp) (R : V → Hp → Prop), xs[i]? = some x → Grows H0 H → (∀ H4, Grows H H4 → R (F i) H4) → g x (wipe σ vs) H fun σ2 H2 => wipe σ2 vs = wipe σ vs ∧ te σ2 H2 R)
    (done : ∀ H, Grows H0 H → H D = some (.lst ((List.range xs.length).map F)) → Qd H) :
    ∃ W : Nat → Nat → Hp → Prop, (∃ m, W 0 m (upd H0 D (.lst []))) ∧ ∀ i m H, W i m H →
      ((Itl K a).stop i H ∧ Qd H) ∨ ((Itl K a).go i H ∧ ∃ Nx : Hp → Prop, (∀ H', Nx H' → ∃ m', m' < m ∧ W (i + 1) m' H') ∧ ∀ x H', (Itl K a).yld i H x H' → g x (wipe σ vs) H' fun σ2 H2 => wipe σ2 vs = wipe σ vs ∧ tYes σ2 H2 fun b H3 =>
        if b = true then te σ2 H3 fun y H4 => ∃ acc, H4 D = some (.lst acc) ∧ acc.length < sizeLine ∧ Nx (upd H4 D (.lst (acc ++ [y]))) else Nx H3) := by
  refine lc_list (Ma H0 D F) (Ma.start hD) (fun i H _ m => m.1.seq hx) (fun i x H ex m => ?_) fun H m => done H m.1 m.2
  rw [yes_eq (A := fun σ2 => wipe σ2 vs = wipe σ vs)]
  exact turn i x H _ ex m.1 fun H4 s => m.more hD s (Nat.lt_of_lt_of_le (List.getElem?_eq_some_iff.mp ex).1 small)
theorem lc_zipM (F : Nat → V) (hD : H0 D = none) (hx : SqL K H0 a xs) (hy : SqL K H0 b ys) (small : xs.length ≤ 1000000)
    (turn : ∀ (i : Nat) (x y : V) (T : Addr) (H : Hp) (R : V → Hp → Prop), xs[i]? = some x → ys[i]? = some y → Grows H0 H → H T = none → (∀ H4, Grows (upd H T (.tup [x, y])) H4 → R (F i) H4) → g (.ref T) (wipe σ vs) (upd H T (.tup [x, y])) fun σ2 H2 => wipe σ2 vs = wipe σ vs ∧ te σ2 H2 R)
    (done : ∀ H, Grows H0 H → H D = some (.lst ((List.range (min xs.length ys.length)).map F)) → Qd H) :
    ∃ W : Nat → Nat → Hp → Prop, (∃ m, W 0 m (upd H0 D (.lst []))) ∧ ∀ i m H, W i m H →
      ((Itz K a b).stop i H ∧ Qd H) ∨ ((Itz K a b).go i H ∧ ∃ Nx : Hp → Prop, (∀ H', Nx H' → ∃ m', m' < m ∧ W (i + 1) m' H') ∧ ∀ x H', (Itz K a b).yld i H x H' → g x (wipe σ vs) H' fun σ2 H2 => wipe σ2 vs = wipe σ vs ∧ tYes σ2 H2 fun b H3 =>
        if b = true then te σ2 H3 fun y H4 => ∃ acc, H4 D = some (.lst acc) ∧ acc.length < sizeLine ∧ Nx (upd H4 D (.lst (acc ++ [y]))) else Nx H3) := by
  refine SortR.lc_zipL (Ma H0 D F) (Ma.start hD) (fun i H m => ⟨m.1.seq hx, m.1.seq hy⟩) (fun i x y T H ex ey m hT => ?_) fun H m => done H m.1 m.2
  rw [yes_eq (A := fun σ2 => wipe σ2 vs = wipe σ vs)]
  exact turn i x y T H _ ex ey m.1 hT fun H4 s => m.more hD ((Grows.new hT).trans s) (Nat.lt_of_lt_of_le (List.getElem?_eq_some_iff.mp ex).1 small)
theorem lc_enumM (F : Nat → V) (hD : H0 D = none) (hx : SqL K H0 a xs) (small : xs.length ≤ 1000000)
    (turn : ∀ (i : Nat) (x : V) (T : Addr) (H : Hp) (R : V → Hp → Prop), xs[i]? = some x → Grows H0 H → H T = none → (∀ H4, Grows (upd H T (.tup [.int (i : Nat), x])) H4 → R (F i) H4) → g (.ref T) (wipe σ vs) (upd H T (.tup [.int (i : Nat), x])) fun σ2 H2 => wipe σ2 vs = wipe σ vs ∧ te σ2 H2 R)
    (done : ∀ H, Grows H0 H → H D = some (.lst ((List.range xs.length).map F)) → Qd H) :
    ∃ W : Nat → Nat → Hp → Prop, (∃ m, W 0 m (upd H0 D (.lst []))) ∧ ∀ i m H, W i m H →
      ((Ite K a).stop i H ∧ Qd H) ∨ ((Ite K a).go i H ∧ ∃ Nx : Hp → Prop, (∀ H', Nx H' → ∃ m', m' < m ∧ W (i + 1) m' H') ∧ ∀ x H', (Ite K a).yld i H x H' → g x (wipe σ vs) H' fun σ2 H2 => wipe σ2 vs = wipe σ vs ∧ tYes σ2 H2 fun b H3 =>
        if b = true then te σ2 H3 fun y H4 => ∃ acc, H4 D = some (.lst acc) ∧ acc.length < sizeLine ∧ Nx (upd H4 D (.lst (acc ++ [y]))) else Nx H3) := by
  refine SortR.lc_enumL (Ma H0 D F) (Ma.start hD) (fun i H m => m.1.seq hx) (fun i x T H ex m hT => ?_) fun H m => done H m.1 m.2
  rw [yes_eq (A := fun σ2 => wipe σ2 vs = wipe σ vs)]
  exact turn i x T H _ ex m.1 hT fun H4 s => m.more hD ((Grows.new hT).trans s) (Nat.lt_of_lt_of_le (List.getElem?_eq_some_iff.mp ex).1 small)
theorem lc_combM (F : Nat → V) (hD : H0 D = none) (small : xs.length ≤ 1000)
    (turn : ∀ (t i j : Nat) (x y : V) (T : Addr) (H : Hp) (R : V → Hp → Prop), (Comb.prs xs.length)[t]? = some (i, j) → xs[i]? = some x → xs[j]? = some y → Grows H0 H → H T = none → (∀ H4, Grows (upd H T (.tup [x, y])) H4 → R (F t) H4) → g (.ref T) (wipe σ vs) (upd H T (.tup [x, y])) fun σ2 H2 => wipe σ2 vs = wipe σ vs ∧ te σ2 H2 R)
    (done : ∀ H, Grows H0 H → H D = some (.lst ((List.range (Comb.prs xs.length).length).map F)) → Qd H) :
    ∃ W : Nat → Nat → Hp → Prop, (∃ m, W 0 m (upd H0 D (.lst []))) ∧ ∀ t m H, W t m H →
      ((Comb.Itcb xs).stop t H ∧ Qd H) ∨ ((Comb.Itcb xs).go t H ∧ ∃ Nx : Hp → Prop, (∀ H', Nx H' → ∃ m', m' < m ∧ W (t + 1) m' H') ∧ ∀ x H', (Comb.Itcb xs).yld t H x H' → g x (wipe σ vs) H' fun σ2 H2 => wipe σ2 vs = wipe σ vs ∧ tYes σ2 H2 fun b H3 =>
        if b = true then te σ2 H3 fun y H4 => ∃ acc, H4 D = some (.lst acc) ∧ acc.length < sizeLine ∧ Nx (upd H4 D (.lst (acc ++ [y]))) else Nx H3) := by
  refine Comb.lc_comb (Ma H0 D F) (Ma.start hD) (fun t i j x y T H et ex ey m hT => ?_) fun H m => done H m.1 m.2
  rw [yes_eq (A := fun σ2 => wipe σ2 vs = wipe σ vs)]
  refine turn t i j x y T H _ et ex ey m.1 hT fun H4 s => m.more hD ((Grows.new hT).trans s) ?_
  have l1 := (List.getElem?_eq_some_iff.mp et).1
  have l2 := Comb.rows_len (xs.length - 1) 0
  have l3 : (xs.length - 1) * (xs.length - 1) ≤ 999 * 999 := Nat.mul_le_mul (by omega) (by omega)
  unfold Comb.prs at l1
  omega
end
/-- xs[1:] -/
theorem cut_tail (xs : List V) : cutV xs (some 1) none = xs.tail := by
  unfold cutV
  rw [HT.sIx_none, show (some (1 : Int)) = some ((1 : Nat) : Int) from rfl, HT.sIx_nat]
  cases xs with
  | nil => rfl
  | cons x l =>
    have e : min 1 (x :: l).length = 1 := by rw [List.length_cons]; omega
    rw [e, List.drop_one, List.tail_cons, List.length_cons, Nat.add_sub_cancel, List.take_length]
end LcM

/-! {key: value for target in iterable if test}, the keys tuples. -/
namespace DcT
open PySem PySem.Spec PyProof.Rows L2
section
variable {X : Cx} {pins : List (Addr × Obj)} {σ : L2.St} {H : Hp} {s : Shared}
/-- one entry is laid by the comprehension -/
theorem set_tup {Er : Value → Shared → Prop} {d b : Addr} {kvs : List (List L2.Key × V)} {k : List L2.Key} {v : V} {u r : Value} {Qu : Unit → Shared → Prop} (room : X.A.units + 1 < cLine) (I : Inv X pins σ H s) (at_d : H d = some (.dT kvs)) (few : kvs.length < sizeLine)
    (at_b : H b = some (.tup (k.map kV))) (ru : RelV (.ref b) u) (rr : RelV v r) (go : ∀ s', Inv X pins σ (upd H d (.dT (putK kvs k v))) s' → Qu () s') : wpAny (model X.prog X.w) X.A (dictSet d u r) Qu Er s := by
  obtain rfl : u = Value.ref b := ru
  obtain ⟨fits, notSys, xs, rel, raw⟩ := dt_of I.hok at_d
  have n1 : xs.length ≤ sizeLine := Paired.length rel ▸ fits
  have n2 : (putK kvs k v).length ≤ sizeLine := Nat.le_trans (length_putK kvs k v) few
  refine wpAny_dictSet_heap (hsz := n1) (show X.A.units < cLine from Nat.lt_of_succ_lt room) (key_of I.hok at_b) raw fun hp raw' same => go _ ?_
  obtain ⟨o, es, ep, g1, g2, g3, g4, _, g5⟩ := raw'
  refine d_write I (by rw [at_d]; exact True.intro) same ⟨o, g1⟩ ⟨n2, notSys, _, (rel.put k at_b rr).keeps fun c ys ec => ?_, o, es, ep, g1, g2, g3, g4, g5⟩
  rw [upd_ne (ne_of ec at_d fun z => nomatch z)]
  exact ec
end
section
variable {X : Cx}
def tDcT (wi : TI) (g : TG) (tt : TT) (tk tv : TE) (vs : List Nat) : TE := fun σ H Q => wi σ H fun J H1 => ∀ D, H1 D = none → ∃ W : Nat → Nat → Hp → Prop, (∃ m, W 0 m (upd H1 D (.dT []))) ∧ ∀ i m H, W i m H →
  (J.stop i H ∧ Q (.ref D) H) ∨ (J.go i H ∧ ∃ Nx : Hp → Prop, (∀ H', Nx H' → ∃ m', m' < m ∧ W (i + 1) m' H') ∧ ∀ x H', J.yld i H x H' → g x (wipe σ vs) H' fun σ2 H2 => wipe σ2 vs = wipe σ vs ∧ tt σ2 H2 fun t H3 =>
    if t = true then tk σ2 H3 fun y H4 => tv σ2 H4 fun z H5 => ∃ b kvs k, y = .ref b ∧ H5 b = some (.tup (k.map kV)) ∧ H5 D = some (.dT kvs) ∧ kvs.length < sizeLine ∧ Nx (upd H5 D (.dT (putK kvs k z))) else Nx H3)
theorem dcT_core {pins : List (Addr × Obj)} {s0 : Shared} {σ : L2.St} {H0 : Hp} {Q : VK} {kx vx tg iter : Expr} {ifs : List Expr} {scope : Scope} {own : List (Str × Nat)} {pos pos' : Pos} {wi : TI} {g : TG} {tt : TT} {tk tv : TE} {use : Option (Value → Sem Unit)} {Qf : Value → Shared → Prop}
    (room : X.A.units + 64 < cLine) (calm : X.calm = true) (nd : X.N.Nodup) (I0 : Inv X pins σ H0 s0) (pi : PI X tg iter wi) (ok : BlkOk X.N X.env.scope scope own)
    (pgs : ∀ (s : Shared) (H : Hp) (C : Addr) (cl : List (Str × Addr)) (fp : List Addr), PG (X.blk s H scope (compEnvC scope cl C X.env) fp) tg g) (pts : ∀ (s : Shared) (H : Hp) (C : Addr) (cl : List (Str × Addr)) (fp : List Addr), PTs (X.blk s H scope (compEnvC scope cl C X.env) fp) ifs tt)
    (pks : ∀ (s : Shared) (H : Hp) (C : Addr) (cl : List (Str × Addr)) (fp : List Addr), PE (X.blk s H scope (compEnvC scope cl C X.env) fp) kx tk) (pvs : ∀ (s : Shared) (H : Hp) (C : Addr) (cl : List (Str × Addr)) (fp : List Addr), PE (X.blk s H scope (compEnvC scope cl C X.env) fp) vx tv)
    (fold : ∀ x, foldedSetIterable iter X.env x = pure x) (rd : tDcT wi g tt tk tv (own.map (·.2)) σ H0 Q)
    (post : ∀ D C t ns G, Inv X pins σ G t → Q (.ref D) G → t.heap.Ns C ns → FpOk X pins G C → compPost (model X.prog X.w) X.A X.xe use Qf (.ref D) C (.ok .next) t) :
    wpAny (model X.prog X.w) X.A (comprehension (.DictComp kx vx [⟨tg, iter, ifs, 0⟩] scope pos) scope X.env pos' newDict false (eval iter X.env) use) Qf X.xe s0 := by
  have isFree : ∀ y ∈ scope.names, y.2 = .free → ∃ c, X.env.cells.lookup y.1 = some c := fun y hy ey => (ok.free y hy ey).elim (fun z => I0.ok.has _ (.inl z)) fun z => I0.ok.has _ (.inr z)
  refine wpAny_comprehension_free (use := use) rfl fold (closure_ok isFree) ok.kind (fun y hy ey => (ok.uniq y hy).trans (congrArg some ey)) (thn (pi.run pins s0 σ H0 _ I0 rd) fun _ sa ha => thn ha fun _ sb hb => ?_)
  obtain ⟨it, fp, tn, J, Hb, rfl, Ib, Tn, tn0, fb, q⟩ := hb
  refine wpAny_newObj_type (newEnv_comp ?_)
  have free0 : Hb sb.heap.objs.size = none := Ib.hok.fresh (Nat.le_refl _)
  obtain ⟨W, ⟨m0, w0⟩, turn⟩ := q _ free0
  -- with the dict, empty
  obtain ⟨sc, esc⟩ : ∃ z : Shared, z = { sb with heap := sb.heap.push { cls := .type "dict", data := .dict #[] } } := ⟨_, rfl⟩
  obtain ⟨Hc, eHc⟩ : ∃ z : Hp, z = upd Hb sb.heap.objs.size (.dT []) := ⟨_, rfl⟩
  have Ic : Inv X pins σ Hc sc := by
    rw [esc, eHc]
    exact Ib.laid (t' := sb.toks) (fun b o z => Heap.get?_push_of_some _ z) (Nat.le_refl _) (dt_empty sb.heap Ib.big)
  have up : ∀ b o, sb.heap.get? b = some o → sc.heap.get? b = some o := fun b o z => by
    rw [esc]
    exact Heap.get?_push_of_some _ z
  have below : ∀ b ∈ fp, b < sb.heap.objs.size := fun b hb => let ⟨_, z, _⟩ := Tn.obj _ _ tn0 b hb; Heap.lt_size z
  have fc : ∀ b ∈ fp, FpOk X pins Hc b ∧ b < sc.heap.objs.size := fun b hb => by
    obtain ⟨o, z, _⟩ := Tn.obj _ _ tn0 b hb
    refine ⟨⟨?_, (fb b hb).2⟩, Heap.lt_size (up b o z)⟩
    rw [eHc, upd_ne (Nat.ne_of_lt (below b hb))]
    exact (fb b hb).1
  have tnc : tn 0 sc.heap := Tn.keep _ _ _ tn0 fun b _ o z => up b o z
  have Ie := block_start Ic ok nd fc
  obtain ⟨cells, ecl⟩ : ∃ z, z = cellsFrom (sc.heap.objs.size + 1) scope.names (cloFrom X.env.cells scope.names []) := ⟨_, rfl⟩
  have pg := pgs sc Hc sc.heap.objs.size cells fp
  have pt := pts sc Hc sc.heap.objs.size cells fp
  have pk := pks sc Hc sc.heap.objs.size cells fp
  have pv := pvs sc Hc sc.heap.objs.size cells fp
  rw [← ecl] at Ie
  rw [← esc]
  show codeAny _ _ (.compStart _ 0 (.ref it) (.ref sb.heap.objs.size) (compEnvC scope (cellsFrom (sc.heap.objs.size + 1) scope.names (cloFrom X.env.cells scope.names [])) sc.heap.objs.size X.env)) (compPost _ _ X.xe use Qf (.ref sb.heap.objs.size) sc.heap.objs.size) _
  rw [← ecl]
  have loc : (compEnvC scope cells sc.heap.objs.size X.env).locals = sc.heap.objs.size := rfl
  rw [← eHc] at w0
  have empty : ∀ b ∈ fp, Hc b = none := fun b hb => (fc b hb).1.1
  obtain ⟨sd, esd⟩ : ∃ z : Shared, z = { sc with heap := pushCells (sc.heap.push { cls := .type "dict", data := .dict #[] }) scope.names } := ⟨_, rfl⟩
  have tnd : tn 0 sd.heap := Tn.keep _ _ _ tnc fun b _ o z => by
    rw [esd]
    exact pushCells_keeps _ _ _ _ (Heap.get?_push_of_some _ z)
  rw [← esd] at Ie ⊢
  generalize compEnvC scope cells sc.heap.objs.size X.env = ce at Ie pg pt pk pv loc ⊢
  -- the iterator's own objects in the block
  have own_ok : ∀ {ρ : L2.St} {G : Hp} {t : Shared}, Inv (X.blk sc Hc scope ce fp) [] ρ G t → (∀ b ∈ fp, G b = none) → ∀ b ∈ fp, FpOk (X.blk sc Hc scope ce fp) [] G b := fun {ρ G t} J hn b hb =>
    ⟨hn b hb, (J.ok.exf b hb).1, J.ok.exfs b hb, .inl hb, fun y c z => (J.ok.exf b hb).2 y c z, fun p hp => (nomatch hp)⟩
  have run : codeAny (model X.prog X.w) X.A (.compLoop (.DictComp kx vx [⟨tg, iter, ifs, 0⟩] scope pos) 0 (.ref it) (.ref sb.heap.objs.size) ce) (compPost (model X.prog X.w) X.A X.xe use Qf (.ref sb.heap.objs.size) sc.heap.objs.size) sd := by
    refine compLoop_anyD (fun m t => ∃ i G, Inv (X.blk sc Hc scope ce fp) [] (wipe σ (own.map (·.2))) G t ∧ tn i t.heap ∧ (∀ b ∈ fp, G b = none) ∧ W i m G) ?_ m0 ⟨0, Hc, Ie, tnd, empty, w0⟩
    rintro m t ⟨i, G, J, tni, none_, wi_⟩
    rcases turn i m G wi_ with ⟨stop, fin⟩ | ⟨go, Nx, less, step⟩
    · refine thnF (Tn.done (X.blk sc Hc scope ce fp) rfl rfl rfl calm i [] t _ G (fun _ _ => False) J (own_ok J none_) tni stop) fun r t2 ⟨er, J2⟩ => ?_
      subst er
      have back : Inv X pins σ G t2 := Ic.call' (ch := fp) J2.os J2.base J2.hok J2.bare fun b hb => ⟨(fc b hb).1.2.2.2.1, (fc b hb).1.2.1, (fc b hb).1.2.2.2.2.1, (fc b hb).1.2.2.2.2.2⟩
      have noC : G sc.heap.objs.size = none := by
        have z : G ce.locals = none := J2.free
        rwa [loc] at z
      obtain ⟨ns, isNs, _⟩ := J2.loc
      have isNs' : t2.heap.Ns ce.locals ns := isNs
      rw [loc] at isNs'
      exact post _ _ t2 ns G back fin isNs' (Ic.fpOk (Nat.le_refl _) noC)
    · refine thnF (Tn.item (X.blk sc Hc scope ce fp) rfl rfl rfl calm i [] t _ G (fun _ _ => False) J (own_ok J none_) tni go) fun r t2 ⟨u, er, h2⟩ => ?_
      subst er
      refine thnF h2 fun _ t3 ⟨x, G3, J3, r3, y3, tn3, none3⟩ => ?_
      have K3 := J3.pinned (own_ok J3 none3) (Tn.obj _ _ tn3)
      refine thnF (pg.run _ t3 _ G3 x u _ K3 r3 (step x G3 y3)) fun _ t4 ⟨ρ4, G4, J4, same4, q4⟩ => ?_
      refine thnF (pt.run _ t4 ρ4 G4 _ J4 q4) fun yes t5 ⟨G5, J5, q5⟩ => ?_
      have next : ∀ {t' : Shared} {G' : Hp}, Inv (X.blk sc Hc scope ce fp) ([] ++ pinsAt fp t3.heap) ρ4 G' t' → Nx G' → ∃ m', m' < m ∧ ∃ i G, Inv (X.blk sc Hc scope ce fp) [] (wipe σ (own.map (·.2))) G t' ∧ tn i t'.heap ∧ (∀ b ∈ fp, G b = none) ∧ W i m' G := fun {t' G'} J' nx => by
        obtain ⟨m', lt, w'⟩ := less G' nx
        have held : ∀ b ∈ fp, ∀ o, t3.heap.get? b = some o → t'.heap.get? b = some o ∧ G' b = none := fun b hb o z =>
          have p := J'.pin (b, o) (List.mem_append_right _ (List.mem_append_right _ (mem_pinsAt hb z)))
          ⟨p.1, p.2.1⟩
        have len : (wipe σ (own.map (·.2))).length = ρ4.length := by rw [← same4, wipe_length]
        refine ⟨m', lt, i + 1, G', (J'.unpinned (pins := [])).weak len (fun j v z => ?_), Tn.keep _ _ _ tn3 fun b hb o z => (held b hb o z).1, fun b hb => ?_, w'⟩
        · rw [← same4] at z
          exact (wipe_some z).1
        · obtain ⟨o, z, _⟩ := Tn.obj _ _ tn3 b hb
          exact (held b hb o z).2
      cases yes with
      | false =>
        simp only [Bool.false_eq_true, if_false] at q5 ⊢
        exact next J5 q5
      | true =>
        simp only [if_true] at q5 ⊢
        refine thnF (pk.run _ t5 ρ4 G5 _ J5 q5) fun ku t6 ⟨yk, G6, J6, r6, q6⟩ => thnF (pv.run _ t6 ρ4 G6 _ J6 q6) fun vu t7 ⟨yv, G7, J7, r7, b, kvs, k, ek, at_b, at_d, few, nx⟩ => ?_
        subst ek
        exact set_tup (X := X.blk sc Hc scope ce fp) (show X.A.units + 1 < cLine by omega) J7 at_d few at_b r6 r7 fun t8 J8 => next J8 nx
  exact codeAny_compStart_dict run (Tn.self X.A 0 _ _ _ tnd run)
/-- as a value -/
theorem pe_dcT {kx vx tg iter : Expr} {ifs : List Expr} {scope : Scope} {own : List (Str × Nat)} {pos : Pos} {wi : TI} {g : TG} {tt : TT} {tk tv : TE} (room : X.A.units + 64 < cLine) (calm : X.calm = true) (nd : X.N.Nodup) (pi : PI X tg iter wi) (ok : BlkOk X.N X.env.scope scope own)
    (pgs : ∀ (s : Shared) (H : Hp) (C : Addr) (cl : List (Str × Addr)) (fp : List Addr), PG (X.blk s H scope (compEnvC scope cl C X.env) fp) tg g) (pts : ∀ (s : Shared) (H : Hp) (C : Addr) (cl : List (Str × Addr)) (fp : List Addr), PTs (X.blk s H scope (compEnvC scope cl C X.env) fp) ifs tt)
    (pks : ∀ (s : Shared) (H : Hp) (C : Addr) (cl : List (Str × Addr)) (fp : List Addr), PE (X.blk s H scope (compEnvC scope cl C X.env) fp) kx tk) (pvs : ∀ (s : Shared) (H : Hp) (C : Addr) (cl : List (Str × Addr)) (fp : List Addr), PE (X.blk s H scope (compEnvC scope cl C X.env) fp) vx tv)
    (fold : ∀ x, foldedSetIterable iter X.env x = pure x := by intro _; rfl) : PE X (.DictComp kx vx [⟨tg, iter, ifs, 0⟩] scope pos) (tDcT wi g tt tk tv (own.map (·.2))) := by
  refine ⟨fun pins s0 σ H0 Q I0 rd => ?_⟩
  rw [arm_eval_DictComp]
  refine dcT_core room calm nd I0 pi ok pgs pts pks pvs fold rd fun D C t ns G J fin isNs ⟨f0, f1, f2, f3, f4, f5⟩ => ⟨ns, isNs, fun h2 sb2 => ⟨.ref D, G, J.turned (t' := t.toks) (fun b o ne z => (sb2.2 b ne).trans z) f0 f1 f3 f4 f5, rfl, fin⟩⟩
/-- name = {..} on one line, the name a local -/
theorem ps_setDcT {i : Nat} {y : Str} {py : Pos} {kx vx tg iter : Expr} {ifs : List Expr} {scope : Scope} {own : List (Str × Nat)} {pos spos : Pos} {wi : TI} {g : TG} {tt : TT} {tk tv : TE} (room : X.A.units + 64 < cLine) (calm : X.calm = true) (nd : X.N.Nodup) (at_y : X.N[i]? = some y) (loc : X.env.scope.names.lookup y = some .local)
    (sw : swapsWith (.DictComp kx vx [⟨tg, iter, ifs, 0⟩] scope pos) (some (.Name y py)) spos.line X.env = pure true) (pi : PI X tg iter wi) (ok : BlkOk X.N X.env.scope scope own)
    (pgs : ∀ (s : Shared) (H : Hp) (C : Addr) (cl : List (Str × Addr)) (fp : List Addr), PG (X.blk s H scope (compEnvC scope cl C X.env) fp) tg g) (pts : ∀ (s : Shared) (H : Hp) (C : Addr) (cl : List (Str × Addr)) (fp : List Addr), PTs (X.blk s H scope (compEnvC scope cl C X.env) fp) ifs tt)
    (pks : ∀ (s : Shared) (H : Hp) (C : Addr) (cl : List (Str × Addr)) (fp : List Addr), PE (X.blk s H scope (compEnvC scope cl C X.env) fp) kx tk) (pvs : ∀ (s : Shared) (H : Hp) (C : Addr) (cl : List (Str × Addr)) (fp : List Addr), PE (X.blk s H scope (compEnvC scope cl C X.env) fp) vx tv)
    (fold : ∀ x, foldedSetIterable iter X.env x = pure x := by intro _; rfl) : PS X (.Assign [.Name y py] (.DictComp kx vx [⟨tg, iter, ifs, 0⟩] scope pos) spos) (tAsg (tDcT wi g tt tk tv (own.map (·.2))) (gName i)) := by
  refine ⟨fun pins s0 σ H0 D I0 rd => ?_⟩
  rw [exec_Assign_Name_used _ _ _ _ sw]
  refine wpAny_bind (wpAny_standAt (wpAny_bind ?_))
  show wpAny _ X.A (do let _ ← comprehension (.DictComp kx vx [⟨tg, iter, ifs, 0⟩] scope pos) scope X.env (firstIterPos [⟨tg, iter, ifs, 0⟩] pos) newDict false (eval iter X.env) (some (assign (.Name y py) X.env))) _ _ s0
  have rd' : tDcT wi g tt tk tv (own.map (·.2)) σ H0 (fun x G => gName i x σ G D.nx) := rd
  refine wpAny_bind (thn (dcT_core (Qf := fun _ t => SP X pins D .next t) room calm nd I0 pi ok pgs pts pks pvs fold rd' fun L C t ns G J fin isNs fo => ?_) fun _ _ z => wpAny_pure (wpAny_pure z))
  obtain ⟨f0, f1, f2, f3, f4, f5⟩ := fo
  show wpAny _ _ (assign (.Name y py) X.env (.ref L)) _ _ _
  refine wpAny_assign_Name (store_ok2 (v := V.ref L) J nd at_y (.inl loc) rfl (fun t2 J2 ⟨c, sb, hc⟩ => ?_) (.inr loc))
  have ne : C ≠ c := hc.elim (fun z => z ▸ f1) fun z e => f4 y c z e.symm
  exact ⟨ns, isNs.sameBut sb ne, fun h3 sb3 => ⟨_, G, J2.turned (t' := t2.toks) (fun b o hb e => (sb3.2 b hb).trans e) f0 f1 f3 f4 f5, fin⟩⟩
theorem sw_dict {kx vx : Expr} {gs : List Comprehension} {scope : Scope} {pos py : Pos} {y : Str} {l : Nat} {env : Env} (fn : env.scope.kind = .function) (loc : env.scope.names.lookup y = some .local) (row : (py.line == pos.line) = true)
    (other : (scope.names.any fun (n, k) => n == y && (k == .local || k == .cell)) = false) : swapsWith (.DictComp kx vx gs scope pos) (some (.Name y py)) l env = pure true := by
  have k1 : env.kindOf y = some .local := loc
  have k2 : env.blockKind = .function := by
    unfold Env.blockKind
    rw [fn]
    rfl
  unfold swapsWith
  simp only [k1, k2, other, Expr.pos, row]
  rfl
end
end DcT

/-! sorted(d), the keys of d tuples of ints, of any number. -/
namespace SortR
open PySem PySem.Spec PyProof.Rows L2 PySem.W
theorem enc_alikeT (p q : Addr × List Int) : alike (PyData.tuple (p.2.map .int)) (PyData.tuple (q.2.map .int)) = true := by
  simp only [alike]
  exact alike_ints p.2 q.2
theorem le_tuples : dataLe false (fun b : Addr × List Int => PyData.tuple (b.2.map .int)) = rowLe := by
  have e : dataLe false (fun b : Addr × List Int => PyData.tuple (b.2.map .int)) = dataLe false (fun b : Addr × List Int => PyData.list (b.2.map .int)) := by
    funext p q
    simp only [dataLe_eq, dataLt_tuple, dataLt_list]
  rw [e]
  exact dataLe_rows (fun b : Addr × List Int => b.2)
/-- the keys' tuples, in the dict's sequence -/
theorem key_rows {H : Hp} : ∀ {kvs : List (List L2.Key × V)} {ks : List (List L2.Key × Addr × Value)} {bs : List (List Int)},
    Paired (fun (p : List L2.Key × V) (q : List L2.Key × Addr × Value) => p.1 = q.1 ∧ H q.2.1 = some (.tup (p.1.map kV)) ∧ RelV p.2 q.2.2) kvs ks → kvs.map (·.1) = bs.map (fun ns => ns.map Sum.inl) →
    ∃ as : List (Addr × List Int), as.map (·.1) = ks.map (·.2.1) ∧ as.map (·.2) = bs ∧ ∀ b ∈ as, H b.1 = some (.tup (b.2.map V.int))
  | _, _, [], .nil, _ => ⟨[], rfl, rfl, fun _ m => nomatch m⟩
  | _, _, n :: bs, .cons (a := p) (b := q) h t, e => by
    rw [List.map_cons, List.map_cons] at e
    obtain ⟨e1, e2⟩ := List.cons.inj e
    obtain ⟨as, f1, f2, f3⟩ := key_rows t e2
    refine ⟨(q.2.1, n) :: as, by rw [List.map_cons, List.map_cons, f1], by rw [List.map_cons, f2], fun b m => ?_⟩
    rcases List.mem_cons.mp m with z | z
    · rw [z]
      have g := h.2.1
      rw [e1, List.map_map] at g
      exact g
    · exact f3 b z
  | _, _, [], .cons _ _, e => by cases e
  | _, _, _ :: _, .nil, e => by cases e
section
variable {X : Cx}
theorem call_sortedDT (hu : X.A.units + 64 < cLine) (calm : X.calm = true) : CallR X (.builtin "sorted") (fun xs H Q => ∃ (d : Addr) (kvs : List (List L2.Key × V)) (bs : List (List Int)), xs = [V.ref d] ∧ H d = some (.dT kvs) ∧ kvs.map (·.1) = bs.map (fun ns => ns.map Sum.inl) ∧ (∀ k ∈ bs, k ≠ []) ∧
    ∀ as : List (Addr × List Int), as.map (·.2) = bs → (∀ b ∈ as, H b.1 = some (.tup (b.2.map V.int))) → ∀ p, H p = none → Q (.ref p) (upd H p (.lst ((as.mergeSort rowLe).map fun b => V.ref b.1)))) := by
  intro pins s σ H xs us Q I r h
  obtain ⟨d, kvs, bs, rfl, hd, hk, hne, q⟩ := h
  obtain ⟨u, rfl, ru⟩ := vals1 r
  obtain rfl : u = Value.ref d := ru
  obtain ⟨z, hs, ks, pr, o, es, ep, ho, hx, hdt, he, hn⟩ := (show ObjOk X.prog X.w H s.heap d (.dT kvs) from I.hok d _ hd)
  obtain ⟨as, a1, a2, a3⟩ := key_rows pr hk
  have l0 : es.size = ks.length := size_of_entries he
  have l1 : kvs.length = ks.length := Paired.length pr
  have l2 : as.length = ks.length := by rw [← List.length_map (f := (·.1)), a1, List.length_map]
  have fits : ks.length ≤ sizeLine := l1 ▸ z
  refine Calls.call_function_entry PyProof.Rows.kind_sorted PyProof.Rows.plain_sorted PyProof.Rows.entry_sorted (PyProof.Rows.args_sorted1 _) ?_
  unfold Builtin.«sorted»
  refine wpAny_bind (m := checkCount "sorted" 1 1 _) (wpAny_pure (wpAny_bind (kdu_collect (A := X.A.in1) (kdl_raw hs hx hdt) (I.ok.hd calm) ho (l0 ▸ fits) fun h1 tk acc keep it => ?_)))
  have ea : acc.toList = as.map fun b => Value.ref b.1 := by
    have e1 : acc.toList = ks.map fun x => Value.ref x.2.1 := by
      have len : acc.toList.length = ks.length := by rw [Array.length_toList, it.1, l0]
      refine List.ext_getElem (by rw [List.length_map, len]) fun j j1 j2 => ?_
      obtain ⟨en, hen, hv⟩ := it.2 j acc.toList[j] (by rw [← Array.getElem?_toList, List.getElem?_eq_getElem j1])
      have at_j := entry_at he j
      rw [hen, List.getElem?_eq_getElem (len ▸ j1)] at at_j
      have e2 : en = entryOfKey (tupleKind (mixKind X.prog X.w)) (ks[j]'(len ▸ j1)) := Option.some.inj at_j
      rw [hv, e2, List.getElem_map]
      rfl
    rw [e1]
    have e3 := congrArg (List.map Value.ref) a1
    rw [List.map_map, List.map_map] at e3
    exact e3.symm
  have len : acc.toList.length = as.length := by rw [ea, List.length_map]
  have I1 : Inv X pins σ H { s with heap := h1, toks := tk } := I.kept keep
  refine wpAny_bind (wpAny_newList ?_ (by rw [len, l2]; exact fits))
  have at_p : (h1.push (seqObj "list" acc.toList.toArray 0)).get? h1.objs.size = some (seqObj "list" acc.toList.toArray 0) := Heap.get?_push_size _ rfl
  have old : ∀ b u, h1.get? b = some u → b ≠ h1.objs.size ∧ (h1.push (seqObj "list" acc.toList.toArray 0)).get? b = some u := fun b u e => ⟨Nat.ne_of_lt (Heap.lt_size e), Heap.get?_push_of_some _ e⟩
  have each : EachIs (fun v (b : Addr × List Int) => v = Value.ref b.1 ∧ True) acc.toList as := by
    have vr : Vals (as.map fun b => V.ref b.1) acc.toList := by
      rw [ea]
      clear ea a1 a2 a3 l2 len q it
      induction as with
      | nil => exact .nil
      | cons b as ih => exact .cons rfl ih
    exact vals_each (h := s.heap) (K := X.K) (H := H) (P := fun _ => True) vr fun _ _ => trivial
  obtain ⟨hS, ehS⟩ : ∃ z, z = sortingHeap (h1.push (seqObj "list" acc.toList.toArray 0)) h1.objs.size acc.toList := ⟨_, rfl⟩
  have reads : EachIs (fun v (b : Addr × List Int) => ∃ rs, Reads hS v (PyData.tuple (b.2.map .int)) rs) acc.toList as := by
    have each2 : EachIs (fun v (b : Addr × List Int) => v = Value.ref b.1 ∧ H b.1 = some (.tup (b.2.map V.int))) acc.toList as := by
      have vr : Vals (as.map fun b => V.ref b.1) acc.toList := each_back each
      exact vals_each (h := s.heap) (K := X.K) (H := H) vr a3
    refine each_mono each2 fun v b ⟨ev, hb⟩ => ?_
    rw [ev]
    obtain ⟨rs, rr⟩ := Dp.reads I1 (PyData.tuple (b.2.map .int)) (.ref b.1) (.ref b.1) (.tup (SqT.of hb) (rows_dp b.2)) rfl
    refine ⟨rs, PyProof.Rows.Reads.keeps (fun c u e => ?_) rr⟩
    rw [ehS]
    obtain ⟨n1, n2⟩ := old c u e
    exact sortingHeap_old n1 n2
  have alikeAll_ : AllAlike (as.map fun b => PyData.tuple (b.2.map .int)) := AllAlike.of enc_alikeT
  have sortable : Sortable (as.map fun b => PyData.tuple (b.2.map .int)) := .inl fun dd hm => by
    obtain ⟨b, hb, rfl⟩ := List.mem_map.mp hm
    have mem : b.2 ∈ bs := a2 ▸ List.mem_map.mpr ⟨b, hb, rfl⟩
    cases e : b.2 with
    | nil => exact absurd e (hne _ mem)
    | cons x l => exact ⟨_, _, rfl⟩
  have shallow : ∀ dd ∈ as.map (fun b => PyData.tuple (b.2.map .int)), dd.depth = 1 := fun dd hm => by
    obtain ⟨b, _, rfl⟩ := List.mem_map.mp hm
    simp only [PyData.depth, depth_ints]
  show wpAny _ _ _ _ _ { s with heap := h1.push (seqObj "list" acc.toList.toArray 0), toks := tk }
  have sorts : ∀ Ar : Around, Ar.units ≤ X.A.units + 8 → SortsAt X.prog X.w Ar { s with heap := hS, toks := tk } (dataKind hS (as.map fun b => PyData.tuple (b.2.map .int))) acc.toList := fun Ar hA =>
    SortsAt.data (s := { s with heap := hS, toks := tk }) (each_map (R := fun v dd => ∃ rs, Reads hS v dd rs) (fun b : Addr × List Int => PyData.tuple (b.2.map .int)) reads) alikeAll_ sortable fun dd hm => by rw [shallow dd hm]; omega
  rw [ehS] at sorts reads
  have each3 := sortVals_data (R := fun v (b : Addr × List Int) => v = Value.ref b.1 ∧ True) (enc := fun b : Addr × List Int => PyData.tuple (b.2.map .int)) false each reads alikeAll_
  rw [le_tuples] at each3
  have back := each_back each3
  have short : ((as.mergeSort rowLe).map fun b => V.ref b.1).length ≤ sizeLine := by
    rw [List.length_map, List.length_mergeSort, l2]
    exact fits
  refine wpAny_bind (wpAny_holding (wpAny_call_entry PyProof.Rows.slot_list_sort ⟨_, at_p, rfl⟩ PyProof.Rows.entry_list_sort
    (list_sort_vals (s := { s with heap := h1.push (seqObj "list" acc.toList.toArray 0), toks := tk }) at_p (sorts _ (by show X.A.units + 1 + 1 ≤ X.A.units + 8; omega)) (by rw [len, l2]; exact fits) ⟨_, rfl, ?_⟩) (PyProof.Rows.args_list_sort _)))
  obtain ⟨n2, at2⟩ := PyProof.Rows.sortedHeap_at (vs := acc.toList) (out := (sortVals (dataKind (sortingHeap (h1.push (seqObj "list" acc.toList.toArray 0)) h1.objs.size acc.toList) (as.map fun b => PyData.tuple (b.2.map .int))) false acc.toList acc.toList).toArray) at_p
  refine wpAny_pure ⟨_, rfl, .ref h1.objs.size, upd H h1.objs.size (.lst ((as.mergeSort rowLe).map fun b => V.ref b.1)), I1.laid (t' := tk) (fun b u e => ?_) (Nat.le_refl _) ⟨short, _, n2, back, at2⟩, rfl, q as a2 a3 _ (I1.hok.fresh (Nat.le_refl _))⟩
  obtain ⟨n1, g⟩ := old b u e
  rw [PyProof.Rows.sortedHeap_old n1 (Heap.lt_size g)]
  exact g
end
end SortR

/-! Comprehensions with a test, and dict comprehensions, by the value of each turn. -/
namespace LcM
open PySem PySem.Spec PyProof.Rows L2
/-- what is kept -/
def kept (p : Nat → Bool) (F : Nat → V) (n : Nat) : List V := ((List.range n).filter p).map F
theorem kept_yes {p : Nat → Bool} {F : Nat → V} {n : Nat} (h : p n = true) : kept p F (n + 1) = kept p F n ++ [F n] := by
  unfold kept
  rw [List.range_succ, List.filter_append, List.map_append, List.filter_cons_of_pos h]
  rfl
theorem kept_no {p : Nat → Bool} {F : Nat → V} {n : Nat} (h : p n = false) : kept p F (n + 1) = kept p F n := by
  unfold kept
  rw [List.range_succ, List.filter_append, List.map_append, List.filter_cons_of_neg (by rw [h]; exact Bool.false_ne_true)]
  exact List.append_nil _
theorem kept_le (p : Nat → Bool) (F : Nat → V) (n : Nat) : (kept p F n).length ≤ n := by
  unfold kept
  rw [List.length_map]
  exact Nat.le_trans (List.length_filter_le _ _) (Nat.le_of_eq List.length_range)
section
variable {K : PySem.W.Frag} {a : Addr} {xs : List V} {g : TG} {tt : TT} {te tk tv : TE} {vs : List Nat} {σ : L2.St} {H0 : Hp} {D : Addr} {Qd : Hp → Prop}
theorem lc_listT (p : Nat → Bool) (F : Nat → V) (hD : H0 D = none) (hx : SqL K H0 a xs) (small : xs.length ≤ 1000000)
    (turn : ∀ (i : Nat) (x : V) (H : Hp) (Ry : V → Hp → Prop) (Rn : Hp → Prop), xs[i]? = some x → Grows H0 H → (p i = true → ∀ H4, Grows H H4 → Ry (F i) H4) → (p i = false → ∀ H4, Grows H H4 → Rn H4) →
      g x (wipe σ vs) H fun σ2 H2 => wipe σ2 vs = wipe σ vs ∧ tt σ2 H2 fun t H3 => if t = true then te σ2 H3 Ry else Rn H3)
    (done : ∀ H, Grows H0 H → H D = some (.lst (kept p F xs.length)) → Qd H) :
    ∃ W : Nat → Nat → Hp → Prop, (∃ m, W 0 m (upd H0 D (.lst []))) ∧ ∀ i m H, W i m H →
      ((Itl K a).stop i H ∧ Qd H) ∨ ((Itl K a).go i H ∧ ∃ Nx : Hp → Prop, (∀ H', Nx H' → ∃ m', m' < m ∧ W (i + 1) m' H') ∧ ∀ x H', (Itl K a).yld i H x H' → g x (wipe σ vs) H' fun σ2 H2 => wipe σ2 vs = wipe σ vs ∧ tt σ2 H2 fun b H3 =>
        if b = true then te σ2 H3 fun y H4 => ∃ acc, H4 D = some (.lst acc) ∧ acc.length < sizeLine ∧ Nx (upd H4 D (.lst (acc ++ [y]))) else Nx H3) := by
  refine lc_list (fun i H => Grows H0 H ∧ H D = some (.lst (kept p F i))) ⟨Grows.new hD, upd_same⟩ (fun i H _ m => m.1.seq hx) (fun i x H ex m => ?_) fun H m => done H m.1 m.2
  have il := Nat.lt_of_lt_of_le (List.getElem?_eq_some_iff.mp ex).1 small
  refine turn i x H _ _ ex m.1 (fun hp H4 s => ⟨_, s _ _ m.2, ?_, fun b o e => ?_, ?_⟩) fun hp H4 s => ⟨m.1.trans s, ?_⟩
  · exact Nat.lt_of_le_of_lt (kept_le p F i) (Nat.lt_trans il (by decide))
  · rw [upd_ne (ne_of_none e hD)]
    exact s _ _ (m.1 _ _ e)
  · rw [upd_same, kept_yes hp]
  · rw [kept_no hp]
    exact s _ _ m.2
/-- a dict's entries, laid one after another -/
def laid {κ : Type} [DecidableEq κ] (p : Nat → Bool) (G : Nat → κ) (F : Nat → V) : Nat → List (κ × V)
  | 0 => []
  | n + 1 => if p n = true then putK (laid p G F n) (G n) (F n) else laid p G F n
theorem laid_le {κ : Type} [DecidableEq κ] (p : Nat → Bool) (G : Nat → κ) (F : Nat → V) : ∀ n, (laid p G F n).length ≤ n
  | 0 => Nat.le_refl _
  | n + 1 => by
    have ih := laid_le p G F n
    unfold laid
    by_cases h : p n = true
    · rw [if_pos h]
      exact Nat.le_trans (length_putK _ _ _) (Nat.succ_le_succ ih)
    · rw [if_neg h]
      exact Nat.le_succ_of_le ih
/-- over enumerate, keys ints or texts, no test -/
theorem dc_enumM (G : Nat → L2.Key) (F : Nat → V) (hD : H0 D = none) (hx : SqL K H0 a xs) (small : xs.length ≤ 1000000)
    (turn : ∀ (i : Nat) (x : V) (T : Addr) (H : Hp) (R : V → Hp → V → Hp → Prop), xs[i]? = some x → Grows H0 H → H T = none → (∀ H4 H5, Grows (upd H T (.tup [.int (i : Nat), x])) H4 → Grows H4 H5 → R (kV (G i)) H4 (F i) H5) →
      g (.ref T) (wipe σ vs) (upd H T (.tup [.int (i : Nat), x])) fun σ2 H2 => wipe σ2 vs = wipe σ vs ∧ tk σ2 H2 fun y H4 => tv σ2 H4 fun z H5 => R y H4 z H5)
    (done : ∀ H, Grows H0 H → H D = some (.dK (laid (fun _ => true) G F xs.length)) → Qd H) :
    ∃ W : Nat → Nat → Hp → Prop, (∃ m, W 0 m (upd H0 D (.dK []))) ∧ ∀ i m H, W i m H →
      ((Ite K a).stop i H ∧ Qd H) ∨ ((Ite K a).go i H ∧ ∃ Nx : Hp → Prop, (∀ H', Nx H' → ∃ m', m' < m ∧ W (i + 1) m' H') ∧ ∀ x H', (Ite K a).yld i H x H' → g x (wipe σ vs) H' fun σ2 H2 => wipe σ2 vs = wipe σ vs ∧ tYes σ2 H2 fun b H3 =>
        if b = true then tk σ2 H3 fun y H4 => tv σ2 H4 fun z H5 => ∃ kvs k, y = kV k ∧ H5 D = some (.dK kvs) ∧ kvs.length < sizeLine ∧ Nx (upd H5 D (.dK (putK kvs k z))) else Nx H3) := by
  let inv : Nat → Hp → Prop := fun i H => Grows H0 H ∧ H D = some (.dK (laid (fun _ => true) G F i))
  refine ⟨fun i m H => m = xs.length - i ∧ i ≤ xs.length ∧ inv i H, ⟨_, rfl, Nat.zero_le _, Grows.new hD, upd_same⟩, ?_⟩
  rintro i m H ⟨rfl, hi, pv⟩
  rcases Nat.lt_or_ge i xs.length with lt | ge
  · have ex : xs[i]? = some xs[i] := List.getElem?_eq_getElem lt
    refine .inr ⟨⟨xs, _, pv.1.seq hx, ex⟩, inv (i + 1), fun H' p' => ⟨xs.length - (i + 1), by omega, rfl, lt, p'⟩, fun v H' y => ?_⟩
    obtain ⟨T, x, rfl, hT, rfl, f1⟩ := y
    have e0 : (fun (σ2 : L2.St) (H2 : Hp) => wipe σ2 vs = wipe σ vs ∧ tYes σ2 H2 fun b H3 => if b = true then tk σ2 H3 fun y H4 => tv σ2 H4 fun z H5 => ∃ kvs k, y = kV k ∧ H5 D = some (.dK kvs) ∧ kvs.length < sizeLine ∧ inv (i + 1) (upd H5 D (.dK (putK kvs k z))) else inv (i + 1) H3) =
        fun σ2 H2 => wipe σ2 vs = wipe σ vs ∧ tk σ2 H2 fun y H4 => tv σ2 H4 fun z H5 => ∃ kvs k, y = kV k ∧ H5 D = some (.dK kvs) ∧ kvs.length < sizeLine ∧ inv (i + 1) (upd H5 D (.dK (putK kvs k z))) := by
      funext σ2 H2
      unfold tYes
      dsimp only
      rw [if_pos rfl]
    rw [e0]
    refine turn i x T H (fun y _ z H5 => ∃ kvs k, y = kV k ∧ H5 D = some (.dK kvs) ∧ kvs.length < sizeLine ∧ inv (i + 1) (upd H5 D (.dK (putK kvs k z)))) (f1 xs (pv.1.seq hx)) pv.1 hT fun H4 H5 s4 s5 => ⟨_, G i, rfl, s5 _ _ (s4 _ _ (Grows.new hT _ _ pv.2)), ?_, fun b o e => ?_, ?_⟩
    · exact Nat.lt_of_le_of_lt (laid_le _ G F i) (Nat.lt_of_lt_of_le lt (Nat.le_trans small (by decide)))
    · rw [upd_ne (ne_of_none e hD)]
      exact s5 _ _ (s4 _ _ (Grows.new hT _ _ (pv.1 _ _ e)))
    · rw [upd_same]
      rfl
  · have e : i = xs.length := by omega
    subst e
    exact .inl ⟨⟨xs, pv.1.seq hx, Nat.le_refl _⟩, done H pv.1 pv.2⟩
/-- over a list, the keys tuples, with a test -/
theorem dc_listTT (p : Nat → Bool) (G : Nat → List L2.Key) (F : Nat → V) (hD : H0 D = none) (hx : SqL K H0 a xs) (small : xs.length ≤ 1000000)
    (turn : ∀ (i : Nat) (x : V) (H : Hp) (R : V → V → Hp → Prop) (Rn : Hp → Prop), xs[i]? = some x → Grows H0 H → (p i = true → ∀ b H5, Grows H H5 → H5 b = some (.tup ((G i).map kV)) → R (.ref b) (F i) H5) → (p i = false → ∀ H4, Grows H H4 → Rn H4) →
      g x (wipe σ vs) H fun σ2 H2 => wipe σ2 vs = wipe σ vs ∧ tt σ2 H2 fun t H3 => if t = true then tk σ2 H3 fun y H4 => tv σ2 H4 fun z H5 => R y z H5 else Rn H3)
    (done : ∀ H, Grows H0 H → H D = some (.dT (laid p G F xs.length)) → Qd H) :
    ∃ W : Nat → Nat → Hp → Prop, (∃ m, W 0 m (upd H0 D (.dT []))) ∧ ∀ i m H, W i m H →
      ((Itl K a).stop i H ∧ Qd H) ∨ ((Itl K a).go i H ∧ ∃ Nx : Hp → Prop, (∀ H', Nx H' → ∃ m', m' < m ∧ W (i + 1) m' H') ∧ ∀ x H', (Itl K a).yld i H x H' → g x (wipe σ vs) H' fun σ2 H2 => wipe σ2 vs = wipe σ vs ∧ tt σ2 H2 fun t H3 =>
        if t = true then tk σ2 H3 fun y H4 => tv σ2 H4 fun z H5 => ∃ b kvs k, y = .ref b ∧ H5 b = some (.tup (k.map kV)) ∧ H5 D = some (.dT kvs) ∧ kvs.length < sizeLine ∧ Nx (upd H5 D (.dT (putK kvs k z))) else Nx H3) := by
  let inv : Nat → Hp → Prop := fun i H => Grows H0 H ∧ H D = some (.dT (laid p G F i))
  refine ⟨fun i m H => m = xs.length - i ∧ i ≤ xs.length ∧ inv i H, ⟨_, rfl, Nat.zero_le _, Grows.new hD, upd_same⟩, ?_⟩
  rintro i m H ⟨rfl, hi, pv⟩
  rcases Nat.lt_or_ge i xs.length with lt | ge
  · have ex : xs[i]? = some xs[i] := List.getElem?_eq_getElem lt
    refine .inr ⟨⟨xs, _, pv.1.seq hx, ex⟩, inv (i + 1), fun H' p' => ⟨xs.length - (i + 1), by omega, rfl, lt, p'⟩, fun v H' y => ?_⟩
    obtain ⟨rfl, y⟩ := y
    refine turn i v _ (fun y z H5 => ∃ b kvs k, y = .ref b ∧ H5 b = some (.tup (k.map kV)) ∧ H5 D = some (.dT kvs) ∧ kvs.length < sizeLine ∧ inv (i + 1) (upd H5 D (.dT (putK kvs k z)))) (inv (i + 1)) (y xs (pv.1.seq hx)) pv.1 (fun hp b H5 s5 hb => ⟨b, _, G i, rfl, hb, s5 _ _ pv.2, ?_, fun c o e => ?_, ?_⟩) fun hp H4 s4 => ⟨pv.1.trans s4, ?_⟩
    · exact Nat.lt_of_le_of_lt (laid_le _ G F i) (Nat.lt_of_lt_of_le lt (Nat.le_trans small (by decide)))
    · rw [upd_ne (ne_of_none e hD)]
      exact s5 _ _ (pv.1 _ _ e)
    · rw [upd_same]
      show _ = some (HO.dT (if p i = true then _ else _))
      rw [if_pos hp]
    · rw [s4 _ _ pv.2]
      show _ = some (HO.dT (if p i = true then _ else _))
      rw [if_neg (by rw [hp]; exact Bool.false_ne_true)]
  · have e : i = xs.length := by omega
    subst e
    exact .inl ⟨⟨xs, pv.1.seq hx, Nat.le_refl _⟩, done H pv.1 pv.2⟩
end
end LcM

/-! A comprehension that makes new lists of ints. -/
namespace LcM
open PySem PySem.Spec PyProof.Rows L2
/-- new lists of ints -/
structure Nw (H0 H : Hp) (cs : List (Addr × List Int)) : Prop where
  lists : ∀ c ∈ cs, H c.1 = some (.lst (c.2.map V.int))
  new : ∀ c ∈ cs, H0 c.1 = none
  nodup : (cs.map (·.1)).Nodup
theorem Nw.keep {H0 H H' : Hp} {cs : List (Addr × List Int)} (n : Nw H0 H cs) (s : Grows H H') : Nw H0 H' cs := ⟨fun c m => s _ _ (n.lists c m), n.new, n.nodup⟩
section
variable {K : PySem.W.Frag} {a : Addr} {xs : List V} {g : TG} {te : TE} {vs : List Nat} {σ : L2.St} {H0 : Hp} {D : Addr} {Qd : Hp → Prop}
theorem lc_listR (R : Nat → List Int) (hD : H0 D = none) (hx : SqL K H0 a xs) (small : xs.length ≤ 1000000)
    (turn : ∀ (i : Nat) (x : V) (H : Hp) (Rk : V → Hp → Prop), xs[i]? = some x → Grows H0 H → (∀ q H4, Grows H H4 → H q = none → H4 q = some (.lst ((R i).map V.int)) → Rk (.ref q) H4) → g x (wipe σ vs) H fun σ2 H2 => wipe σ2 vs = wipe σ vs ∧ te σ2 H2 Rk)
    (done : ∀ H cs, Grows H0 H → cs.map (·.2) = (List.range xs.length).map R → Nw H0 H cs → (∀ c ∈ cs, c.1 ≠ D) → H D = some (.lst (cs.map fun c => V.ref c.1)) → Qd H) :
    ∃ W : Nat → Nat → Hp → Prop, (∃ m, W 0 m (upd H0 D (.lst []))) ∧ ∀ i m H, W i m H →
      ((Itl K a).stop i H ∧ Qd H) ∨ ((Itl K a).go i H ∧ ∃ Nx : Hp → Prop, (∀ H', Nx H' → ∃ m', m' < m ∧ W (i + 1) m' H') ∧ ∀ x H', (Itl K a).yld i H x H' → g x (wipe σ vs) H' fun σ2 H2 => wipe σ2 vs = wipe σ vs ∧ tYes σ2 H2 fun b H3 =>
        if b = true then te σ2 H3 fun y H4 => ∃ acc, H4 D = some (.lst acc) ∧ acc.length < sizeLine ∧ Nx (upd H4 D (.lst (acc ++ [y]))) else Nx H3) := by
  refine lc_list (fun i H => ∃ cs : List (Addr × List Int), Grows H0 H ∧ cs.map (·.2) = (List.range i).map R ∧ Nw H0 H cs ∧ (∀ c ∈ cs, c.1 ≠ D) ∧ H D = some (.lst (cs.map fun c => V.ref c.1)))
    ⟨[], Grows.new hD, rfl, ⟨(fun _ m => nomatch m), (fun _ m => nomatch m), List.Pairwise.nil⟩, (fun _ m => nomatch m), upd_same⟩ (fun i H _ ⟨_, s, _⟩ => s.seq hx) (fun i x H ex ⟨cs, s, e, n, apart, top⟩ => ?_) fun H ⟨cs, s, e, n, apart, top⟩ => done H cs s e n apart top
  rw [yes_eq (A := fun σ2 => wipe σ2 vs = wipe σ vs)]
  refine turn i x H _ ex s fun q H4 s4 hq at_q => ?_
  have il := Nat.lt_of_lt_of_le (List.getElem?_eq_some_iff.mp ex).1 small
  have len : cs.length = i := by
    have := congrArg List.length e
    rw [List.length_map, List.length_map, List.length_range] at this
    exact this
  have qD : q ≠ D := fun z => by
    rw [z, top] at hq
    cases hq
  have all : Grows H0 (upd H4 D (.lst (cs.map (fun c => V.ref c.1) ++ [.ref q]))) := fun b o eb => by
    rw [upd_ne (ne_of_none eb hD)]
    exact s4 _ _ (s _ _ eb)
  have q0 : H0 q = none := by
    rcases Option.eq_none_or_eq_some (H0 q) with z | ⟨o, z⟩
    · exact z
    · have := s _ _ z
      rw [hq] at this
      cases this
  refine ⟨_, s4 _ _ top, ?_, cs ++ [(q, R i)], all, ?_, ⟨?_, ?_, ?_⟩, ?_, ?_⟩
  · rw [List.length_map, len]
    exact Nat.lt_trans il (by decide)
  · rw [List.map_append, e, List.range_succ, List.map_append]
    rfl
  · intro c m
    rcases List.mem_append.mp m with m | m
    · rw [upd_ne (apart c m)]
      exact s4 _ _ (n.lists c m)
    · rw [List.mem_singleton.mp m, upd_ne qD]
      exact at_q
  · intro c m
    rcases List.mem_append.mp m with m | m
    · exact n.new c m
    · rw [List.mem_singleton.mp m]
      exact q0
  · rw [List.map_append, List.nodup_append]
    refine ⟨n.nodup, List.nodup_cons.mpr ⟨(fun z => nomatch z), List.Pairwise.nil⟩, fun b mb d md => ?_⟩
    obtain ⟨c, mc, rfl⟩ := List.mem_map.mp mb
    have ed : d = q := by simpa using md
    rw [ed]
    intro z
    have := n.lists c mc
    rw [z, hq] at this
    cases this
  · intro c m
    rcases List.mem_append.mp m with m | m
    · exact apart c m
    · rw [List.mem_singleton.mp m]
      exact qD
  · rw [upd_same, List.map_append]
    rfl
end
end LcM

/-! Rules with their readings named by K, for use within comprehensions. -/
namespace LcM
open PySem PySem.Spec PyProof.Rows L2
def rLenS (K : PySem.W.Frag) : List V → Hp → VK → Prop := fun xs H Q => ∃ p ys, xs = [.ref p] ∧ (SqL K H p ys ∨ SqT K H p ys) ∧ Q (.int ys.length) H
def rLst (K : PySem.W.Frag) : List V → Hp → VK → Prop := fun xs H Q => ∃ p ys, xs = [.ref p] ∧ (SqL K H p ys ∨ SqT K H p ys) ∧ ∀ l, H l = none → Q (.ref l) (upd H l (.lst ys))
def rTup (K : PySem.W.Frag) : List V → Hp → VK → Prop := fun xs H Q => ∃ p ys, xs = [.ref p] ∧ SqL K H p ys ∧ ∀ t, H t = none → Q (.ref t) (upd H t (.tup ys))
section
variable {X : Cx}
theorem call_lenK : CallR X (.builtin "len") (rLenS X.K) := fun pins s σ H xs us Q I r ⟨p, ys, e, h, q⟩ => call_len_seq pins s σ H xs us Q I r ⟨p, ys, e, h, q⟩
theorem call_lstK : CallR X (.type "list") (rLst X.K) := fun pins s σ H xs us Q I r ⟨p, ys, e, h, q⟩ => call_list_of pins s σ H xs us Q I r ⟨p, ys, e, h, q⟩
theorem call_tupK : CallR X (.type "tuple") (rTup X.K) := fun pins s σ H xs us Q I r ⟨p, ys, e, h, q⟩ => call_tuple_of pins s σ H xs us Q I r ⟨p, ys, e, .inl ⟨h, q⟩⟩
end
end LcM

/-! What cut gives, on lists of lists of ints. -/
namespace LcM
open PySem PySem.Spec PyProof.Rows L2 SortR
/-- the last place of x among the first n -/
def plcN (ns : List Int) (x : Int) : Nat → Option Nat
  | 0 => none
  | n + 1 => if ns.getD n 0 = x then some n else plcN ns x n
def plc (ns : List Int) (x : Int) : Option Nat := plcN ns x ns.length
theorem valV_laid (ns : List Int) (x : Int) : ∀ n, valV (laid (fun _ => true) (fun i => (Sum.inl (ns.getD i 0) : L2.Key)) (fun i => V.int (i : Nat)) n) (Sum.inl x) = (plcN ns x n).map fun j => V.int (j : Nat)
  | 0 => rfl
  | n + 1 => by
    have ih := valV_laid ns x n
    unfold laid plcN
    rw [if_pos rfl, valV_put]
    by_cases e : ns.getD n 0 = x
    · rw [if_pos e, if_pos (by rw [e])]
      rfl
    · rw [if_neg e, if_neg (fun z => e (Sum.inl.inj z).symm)]
      exact ih
/-- a group's persons who stay, by their places -/
def meet (ns r : List Int) : List Int := ((List.range r.length).filter fun i => (plc ns (r.getD i 0)).isSome).map fun i => (((plc ns (r.getD i 0)).getD 0 : Nat) : Int)
def two (m : List Int) : Bool := decide (2 ≤ (m.length : Int))
/-- unlike rows, in the sequence in which they come first -/
def firsts (p : Nat → Bool) (M : Nat → List Int) : Nat → List (List Int)
  | 0 => []
  | n + 1 => if p n = true then (if M n ∈ firsts p M n then firsts p M n else firsts p M n ++ [M n]) else firsts p M n
theorem put_keys {κ : Type} [DecidableEq κ] (kvs : List (κ × V)) (k : κ) (v : V) : (putK kvs k v).map (·.1) = if k ∈ kvs.map (·.1) then kvs.map (·.1) else kvs.map (·.1) ++ [k] := by
  unfold putK
  by_cases h : (kvs.any fun kv => decide (kv.1 = k)) = true
  · rw [if_pos h]
    obtain ⟨kv, hm, e⟩ := List.any_eq_true.mp h
    rw [if_pos (List.mem_map.mpr ⟨kv, hm, of_decide_eq_true e⟩), List.map_map]
    refine List.map_congr_left fun q _ => ?_
    show (if q.1 = k then (q.1, v) else q).1 = q.1
    split <;> rfl
  · rw [if_neg h, if_neg fun z => ?_, List.map_append]
    · rfl
    · obtain ⟨kv, hm, e⟩ := List.mem_map.mp z
      exact h (List.any_eq_true.mpr ⟨kv, hm, decide_eq_true e⟩)
theorem inl_inj {m n : List Int} (h : (m.map Sum.inl : List L2.Key) = n.map Sum.inl) : m = n := by
  induction m generalizing n with
  | nil =>
    cases n with
    | nil => rfl
    | cons _ _ => cases h
  | cons x m ih =>
    cases n with
    | nil => cases h
    | cons y n =>
      rw [List.map_cons, List.map_cons] at h
      obtain ⟨h1, h2⟩ := List.cons.inj h
      rw [Sum.inl.inj h1, ih h2]
theorem keys_laid (p : Nat → Bool) (M : Nat → List Int) (F : Nat → V) : ∀ n, (laid p (fun i => ((M i).map Sum.inl : List L2.Key)) F n).map (·.1) = (firsts p M n).map fun m => m.map Sum.inl
  | 0 => rfl
  | n + 1 => by
    have ih := keys_laid p M F n
    unfold laid firsts
    by_cases h : p n = true
    · rw [if_pos h, if_pos h, put_keys, ih]
      by_cases m : M n ∈ firsts p M n
      · rw [if_pos m, if_pos (List.mem_map.mpr ⟨_, m, rfl⟩)]
      · rw [if_neg m, if_neg fun z => ?_, List.map_append]
        · rfl
        · obtain ⟨r, hr, e⟩ := List.mem_map.mp z
          rw [inl_inj e] at hr
          exact m hr
    · rw [if_neg h, if_neg h]
      exact ih
theorem firsts_of (p : Nat → Bool) (M : Nat → List Int) : ∀ n, ∀ r ∈ firsts p M n, ∃ i, i < n ∧ p i = true ∧ r = M i
  | 0, _, h => nomatch h
  | n + 1, r, h => by
    have ih := firsts_of p M n r
    unfold firsts at h
    have old : r ∈ firsts p M n → ∃ i, i < n + 1 ∧ p i = true ∧ r = M i := fun z => let ⟨i, a, b, c⟩ := ih z; ⟨i, Nat.lt_succ_of_lt a, b, c⟩
    by_cases hp : p n = true
    · rw [if_pos hp] at h
      split at h
      · exact old h
      · rcases List.mem_append.mp h with z | z
        · exact old z
        · exact ⟨n, Nat.lt_succ_self n, hp, List.mem_singleton.mp z⟩
    · rw [if_neg hp] at h
      exact old h
theorem firsts_le (p : Nat → Bool) (M : Nat → List Int) : ∀ n, (firsts p M n).length ≤ n
  | 0 => Nat.le_refl _
  | n + 1 => by
    have ih := firsts_le p M n
    unfold firsts
    split
    · split
      · omega
      · rw [List.length_append, List.length_singleton]
        omega
    · omega
def cutR (rs : List (List Int)) (ns : List Int) : List (List Int) := (firsts (fun i => two (meet ns (rs.getD i []))) (fun i => meet ns (rs.getD i [])) rs.length).mergeSort fun p q => decide (p ≤ q)
theorem sort_rows (as : List (Addr × List Int)) : (as.mergeSort rowLe).map (·.2) = (as.map (·.2)).mergeSort fun p q => decide (p ≤ q) := List.map_mergeSort fun _ _ _ _ => rfl
end LcM

/-! Lists of ints and lists of such, as data. -/
namespace LcM
open PySem PySem.Spec PyProof.Rows L2 SortR
theorem eqvAll_ints : ∀ ns ms : List Int, PyData.eqvAll (ns.map .int) (ms.map .int) = decide (ns = ms)
  | [], [] => by
    simp only [List.map_nil, PyData.eqvAll]
    exact (decide_eq_true (rfl : ([] : List Int) = [])).symm
  | x :: ns, y :: ms => by
    rw [List.map_cons, List.map_cons, PyData.eqvAll, eqvAll_ints ns ms, PyData.eqv]
    by_cases e : x = y
    · rw [e, beq_self_eq_true, Bool.true_and]
      by_cases e2 : ns = ms
      · rw [decide_eq_true e2, decide_eq_true (by rw [e2])]
      · rw [decide_eq_false e2, decide_eq_false fun z => e2 (List.cons.inj z).2]
    · rw [beq_eq_false_iff_ne.mpr e, Bool.false_and, decide_eq_false fun z => e (List.cons.inj z).1]
  | [], _ :: _ => by
    rw [List.map_nil, List.map_cons, PyData.eqvAll]
    exact (decide_eq_false fun z => nomatch z).symm
  | _ :: _, [] => by
    rw [List.map_nil, List.map_cons, PyData.eqvAll]
    exact (decide_eq_false fun z => nomatch z).symm
theorem eqv_ints (ns ms : List Int) : PyData.eqv (PyData.list (ns.map .int)) (PyData.list (ms.map .int)) = decide (ns = ms) := by
  rw [PyData.eqv]
  exact eqvAll_ints ns ms
theorem eqvAll_rows : ∀ rs qs : List (List Int), PyData.eqvAll (rs.map fun r => .list (r.map .int)) (qs.map fun r => .list (r.map .int)) = decide (rs = qs)
  | [], [] => by
    simp only [List.map_nil, PyData.eqvAll]
    exact (decide_eq_true (rfl : ([] : List (List Int)) = [])).symm
  | x :: ns, y :: ms => by
    rw [List.map_cons, List.map_cons, PyData.eqvAll, eqvAll_rows ns ms, eqv_ints]
    by_cases e : x = y
    · rw [decide_eq_true e, Bool.true_and]
      by_cases e2 : ns = ms
      · rw [decide_eq_true e2, decide_eq_true (by rw [e, e2])]
      · rw [decide_eq_false e2, decide_eq_false fun z => e2 (List.cons.inj z).2]
    · rw [decide_eq_false e, Bool.false_and, decide_eq_false fun z => e (List.cons.inj z).1]
  | [], _ :: _ => by
    rw [List.map_nil, List.map_cons, PyData.eqvAll]
    exact (decide_eq_false fun z => nomatch z).symm
  | _ :: _, [] => by
    rw [List.map_nil, List.map_cons, PyData.eqvAll]
    exact (decide_eq_false fun z => nomatch z).symm
theorem eqv_rows (rs qs : List (List Int)) : PyData.eqv (PyData.list (rs.map fun r => .list (r.map .int))) (PyData.list (qs.map fun r => .list (r.map .int))) = decide (rs = qs) := by
  rw [PyData.eqv]
  exact eqvAll_rows rs qs
theorem lay_ints : ∀ ns : List Int, PyData.canLayAll0 (ns.map .int) = true
  | [] => by simp only [List.map_nil, PyData.canLayAll0]
  | n :: ns => by simp only [List.map_cons, PyData.canLayAll0, PyData.canLay0, lay_ints ns, Bool.and_self]
theorem lay_rows : ∀ rs : List (List Int), PyData.canLayAll0 (rs.map fun r => .list (r.map .int)) = true
  | [] => by simp only [List.map_nil, PyData.canLayAll0]
  | r :: rs => by simp only [List.map_cons, PyData.canLayAll0, PyData.canLay0, lay_ints r, lay_rows rs, Bool.and_self]
theorem depth_rows : ∀ rs : List (List Int), PyData.depthAll (rs.map fun r => .list (r.map .int)) ≤ 1
  | [] => by simp only [List.map_nil, PyData.depthAll]; omega
  | r :: rs => by
    have := depth_rows rs
    simp only [List.map_cons, PyData.depthAll, PyData.depth, PySem.W.depth_ints]
    omega
theorem shaped_ints (ns : List Int) : SeqAt.shaped (PyData.list (ns.map .int)) = true := by
  unfold SeqAt.shaped
  simp only [PyData.canLay0, lay_ints, PyData.depth, PySem.W.depth_ints]
  decide
theorem shaped_rows (rs : List (List Int)) : SeqAt.shaped (PyData.list (rs.map fun r => .list (r.map .int))) = true := by
  have d := depth_rows rs
  have e : (PyData.list (rs.map fun r => .list (r.map .int))).depth ≤ 64 := by
    simp only [PyData.depth]
    omega
  unfold SeqAt.shaped
  rw [decide_eq_true e, Bool.and_true]
  simp only [PyData.canLay0, lay_rows]
/-- lists of lists as data -/
theorem rows_data {K : PySem.W.Frag} {H : Hp} : ∀ {bs : List (Addr × List Int)}, (∀ b ∈ bs, SqL K H b.1 (b.2.map V.int)) → DpAll K H (bs.map fun b => V.ref b.1) ((bs.map (·.2)).map fun r => .list (r.map .int))
  | [], _ => .nil
  | b :: bs, h => .cons (.lst (h b List.mem_cons_self) (rows_dp b.2)) (rows_data fun c m => h c (List.mem_cons_of_mem _ m))
end LcM

/-! sorted(xs), xs ints, THE sorted list. -/
namespace SortR
open PySem PySem.Spec PyProof.Rows L2 PySem.W
def intLe (p q : Int) : Bool := decide (p ≤ q)
theorem ints_each {h : Heap} : ∀ {ns : List Int} {us : List Value}, Vals (ns.map V.int) us → EachIs (fun v (n : Int) => ∃ t, v = Value.int n t) us ns
  | [], _, .nil => .nil
  | _ :: _, _, .cons h1 h2 => .cons h1 (ints_each (h := h) h2)
theorem each_ints : ∀ {us : List Value} {ns : List Int}, EachIs (fun v (n : Int) => ∃ t, v = Value.int n t) us ns → Vals (ns.map V.int) us
  | _, _, .nil => .nil
  | _, _, .cons h t => .cons h (each_ints t)
section
variable {X : Cx}
theorem call_sortedInts (hu : X.A.units + 64 < cLine) : CallR X (.builtin "sorted") (fun xs H Q => ∃ (a : Addr) (ns : List Int), xs = [V.ref a] ∧ SqL X.K H a (ns.map V.int) ∧ ∀ p, H p = none → Q (.ref p) (upd H p (.lst ((ns.mergeSort intLe).map V.int)))) := by
  intro pins s σ H xs us Q I r h
  obtain ⟨a, ns, rfl, hs, q⟩ := h
  obtain ⟨u, rfl, ru⟩ := vals1 r
  obtain rfl : u = Value.ref a := ru
  obtain ⟨its, rv, hl, hz⟩ := I.list hs
  have each := ints_each (h := s.heap) rv
  have len : its.length = ns.length := by rw [← rv.length, List.length_map]
  have reads : EachIs (fun v (n : Int) => ∃ as, Reads s.heap v (PyData.int n) as) its ns := each_mono each fun v n ⟨t, e⟩ => by
    rw [e]
    exact ⟨_, Reads.int n t⟩
  have le : dataLe false (fun n : Int => PyData.int n) = intLe := dataLe_int fun n : Int => n
  refine sorted_data (enc := fun n : Int => PyData.int n) hl.isList each reads (AllAlike.of fun p q => by simp only [alike]) (Sortable.others fun b => ⟨(fun z => nomatch z), fun xs z => nomatch z⟩) (by rw [List.length_map] at hz; exact hz) (fun b _ => by
    have d : (PyData.int b).depth = 0 := by simp only [PyData.depth]
    rw [d]
    omega) fun out ho each3 => ?_
  rw [le] at each3
  have back := each_ints each3
  obtain ⟨n, hn⟩ := sortedAll_at s.heap its out.toArray
  refine ⟨.ref (s.heap.objs.size + 1), upd H (s.heap.objs.size + 1) (.lst ((ns.mergeSort intLe).map V.int)), I.laid (t' := s.toks) (fun b o e => sortedAll_old e) (Nat.le_succ _) ⟨?_, out, n, back, hn⟩, rfl, q _ (I.hok.fresh (Nat.le_succ _))⟩
  rw [List.length_map, List.length_mergeSort]
  rw [List.length_map] at hz
  exact hz
end
end SortR

/-! Comprehensions over a tuple or a list, each turn's value by a relation that lasts. -/
namespace LcM
open PySem PySem.Spec PyProof.Rows L2
/-- so far -/
structure Mx (H0 : Hp) (D : Addr) (Rel : Nat → V → Hp → Prop) (i : Nat) (H : Hp) (ys : List V) : Prop where
  grow : Grows H0 H
  top : H D = some (.lst ys)
  len : ys.length = i
  rel : ∀ j y, ys[j]? = some y → Rel j y H
theorem Mx.more {H0 H H4 : Hp} {D : Addr} {Rel : Nat → V → Hp → Prop} {i : Nat} {ys : List V} {y : V} (last : ∀ j y H H', Grows H H' → Rel j y H → Rel j y H') (free : ∀ j y H zs, Rel j y H → H D = some (.lst zs) → ∀ u, Rel j y (upd H D u)) (hD : H0 D = none) (m : Mx H0 D Rel i H ys) (s : Grows H H4) (r : Rel i y H4) (small : i < 1000000) :
    ∃ acc, H4 D = some (.lst acc) ∧ acc.length < sizeLine ∧ ∃ ys', Mx H0 D Rel (i + 1) (upd H4 D (.lst (acc ++ [y]))) ys' := by
  have at_D := s _ _ m.top
  refine ⟨ys, at_D, ?_, ys ++ [y], fun b o e => ?_, upd_same, ?_, fun j z e => ?_⟩
  · rw [m.len]
    exact Nat.lt_trans small (by decide)
  · rw [upd_ne (ne_of_none e hD)]
    exact s _ _ (m.grow _ _ e)
  · rw [List.length_append, m.len]
    rfl
  · rcases Nat.lt_or_ge j ys.length with l | g
    · rw [List.getElem?_append_left l] at e
      exact free j z H4 _ (last j z H H4 s (m.rel j z e)) at_D _
    · rw [List.getElem?_append_right g] at e
      have zero : j - ys.length = 0 := by
        rcases Nat.eq_zero_or_pos (j - ys.length) with q | q
        · exact q
        · rw [List.getElem?_eq_none (by show 1 ≤ j - ys.length; omega)] at e
          cases e
      rw [zero] at e
      obtain rfl : y = z := Option.some.inj e
      obtain rfl : j = i := by rw [← m.len]; omega
      exact free j y H4 _ r at_D _
section
variable {K : PySem.W.Frag} {a : Addr} {xs : List V} {g : TG} {te : TE} {vs : List Nat} {σ : L2.St} {H0 : Hp} {D : Addr} {Qd : Hp → Prop}
theorem lc_tupX (Rel : Nat → V → Hp → Prop) (last : ∀ j y H H', Grows H H' → Rel j y H → Rel j y H') (free : ∀ j y H zs, Rel j y H → H D = some (.lst zs) → ∀ u, Rel j y (upd H D u)) (hD : H0 D = none) (hx : SqT K H0 a xs) (small : xs.length ≤ 1000000)
    (turn : ∀ (i : Nat) (x : V) (H : Hp) (Rk : V → Hp → Prop), xs[i]? = some x → Grows H0 H → H D ≠ none → (∀ y H4, Grows H H4 → Rel i y H4 → Rk y H4) → g x (wipe σ vs) H fun σ2 H2 => wipe σ2 vs = wipe σ vs ∧ te σ2 H2 Rk)
    (done : ∀ H ys, Mx H0 D Rel xs.length H ys → Qd H) :
    ∃ W : Nat → Nat → Hp → Prop, (∃ m, W 0 m (upd H0 D (.lst []))) ∧ ∀ i m H, W i m H →
      ((Itt K a).stop i H ∧ Qd H) ∨ ((Itt K a).go i H ∧ ∃ Nx : Hp → Prop, (∀ H', Nx H' → ∃ m', m' < m ∧ W (i + 1) m' H') ∧ ∀ x H', (Itt K a).yld i H x H' → g x (wipe σ vs) H' fun σ2 H2 => wipe σ2 vs = wipe σ vs ∧ tYes σ2 H2 fun b H3 =>
        if b = true then te σ2 H3 fun y H4 => ∃ acc, H4 D = some (.lst acc) ∧ acc.length < sizeLine ∧ Nx (upd H4 D (.lst (acc ++ [y]))) else Nx H3) := by
  refine lc_tup (fun i H => ∃ ys, Mx H0 D Rel i H ys) ⟨[], Grows.new hD, upd_same, rfl, fun j y e => by rw [List.getElem?_nil] at e; cases e⟩ (fun i H _ ⟨_, m⟩ => m.grow.tup hx) (fun i x H ex ⟨ys, m⟩ => ?_) fun H ⟨ys, m⟩ => done H ys m
  rw [yes_eq (A := fun σ2 => wipe σ2 vs = wipe σ vs)]
  exact turn i x H _ ex m.grow (by rw [m.top]; exact fun z => nomatch z) fun y H4 s r => m.more last free hD s r (Nat.lt_of_lt_of_le (List.getElem?_eq_some_iff.mp ex).1 small)
theorem lc_listX (Rel : Nat → V → Hp → Prop) (last : ∀ j y H H', Grows H H' → Rel j y H → Rel j y H') (free : ∀ j y H zs, Rel j y H → H D = some (.lst zs) → ∀ u, Rel j y (upd H D u)) (hD : H0 D = none) (hx : SqL K H0 a xs) (small : xs.length ≤ 1000000)
    (turn : ∀ (i : Nat) (x : V) (H : Hp) (Rk : V → Hp → Prop), xs[i]? = some x → Grows H0 H → H D ≠ none → (∀ y H4, Grows H H4 → Rel i y H4 → Rk y H4) → g x (wipe σ vs) H fun σ2 H2 => wipe σ2 vs = wipe σ vs ∧ te σ2 H2 Rk)
    (done : ∀ H ys, Mx H0 D Rel xs.length H ys → Qd H) :
    ∃ W : Nat → Nat → Hp → Prop, (∃ m, W 0 m (upd H0 D (.lst []))) ∧ ∀ i m H, W i m H →
      ((Itl K a).stop i H ∧ Qd H) ∨ ((Itl K a).go i H ∧ ∃ Nx : Hp → Prop, (∀ H', Nx H' → ∃ m', m' < m ∧ W (i + 1) m' H') ∧ ∀ x H', (Itl K a).yld i H x H' → g x (wipe σ vs) H' fun σ2 H2 => wipe σ2 vs = wipe σ vs ∧ tYes σ2 H2 fun b H3 =>
        if b = true then te σ2 H3 fun y H4 => ∃ acc, H4 D = some (.lst acc) ∧ acc.length < sizeLine ∧ Nx (upd H4 D (.lst (acc ++ [y]))) else Nx H3) := by
  refine lc_list (fun i H => ∃ ys, Mx H0 D Rel i H ys) ⟨[], Grows.new hD, upd_same, rfl, fun j y e => by rw [List.getElem?_nil] at e; cases e⟩ (fun i H _ ⟨_, m⟩ => m.grow.seq hx) (fun i x H ex ⟨ys, m⟩ => ?_) fun H ⟨ys, m⟩ => done H ys m
  rw [yes_eq (A := fun σ2 => wipe σ2 vs = wipe σ vs)]
  exact turn i x H _ ex m.grow (by rw [m.top]; exact fun z => nomatch z) fun y H4 s r => m.more last free hD s r (Nat.lt_of_lt_of_le (List.getElem?_eq_some_iff.mp ex).1 small)
/-- a loop over enumerate of a list that stands still -/
theorem for_enumL {tb : TS} {Dn : Ends} (Pv : Nat → L2.St → Hp → Prop) (h0 : Pv 0 σ H0) (hl : ∀ i σ H, Pv i σ H → SqL K H a xs)
    (hs : ∀ (i : Nat) (x : V) (T : Addr) (σ : L2.St) (H : Hp), xs[i]? = some x → Pv i σ H → H T = none → g (.ref T) σ (upd H T (.tup [.int (i : Nat), x])) fun σ2 H2 => tb { Dn with nx := Pv (i + 1), ct := Pv (i + 1), bk := Dn.nx } σ2 H2) (hd : ∀ σ H, Pv xs.length σ H → Dn.nx σ H) :
    ∃ W : Nat → Nat → L2.St → Hp → Prop, (∃ m, W 0 m σ H0) ∧ ∀ i m σ H, W i m σ H →
      ((Ite K a).stop i H ∧ Dn.nx σ H) ∨ ((Ite K a).go i H ∧ ∃ N : L2.St → Hp → Prop, (∀ σ' H', N σ' H' → ∃ m', m' < m ∧ W (i + 1) m' σ' H') ∧ ∀ v H', (Ite K a).yld i H v H' → g v σ H' fun σ2 H2 => tb { Dn with nx := N, ct := N, bk := Dn.nx } σ2 H2) := by
  refine ⟨fun i m σ H => m = xs.length - i ∧ i ≤ xs.length ∧ Pv i σ H, ⟨_, rfl, Nat.zero_le _, h0⟩, ?_⟩
  rintro i m σ H ⟨rfl, hi, pv⟩
  have qx := hl i σ H pv
  rcases Nat.lt_or_ge i xs.length with lt | ge
  · have ex : xs[i]? = some xs[i] := List.getElem?_eq_getElem lt
    refine .inr ⟨⟨xs, _, qx, ex⟩, Pv (i + 1), fun σ' H' p' => ⟨xs.length - (i + 1), by omega, rfl, lt, p'⟩, fun v H' y => ?_⟩
    obtain ⟨T, x', rfl, hT, rfl, f1⟩ := y
    exact hs i x' T σ H (f1 xs qx) pv hT
  · have e : i = xs.length := by omega
    subst e
    exact .inl ⟨⟨xs, qx, Nat.le_refl _⟩, hd σ H pv⟩
end
end LcM

/-! f(k = v, ..): a def called by keywords alone. -/
namespace LcM
open PySem PySem.Spec PyProof.Rows L2
section
variable {X : Cx} {CX : CXT} {k : Nat} {f : Addr} {fd : FuncData} {ps ks : List Str} {sp : Sp} {E : XK} {x : Str} {p pos : Pos} {kws : List Keyword} {tk : TA} {g : List Value → List Value → List Value} {gV : List V → List V → List V}
theorem pe_callKw (F : FnOk X.prog X.w X.K X.mg X.base CX k f fd ps sp) (room : Room k X.A) (hg : Gl X x) (hm : X.mg x = some (.ref f)) (kp : PySem.W.keepIn X.K (.ref f) = true) (bd : KBinds X.K fd ps ks g gV) (ps' : Passes CX X E) (args : PK X kws tk)
    (all : (backToKw pos (keywordEach kws X.env)).all (·.1.isSome) = true := by rfl) (names : (backToKw pos (keywordEach kws X.env)).filterMap (·.1) = ks := by rfl) (hdb : (x == ("__debug__" : Str)) = false := by decide)
    (plain : ((backTo pos (starEach [] X.env)).any (·.1) || (backToKw pos (keywordEach kws X.env)).any (·.1.isNone)) = false := by rfl) :
    PE X (.Call (.Name x p) [] kws pos) (tCallK sp gV E tNil tk) := by
  refine ⟨fun pins s σ H Q I rd => ?_⟩
  refine wpAny_Call_Name_kw (ld_glob I hg hm ?_ hdb)
  refine PySem.W.callWith_KW0 (h₀ := X.base) I.ok.mod.kin kp all (thn (args.run pos pins s σ H _ I rd) fun ws s2 ⟨zs, H2, I2, rz, q2⟩ => ⟨I2.kIn, ?_⟩) plain
  rw [names]
  exact run_fnk (us := []) (vs := []) F room bd ps' I2 .nil rz q2
end
end LcM

/-! Data whose text is short. -/
namespace LcM
open PySem PySem.Spec PyProof.Rows L2
structure Brief (n : Nat) (d : PyData) : Prop where
  sh : d.showable = true
  dp : d.depth ≤ 10
  lv : PyData.leavesShort 13 d = true
  wt : d.weight ≤ n
def Smalls (ns : List Int) : Prop := ∀ x ∈ ns, x.natAbs < 10 ^ 12
theorem small_bits {n : Int} (h : n.natAbs < 10 ^ 12) : n.natAbs.log2 < 40 := by
  by_cases z : n.natAbs = 0
  · rw [z]
    decide
  · exact (Nat.log2_lt z).mpr (Nat.lt_trans h (by decide))
theorem show_ints : ∀ ns : List Int, Smalls ns → PyData.showableAll (ns.map .int) = true
  | [], _ => by simp only [List.map_nil, PyData.showableAll]
  | n :: ns, h => by
    have b := small_bits (h n List.mem_cons_self)
    simp only [List.map_cons, PyData.showableAll, PyData.showable, show_ints ns fun x m => h x (List.mem_cons_of_mem _ m), Bool.and_true]
    exact decide_eq_true (by omega)
theorem weight_ints : ∀ ns : List Int, Smalls ns → PyData.weightAll (ns.map .int) ≤ ns.length * 42
  | [], _ => by simp only [List.map_nil, PyData.weightAll]; exact Nat.zero_le _
  | n :: ns, h => by
    have b := small_bits (h n List.mem_cons_self)
    have ih := weight_ints ns fun x m => h x (List.mem_cons_of_mem _ m)
    simp only [List.map_cons, PyData.weightAll, PyData.weight, List.length_cons]
    split <;> omega
theorem brief_ints {ns : List Int} (h : Smalls ns) : Brief (ns.length * 42) (PyData.list (ns.map .int)) := by
  refine ⟨?_, ?_, ?_, ?_⟩
  · simp only [PyData.showable, show_ints ns h]
  · simp only [PyData.depth, PySem.W.depth_ints]
    decide
  · refine PyData.leavesShort_of_canLay0 13 _ ?_ ?_
    · simp only [PyData.canLay0, lay_ints]
    · simp only [PyData.intsShort]
      exact PyData.intsShortAll_ints ns h
  · simp only [PyData.weight]
    exact weight_ints ns h
def rowD (rs : List (List Int)) : List PyData := rs.map fun r => .list (r.map .int)
theorem show_rows : ∀ rs : List (List Int), (∀ r ∈ rs, Smalls r) → PyData.showableAll (rowD rs) = true
  | [], _ => by simp only [rowD, List.map_nil, PyData.showableAll]
  | r :: rs, h => by
    have ih := show_rows rs fun q m => h q (List.mem_cons_of_mem _ m)
    unfold rowD at ih ⊢
    simp only [List.map_cons, PyData.showableAll, PyData.showable, show_ints r (h r List.mem_cons_self), ih, Bool.and_self]
theorem short_rows : ∀ rs : List (List Int), (∀ r ∈ rs, Smalls r) → PyData.intsShortAll 13 (rowD rs) = true
  | [], _ => by simp only [rowD, List.map_nil, PyData.intsShortAll]
  | r :: rs, h => by
    have ih := short_rows rs fun q m => h q (List.mem_cons_of_mem _ m)
    unfold rowD at ih ⊢
    simp only [List.map_cons, PyData.intsShortAll, PyData.intsShort, ih, PyData.intsShortAll_ints r (h r List.mem_cons_self), Bool.and_self]
theorem weight_rows {m : Nat} : ∀ rs : List (List Int), (∀ r ∈ rs, Smalls r ∧ r.length ≤ m) → PyData.weightAll (rowD rs) ≤ rs.length * (m * 42 + 1)
  | [], _ => by simp only [rowD, List.map_nil, PyData.weightAll]; exact Nat.zero_le _
  | r :: rs, h => by
    have ih := weight_rows rs fun q m => h q (List.mem_cons_of_mem _ m)
    have l := (h r List.mem_cons_self).2
    have w := weight_ints r (h r List.mem_cons_self).1
    unfold rowD at ih ⊢
    simp only [List.map_cons, PyData.weightAll, PyData.weight, List.length_cons]
    rw [Nat.add_mul]
    omega
theorem brief_rows {rs : List (List Int)} {m : Nat} (h : ∀ r ∈ rs, Smalls r ∧ r.length ≤ m) : Brief (rs.length * (m * 42 + 1)) (PyData.list (rowD rs)) := by
  refine ⟨?_, ?_, ?_, ?_⟩
  · simp only [PyData.showable, show_rows rs fun r m => (h r m).1]
  · have := depth_rows rs
    unfold rowD
    simp only [PyData.depth]
    omega
  · refine PyData.leavesShort_of_canLay0 13 _ ?_ ?_
    · have := lay_rows rs
      unfold rowD
      simp only [PyData.canLay0, this]
    · simp only [PyData.intsShort]
      exact short_rows rs fun r m => (h r m).1
  · simp only [PyData.weight]
    exact weight_rows rs h
theorem brief_two {a b : PyData} {m n : Nat} (x : Brief m a) (y : Brief n b) (l : m + n ≤ 100000) :
    PyData.showableAll [a, b] = true ∧ PyData.depthAll [a, b] ≤ 40 ∧ (listText (PyData.shownAll [a, b])).length ≤ sizeLine := by
  refine ⟨?_, ?_, ?_⟩
  · simp only [PyData.showableAll, x.sh, y.sh, Bool.and_self]
  · have := x.dp
    have := y.dp
    simp only [PyData.depthAll]
    omega
  · have e : (PyData.list [a, b]).shown = listText (PyData.shownAll [a, b]) := by simp only [PyData.shown]
    rw [← e]
    refine PyData.shown_fits (B := 13) (by decide) (by decide) ?_ ?_
    · simp only [PyData.leavesShort, PyData.leavesShortAll, x.lv, y.lv, Bool.and_self]
    · have := x.wt
      have := y.wt
      simp only [PyData.weight, PyData.weightAll]
      omega
end LcM

/-! xs[::-1] of a list. -/
namespace LcM
open PySem PySem.Spec PyProof PyProof.Rows L2
theorem vals_revE : ∀ {xs : List V} {us : List Value}, Vals xs us → Vals xs.reverse us.reverse
  | _, _, .nil => .nil
  | _, _, .cons r t => by
    rw [List.reverse_cons, List.reverse_cons]
    exact (vals_revE t).append (.cons r .nil)
def tRev (K : PySem.W.Frag) (te : TE) : TE := fun σ H Q => te σ H fun x H1 => ∃ (a : Addr) (xs : List V), x = .ref a ∧ SqL K H1 a xs ∧ ∀ D, H1 D = none → Q (.ref D) (upd H1 D (.lst xs.reverse))
section
variable {X : Cx} {te : TE} {x : Str} {p p2 p3 p4 pos : Pos} {j : Nat}
theorem pe_rev (he : PE X (.Name x p) te) : PE X (.Subscript (.Name x p) (.Slice none none (some (.UnaryOp .USub (.Constant (.int 1) j p2) p3)) p4) pos) (tRev X.K te) := by
  refine ⟨fun pins s σ H Q I rd => ?_⟩
  refine Rows.Subscript_ (thn (he.run pins s σ H _ I rd) fun v s1 ⟨y, H1, I1, rv, a, xs, ey, hS, k⟩ => ?_)
  subst ey
  obtain rfl : v = Value.ref a := rv
  refine wpAny_Slice (wpAny_pure (wpAny_pure (thn ((po_some (pe_un un_neg pe_int)).run pins s1 σ H1 (fun o G => o = some (-1) ∧ G = H1) I1 ?_) fun st s2 ⟨o, G, I2, ip, eo, eG⟩ => ?_)))
  · exact ⟨1, rfl, -1, rfl, rfl, rfl⟩
  · subst eo eG
    obtain ⟨its, rvs, pl, hz⟩ := I2.list hS
    have up : ∀ b o, s2.heap.get? b = some o → (s2.heap.push { cls := .type "slice", data := .fields #[.none, .none, st] }).get? b = some o := fun b o q => Heap.get?_push_of_some _ q
    have isl := (pl.keeps up).isList
    have gs : (s2.heap.push { cls := .type "slice", data := .fields #[.none, .none, st] }).get? s2.heap.objs.size = some { cls := .type "slice", data := .fields #[.none, .none, st] } := Heap.get?_push_size _ rfl
    refine Rows.subscriptTail_ops (T := "list") (id := "list.__getitem__") ?_ PySem.F.slot_list_getitem.lookup (wpAny_getItem_list_slice isl ⟨_, gs, rfl, rfl⟩ .none .none ip (by decide) ?_ (by rw [List.size_toArray, ← rvs.length]; exact hz)) rfl fun _ => rfl
    · exact isl.typeIs (s := { s2 with heap := s2.heap.push { cls := .type "slice", data := .fields #[.none, .none, st] } })
    · rw [PySem.W.krv_pick]
      have big : s2.heap.objs.size ≤ (s2.heap.push { cls := .type "slice", data := .fields #[.none, .none, st] }).objs.size := by
        rw [Heap.size_push]
        exact Nat.le_succ _
      refine ⟨.ref _, upd G _ (.lst xs.reverse), I2.laid (t' := s2.toks) (fun b o q => Heap.get?_push_of_some _ (up b o q)) big ⟨?_, its.reverse, 0, ?_, ?_⟩, rfl, k _ (I2.hok.fresh big)⟩
      · rw [List.length_reverse]
        exact hz
      · exact vals_revE rvs
      · exact Heap.get?_push_size _ rfl
end
end LcM

/-! sorted(d.values()), the values lists of ints. -/
namespace SortR
open PySem PySem.Spec PyProof.Rows L2 PySem.W
theorem kv_vals {κ : Type} {kvs : List (κ × V)} {vs : List (κ × Value)} (r : KV kvs vs) : Vals (kvs.map (·.2)) (vs.map (·.2)) := by
  unfold KV at r
  induction r with
  | nil => exact .nil
  | cons h _ ih => exact .cons h.2 ih
section
variable {X : Cx} {o : Expr} {p pos apos mpos : Pos} {td : TE}
/-- sorted(o.values()), a dict of lists of ints -/
def tSortVals (td : TE) : TE := fun σ H Q => td σ H fun x H1 => ∃ (a : Addr) (kvs : List (Key × V)) (bs : List (Addr × List Int)), x = V.ref a ∧ H1 a = some (.dK kvs) ∧ kvs.map (·.2) = bs.map (fun b => V.ref b.1) ∧ (∀ b ∈ bs, H1 b.1 = some (.lst (b.2.map V.int))) ∧
  ∀ p, H1 p = none → Q (.ref p) (upd H1 p (.lst ((bs.mergeSort rowLe).map fun b => V.ref b.1)))
theorem pe_sortVals (hu : X.A.units + 64 < cLine) (calm : X.calm = true) (hg : Gl X "sorted") (hm : X.mg "sorted" = none) (hd : PE X o td) (hbase : attributeBase o "values" X.env (eval o X.env) = eval o X.env := by rfl) (hline : (apos.endLine == mpos.line) = true := by rfl)
    (hse : starEach [Expr.Call (.Attribute o "values" apos) [] [] mpos] X.env = [(false, eval (Expr.Call (.Attribute o "values" apos) [] [] mpos) X.env)] := by rfl) :
    PE X (.Call (.Name "sorted" p) [.Call (.Attribute o "values" apos) [] [] mpos] [] pos) (tSortVals td) := by
  refine ⟨fun pins s σ H Q I h => ?_⟩
  refine wpAny_Call_Name_kw (ld_blt I hg hm (u := .builtin "sorted") (by first | rfl | decide +kernel) ?_ (by first | decide +kernel | decide) (by first | decide +kernel | decide))
  rw [hse]
  refine PySem.callWith_builtin1 (wpAny_Call_method0_late hbase hline (thn (hd.run pins s σ H _ I h) fun v s1 ⟨x, H1, I1, r1, a, kvs, bs, ex, ha, hv, hb, q⟩ => ?_))
  subst ex
  obtain rfl : v = Value.ref a := r1
  obtain ⟨few, hsys, vs, rel, dof⟩ := dk_of I1.hok ha
  obtain ⟨ep, dat⟩ := dof.dictAt
  obtain ⟨ob, es, ho, ex, _⟩ := id dat
  have old : ∀ c w, s1.heap.get? c = some w → (s1.heap.push { cls := .type "dict_values", data := .fields #[.ref a] }).get? c = some w := fun c w => Heap.get?_push_of_some _
  refine ⟨"dict", "dict.values", F.plainAttrs_dict, F.slot_dict_values, F.type_dict_values, ⟨ob, ho, ex.1⟩, fun c at_c => (by cases at_c; exact ⟨ob, ho, ex.2.1⟩),
    Calls.callWith_builtin rfl (PySem.evalArgs_none (call_meetsIn F.slot_dict_values ⟨ob, ho, ex.1⟩ F.entry_dict_values (F.args_dict_values_1 _) (meets_dict_values (mixKind X.prog X.w) a hsys) ⟨⟨vs, dof⟩, ?_⟩))⟩
  have lv : vs.length = bs.length := by
    have e1 := congrArg List.length hv
    rw [List.length_map, List.length_map] at e1
    rw [← e1]
    exact (KV.length rel).symm
  have fits : bs.length ≤ sizeLine := by
    rw [← lv, ← KV.length rel]
    exact few
  have I2 : Inv X pins σ H1 { s1 with heap := s1.heap.push { cls := .type "dict_values", data := .fields #[.ref a] } } := I1.kept (t' := s1.toks) old
  refine Calls.call_function_entry PyProof.Rows.kind_sorted PyProof.Rows.plain_sorted PyProof.Rows.entry_sorted (PyProof.Rows.args_sorted1 _) ?_
  unfold Builtin.«sorted»
  refine wpAny_bind (m := checkCount "sorted" 1 1 _) (wpAny_pure (wpAny_bind (kdu_collect (A := X.A.in1) (s := { s1 with heap := s1.heap.push { cls := .type "dict_values", data := .fields #[.ref a] } }) (kdl_values (knd := mixKind X.prog X.w) (kvs := vs) (ep := ep)) (I.ok.hd calm) ⟨⟨_, Heap.get?_push_size _ rfl, rfl, rfl⟩, dat.keep old⟩ (lv ▸ fits) fun h1 tk acc keep it => ?_)))
  have vr : Vals (bs.map fun b => V.ref b.1) acc.toList := by
    rw [kdl_vals_eq (kvs := vs) acc.toList (by rw [Array.length_toList, it.1]) fun j v e => it.2 j v (by rw [← Array.getElem?_toList]; exact e), ← hv]
    exact kv_vals rel
  have len : acc.toList.length = bs.length := by rw [← vr.length, List.length_map]
  have I3 : Inv X pins σ H1 { s1 with heap := h1, toks := tk } := I2.kept keep
  refine wpAny_bind (wpAny_newList ?_ (by rw [len]; exact fits))
  have at_p : (h1.push (seqObj "list" acc.toList.toArray 0)).get? h1.objs.size = some (seqObj "list" acc.toList.toArray 0) := Heap.get?_push_size _ rfl
  have old : ∀ b u, h1.get? b = some u → b ≠ h1.objs.size ∧ (h1.push (seqObj "list" acc.toList.toArray 0)).get? b = some u := fun b u e => ⟨Nat.ne_of_lt (Heap.lt_size e), Heap.get?_push_of_some _ e⟩
  have each : EachIs (fun v (b : Addr × List Int) => v = Value.ref b.1 ∧ True) acc.toList bs := by
    exact vals_each (h := s1.heap) (K := X.K) (H := H1) (P := fun _ => True) vr fun _ _ => trivial
  obtain ⟨hS, ehS⟩ : ∃ z, z = sortingHeap (h1.push (seqObj "list" acc.toList.toArray 0)) h1.objs.size acc.toList := ⟨_, rfl⟩
  have reads : EachIs (fun v (b : Addr × List Int) => ∃ rs, Reads hS v (PyData.list (b.2.map .int)) rs) acc.toList bs := by
    have each2 : EachIs (fun v (b : Addr × List Int) => v = Value.ref b.1 ∧ H1 b.1 = some (.lst (b.2.map V.int))) acc.toList bs := by
      exact vals_each (h := s1.heap) (K := X.K) (H := H1) vr hb
    refine each_mono each2 fun v b ⟨ev, hb⟩ => ?_
    rw [ev]
    obtain ⟨rs, rr⟩ := Dp.reads I3 (PyData.list (b.2.map .int)) (.ref b.1) (.ref b.1) (.lst (SqL.of hb) (rows_dp b.2)) rfl
    refine ⟨rs, PyProof.Rows.Reads.keeps (fun c u e => ?_) rr⟩
    rw [ehS]
    obtain ⟨n1, n2⟩ := old c u e
    exact sortingHeap_old n1 n2
  have alikeAll_ : AllAlike (bs.map fun b => PyData.list (b.2.map .int)) := AllAlike.of enc_alike
  have sortable : Sortable (bs.map fun b => PyData.list (b.2.map .int)) := Sortable.others fun b => ⟨(fun z => nomatch z), fun xs z => nomatch z⟩
  have shallow : ∀ dd ∈ bs.map (fun b => PyData.list (b.2.map .int)), dd.depth = 1 := fun dd hm => by
    obtain ⟨b, _, rfl⟩ := List.mem_map.mp hm
    simp only [PyData.depth, depth_ints]
  show wpAny _ _ _ _ _ { s1 with heap := h1.push (seqObj "list" acc.toList.toArray 0), toks := tk }
  have sorts : ∀ Ar : Around, Ar.units ≤ X.A.units + 8 → SortsAt X.prog X.w Ar { s1 with heap := hS, toks := tk } (dataKind hS (bs.map fun b => PyData.list (b.2.map .int))) acc.toList := fun Ar hA =>
    SortsAt.data (s := { s1 with heap := hS, toks := tk }) (each_map (R := fun v dd => ∃ rs, Reads hS v dd rs) (fun b : Addr × List Int => PyData.list (b.2.map .int)) reads) alikeAll_ sortable fun dd hm => by rw [shallow dd hm]; omega
  rw [ehS] at sorts reads
  have each3 := sortVals_data (R := fun v (b : Addr × List Int) => v = Value.ref b.1 ∧ True) (enc := fun b : Addr × List Int => PyData.list (b.2.map .int)) false each reads alikeAll_
  rw [dataLe_rows (fun b : Addr × List Int => b.2)] at each3
  have back := each_back each3
  have short : ((bs.mergeSort rowLe).map fun b => V.ref b.1).length ≤ sizeLine := by
    rw [List.length_map, List.length_mergeSort]
    exact fits
  refine wpAny_bind (wpAny_holding (wpAny_call_entry PyProof.Rows.slot_list_sort ⟨_, at_p, rfl⟩ PyProof.Rows.entry_list_sort
    (list_sort_vals (s := { s1 with heap := h1.push (seqObj "list" acc.toList.toArray 0), toks := tk }) at_p (sorts _ (by show X.A.units + 1 + 1 ≤ X.A.units + 8; omega)) (by rw [len]; exact fits) ⟨_, rfl, ?_⟩) (PyProof.Rows.args_list_sort _)))
  obtain ⟨n2, at2⟩ := PyProof.Rows.sortedHeap_at (vs := acc.toList) (out := (sortVals (dataKind (sortingHeap (h1.push (seqObj "list" acc.toList.toArray 0)) h1.objs.size acc.toList) (bs.map fun b => PyData.list (b.2.map .int))) false acc.toList acc.toList).toArray) at_p
  refine wpAny_pure ⟨_, rfl, .ref h1.objs.size, upd H1 h1.objs.size (.lst ((bs.mergeSort rowLe).map fun b => V.ref b.1)), I3.laid (t' := tk) (fun b u e => ?_) (Nat.le_refl _) ⟨short, _, n2, back, at2⟩, rfl, q _ (I3.hok.fresh (Nat.le_refl _))⟩
  obtain ⟨n1, g⟩ := old b u e
  rw [PyProof.Rows.sortedHeap_old n1 (Heap.lt_size g)]
  exact g
end
end SortR

/-! math.comb and math.factorial of ints that are not great. -/
namespace MathC
open PySem PySem.Spec PyProof.Rows L2
def rComb : List V → Hp → VK → Prop := fun vs H Q => ∃ a b : Int, vs = [.int a, .int b] ∧ 0 ≤ a ∧ a ≤ 18000 ∧ 0 ≤ b ∧ Q (.int (PySem.W.mcComb a b)) H
def rFact : List V → Hp → VK → Prop := fun vs H Q => ∃ a : Int, vs = [.int a] ∧ 0 ≤ a ∧ a ≤ 20000 ∧ Q (.int ((Builtin.Math.factorialNat a.toNat : Nat) : Int)) H
variable {X : Cx}
theorem cr_comb : CallR X (.builtin "math.comb") rComb := by
  intro pins s σ H vs us Q I r ⟨a, b, e, a0, a1, b0, q⟩
  subst e
  obtain ⟨t, u, rfl⟩ := Vals.int2 r
  exact PySem.W.mc_comb a0 b0 (by omega) (.inr a1) fun _ => ⟨.int _, H, I.tok _, ⟨_, rfl⟩, q⟩
theorem cr_fact : CallR X (.builtin "math.factorial") rFact := by
  intro pins s σ H vs us Q I r ⟨a, e, a0, a1, q⟩
  subst e
  obtain ⟨u, rfl, ru⟩ := vals1 r
  obtain ⟨t, rfl⟩ := ru
  exact PySem.W.mc_factorial a0 a1 fun _ => ⟨.int _, H, I.tok _, ⟨_, rfl⟩, q⟩
/-- n over 2 -/
theorem comb2 {a : Int} (h : 2 ≤ a) : 1 ≤ PySem.W.mcComb a 2 ∧ PySem.W.mcComb a 2 ≤ a * a := by
  refine ⟨PySem.W.mcComb_pos (by decide) h, ?_⟩
  have z := PySem.W.mcComb_two (a := a) (by omega)
  have y : a * (a - 1) ≤ a * a := Int.mul_le_mul_of_nonneg_left (by omega) (by omega)
  have w : 0 ≤ a * a := Int.mul_nonneg (by omega) (by omega)
  omega
end MathC

/-! X(e), an own exception of one argument of any form, without a context. -/
namespace MkN
open PySem PySem.Spec PyProof.Rows L2
variable {X : Cx} {C : Addr} {bmB : List Value} {B newId initId : String} {x : Str} {e : Expr} {ta : TE} {p pos : Pos}
theorem pmk_one (F : ExcBaseFacts B newId initId bmB) (q : PySem.W.excIn X.K C bmB newId = true) (gC : X.mg x = some (.ref C)) (kC : PySem.W.keepIn X.K (.ref C) = true) (r : Raises X (.ref C)) (hg : Gl X x) (he : PE X e ta) (hdb : (x == ("__debug__" : Str)) = false := by decide)
    (st : starEach [e] X.env = (false, eval e X.env) :: starEach [] X.env := by rfl) (np : (backTo pos (starEach [] X.env)).any (·.1) = false := by rfl) :
    L2N.PMk X (.Call (.Name x p) [e] [] pos) (fun σ H Q => ta σ H fun _ H1 => Q (.ref C) none H1) := by
  intro pins s σ H Q I h
  have ha : PA X [e] (tCons ta tNil) := pa_cons he pa_nil st
  have now : tCons ta tNil σ H fun vs H1 => vs.length = 1 ∧ Q (.ref C) none H1 := (show ta σ H fun v H1 => ([v] : List V).length = 1 ∧ Q (.ref C) none H1 from by
    have e : (fun (v : V) (H1 : Hp) => ([v] : List V).length = 1 ∧ Q (.ref C) none H1) = fun (_ : V) (H1 : Hp) => Q (.ref C) none H1 := by
      funext v H1
      exact propext ⟨fun z => z.2, fun z => ⟨rfl, z⟩⟩
    rw [e]
    exact h)
  apply wpAny_Call_Name_kw (ld_glob I hg gC ?_ hdb)
  refine PySem.W.callWith_K (h₀ := X.base) I.ok.mod.kin kC (thn (ha.run pos pins s σ H _ I now) fun us s1 ⟨vs, H1, J, rel, one, due⟩ => ⟨J.kIn, ?_⟩) st np
  obtain ⟨bm, N, nm, qn, bs, hdct, sn, sub, ab, col, dd, k0, k1, k2, k3, k5, mN, hC, hN, hni, T⟩ := exc_obj J.kIn q
  refine wpAny_call_exc_subT F T hC hN hni (fun h' a hm => L2N.mk_of J hm r due (J.hok.gone hm.new)) ?_
  show us.length ≤ sizeLine
  rw [← rel.length, one, sizeLine_eq]
  decide
end MkN

/-! repr of data of any kind, where no guard stands -/
namespace RepA
open PySem PySem.Spec PyProof.Rows L2
section
variable {X : Cx} {pins : List (Addr × Obj)} {σ : L2.St} {H : Hp} {s : Shared}
/-- a dict of one text -/
theorem repr_one (hg : X.A.guards = some []) (hu : X.A.units + 64 < cLine) (I : Inv X pins σ H s) {a : Addr} {z : Str} {x : V} {e : PyData} {Q : Value → Shared → Prop} (ha : H a = some (.dK [(Sum.inr z, x)])) (hx : Dq X.K H x e) (hs : (PyData.dict [(.str z, e)]).showable = true)
    (dep : (PyData.dict [(.str z, e)]).depth ≤ 40) (hz : (PyData.dict [(.str z, e)]).shown.length ≤ sizeLine) (fin : ∀ (t tk : Nat) (h' : Heap), (∀ b o, s.heap.get? b = some o → h'.get? b = some o) → Q (.str (PyData.dict [(.str z, e)]).shown t) { s with heap := h', toks := tk }) :
    wpAny (model X.prog X.w) X.A (call (.builtin "repr") [.ref a]) Q X.xe s := by
  obtain ⟨_, hn, vs, rel, dd⟩ := dk_of I.hok ha
  obtain ⟨o, es, ep, e1, e2, e3, e4⟩ := dd
  obtain ⟨en, ux, ees, ekey, eval, rx⟩ : ∃ (en : DictEntry) (ux : Value), es.toList = [en] ∧ (∃ t, en.key = .str z t) ∧ en.val = ux ∧ RelV x ux := by
    cases rel with
    | cons hd tl =>
      cases tl
      have q := e4.2.1
      generalize es.toList = l at q
      rename_i b
      obtain ⟨kb, ux⟩ := b
      obtain ⟨e5, e6⟩ := hd
      cases e5
      cases q with
      | cons p1 p2 p3 =>
        cases p3
        refine ⟨_, ux, rfl, ?_, p2, e6⟩
        rcases keyIs_shape (show keyIs (Sum.inr z) _ = true from p1) with ⟨i, t, q1, q2⟩ | ⟨y, t, q1, q2⟩
        · cases q1
        · cases q1
          exact ⟨t, q2⟩
  obtain ⟨t, ek⟩ := ekey
  have hz' : (dictText (PyData.shownKv [(.str z, e)])).length ≤ sizeLine := by simpa only [PyData.shown] using hz
  have hs2 : e.showable = true := by
    have q := (PyData.showableKv_split [(.str z, e)] (by simpa [PyData.showable] using hs)).2
    simpa [PyData.showableAll] using q
  have hs1 : (PyData.str z).showable = true := by
    have q := (PyData.showableKv_split [(.str z, e)] (by simpa [PyData.showable] using hs)).1
    simpa [PyData.showableAll] using q
  have key_le : ∀ t ∈ PyData.shownAll [PyData.str z], t.length ≤ sizeLine := fun t ht => by
    obtain ⟨p, hp, l⟩ := PyData.shownKv_key_le [(.str z, e)] t ht
    exact Nat.le_trans l (Nat.le_trans (dictText_mem_le hp) hz')
  have val_le : ∀ t ∈ PyData.shownAll [e], t.length ≤ sizeLine := fun t ht => by
    obtain ⟨p, hp, l⟩ := PyData.shownKv_val_le [(.str z, e)] t ht
    exact Nat.le_trans l (Nat.le_trans (dictText_mem_le hp) hz')
  obtain ⟨b1, m1, k1⟩ := ReprK.of_reads (prog := X.prog) (w := X.w) (Reads.str (h := s.heap) z t) hs1 (fun _ h => nomatch h) (key_le _ (by simp only [PyData.shownAll]; exact List.mem_cons_self ..))
  obtain ⟨a2, b2, q2, m2, k2⟩ := shw_dq I hx rx hs2 (val_le _ (by simp only [PyData.shownAll]; exact List.mem_cons_self ..))
  have rd : Reads s.heap (.ref a) (.dict [(.str z, e)]) _ := .dict (kvs := [(PyData.str z, e)]) e1 e2.1 e3 (by rw [ees]; show ReadsAll s.heap [en.key] [PyData.str z] _; rw [ek]; exact .cons (.str z t) .nil) (by rw [ees]; show ReadsAll s.heap [en.val] [e] _; rw [eval]; exact .cons q2 .nil)
  have hd1 : (PyData.str z).depth ≤ PyData.depthKv [(.str z, e)] := by simp only [PyData.depthKv, PyData.depth]; omega
  have hd2 : e.depth ≤ PyData.depthKv [(.str z, e)] := by simp only [PyData.depthKv]; omega
  have hb : ReadAtMost s.heap (PyData.depthKv [(.str z, e)]) (b1 ++ b2) := (m1.mono hd1).append (m2.mono hd2)
  have hna : a ∉ b1 ++ b2 := not_mem_of_deeper rd (by simp only [PyData.depth]; omega) hb
  have d40 : PyData.depthKv [(.str z, e)] + 1 ≤ 40 := by simpa only [PyData.depth] using dep
  refine call_repr_slot (by omega) ⟨o, e1, e2.1⟩ PySem.F.slot_dict_repr ?_
  have ent : ReprEntriesK X.prog X.w (b1 ++ b2) s.heap (PyData.depthKv [(.str z, e)]) es.toList (PyData.shownKv [(.str z, e)]) := by
    rw [ees]
    simp only [PyData.shownKv]
    refine .cons ?_ ?_ .nil
    · rw [ek]
      exact (k1.more fun b hb => List.mem_append.mpr (.inl hb)).level_le hd1
    · rw [eval]
      exact (k2.more fun b hb => List.mem_append.mpr (.inr hb)).level_le hd2
  have end_ : ∀ h' u tk, (∀ b o, s.heap.get? b = some o → h'.get? b = some o) → Q (.str (dictText (PyData.shownKv [(.str z, e)])) u) { s with heap := h', toks := tk } := fun h' u tk k => by
    have q := fin u tk h' k
    simpa only [PyData.shown] using q
  exact call_dict_reprK (h₀ := s.heap) e1 e2.1 e3 hn hna ent hg (fun b _ => Clear.nil b) (by show X.A.units + 1 + (PyData.depthKv [(.str z, e)] + 1) < cLine; omega) (fun _ _ e => e) (fun h' u tk k => ⟨_, _, rfl, end_ h' u tk k⟩) hz'
/-- data as they come here: of any kind, or a dict of one text -/
theorem call_reprV (hg : X.A.guards = some []) (hu : X.A.units + 64 < cLine) : CallR X (.builtin "repr") (fun xs H Q => ∃ (x : V) (d : PyData), xs = [x] ∧ (Dd X.K H x d ∨ ∃ a z y e, x = .ref a ∧ H a = some (.dK [(Sum.inr z, y)]) ∧ Dp X.K H y e ∧ d = .dict [(.str z, e)]) ∧ d.showable = true ∧ d.depth ≤ 40 ∧ d.shown.length ≤ sizeLine ∧ Q (.str d.shown) H) := by
  intro pins s σ H xs us Q I r h
  obtain ⟨x, d, rfl, hd, sh, dep, len, q⟩ := h
  obtain ⟨u, rfl, ru⟩ := vals1 r
  have fin : ∀ (t tk : Nat) (h' : Heap), (∀ b o, s.heap.get? b = some o → h'.get? b = some o) → EP X pins σ Q (.str d.shown t) { s with heap := h', toks := tk } := fun t tk h' k => ⟨.str _, H, I.kept k, ⟨t, rfl⟩, q⟩
  have refs : ∀ {a : Addr}, u = .ref a → Dd X.K H x d → wpAny (model X.prog X.w) X.A (call (.builtin "repr") [u]) (EP X pins σ Q) X.xe s := fun {a} eu hd => by
    subst eu
    obtain ⟨as, rd, sy⟩ := dd_reads I hd ru
    exact repr_of_reads' (h₀ := s.heap) rd sh sy hg (by omega) (fun _ _ e => e) (fun h' t tk k => fin t tk h' k) len
  rcases hd with hd | ⟨a, z, y, e, rfl, ha, hy, rfl⟩
  · rcases hd with h | ⟨a, rfl, ha, rfl⟩
    · cases h with
      | non =>
        obtain rfl : u = Value.none := ru
        exact PySem.P.repr_of_none (fin _ _ s.heap fun _ _ e => e)
      | bl b =>
        obtain rfl : u = Value.bool b := ru
        refine PySem.P.repr_of_bool ?_
        have z := fin s.toks (s.toks + 1) s.heap fun _ _ e => e
        cases b <;> simpa only [PyData.shown] using z
      | int i =>
        obtain ⟨t, rfl⟩ := ru
        refine PySem.P.repr_of_int ?_ (fin _ _ s.heap fun _ _ e => e)
        simp only [PyData.showable] at sh
        exact of_decide_eq_true sh
      | str w =>
        obtain ⟨t, rfl⟩ := ru
        exact PySem.P.repr_of_str (fin _ _ s.heap fun _ _ e => e) len
      | lst h1 h2 =>
        obtain rfl : u = Value.ref _ := ru
        exact refs rfl (.inl (.lst h1 h2))
      | tup h1 h2 =>
        obtain rfl : u = Value.ref _ := ru
        exact refs rfl (.inl (.tup h1 h2))
    · obtain rfl : u = Value.ref a := ru
      exact refs rfl (.inr ⟨a, rfl, ha, rfl⟩)
  · obtain rfl : u = Value.ref a := ru
    exact repr_one hg hu I ha (.base (.inl hy)) sh dep len fin
end
end RepA

/-! for k, v in d.items(), the keys of d tuples; d is locked from here on. -/
namespace ItT
open PySem PySem.Spec PyProof.Rows L2
section
variable {X : Cx} {pins : List (Addr × Obj)} {σ : L2.St} {H : Hp} {s : Shared} {d : Addr} {o : Obj}
theorem frz_all {kvs : List (List L2.Key × V)} (I : Inv X pins σ H s) (h : H d = some (.frz o (.dT kvs))) :
    (d == sysModules) = false ∧ s.heap.get? d = some o ∧ o.ExactDict ∧ ∃ (es : Array DictEntry) (ep : Nat), o.data = .dict es ep ∧ es.size = kvs.length ∧
      ∀ (i : Nat) (k : List L2.Key) (v : V), kvs[i]? = some (k, v) → ∃ (en : DictEntry) (q : Addr), es[i]? = some en ∧ en.key = .ref q ∧ H q = some (.tup (k.map kV)) ∧ RelV v en.val := by
  have inv := I.hok d _ h
  obtain ⟨raw, _, notSys, ps, both, o2, rows, nth, same, exact_d, dat, ent, _⟩ := inv
  have eo : some o2 = some o := same.symm.trans raw
  cases eo
  have szs := And.intro (size_of_entries ent) (Paired.length both)
  refine ⟨notSys, raw, exact_d, rows, nth, dat, szs.1.trans szs.2.symm, ?_⟩
  intro i k v at_i
  obtain ⟨w, ew, at_w, key_ok, val_ok⟩ := paired_get both at_i
  have row := entry_at ent i
  rw [ew] at row
  exact ⟨_, w.2.1, row, rfl, key_ok, val_ok⟩
end
/-- the pairs, each a new tuple of the key's tuple and the value -/
def ItiT (d : Addr) (o : Obj) (kvs : List (List L2.Key × V)) : It :=
  ⟨fun i H => H d = some (.frz o (.dT kvs)) ∧ i < kvs.length, fun i H x H' => ∃ T q k v, kvs[i]? = some (k, v) ∧ H q = some (.tup (k.map kV)) ∧ x = .ref T ∧ H T = none ∧ H' = upd H T (.tup [.ref q, v]), fun i H => H d = some (.frz o (.dT kvs)) ∧ kvs.length ≤ i⟩
theorem turn_itemsT {P : Program} {w : World} {K : PySem.W.Frag} {d : Addr} {o : Obj} {es : Array DictEntry} {ep : Nat} {kvs : List (List L2.Key × V)} {elts : List Expr} {kk : Nat} {tpos : Pos} (it : Addr) (hod : o.data = .dict es ep) :
    Turn P w K (.Tuple elts kk tpos) (ItiT d o kvs) [it] it (fun i h => ∃ ok ov, IsItemIter h it d i kvs.length ep ok ov) where
  mem := List.mem_singleton.mpr rfl
  obj := fun _ _ ⟨_, _, e⟩ b hb => by
    rw [List.mem_singleton.mp hb]
    exact ⟨_, e, fun _ z => nomatch z⟩
  keep := fun _ _ _ ⟨x, y, e⟩ stays => ⟨x, y, stays it (List.mem_singleton.mpr rfl) _ e⟩
  item := fun X eP ew eK calm i pins s σ G E J free st at_d => by
    subst eP ew eK
    obtain ⟨here, more⟩ := at_d
    obtain ⟨_, raw, exact_d, rows, nth, dat, size, ent⟩ := frz_all J here
    obtain ⟨z1, z2⟩ := dict_ep hod dat
    subst z1 z2
    obtain ⟨kv, ekv⟩ : ∃ p, kvs[i]? = some p := ⟨kvs[i], List.getElem?_eq_getElem more⟩
    obtain ⟨en, q, een, ekey, tup_q, rel⟩ := ent i kv.1 kv.2 ekv
    obtain ⟨x, y, at_it⟩ := st
    rw [← size] at at_it
    have inside : i < rows.size := by rw [size]; exact more
    have same : rows[i] = en := Option.some.inj ((Array.getElem?_eq_getElem inside).symm.trans een)
    have below : it < s.heap.objs.size := Heap.lt_size at_it
    refine DT.nextI at_it ⟨o, raw, exact_d, dat⟩ inside fun h1 out made _ stays => ?_
    rw [same] at out made
    refine ⟨_, rfl, wpAny_letOwnedTupleGo_items (s := { s with heap := h1 }) out fun h2 at_it2 sb => ?_⟩
    have made2 : h2.get? s.heap.objs.size = some { cls := .type "tuple", data := .seq #[en.key, en.val] } := (sb.2 _ (Nat.ne_of_gt below)).trans made
    have pair : ObjOk X.prog X.w (upd G s.heap.objs.size (.tup [.ref q, kv.2])) h2 s.heap.objs.size (.tup [.ref q, kv.2]) :=
      ⟨by show 2 ≤ sizeLine; decide, [en.key, en.val], .cons (show RelV (.ref q) en.key from ekey) (.cons rel .nil), ⟨_, made2, rfl, _, rfl⟩⟩
    have alone : ∀ {b : Addr}, b ∉ [it] → b ≠ it := fun hb z => hb (List.mem_singleton.mpr z)
    refine ⟨.ref s.heap.objs.size, _, J.turnedNew (t' := s.toks) (ch := [it]) (fun b ob hb e => (sb.2 b (alone hb)).trans (stays b ob (alone hb) e)) free (Nat.le_refl _) pair, rfl, ⟨_, q, kv.1, kv.2, ekv, tup_q, rfl, J.hok.fresh (Nat.le_refl _), rfl⟩, ⟨en.key, en.val, by rw [← size]; exact at_it2⟩, fun b hb => ?_⟩
    rw [List.mem_singleton.mp hb, upd_ne (Nat.ne_of_lt below)]
    exact (free it (List.mem_singleton.mpr rfl)).1
  done := fun X eP ew eK calm i pins s σ G E J free st at_d => by
    subst eP ew eK
    obtain ⟨here, none_left⟩ := at_d
    obtain ⟨f0, f1, f2, f3, f4, f5⟩ := free it (List.mem_singleton.mpr rfl)
    obtain ⟨_, raw, exact_d, rows, nth, dat, size, _⟩ := frz_all J here
    obtain ⟨z1, z2⟩ := dict_ep hod dat
    subst z1 z2
    obtain ⟨x, y, at_it⟩ := st
    rw [← size] at at_it
    exact DT.endI (J.ok.hd calm) at_it ⟨o, raw, exact_d, dat⟩ (by rw [size]; exact none_left) fun h1 eb => ⟨rfl, J.turned (t' := s.toks) (fun b ob hb e => eb b ob hb e) f0 f1 f3 f4 f5⟩
  self := fun _ _ _ _ _ ⟨_, _, e⟩ h => PySem.W.kcp_self e h
def iItemsT (td : TE) : TI := fun σ H R => td σ H fun x H1 => ∃ d kvs, x = .ref d ∧ H1 d = some (.dT kvs) ∧ ∀ o, R (ItiT d o kvs) (upd H1 d (.frz o (.dT kvs)))
section
variable {X : Cx} {tg e : Expr} {td : TE} {apos cpos : Pos}
theorem pi_itemsT {elts : List Expr} {kk : Nat} {tpos : Pos} (he : PE X e td) (hbase : attributeBase e "items" X.env (eval e X.env) = eval e X.env := by rfl) (hline : (apos.endLine == cpos.line) = true := by rfl) :
    PI X (.Tuple elts kk tpos) (.Call (.Attribute e "items" apos) [] [] cpos) (iItemsT td) := by
  refine ⟨fun pins s σ H R I h => ?_⟩
  refine wpAny_Call_method (T := "dict") (id := "dict.items") hbase rfl hline PySem.F.plainAttrs_dict PySem.F.slot_dict_items PySem.F.type_dict_items (thn (he.run pins s σ H _ I h) fun u s1 ⟨x, H1, I1, rx, d, kvs, ex, hd1, q⟩ => ?_)
  subst ex
  obtain rfl : u = Value.ref d := rx
  obtain ⟨o, I0⟩ := I1.lock hd1 (by trivial)
  have hd : upd H1 d (.frz o (.dT kvs)) d = some (.frz o (.dT kvs)) := upd_same
  have q := q o
  obtain ⟨hs, hgd, hx, es, ep, hdt, hsz, ent⟩ := frz_all I0 hd
  have raw : DT.Raw s1.heap d es ep := ⟨o, hgd, hx, hdt⟩
  refine ⟨raw.typeIs, ?_, ?_⟩
  · intro b eb
    cases eb
    exact ⟨o, hgd, hx.2.1⟩
  have I2 : Inv X pins σ (upd H1 d (.frz o (.dT kvs))) { s1 with heap := s1.heap.push { cls := .type "dict_items", data := .fields #[.ref d] } } := I0.kept (t' := s1.toks) fun b ob q => Heap.get?_push_of_some _ q
  have fin : wpAny (model X.prog X.w) X.A (pyIter (.ref s1.heap.objs.size)) (PIE X pins σ (.Tuple elts kk tpos) R) X.xe { s1 with heap := s1.heap.push { cls := .type "dict_items", data := .fields #[.ref d] } } := by
    refine DT.iterI (d := d) (es := es) (ep := ep) ⟨_, Heap.get?_push_size _ rfl, rfl, rfl⟩ (raw.push _) (pi_one (tk := s1.toks) I2 _ (turn_itemsT _ hdt) ⟨.none, .none, ?_⟩ q)
    rw [← hsz]
    exact Heap.get?_push_size _ rfl
  show wpAny _ _ (callWith cpos (.builtin "dict.items") [.ref d] [] []) _ X.xe s1
  exact method_meetsIn PySem.F.slot_dict_items PySem.F.entry_dict_items rfl (PySem.evalArgs_none ⟨rfl, raw.typeIs, PySem.F.args_dict_items_1 _, _, DT.meetsItems (es := es) (ep := ep) hs, raw, fin⟩)
end
/-- a loop over such pairs -/
theorem for_itemsT {d : Addr} {o : Obj} {kvs : List (List L2.Key × V)} {g : TG} {σ : L2.St} {H0 : Hp} {tb : TS} {Dn : Ends} (Pv : Nat → L2.St → Hp → Prop) (h0 : Pv 0 σ H0) (hl : ∀ i σ H, Pv i σ H → H d = some (.frz o (.dT kvs)))
    (hs : ∀ (i : Nat) (k : List L2.Key) (v : V) (T q : Addr) (σ : L2.St) (H : Hp), kvs[i]? = some (k, v) → Pv i σ H → H T = none → H q = some (.tup (k.map kV)) → g (.ref T) σ (upd H T (.tup [.ref q, v])) fun σ2 H2 => tb { Dn with nx := Pv (i + 1), ct := Pv (i + 1), bk := Dn.nx } σ2 H2) (hd : ∀ σ H, Pv kvs.length σ H → Dn.nx σ H) :
    ∃ W : Nat → Nat → L2.St → Hp → Prop, (∃ m, W 0 m σ H0) ∧ ∀ i m σ H, W i m σ H →
      ((ItiT d o kvs).stop i H ∧ Dn.nx σ H) ∨ ((ItiT d o kvs).go i H ∧ ∃ N : L2.St → Hp → Prop, (∀ σ' H', N σ' H' → ∃ m', m' < m ∧ W (i + 1) m' σ' H') ∧ ∀ v H', (ItiT d o kvs).yld i H v H' → g v σ H' fun σ2 H2 => tb { Dn with nx := N, ct := N, bk := Dn.nx } σ2 H2) := by
  refine ⟨fun i m σ H => m = kvs.length - i ∧ i ≤ kvs.length ∧ Pv i σ H, ⟨_, rfl, Nat.zero_le _, h0⟩, ?_⟩
  rintro i m σ H ⟨rfl, hi, pv⟩
  have qx := hl i σ H pv
  rcases Nat.lt_or_ge i kvs.length with lt | ge
  · refine .inr ⟨⟨qx, lt⟩, Pv (i + 1), fun σ' H' p' => ⟨kvs.length - (i + 1), by omega, rfl, lt, p'⟩, fun v H' y => ?_⟩
    obtain ⟨T, q, k, u, ek, eq, rfl, hT, rfl⟩ := y
    exact hs i k u T q σ H ek pv hT eq
  · have e : i = kvs.length := by omega
    subst e
    exact .inl ⟨⟨qx, Nat.le_refl _⟩, hd σ H pv⟩
end ItT

/-! [(len(r), r) for r in rows if ..], sorted. -/
namespace SortR
open PySem PySem.Spec PyProof.Rows L2 PySem.W LcM
/-- a tuple, its row's place, the row -/
abbrev Pr := Addr × Addr × List Int
def prD (b : Pr) : PyData := .tuple [.int (b.2.2.length : Nat), .list (b.2.2.map .int)]
def lenLe (p q : Pr) : Bool := decide (p.2.2.length < q.2.2.length ∨ (p.2.2.length = q.2.2.length ∧ p.2.2 ≤ q.2.2))
theorem prD_alike (p q : Pr) : alike (prD p) (prD q) = true := by
  unfold prD
  simp only [alike, alikeAll, alike_ints, Bool.and_self, Bool.or_true, Bool.true_and, Bool.and_true]
theorem prD_le : dataLe false prD = lenLe := by
  funext p q
  show (!dataLt (prD q) (prD p)) = _
  unfold prD
  rw [dataLt_pair (by simp [alike]) (by simp only [alike]; exact alike_ints _ _), dataLt_int, dataLt_list]
  have e1 : PyData.eqv (.int (q.2.2.length : Nat)) (.int (p.2.2.length : Nat)) = decide (q.2.2.length = p.2.2.length) := by
    by_cases h : q.2.2.length = p.2.2.length
    · simp [PyData.eqv, h]
    · rw [decide_eq_false h]
      simp [PyData.eqv]
      omega
  have e2 : PyProof.Rows.lexLt itemOrd (keyToksAll (q.2.2.map .int)) (keyToksAll (p.2.2.map .int)) = decide (q.2.2 < p.2.2) := dataLt_ints _ _
  rw [e1, e2]
  unfold lenLe
  by_cases h : q.2.2.length = p.2.2.length
  · rw [if_pos (decide_eq_true h)]
    by_cases h2 : PyData.eqv (.list (q.2.2.map .int)) (.list (p.2.2.map .int)) = true
    · rw [if_pos h2]
      have e : q.2.2 = p.2.2 := by
        rw [eqv_ints] at h2
        exact of_decide_eq_true h2
      rw [e]
      exact (decide_eq_true (.inr ⟨rfl, List.le_refl _⟩)).symm
    · rw [if_neg h2]
      by_cases h3 : q.2.2 < p.2.2
      · rw [decide_eq_true h3]
        refine (decide_eq_false fun z => ?_).symm
        rcases z with z | ⟨_, z⟩
        · omega
        · exact List.not_lt.mpr z h3
      · rw [decide_eq_false h3]
        exact (decide_eq_true (.inr ⟨h.symm, List.not_lt.mp h3⟩)).symm
  · rw [if_neg (by rw [decide_eq_false h]; exact Bool.false_ne_true)]
    by_cases h3 : q.2.2.length < p.2.2.length
    · rw [decide_eq_true (show ((q.2.2.length : Nat) : Int) < (p.2.2.length : Nat) by omega)]
      exact (decide_eq_false fun z => by omega).symm
    · rw [decide_eq_false (show ¬ ((q.2.2.length : Nat) : Int) < (p.2.2.length : Nat) by omega)]
      exact (decide_eq_true (.inl (by omega))).symm
theorem len_trans (a b c : Pr) (h1 : lenLe a b = true) (h2 : lenLe b c = true) : lenLe a c = true := by
  unfold lenLe at *
  rw [decide_eq_true_eq] at *
  rcases h1 with h1 | ⟨h1, l1⟩ <;> rcases h2 with h2 | ⟨h2, l2⟩
  · exact .inl (by omega)
  · exact .inl (by omega)
  · exact .inl (by omega)
  · exact .inr ⟨by omega, List.le_trans l1 l2⟩
theorem len_total (a b : Pr) : (lenLe a b || lenLe b a) = true := by
  unfold lenLe
  rw [Bool.or_eq_true, decide_eq_true_eq, decide_eq_true_eq]
  rcases Nat.lt_trichotomy a.2.2.length b.2.2.length with h | h | h
  · exact .inl (.inl h)
  · rcases List.le_total a.2.2 b.2.2 with l | l
    · exact .inl (.inr ⟨h, l⟩)
    · exact .inr (.inr ⟨h.symm, l⟩)
  · exact .inr (.inl h)
theorem len_first {bs : List Pr} (h : bs ≠ []) : ∃ c rest, bs.mergeSort lenLe = c :: rest ∧ c ∈ bs ∧ ∀ b ∈ bs, lenLe c b = true := by
  have pw := List.pairwise_mergeSort (le := lenLe) len_trans len_total bs
  have mem : ∀ b, b ∈ bs.mergeSort lenLe ↔ b ∈ bs := fun b => List.mem_mergeSort
  cases e : bs.mergeSort lenLe with
  | nil =>
    have := List.length_mergeSort (le := lenLe) bs
    rw [e] at this
    exact absurd (List.length_eq_zero_iff.mp this.symm) h
  | cons c rest =>
    rw [e] at pw mem
    refine ⟨c, rest, rfl, (mem c).mp List.mem_cons_self, fun b hb => ?_⟩
    rcases List.mem_cons.mp ((mem b).mpr hb) with z | z
    · rw [z]
      have := len_total c c
      rwa [Bool.or_self] at this
    · exact (List.pairwise_cons.mp pw).1 b z
theorem vals_eachP {P : Pr → Prop} : ∀ {bs : List Pr} {us : List Value}, Vals (bs.map fun b => V.ref b.1) us → (∀ b ∈ bs, P b) → EachIs (fun v b => v = Value.ref b.1 ∧ P b) us bs
  | [], us, r, _ => by
    cases r
    exact .nil
  | b :: bs, us, r, hp => by
    cases r with
    | cons r1 r2 =>
      have e : _ = Value.ref b.1 := r1
      exact .cons ⟨e, hp b List.mem_cons_self⟩ (vals_eachP r2 fun c hc => hp c (List.mem_cons_of_mem _ hc))
theorem each_backP {P : Pr → Prop} : ∀ {us : List Value} {bs : List Pr}, EachIs (fun v b => v = Value.ref b.1 ∧ P b) us bs → Vals (bs.map fun b => V.ref b.1) us
  | _, _, .nil => .nil
  | _, _, .cons h t => .cons h.1 (each_backP t)
section
variable {X : Cx}
theorem call_sortedP (hu : X.A.units + 64 < cLine) : CallR X (.builtin "sorted") (fun xs H Q => ∃ (a : Addr) (bs : List Pr), xs = [V.ref a] ∧ SqL X.K H a (bs.map fun b => V.ref b.1) ∧ (∀ b ∈ bs, SqT X.K H b.1 [V.int (b.2.2.length : Nat), V.ref b.2.1] ∧ SqL X.K H b.2.1 (b.2.2.map V.int)) ∧
    ∀ p, H p = none → Q (.ref p) (upd H p (.lst ((bs.mergeSort lenLe).map fun b => V.ref b.1)))) := by
  intro pins s σ H xs us Q I r h
  obtain ⟨a, bs, rfl, hs, hb, q⟩ := h
  obtain ⟨u, rfl, ru⟩ := vals1 r
  obtain rfl : u = Value.ref a := ru
  obtain ⟨its, rv, hl, hz⟩ := I.list hs
  have each : EachIs (fun v (b : Pr) => v = Value.ref b.1 ∧ SqT X.K H b.1 [V.int (b.2.2.length : Nat), V.ref b.2.1] ∧ SqL X.K H b.2.1 (b.2.2.map V.int)) its bs := vals_eachP rv hb
  have len : its.length = bs.length := by rw [← rv.length, List.length_map]
  have each2 : EachIs (fun v (b : Pr) => ∃ as, Reads s.heap v (prD b) as) its bs := each_mono each fun v b ⟨e, hq, hr⟩ => by
    rw [e]
    exact Dp.reads I (prD b) (.ref b.1) (.ref b.1) (.tup hq (.cons (.int _) (.cons (.lst hr (rows_dp b.2.2)) .nil))) rfl
  refine sorted_data (enc := prD) hl.isList each each2 (AllAlike.of prD_alike) (Sortable.tuples fun b => ⟨_, _, rfl⟩) (by rw [← len]; rw [List.length_map] at hz; rw [len]; exact hz) (fun b _ => by
    have d : (prD b).depth = 2 := by
      unfold prD
      simp only [PyData.depth, PyData.depthAll, depth_ints]
      omega
    rw [d]
    omega) fun out ho each3 => ?_
  rw [prD_le] at each3
  have back := each_backP each3
  obtain ⟨n, hn⟩ := sortedAll_at s.heap its out.toArray
  refine ⟨.ref (s.heap.objs.size + 1), upd H (s.heap.objs.size + 1) (.lst ((bs.mergeSort lenLe).map fun b => V.ref b.1)), I.laid (t' := s.toks) (fun b o e => sortedAll_old e) (Nat.le_succ _) ⟨?_, out, n, back, hn⟩, rfl, q _ (I.hok.fresh (Nat.le_succ _))⟩
  rw [List.length_map, List.length_mergeSort]
  rw [List.length_map] at hz
  exact hz
end
end SortR
namespace LcM
open PySem PySem.Spec PyProof.Rows L2 SortR
section
variable {K : PySem.W.Frag} {a : Addr} {xs : List V} {g : TG} {tt : TT} {te tk tv : TE} {vs : List Nat} {σ : L2.St} {H0 : Hp} {D : Addr} {Qd : Hp → Prop}
theorem lc_listP (p : Nat → Bool) (B : Nat → Addr × List Int) (hD : H0 D = none) (hx : SqL K H0 a xs) (small : xs.length ≤ 1000000)
    (turn : ∀ (i : Nat) (x : V) (H : Hp) (Ry : V → Hp → Prop) (Rn : Hp → Prop), xs[i]? = some x → Grows H0 H → (p i = true → ∀ T H4, Grows H H4 → H T = none → H4 T = some (.tup [V.int ((B i).2.length : Nat), V.ref (B i).1]) → Ry (.ref T) H4) → (p i = false → ∀ H4, Grows H H4 → Rn H4) →
      g x (wipe σ vs) H fun σ2 H2 => wipe σ2 vs = wipe σ vs ∧ tt σ2 H2 fun t H3 => if t = true then te σ2 H3 Ry else Rn H3)
    (done : ∀ H (cs : List Pr), Grows H0 H → cs.map (·.2) = ((List.range xs.length).filter p).map B → (∀ c ∈ cs, H c.1 = some (.tup [V.int (c.2.2.length : Nat), V.ref c.2.1])) → H D = some (.lst (cs.map fun c => V.ref c.1)) → Qd H) :
    ∃ W : Nat → Nat → Hp → Prop, (∃ m, W 0 m (upd H0 D (.lst []))) ∧ ∀ i m H, W i m H →
      ((Itl K a).stop i H ∧ Qd H) ∨ ((Itl K a).go i H ∧ ∃ Nx : Hp → Prop, (∀ H', Nx H' → ∃ m', m' < m ∧ W (i + 1) m' H') ∧ ∀ x H', (Itl K a).yld i H x H' → g x (wipe σ vs) H' fun σ2 H2 => wipe σ2 vs = wipe σ vs ∧ tt σ2 H2 fun b H3 =>
        if b = true then te σ2 H3 fun y H4 => ∃ acc, H4 D = some (.lst acc) ∧ acc.length < sizeLine ∧ Nx (upd H4 D (.lst (acc ++ [y]))) else Nx H3) := by
  refine lc_list (fun i H => ∃ cs : List Pr, Grows H0 H ∧ cs.map (·.2) = ((List.range i).filter p).map B ∧ (∀ c ∈ cs, H c.1 = some (.tup [V.int (c.2.2.length : Nat), V.ref c.2.1])) ∧ H D = some (.lst (cs.map fun c => V.ref c.1)))
    ⟨[], Grows.new hD, rfl, (fun _ m => nomatch m), upd_same⟩ (fun i H _ ⟨_, s, _⟩ => s.seq hx) (fun i x H ex ⟨cs, s, e, n, top⟩ => ?_) fun H ⟨cs, s, e, n, top⟩ => done H cs s e n top
  have il := Nat.lt_of_lt_of_le (List.getElem?_eq_some_iff.mp ex).1 small
  have len : cs.length ≤ i := by
    have := congrArg List.length e
    rw [List.length_map, List.length_map] at this
    rw [this]
    exact Nat.le_trans (List.length_filter_le _ _) (Nat.le_of_eq List.length_range)
  refine turn i x H _ _ ex s (fun hp T H4 s4 hT eT => ⟨_, s4 _ _ top, ?_, cs ++ [(T, B i)], fun b o eb => ?_, ?_, fun c hc => ?_, ?_⟩) fun hp H4 s4 => ⟨cs, s.trans s4, ?_, fun c hc => s4 _ _ (n c hc), s4 _ _ top⟩
  · rw [List.length_map]
    exact Nat.lt_of_le_of_lt len (Nat.lt_trans il (by decide))
  · rw [upd_ne (ne_of_none eb hD)]
    exact s4 _ _ (s _ _ eb)
  · rw [List.map_append, e, List.range_succ, List.filter_append, List.map_append, List.filter_cons_of_pos hp]
    rfl
  · have cD : c.1 ≠ D := by
      rcases List.mem_append.mp hc with m | m
      · exact ne_of (n c m) top fun z => nomatch z
      · rw [List.mem_singleton.mp m]
        exact (ne_of_none top hT).symm
    rw [upd_ne cD]
    rcases List.mem_append.mp hc with m | m
    · exact s4 _ _ (n c m)
    · rw [List.mem_singleton.mp m]
      exact eT
  · rw [upd_same, List.map_append]
    rfl
  · rw [e, List.range_succ, List.filter_append, List.filter_cons_of_neg (by rw [hp]; exact Bool.false_ne_true)]
    simp
end
end LcM

/-! repr of rows of small numbers: unlike rows have unlike texts. -/
namespace RepA
open PySem PySem.Spec PyProof.Rows L2
def dgs (x : Int) : List Nat := ((toString x : String) : Str).cps.toList
theorem dgs_ok : ((List.range 20).all fun i => ((dgs (i : Nat)).all fun c => decide (c ≠ 44) && decide (c ≠ 93)) && decide (dgs (i : Nat) ≠ [])) = true := by decide +kernel
theorem dgs_inj : ((List.range 20).all fun i => (List.range 20).all fun j => decide (i = j) || decide (dgs (i : Nat) ≠ dgs (j : Nat))) = true := by decide +kernel
theorem cps_app (a b : Str) : (a ++ b).cps.toList = a.cps.toList ++ b.cps.toList := by
  show (a.cps ++ b.cps).toList = _
  exact Array.toList_append
/-- no comma, no closing bracket -/
def Pln (t : List Nat) : Prop := ∀ c ∈ t, c ≠ 44 ∧ c ≠ 93
theorem dgs_pln {x : Int} (h0 : 0 ≤ x) (h1 : x < 20) : Pln (dgs x) := by
  have z := List.all_eq_true.mp dgs_ok x.toNat (List.mem_range.mpr (by omega))
  rw [Int.toNat_of_nonneg h0, Bool.and_eq_true] at z
  intro c hc
  have q := List.all_eq_true.mp z.1 c hc
  rw [Bool.and_eq_true, decide_eq_true_eq, decide_eq_true_eq] at q
  exact q
theorem dgs_same {x y : Int} (x0 : 0 ≤ x) (x1 : x < 20) (y0 : 0 ≤ y) (y1 : y < 20) (e : dgs x = dgs y) : x = y := by
  have z := List.all_eq_true.mp (List.all_eq_true.mp dgs_inj x.toNat (List.mem_range.mpr (by omega))) y.toNat (List.mem_range.mpr (by omega))
  rw [Int.toNat_of_nonneg x0, Int.toNat_of_nonneg y0, Bool.or_eq_true, decide_eq_true_eq, decide_eq_true_eq] at z
  rcases z with z | z
  · omega
  · exact absurd e z
theorem pln_cut : ∀ {t u : List Nat} {c d : Nat} {A B : List Nat}, Pln t → Pln u → (c = 44 ∨ c = 93) → (d = 44 ∨ d = 93) → t ++ c :: A = u ++ d :: B → t = u ∧ c :: A = d :: B
  | [], [], _, _, _, _, _, _, _, _, e => ⟨rfl, e⟩
  | [], y :: u, c, d, A, B, _, hu, hc, _, e => by
    have e1 := (List.cons.inj e).1
    have := hu y List.mem_cons_self
    omega
  | x :: t, [], c, d, A, B, ht, _, _, hd, e => by
    have e1 := (List.cons.inj e).1
    have := ht x List.mem_cons_self
    omega
  | x :: t, y :: u, c, d, A, B, ht, hu, hc, hd, e => by
    obtain ⟨e1, e2⟩ := List.cons.inj e
    obtain ⟨e3, e4⟩ := pln_cut (fun z hz => ht z (List.mem_cons_of_mem _ hz)) (fun z hz => hu z (List.mem_cons_of_mem _ hz)) hc hd e2
    exact ⟨by rw [e1, e3], e4⟩
def tailE : List (List Nat) → List Nat
  | [] => [93]
  | t :: ts => 44 :: 32 :: (t ++ tailE ts)
theorem tail_hd : ∀ ts : List (List Nat), ∃ c A, tailE ts = c :: A ∧ (c = 44 ∨ c = 93)
  | [] => ⟨93, [], rfl, .inr rfl⟩
  | t :: ts => ⟨44, _, rfl, .inl rfl⟩
theorem tail_inj : ∀ {ts us : List (List Nat)}, (∀ t ∈ ts, Pln t) → (∀ u ∈ us, Pln u) → tailE ts = tailE us → ts = us
  | [], [], _, _, _ => rfl
  | [], _ :: _, _, _, e => by
    have := (List.cons.inj e).1
    omega
  | _ :: _, [], _, _, e => by
    have := (List.cons.inj e).1
    omega
  | t :: ts, u :: us, ht, hu, e => by
    have e2 := (List.cons.inj (List.cons.inj e).2).2
    obtain ⟨c, A, e3, hc⟩ := tail_hd ts
    obtain ⟨d, B, e4, hd⟩ := tail_hd us
    rw [e3, e4] at e2
    obtain ⟨e5, e6⟩ := pln_cut (ht t List.mem_cons_self) (hu u List.mem_cons_self) hc hd e2
    rw [e5, tail_inj (fun z hz => ht z (List.mem_cons_of_mem _ hz)) (fun z hz => hu z (List.mem_cons_of_mem _ hz)) (by rw [e3, e4, e6])]
theorem text_more : ∀ (ts : List Str) (k : Nat) (acc : Str), (textFrom (k + 1) acc ts ++ (("]" : String) : Str)).cps.toList = acc.cps.toList ++ tailE (ts.map fun t => t.cps.toList)
  | [], k, acc => by
    show (acc ++ (("]" : String) : Str)).cps.toList = _
    rw [cps_app]
    rfl
  | t :: ts, k, acc => by
    show (textFrom (k + 1 + 1) (acc ++ ((if k + 1 > 0 then ", " else "" : String) : Str) ++ t) ts ++ (("]" : String) : Str)).cps.toList = _
    rw [text_more ts (k + 1), if_pos (Nat.succ_pos k), cps_app, cps_app, List.append_assoc, List.append_assoc]
    rfl
theorem list_text (t : Str) (ts : List Str) : (listText (t :: ts)).cps.toList = 91 :: (t.cps.toList ++ tailE (ts.map fun t => t.cps.toList)) := by
  show (textFrom (0 + 1) ((("[" : String) : Str) ++ ((if 0 > 0 then ", " else "" : String) : Str) ++ t) ts ++ (("]" : String) : Str)).cps.toList = _
  rw [text_more ts 0, cps_app, cps_app, List.append_assoc, List.append_assoc]
  rfl
theorem shown_ints : ∀ r : List Int, PyData.shownAll (r.map .int) = r.map fun x => ((toString x : String) : Str)
  | [] => by simp only [List.map_nil, PyData.shownAll]
  | x :: r => by simp only [List.map_cons, PyData.shownAll, PyData.shown, shown_ints r]
theorem shown_row (x : Int) (r : List Int) : (PyData.list ((x :: r).map .int)).shown.cps.toList = 91 :: (dgs x ++ tailE (r.map dgs)) := by
  have e : (PyData.list ((x :: r).map .int)).shown = listText (((toString x : String) : Str) :: r.map fun x => ((toString x : String) : Str)) := by
    have q := shown_ints (x :: r)
    rw [List.map_cons, List.map_cons] at q
    simp only [PyData.shown, List.map_cons, q]
  rw [e, list_text, List.map_map]
  rfl
theorem map_dgs : ∀ {r s : List Int}, (∀ x ∈ r, 0 ≤ x ∧ x < 20) → (∀ x ∈ s, 0 ≤ x ∧ x < 20) → r.map dgs = s.map dgs → r = s
  | [], [], _, _, _ => rfl
  | [], _ :: _, _, _, e => nomatch e
  | _ :: _, [], _, _, e => nomatch e
  | x :: r, y :: s, hr, hs, e => by
    obtain ⟨e1, e2⟩ := List.cons.inj e
    have h1 := hr x List.mem_cons_self
    have h2 := hs y List.mem_cons_self
    rw [dgs_same h1.1 h1.2 h2.1 h2.2 e1, map_dgs (fun z hz => hr z (List.mem_cons_of_mem _ hz)) (fun z hz => hs z (List.mem_cons_of_mem _ hz)) e2]
/-- unlike rows of numbers below twenty have unlike texts -/
theorem shown_inj {r s : List Int} (nr : r ≠ []) (ns : s ≠ []) (hr : ∀ x ∈ r, 0 ≤ x ∧ x < 20) (hs : ∀ x ∈ s, 0 ≤ x ∧ x < 20) (e : (PyData.list (r.map .int)).shown = (PyData.list (s.map .int)).shown) : r = s := by
  cases r with
  | nil => exact absurd rfl nr
  | cons x r =>
    cases s with
    | nil => exact absurd rfl ns
    | cons y s =>
      have q := congrArg (fun t : Str => t.cps.toList) e
      rw [shown_row, shown_row] at q
      have q2 := (List.cons.inj q).2
      have pl : ∀ {r : List Int}, (∀ x ∈ r, 0 ≤ x ∧ x < 20) → ∀ t ∈ r.map dgs, Pln t := fun h t ht => by
        obtain ⟨x, hx, rfl⟩ := List.mem_map.mp ht
        exact dgs_pln (h x hx).1 (h x hx).2
      obtain ⟨c, A, e3, hc⟩ := tail_hd (r.map dgs)
      obtain ⟨d, B, e4, hd⟩ := tail_hd (s.map dgs)
      rw [e3, e4] at q2
      have h1 := hr x List.mem_cons_self
      have h2 := hs y List.mem_cons_self
      obtain ⟨e5, e6⟩ := pln_cut (dgs_pln h1.1 h1.2) (dgs_pln h2.1 h2.2) hc hd q2
      have e7 := tail_inj (pl fun z hz => hr z (List.mem_cons_of_mem _ hz)) (pl fun z hz => hs z (List.mem_cons_of_mem _ hz)) (by rw [e3, e4, e6])
      rw [dgs_same h1.1 h1.2 h2.1 h2.2 e5, map_dgs (fun z hz => hr z (List.mem_cons_of_mem _ hz)) (fun z hz => hs z (List.mem_cons_of_mem _ hz)) e7]
end RepA

/-! xs.count(y), items being data of any depth -/
namespace CountD
open PySem PySem.Spec PyProof.Rows L2
def rCntD (K : PySem.W.Frag) : V → List V → Hp → VK → Prop := fun x xs H Q => ∃ (p : Addr) (ys : List V) (ds : List PyData) (y : V) (d : PyData), x = .ref p ∧ xs = [y] ∧ SqL K H p ys ∧ DpAll K H ys ds ∧ Dp K H y d ∧ PyData.plainAll ds = true ∧ d.plain = true ∧ d.depth ≤ 60 ∧ Q (.int ((ds.countP fun z => PyData.eqv z d : Nat) : Int)) H
theorem mt_countD {X : Cx} (hu : X.A.units + 65 < cLine) : MtR X "list.count" (rCntD X.K) := by
  intro pins s σ H x xs v us Q I rx rxs h
  obtain ⟨p, ys, ds, y, d, rfl, rfl, hs, all, hd, pa, pd, dep, q⟩ := h
  cases rx
  obtain ⟨u, rfl, ru⟩ := rxs.one
  obtain ⟨as, r1⟩ := Dp.reads I d y u hd ru
  obtain ⟨bs, r2⟩ := Dp.reads I (.list ds) (.ref p) (.ref p) (.lst hs all) rfl
  cases r2 with
  | list h1 h2 h3 h4 =>
    exact PySem.SeqAt.count_list_data ⟨_, h1, h2, _, h3⟩ h4 r1 pa pd (by have := Nat.min_le_right (PyData.depthAll ds) d.depth; omega) ⟨.int _, H, I.tok _, ⟨_, rfl⟩, q⟩
end CountD

/-! Dicts whose keys are tuples: written with their entries, made of a list of pairs, locked from their making on; their pairs walked while they are locked. -/
namespace DctU
open PySem PySem.Spec PyProof.Rows L2
section
variable {X : Cx}
/-- the value is locked from here on -/
def tFrz (te : TE) : TE := fun σ H Q => te σ H fun v H' => ∃ d u, v = .ref d ∧ H' d = some u ∧ Mut (some u) ∧ ∀ o, Q v (upd H' d (.frz o u))
theorem pe_frz {e : Expr} {te : TE} (h : PE X e te) : PE X e (tFrz te) := by
  refine ⟨fun pins s σ H Q I hw => thn (h.run pins s σ H _ I hw) fun v s1 ⟨x, H1, I1, r, d, u, ex, hd, mu, q⟩ => ?_⟩
  obtain ⟨o, I2⟩ := I1.lock hd mu
  exact ⟨x, _, I2, r, q o⟩
/-- later entries win, the place is the first one's -/
def mergeT (kvs more : List (List L2.Key × V)) : List (List L2.Key × V) := more.foldl (fun acc kv => putK acc kv.1 kv.2) kvs
theorem merge_len : ∀ (more kvs : List (List L2.Key × V)), (mergeT kvs more).length ≤ kvs.length + more.length
  | [], kvs => by
    show kvs.length ≤ _
    omega
  | p :: r, kvs => by
    have h1 := merge_len r (putK kvs p.1 p.2)
    have h2 := length_putK kvs p.1 p.2
    show (mergeT (putK kvs p.1 p.2) r).length ≤ _
    rw [List.length_cons]
    omega
theorem kt_merge {H : Hp} : ∀ {more kvs : List (List L2.Key × V)} {rs xs : List (List L2.Key × Addr × Value)}, KT H more rs → KT H kvs xs → KT H (mergeT kvs more) (storedAllH xs rs)
  | [], _, [], _, _, h => h
  | [], _, _ :: _, _, z, _ => nomatch z
  | _ :: _, _, [], _, z, _ => nomatch z
  | p :: more, kvs, q :: rs, xs, .cons a t, h => by
    obtain ⟨e, hb, rv⟩ := a
    have z : KT H (putK kvs p.1 p.2) (storedH xs q.1 q.2.1 q.2.2) := by
      rw [← e]
      exact h.put p.1 hb rv
    exact kt_merge (more := more) (rs := rs) t z
/-- pairs whose first is a tuple of ints and texts -/
abbrev PKs (H : Hp) : List (V × V) → List (List L2.Key × V) → Prop := Paired fun q kv => ∃ b, q.1 = .ref b ∧ H b = some (.tup (kv.1.map kV)) ∧ q.2 = kv.2
theorem carriesT {pins : List (Addr × Obj)} {σ : L2.St} {H : Hp} {s : Shared} (I : Inv X pins σ H s) : ∀ {ps : List (V × V)} {ws : List (Value × Value)} {kvs : List (List L2.Key × V)}, VV ps ws → PKs H ps kvs →
    ∃ rs, CarriesH (tupleKind (mixKind X.prog X.w)) s.heap ws rs ∧ KT H kvs rs
  | _, _, _, .nil, .nil => ⟨[], True.intro, .nil⟩
  | _, _, _, .cons (b := w2) a t, .cons (b := kv) k r => by
    obtain ⟨rs, c, q⟩ := carriesT I t r
    obtain ⟨b, e1, e2, e3⟩ := k
    obtain ⟨x, y⟩ := w2
    obtain ⟨a1, a2⟩ := a
    rw [e1] at a1
    rw [e3] at a2
    obtain rfl : x = Value.ref b := a1
    exact ⟨(kv.1, b, y) :: rs, ⟨rfl, rfl, key_of I.hok e2, c⟩, .cons ⟨rfl, e2, a2⟩ q⟩
theorem obj_T {P : Program} {w : World} {H H0 : Hp} {h' : Heap} {d : Addr} {kvs : List (List L2.Key × V)} {rs : List (List L2.Key × Addr × Value)} (kt : KT H0 kvs rs) (few : kvs.length ≤ 100000) (nS : (d == sysModules) = false) (dd : h'.DictOfH (tupleKind (mixKind P w)) d (storedAllH [] rs))
    (up : ∀ b ys, H0 b = some (.tup ys) → H b = some (.tup ys)) : ObjOk P w H h' d (.dT (mergeT [] kvs)) := by
  obtain ⟨o, es, ep, g1, g2, g3, g4, _, g5⟩ := dd
  refine ⟨?_, nS, _, (kt_merge kt .nil).keeps up, o, es, ep, g1, g2, g3, g4, g5⟩
  have l := merge_len kvs []
  rw [List.length_nil] at l
  rw [sizeLine_eq]
  omega
/-- {k: v, ..}, each k a tuple; the new dict stands empty while the pairs are made -/
def tDispT (trs : List (TE × TE)) : TE := fun σ H Q => ∀ p, H p = none → tPairs trs σ (upd H p (.dT [])) fun ps H2 => H2 p = some (.dT []) ∧ ∃ kvs, PKs H2 ps kvs ∧ kvs.length ≤ 15 ∧ Q (.ref p) (upd H2 p (.dT (mergeT [] kvs)))
theorem pe_dispT {pos : Pos} {keys : List (Option Expr)} {values : List Expr} {trs : List (TE × TE)} (room : X.A.units + 1 < cLine) (hp : PPs X pos keys values trs) (each : keys.all (·.isSome) = true) (same : keys.length = values.length) (some_ : keys ≠ []) (few : keys.length ≤ 15) :
    PE X (.Dict keys values pos) (tDispT trs) := by
  refine ⟨fun pins s σ H Q I q => ?_⟩
  have new := I.hok.fresh (Nat.le_refl s.heap.objs.size)
  have I1 := I.laid (a := s.heap.objs.size) (o := .dT []) (h' := s.heap.push { cls := .type "dict", data := .dict #[] }) (t' := s.toks) (fun _ _ z => Heap.get?_push_of_some _ z) (Nat.le_refl _) (dt_empty s.heap I.big)
  have ln := pairTrees_length keys values X.env pos each
  have ne : pairTrees keys values X.env pos ≠ [] := fun z => some_ (List.length_eq_zero_iff.mp (by
    have := ln same
    rw [z] at this
    exact this.symm))
  rw [arm_eval_Dict, zip_pairTrees keys values X.env pos each same, dictDisplay_pairs _ ne (by have := ln same; omega)]
  refine wpAny_bind (wpAny_standAt (wpAny_bind (wpAny_subDictH (knd := tupleKind (mixKind X.prog X.w)) (show X.A.units < cLine by omega) (by have := ln same; omega) ?_)))
  refine thn (hp.run pins _ σ _ _ I1 (q _ new)) fun ws s2 ⟨ps, H2, I2, rel, e, kvs, pk, lk, q2⟩ => ?_
  obtain ⟨rs, c, kt⟩ := carriesT I2 rel pk
  obtain ⟨z, hd, xs0, r0, dd⟩ := dt_of I2.hok e
  cases r0
  refine ⟨rs, c, dd, fun h' tk dd' hs => wpAny_pure ⟨.ref s.heap.objs.size, _, ?_, rfl, q2⟩⟩
  have he : ∃ q, h'.get? s.heap.objs.size = some q := let ⟨q, _, _, hq, _⟩ := dd'; ⟨q, hq⟩
  refine d_write I2 (by rw [e]; exact True.intro) hs he (obj_T kt (by omega) hd dd' fun b ys eb => ?_)
  rw [upd_ne fun z => by rw [z, e] at eb; cases eb]
  exact eb
/-- dict(pairs), a list of pairs of a tuple and a value -/
def rDictT (K : PySem.W.Frag) : List V → Hp → VK → Prop := fun xs H Q => ∃ (a : Addr) (ps : List Addr) (kvs : List (List L2.Key × V)), xs = [.ref a] ∧ SqL K H a (ps.map V.ref) ∧ kvs.length ≤ 100000 ∧
  Paired (fun p (kv : List L2.Key × V) => ∃ b, SqT K H p [.ref b, kv.2] ∧ H b = some (.tup (kv.1.map kV))) ps kvs ∧ ∀ p, H p = none → Q (.ref p) (upd H p (.dT (mergeT [] kvs)))
theorem pairsT {pins : List (Addr × Obj)} {σ : L2.St} {H : Hp} {s : Shared} (I : Inv X pins σ H s) : ∀ {ps : List Addr} {kvs : List (List L2.Key × V)}, Paired (fun p (kv : List L2.Key × V) => ∃ b, SqT X.K H p [.ref b, kv.2] ∧ H b = some (.tup (kv.1.map kV))) ps kvs →
    ∃ rs : List (List L2.Key × Addr × Value), KT H kvs rs ∧ rs.length = ps.length ∧ ∀ (j : Nat) (x : List L2.Key × Addr × Value), rs[j]? = some x → ∃ b, ps[j]? = some b ∧ s.heap.IsTuple b #[.ref x.2.1, x.2.2]
  | _, _, .nil => ⟨[], .nil, rfl, fun j x e => by rw [List.getElem?_nil] at e; cases e⟩
  | _, _, .cons (a := p) (b := kv) h t => by
    obtain ⟨rs, kt, hl, each⟩ := pairsT I t
    obtain ⟨b, hp, hb⟩ := h
    obtain ⟨its, rv, ht, _⟩ := I.tuple hp
    obtain ⟨u, y, ei, ru, ry⟩ := vals2 rv
    subst ei
    obtain rfl : u = Value.ref b := ru
    refine ⟨(kv.1, b, y) :: rs, .cons ⟨rfl, hb, ry⟩ kt, by rw [List.length_cons, List.length_cons, hl], fun j x e => ?_⟩
    cases j with
    | zero =>
      cases e
      exact ⟨p, rfl, ht⟩
    | succ j => exact each j x e
theorem cr_dictT (calm : X.calm = true) (room : X.A.units + 64 < cLine) : CallR X (.type "dict") (rDictT X.K) := by
  intro pins s σ H xs us Q I r h
  obtain ⟨a, ps, kvs, rfl, hq, few, hp, q⟩ := h
  obtain ⟨u, rfl, rx⟩ := vals1 r
  obtain rfl : u = Value.ref a := rx
  obtain ⟨its, rv, pl, hz⟩ := I.list hq
  obtain rfl := refs_at rv
  obtain ⟨rs, kt, hl, each⟩ := pairsT I hp
  obtain ⟨o, n, ho, hc, hd, hdat⟩ := pl
  have kl : kvs.length = rs.length := Paired.length kt
  refine call_dict_pairsH (knd := tupleKind (mixKind X.prog X.w)) (ps := rs) (PairArg.list a (ps.map Value.ref).toArray (fun j => ps.getD j 0) (rs.map fun x => (Value.ref x.2.1, x.2.2))) (I.ok.hd calm) (show X.A.units + 1 + 1 < cLine by omega)
    ⟨⟨o, n, ho, hc, hd, hdat⟩, ?_, fun j k v e => ?_⟩ ⟨by rw [List.length_map], fun i key v e => ?_⟩ (fun h' keep x hx => ?_) (by rw [List.length_map, ← kl, sizeLine_eq]; omega) fun h' tk hd' keep => ?_
  · rw [List.size_toArray, List.length_map, List.length_map, hl]
  · rw [List.getElem?_map] at e
    obtain ⟨x, hx, ex⟩ := Option.map_eq_some_iff.mp e
    cases ex
    obtain ⟨b, eb, tb⟩ := each j x hx
    have eg : ps.getD j 0 = b := by rw [List.getD_eq_getElem?_getD, eb]; rfl
    dsimp only
    rw [eg]
    refine ⟨?_, .inl tb⟩
    rw [List.getElem?_toArray, List.getElem?_map, eb]
    rfl
  · have e : (rs.map fun x => (Value.ref x.2.1, x.2.2))[i]? = some (key, v) := e
    rw [List.getElem?_map] at e
    obtain ⟨x, hx, ex⟩ := Option.map_eq_some_iff.mp e
    cases ex
    exact ⟨x.1, x.2.1, hx, rfl⟩
  · have all : ∀ {l : List (List L2.Key × V)} {m : List (List L2.Key × Addr × Value)}, KT H l m → ∀ x ∈ m, (tupleKind (mixKind X.prog X.w)).is h' x.1 x.2.1 := by
      intro l m z
      induction z with
      | nil => exact fun x hx => nomatch hx
      | cons a t ih =>
        intro x hx
        rcases List.mem_cons.mp hx with e | hx
        · subst e
          have z := key_of (P := X.prog) (w := X.w) I.hok (ks := x.1) (by rw [← a.1]; exact a.2.1)
          obtain ⟨o, v, n, h1, h2⟩ := z
          exact ⟨o, v, n, keep _ _ (Nat.ne_of_lt (Heap.lt_size h1)) (fun z => nomatch z) h1, h2⟩
        · exact ih x hx
    exact all kt x hx
  · have nS : (s.heap.objs.size == sysModules) = false := beq_eq_false_iff_ne.mpr (Nat.ne_of_gt I.big)
    have fr := I.hok.fresh (Nat.le_refl s.heap.objs.size)
    refine ⟨.ref s.heap.objs.size, upd H s.heap.objs.size (.dT (mergeT [] kvs)), I.laid (t' := tk) (fun b o e => keep b o (fun z => nomatch z) e) (Nat.le_refl _) (obj_T kt few nS hd' fun b ys eb => ?_), rfl, q _ fr⟩
    rw [upd_ne fun z => by rw [z, fr] at eb; cases eb]
    exact eb
end
/-- for k, v in d.items(), the dict locked since its making -/
def iItemsF (td : TE) : TI := fun σ H R => td σ H fun x H1 => ∃ d o kvs, x = .ref d ∧ H1 d = some (.frz o (.dT kvs)) ∧ R (ItT.ItiT d o kvs) H1
section
variable {X : Cx} {tg e : Expr} {td : TE} {apos cpos : Pos}
theorem pi_itemsF {elts : List Expr} {kk : Nat} {tpos : Pos} (he : PE X e td) (hbase : attributeBase e "items" X.env (eval e X.env) = eval e X.env := by rfl) (hline : (apos.endLine == cpos.line) = true := by rfl) :
    PI X (.Tuple elts kk tpos) (.Call (.Attribute e "items" apos) [] [] cpos) (iItemsF td) := by
  refine ⟨fun pins s σ H R I h => ?_⟩
  refine wpAny_Call_method (T := "dict") (id := "dict.items") hbase rfl hline PySem.F.plainAttrs_dict PySem.F.slot_dict_items PySem.F.type_dict_items (thn (he.run pins s σ H _ I h) fun u s1 ⟨x, H1, I0, rx, d, o, kvs, ex, hd, q⟩ => ?_)
  subst ex
  obtain rfl : u = Value.ref d := rx
  obtain ⟨hs, hgd, hx, es, ep, hdt, hsz, ent⟩ := ItT.frz_all I0 hd
  have raw : DT.Raw s1.heap d es ep := ⟨o, hgd, hx, hdt⟩
  refine ⟨raw.typeIs, ?_, ?_⟩
  · intro b eb
    cases eb
    exact ⟨o, hgd, hx.2.1⟩
  have I2 : Inv X pins σ H1 { s1 with heap := s1.heap.push { cls := .type "dict_items", data := .fields #[.ref d] } } := I0.kept (t' := s1.toks) fun b ob q => Heap.get?_push_of_some _ q
  have fin : wpAny (model X.prog X.w) X.A (pyIter (.ref s1.heap.objs.size)) (PIE X pins σ (.Tuple elts kk tpos) R) X.xe { s1 with heap := s1.heap.push { cls := .type "dict_items", data := .fields #[.ref d] } } := by
    refine DT.iterI (d := d) (es := es) (ep := ep) ⟨_, Heap.get?_push_size _ rfl, rfl, rfl⟩ (raw.push _) (pi_one (tk := s1.toks) I2 _ (ItT.turn_itemsT _ hdt) ⟨.none, .none, ?_⟩ q)
    rw [← hsz]
    exact Heap.get?_push_size _ rfl
  show wpAny _ _ (callWith cpos (.builtin "dict.items") [.ref d] [] []) _ X.xe s1
  exact method_meetsIn PySem.F.slot_dict_items PySem.F.entry_dict_items rfl (PySem.evalArgs_none ⟨rfl, raw.typeIs, PySem.F.args_dict_items_1 _, _, DT.meetsItems (es := es) (ep := ep) hs, raw, fin⟩)
end
/-- sum of a tuple of ints -/
def rSumT (K : PySem.W.Frag) : List V → Hp → VK → Prop := fun vs H Q => ∃ (a : Addr) (ns : List Int), vs = [V.ref a] ∧ SqT K H a (ns.map V.int) ∧ Q (.int ns.sum) H
theorem cr_sumT {X : Cx} (calm : X.calm = true) : CallR X (.builtin "sum") (rSumT X.K) := by
  intro pins s σ H vs us Q I r h
  obtain ⟨a, ns, rfl, hs, q⟩ := h
  obtain ⟨its, rv, ht, _⟩ := I.tuple hs
  rw [Vals.ref1 r]
  have hi := rv.ints
  obtain ⟨xs, e⟩ := hi.allInts.items
  have hn : numsOf (intItems xs).toList = ns := by
    rw [← e]
    exact hi.numsOf
  rw [nums_intItems] at hn
  have hl : s.heap.IsTuple a (intItems xs) := by
    rw [← e]
    exact ht
  refine PySem.W.ktm_sumG (I.ok.hd calm) hl fun h' tk t' hk => ?_
  have z : preSum (numAt xs) xs.size = ns.sum := by rw [preSum_eq, List.take_of_length_le (by simp), hn]
  rw [z]
  exact ⟨.int _, H, I.kept hk, ⟨_, rfl⟩, q⟩
/-- a loop over the keys of a locked dict -/
theorem for_keysT {d : Addr} {o : Obj} {kvs : List (List L2.Key × V)} {g : TG} {σ : L2.St} {H0 : Hp} {tb : TS} {Dn : Ends} (Pv : Nat → L2.St → Hp → Prop) (h0 : Pv 0 σ H0) (hl : ∀ i σ H, Pv i σ H → H d = some (.frz o (.dT kvs)))
    (hs : ∀ (i : Nat) (k : List L2.Key) (v : V) (q : Addr) (σ : L2.St) (H : Hp), kvs[i]? = some (k, v) → Pv i σ H → H q = some (.tup (k.map kV)) → g (.ref q) σ H fun σ2 H2 => tb { Dn with nx := Pv (i + 1), ct := Pv (i + 1), bk := Dn.nx } σ2 H2) (hd : ∀ σ H, Pv kvs.length σ H → Dn.nx σ H) :
    ∃ W : Nat → Nat → L2.St → Hp → Prop, (∃ m, W 0 m σ H0) ∧ ∀ i m σ H, W i m σ H →
      ((Itkt d o kvs).stop i H ∧ Dn.nx σ H) ∨ ((Itkt d o kvs).go i H ∧ ∃ N : L2.St → Hp → Prop, (∀ σ' H', N σ' H' → ∃ m', m' < m ∧ W (i + 1) m' σ' H') ∧ ∀ v H', (Itkt d o kvs).yld i H v H' → g v σ H' fun σ2 H2 => tb { Dn with nx := N, ct := N, bk := Dn.nx } σ2 H2) := by
  refine ⟨fun i m σ H => m = kvs.length - i ∧ i ≤ kvs.length ∧ Pv i σ H, ⟨_, rfl, Nat.zero_le _, h0⟩, ?_⟩
  rintro i m σ H ⟨rfl, hi, pv⟩
  have qx := hl i σ H pv
  rcases Nat.lt_or_ge i kvs.length with lt | ge
  · refine .inr ⟨⟨qx, lt⟩, Pv (i + 1), fun σ' H' p' => ⟨kvs.length - (i + 1), by omega, rfl, lt, p'⟩, fun v H' y => ?_⟩
    obtain ⟨rfl, k, u, q, ek, rfl, eq⟩ := y
    exact hs i k u q σ H' ek pv eq
  · have e : i = kvs.length := by omega
    subst e
    exact .inl ⟨⟨qx, Nat.le_refl _⟩, hd σ H pv⟩
/-- [e for k in d] over the keys of a locked dict -/
theorem lc_keysT {d D : Addr} {o : Obj} {kvs : List (List L2.Key × V)} {g : TG} {tt : TT} {te : TE} {vs : List Nat} {σ : L2.St} {H0 : Hp} {Qd : Hp → Prop} (Pv : Nat → Hp → Prop) (h0 : Pv 0 (upd H0 D (.lst []))) (hl : ∀ i H, Pv i H → H d = some (.frz o (.dT kvs)))
    (hs : ∀ (i : Nat) (k : List L2.Key) (v : V) (q : Addr) (H : Hp), kvs[i]? = some (k, v) → Pv i H → H q = some (.tup (k.map kV)) → g (.ref q) (wipe σ vs) H fun σ2 H2 => wipe σ2 vs = wipe σ vs ∧ tt σ2 H2 fun b H3 =>
      if b = true then te σ2 H3 fun y H4 => ∃ acc, H4 D = some (.lst acc) ∧ acc.length < sizeLine ∧ Pv (i + 1) (upd H4 D (.lst (acc ++ [y]))) else Pv (i + 1) H3) (hd : ∀ H, Pv kvs.length H → Qd H) :
    ∃ W : Nat → Nat → Hp → Prop, (∃ m, W 0 m (upd H0 D (.lst []))) ∧ ∀ i m H, W i m H →
      ((Itkt d o kvs).stop i H ∧ Qd H) ∨ ((Itkt d o kvs).go i H ∧ ∃ Nx : Hp → Prop, (∀ H', Nx H' → ∃ m', m' < m ∧ W (i + 1) m' H') ∧ ∀ x H', (Itkt d o kvs).yld i H x H' → g x (wipe σ vs) H' fun σ2 H2 => wipe σ2 vs = wipe σ vs ∧ tt σ2 H2 fun b H3 =>
        if b = true then te σ2 H3 fun y H4 => ∃ acc, H4 D = some (.lst acc) ∧ acc.length < sizeLine ∧ Nx (upd H4 D (.lst (acc ++ [y]))) else Nx H3) := by
  refine ⟨fun i m H => m = kvs.length - i ∧ i ≤ kvs.length ∧ Pv i H, ⟨_, rfl, Nat.zero_le _, h0⟩, ?_⟩
  rintro i m H ⟨rfl, hi, pv⟩
  have qx := hl i H pv
  rcases Nat.lt_or_ge i kvs.length with lt | ge
  · refine .inr ⟨⟨qx, lt⟩, Pv (i + 1), fun H' p' => ⟨kvs.length - (i + 1), by omega, rfl, lt, p'⟩, fun x H' y => ?_⟩
    obtain ⟨rfl, k, u, q, ek, rfl, eq⟩ := y
    exact hs i k u q H' ek pv eq
  · have e : i = kvs.length := by omega
    subst e
    exact .inl ⟨⟨qx, Nat.le_refl _⟩, hd H pv⟩
end DctU

namespace K34
open PySem PySem.Spec PyProof.Rows L2 LcM
def top (i : Nat) : Stmt := PySem.Challenge.pw_twopartings_k34_rows_of_changes.main.body.getD i (.Pass ⟨0, 0, 0, 0⟩)
abbrev sStore : Stmt := top 17
abbrev sPick : Stmt := top 18

/-! ### power of a great base -/
def CPowW (i j : Int) : Prop := 0 ≤ j ∧ (Builtin.Int.intBits i : Int) * j ≤ 2 ^ 27
section
variable {X : Cx}
theorem op_powW : OpR X (binaryOp .Pow) (rI CPowW fun i j => .int (i ^ j.toNat)) := opI fun _ _ _ _ _ _ _ hc q => pow_int hc.1 hc.2 q
end
theorem bits_of {i : Int} {n : Nat} (h : i.natAbs < 2 ^ n) (h0 : 0 < n) : Builtin.Int.intBits i ≤ n := by
  unfold Builtin.Int.intBits
  split
  · omega
  · have := PySem.Flt.log2_lt_of h0 h
    omega
theorem pow3' {i : Int} {n : Nat} (h : i.natAbs < 2 ^ 64) (hn : n ≤ 1000) : CPowW i n := ⟨by omega, by
  have := bits_of h (by decide)
  have z : (Builtin.Int.intBits i : Int) * (n : Int) ≤ 64 * 1000 := Int.mul_le_mul (by omega) (by omega) (by omega) (by decide)
  omega⟩
theorem pow3 {i : Int} (h : i.natAbs < 2 ^ 300) : CPowW i 3 := ⟨by decide, by have := bits_of h (by decide); omega⟩

/-! ### the heap grows: all of it stays but at one place -/
def Gr (p : Addr) (H H' : Hp) : Prop := ∀ b o, b ≠ p → H b = some o → H' b = some o
theorem Gr.refl {p : Addr} {H : Hp} : Gr p H H := fun _ _ _ e => e
theorem Gr.trans {p : Addr} {H H1 H2 : Hp} (x : Gr p H H1) (y : Gr p H1 H2) : Gr p H H2 := fun b o n e => y b o n (x b o n e)
theorem Gr.new {p a : Addr} {H : Hp} {o : HO} (h : H a = none) : Gr p H (upd H a o) := fun b u n e => by
  rw [upd_ne (ne_of_none e h)]
  exact e
theorem Gr.at {p : Addr} {H : Hp} {o : HO} : Gr p H (upd H p o) := fun b u n e => by
  rw [upd_ne n]
  exact e
theorem _root_.LcM.Grows.gr {p : Addr} {H H' : Hp} (x : Grows H H') : Gr p H H' := fun b o _ e => x b o e
/-! ### the pouch -/
def Pch (H : Hp) (p : Addr) (m : Int) : Prop := ∃ d b n : Int, H p = some (.lst [.int d, .int b, .int n]) ∧ 0 ≤ b ∧ b < 2 ^ 200 ∧ 0 ≤ n ∧ n ≤ m
theorem Pch.le {H : Hp} {p : Addr} {m k : Int} (h : Pch H p m) (l : m ≤ k) : Pch H p k := by
  obtain ⟨d, b, n, e, h1, h2, h3, h4⟩ := h
  exact ⟨d, b, n, e, h1, h2, h3, by omega⟩
theorem Pch.same {H H' : Hp} {p : Addr} {m : Int} (h : Pch H p m) (s : Grows H H') : Pch H' p m := by
  obtain ⟨d, b, n, e, r⟩ := h
  exact ⟨d, b, n, s _ _ e, r⟩
structure Txt0 (mg : Str → Option Value) : Prop where
  int : mg "int" = none
  range : mg "range" = none
  len : mg "len" = none
  abs : mg "abs" = none
  max : mg "max" = none
  min : mg "min" = none
def spStore (K : PySem.W.Frag) : Sp := fun vs H Q _ => ∃ (a : Addr) (i : Int) (ns : List Int), vs = [.ref a, .int i] ∧ SqL K H a (ns.map V.int) ∧ 0 ≤ i ∧ i < 1000 ∧ ∀ (p : Addr) (H' : Hp), H p = none → Grows H H' → Pch H' p 0 → Q (.ref p) H'
def spPick : Sp := fun vs H Q _ => ∃ (p : Addr) (w m : Int), vs = [.ref p, .int w] ∧ Pch H p m ∧ m < 2 ^ 60 ∧ 0 < w ∧ w.natAbs < 2 ^ 200 ∧ ∀ (v : Int) (H' : Hp), 0 ≤ v → v < w → Pch H' p (m + 1) → (∀ b, b ≠ p → H' b = H b) → Q (.int v) H'

section
variable {P : Program} {w : World} {K : PySem.W.Frag} {mg : Str → Option Value} {base : Heap}
theorem scStore : FnScope ["script", "k", "cell"] ["script", "k"] (defScope sStore) := ⟨rfl, rfl, rfl, by decide +kernel, rfl, by decide +kernel, by decide +kernel⟩
theorem ok_store {f : Addr} {fd : FuncData} (F : Fun K "_law_store" "_law_store" sStore f fd) (T : Txt0 mg) : FnOk P w K mg base CX0 1 f fd ["script", "k"] (spStore K) := by
  refine F.ok scStore (fun vs H Q E h => ?_) (fun cdv A outer s H vs Q E hr h => ?_)
  · obtain ⟨a, i, ns, rfl, _⟩ := h
    rfl
  · obtain ⟨a, i, ns, rfl, hS, h0, h1, k⟩ := h
    refine ⟨_, (pss_cons (ps_set (i := 2) scStore.nd rfl (.inl rfl) (pe_ifExp (pt_cmpR op_lt (pv 1) (pe_callB call_len_seq (by rfl) T.len (by decide +kernel) (pa_cons (pv 0) pa_nil)) (nomark _)) (pe_callB call_abs (by rfl) T.abs (by decide +kernel) (pa_cons (pe_ix (r := rIxL K) ix_list (pv 0) (pv 1) (fun _ _ => rfl)) pa_nil)) pe_int))
      (pss_one (ps_ret (pe_lst (pa_cons (pe_callB (call_max2 rfl) (by rfl) T.max (by decide +kernel) (pa_cons pe_int (pa_cons (pe_op op_sub (pv 2) (pe_op op_powW pe_int pe_int)) pa_nil))) (pa_cons (pe_op op_add (pe_op op_mul (pe_op op_mod (pe_callTy call_int1 (by rfl) T.int (by decide +kernel) (pa_cons (pv 2) pa_nil)) (pe_op op_add (pe_op op_powW pe_int pe_int) pe_int)) pe_int) (pe_op op_mul pe_int (pv 1))) (pa_cons pe_int pa_nil))))))), ?_⟩
    have hP : CPowW 10 18 := pow3' (by decide) (by decide)
    have hP2 : CPowW 10 37 := pow3' (by decide) (by decide)
    have pos : (0 : Int) < (10 : Int) ^ (37 : Int).toNat + 43 := by decide
    have fin : ∀ c : Int, gName 2 (V.int c) (L2.start ["script", "k", "cell"] [V.ref a, V.int i]) H
        ({ nx := tRet (tLst (tCons (tCB (fun xs H Q => ∃ i j, xs = [V.int i, V.int j] ∧ Q (V.int (if j > i then j else i)) H) (tCons (tC (V.int 0)) (tCons (tOp (rI0 fun i j => V.int (i - j)) (tVar 2) (tOp (rI CPowW fun i j => V.int (i ^ j.toNat)) (tC (V.int 10)) (tC (V.int 18)))) tNil)))
              (tCons (tOp (rI0 fun i j => V.int (i + j)) (tOp (rI CMul fun i j => V.int (i * j)) (tOp (rI (fun x j => 0 < j) fun i j => V.int (i % j)) (tCB (fun xs H Q => (∃ i, xs = [V.int i] ∧ Q (V.int i) H) ∨ ∃ k, xs = [V.bl k] ∧ Q (V.int (if k = true then 1 else 0)) H) (tCons (tVar 2) tNil))
                (tOp (rI0 fun i j => V.int (i + j)) (tOp (rI CPowW fun i j => V.int (i ^ j.toNat)) (tC (V.int 10)) (tC (V.int 37))) (tC (V.int 43)))) (tC (V.int 83))) (tOp (rI CMul fun i j => V.int (i * j)) (tC (V.int 7)) (tVar 1))) (tCons (tC (V.int 0)) tNil))))
            ({ nx := fun _ H' => Q V.non H', rt := Q } : Ends), rt := Q } : Ends).nx := fun c => by
      refine ⟨_, rfl, _, _, rfl, rfl, hP, _, _, rfl, rfl, _, _, rfl, _, rfl, .inl ⟨_, rfl, _, _, rfl, rfl, hP2, _, _, rfl, rfl, _, _, rfl, rfl, pos, _, _, rfl, rfl, .inr ⟨by decide, by decide⟩, _, rfl, _, _, rfl, rfl, .inl ⟨by decide, by decide⟩, _, _, rfl, rfl, ?_⟩⟩
      have l0 := Int.emod_nonneg c (Int.ne_of_gt pos)
      have l1 := Int.emod_lt_of_pos c pos
      have e0 : (10 : Int) ^ (37 : Int).toNat + 43 = 10000000000000000000000000000000000043 := by decide
      rw [e0] at l0 l1 ⊢
      refine ⟨(by show 3 ≤ sizeLine; decide), fun l hl => k l _ hl (Grows.new hl) ⟨_, _, _, upd_same, ?_, ?_, by decide, by decide⟩⟩
      · omega
      · omega
    refine ⟨_, rfl, _, rfl, a, _, rfl, .inl hS, _, _, rfl, rfl, _, rfl, ?_⟩
    refine ite2 (fun e => ?_) (fun e => ?_)
    · have lt : i.toNat < ns.length := by
        have q := of_decide_eq_true e
        rw [List.length_map] at q
        omega
      have g : (ns.map V.int)[i.toNat]? = some (.int ns[i.toNat]) := by
        rw [List.getElem?_map, List.getElem?_eq_getElem lt]
        rfl
      have g2 : atI (ns.map V.int) i = some (.int ns[i.toNat]) := by
        have q := atI_nat g
        rw [Int.toNat_of_nonneg h0] at q
        exact q
      refine ⟨_, rfl, _, rfl, a, _, _, _, rfl, rfl, hS, g2, _, rfl, ?_⟩
      exact fin _
    · exact fin _
theorem scPick : FnScope ["store", "bound", "digit", "mixed"] ["store", "bound"] (defScope sPick) := ⟨rfl, rfl, rfl, by decide +kernel, rfl, by decide +kernel, by decide +kernel⟩
theorem ok_pick {f : Addr} {fd : FuncData} (F : Fun K "_law_pick" "_law_pick" sPick f fd) (T : Txt0 mg) : FnOk P w K mg base CX0 1 f fd ["store", "bound"] spPick := by
  refine F.ok scPick (fun vs H Q E h => ?_) (fun cdv A outer s H vs Q E hr h => ?_)
  · obtain ⟨p, wd, m, rfl, _⟩ := h
    rfl
  · obtain ⟨p, wd, m, rfl, ⟨d, b, n, e, b0, b1, n0, n1⟩, hm, hw, hw2, k⟩ := h
    refine ⟨_, (pss_cons (ps_if (pt_cmpR op_gt (pe_ix (r := rIxL K) ix_list (pv 0) pe_int (fun _ _ => rfl)) pe_int (nomark _)) (pss_cons (ps_set (i := 2) scPick.nd rfl (.inl rfl) (pe_op op_mod (pe_callTy call_int1 (by rfl) T.int (by decide +kernel) (pa_cons (pe_ix (r := rIxL K) ix_list (pv 0) pe_int (fun _ _ => rfl)) pa_nil)) (pv 1)))
      (pss_cons (ps_asg (pe_op op_fdivW (pe_ix (r := rIxL K) ix_list (pv 0) pe_int (fun _ _ => rfl)) (pv 1)) (pg_sub (pv 0) pe_int set_list))
      (pss_one (ps_ret (pv 2))))) pss_nil)
      (pss_cons (ps_asg (pe_op op_add (pe_ix (r := rIxL K) ix_list (pv 0) pe_int (fun _ _ => rfl)) pe_int) (pg_sub (pv 0) pe_int set_list))
      (pss_cons (ps_set (i := 3) scPick.nd rfl (.inl rfl) (pe_op op_mod (pe_callTy call_int1 (by rfl) T.int (by decide +kernel) (pa_cons (pe_op op_powW (pe_op op_add (pe_ix (r := rIxL K) ix_list (pv 0) pe_int (fun _ _ => rfl)) (pe_op op_mul pe_int (pe_ix (r := rIxL K) ix_list (pv 0) pe_int (fun _ _ => rfl)))) pe_int) pa_nil)) (pe_op op_add (pe_op op_powW pe_int pe_int) pe_int)))
      (pss_cons (ps_set (i := 3) scPick.nd rfl (.inl rfl) (pe_op op_mod (pe_callTy call_int1 (by rfl) T.int (by decide +kernel) (pa_cons (pe_op op_powW (pe_op op_add (pv 3) (pe_op op_mul pe_int (pe_ix (r := rIxL K) ix_list (pv 0) pe_int (fun _ _ => rfl)))) pe_int) pa_nil)) (pe_op op_add (pe_op op_powW pe_int pe_int) pe_int)))
      (pss_one (ps_ret (pe_op op_mod (pe_callTy call_int1 (by rfl) T.int (by decide +kernel) (pa_cons (pe_op op_fdivW (pv 3) pe_int) pa_nil)) (pv 1)))))))), ?_⟩
    refine ⟨_, rfl, p, _, _, _, rfl, rfl, SqL.of e, rfl, _, _, rfl, rfl, _, rfl, ?_⟩
    refine ite2 (fun _ => ?_) (fun _ => ?_)
    · refine ⟨_, rfl, p, _, _, _, rfl, rfl, SqL.of e, rfl, .inl ⟨_, rfl, _, rfl, _, _, rfl, rfl, hw, _, rfl, p, _, _, _, rfl, rfl, SqL.of e, rfl, _, rfl, _, _, rfl, rfl, wide_div hw hw2 (by decide) (by decide), _, rfl, p, _, _, 0, rfl, rfl, e, rfl, _, rfl, ?_⟩⟩
      exact k _ _ (Int.emod_nonneg _ (by omega)) (Int.emod_lt_of_pos _ hw) ⟨_, _, _, upd_same, b0, b1, n0, by omega⟩ fun _ h => upd_ne h
    · refine ⟨_, rfl, p, _, _, _, rfl, rfl, SqL.of e, rfl, _, _, rfl, rfl, _, rfl, p, _, _, 2, rfl, rfl, e, rfl, ?_⟩
      have hP : CPowW 10 40 := pow3' (by decide) (by decide)
      have hP2 : CPowW 10 39 := pow3' (by decide) (by decide)
      have q0 : (0 : Int) < (10 : Int) ^ (40 : Int).toNat + 121 := by decide
      have q1 : (0 : Int) < (10 : Int) ^ (39 : Int).toNat + 3 := by decide
      have q2 : (10 : Int) ^ (40 : Int).toNat + 121 < 2 ^ 200 := by decide
      have c1 : CPowW (b + 32416187567 * (n + 1)) 3 := pow3 (by omega)
      refine ⟨_, rfl, p, _, _, _, rfl, rfl, SqL.of upd_same, rfl, _, rfl, p, _, _, _, rfl, rfl, SqL.of upd_same, rfl, _, _, rfl, rfl, .inl ⟨by decide, by decide⟩, _, _, rfl, rfl, _, _, rfl, rfl, c1, .inl ⟨_, rfl, _, _, rfl, rfl, hP, _, _, rfl, rfl, _, _, rfl, rfl, q0, ?_⟩⟩
      obtain ⟨y, hy⟩ : ∃ y : Int, y = (b + 32416187567 * (n + 1)) ^ (3 : Int).toNat % ((10 : Int) ^ (40 : Int).toNat + 121) := ⟨_, rfl⟩
      have y0 : 0 ≤ y := hy ▸ Int.emod_nonneg _ (Int.ne_of_gt q0)
      have y1 : y < (10 : Int) ^ (40 : Int).toNat + 121 := hy ▸ Int.emod_lt_of_pos _ q0
      have c2 : CPowW (y + 27644437 * (n + 1)) 3 := pow3 (by omega)
      show gName 3 (.int ((b + 32416187567 * (n + 1)) ^ (3 : Int).toNat % ((10 : Int) ^ (40 : Int).toNat + 121))) _ _ _
      rw [← hy]
      refine ⟨_, rfl, _, rfl, p, _, _, _, rfl, rfl, SqL.of upd_same, rfl, _, _, rfl, rfl, .inl ⟨by decide, by decide⟩, _, _, rfl, rfl, _, _, rfl, rfl, c2, .inl ⟨_, rfl, _, _, rfl, rfl, hP2, _, _, rfl, rfl, _, _, rfl, rfl, q1, ?_⟩⟩
      refine ⟨_, rfl, _, _, rfl, rfl, ⟨by decide, by decide⟩, .inl ⟨_, rfl, _, rfl, _, _, rfl, rfl, hw, ?_⟩⟩
      exact k _ _ (Int.emod_nonneg _ (by omega)) (Int.emod_lt_of_pos _ hw) ⟨_, _, _, upd_same, b0, b1, by omega, by omega⟩ fun _ h => upd_ne h
end
end K34

namespace K34
open PySem PySem.Spec PyProof.Rows L2 LcM
theorem at_in {xs : List V} {v : Int} (h0 : 0 ≤ v) (h1 : v < xs.length) : ∃ z ∈ xs, atI xs v = some z := by
  have lt : v.toNat < xs.length := by omega
  have q := atI_nat (List.getElem?_eq_getElem lt)
  rw [Int.toNat_of_nonneg h0] at q
  exact ⟨_, List.getElem_mem lt, q⟩
/-- items of newcomers: each within its bounds -/
def Bnd (xs : List Int) : Prop := ∀ (j : Nat) (x : Int), xs[j]? = some x → -(j : Int) ≤ x ∧ x ≤ (j : Int)
theorem Bnd.add {xs : List Int} {x : Int} (h : Bnd xs) (h0 : -(xs.length : Int) ≤ x) (h1 : x ≤ (xs.length : Int)) : Bnd (xs ++ [x]) := fun j y e => by
  rcases Nat.lt_or_ge j xs.length with z | z
  · rw [List.getElem?_append_left z] at e
    exact h j y e
  · rw [List.getElem?_append_right z] at e
    have : j - xs.length = 0 := by
      rcases Nat.eq_zero_or_pos (j - xs.length) with q | q
      · exact q
      · rw [List.getElem?_eq_none (by show 1 ≤ j - xs.length; omega)] at e
        cases e
    rw [this] at e
    have e' : x = y := Option.some.inj e
    omega
theorem but_at {p a : Addr} {H H' : Hp} {o : HO} (h : ∀ b, b ≠ p → H' b = H b) (e : H a = some o) (n : a ≠ p) : H' a = some o := (h a n).trans e
theorem but_gr {p : Addr} {H H' : Hp} (h : ∀ b, b ≠ p → H' b = H b) : Gr p H H' := fun b o n e => (h b n).trans e
theorem pch_ne {p a : Addr} {H : Hp} {m : Int} (h : Pch H p m) (n : H a = none) : a ≠ p := fun e => by
  obtain ⟨_, _, _, q, _⟩ := h
  rw [← e, n] at q
  cases q
section
variable {P : Program} {w : World} {K : PySem.W.Frag} {mg : Str → Option Value} {base : Heap}
structure TxtP1 (mg : Str → Option Value) (fP : Addr) : Prop extends Txt0 mg where
  gP : mg "_law_pick" = some (.ref fP)
theorem seq_all {t u : TS} {D : Ends} {σ : L2.St} {H : Hp} (I : L2.St → Hp → Prop) (h2 : ∀ σ' H', I σ' H' → u D σ' H') (h1 : (∀ σ' H', I σ' H' → u D σ' H') → tSeq t u D σ H) : tSeq t u D σ H := h1 h2
theorem iteN {A B : Prop} (c : Bool) (h1 : c = true → A) (h2 : c = false → B) : if c = true then A else B := by
  cases c
  · exact h2 rfl
  · exact h1 rfl
theorem nm_i {v : V} {i : Nat} {t u : TS} {D : Ends} {σ : L2.St} {H : Hp} (h : tSeq t u D (σ.set i (some v)) H) : gName i v σ H (tSeq t u D) := h
end
end K34

namespace K34
open PySem PySem.Spec PyProof.Rows L2 SortR LcM
abbrev sNumber : Stmt := top 7
abbrev sNPs : Stmt := top 8
abbrev sNeedN : Stmt := top 9
abbrev sWays : Stmt := top 11
abbrev sApart : Stmt := top 13
abbrev sWwc : Stmt := top 14
abbrev sCC : Stmt := top 15
/-- the program's defs, where they stand -/
structure ProgF (K : PySem.W.Frag) (mg : Str → Option Value) where
  fNum : Addr
  dNum : FuncData
  FNum : Fun K "is_number" "is_number" sNumber fNum dNum
  gNum : mg "is_number" = some (.ref fNum)
  bNum : Binds K dNum ["thing"] []
  mostT : Tok
  gMost : mg "MOST_PERSONS" = some (.int 20 mostT)
structure CcF (K : PySem.W.Frag) (mg : Str → Option Value) where
  (fNPs fNN fWays fApart fWwc fCC : Addr)
  (dNPs dNN dWays dApart dWwc dCC : FuncData)
  FNPs : Fun K "need_persons" "need_persons" sNPs fNPs dNPs
  FNN : Fun K "need_number" "need_number" sNeedN fNN dNN
  FWays : Fun K "ways_of" "ways_of" sWays fWays dWays
  FApart : Fun K "ways_apart" "ways_apart" sApart fApart dApart
  FWwc : Fun K "ways_with_changes" "ways_with_changes" sWwc fWwc dWwc
  FCC : Fun K "change_counts" "change_counts" sCC fCC dCC
  gNPs : mg "need_persons" = some (.ref fNPs)
  gNN : mg "need_number" = some (.ref fNN)
  gWays : mg "ways_of" = some (.ref fWays)
  gApart : mg "ways_apart" = some (.ref fApart)
  gWwc : mg "ways_with_changes" = some (.ref fWwc)
  gCC : mg "change_counts" = some (.ref fCC)
  bNPs : Binds K dNPs ["persons"] []
  bNN : Binds K dNN ["number", "least", "most"] []
  bWays : Binds K dWays ["many"] []
  bApart : Binds K dApart ["persons", "many"] []
  bWwc : Binds K dWwc ["marked", "others", "changes"] []
  bCC : Binds K dCC ["persons", "number"] []
  gComb2 : mg "comb" = some (.builtin "math.comb")
  gFact : mg "factorial" = some (.builtin "math.factorial")
/-- the built-in kinds that may come -/
def kinds : List String := ["int", "bool", "str", "NoneType", "list", "tuple", "dict"]
structure TxtP (mg : Str → Option Value) : Prop where
  isi : mg "isinstance" = none
  int : mg "int" = none
  bool : mg "bool" = none
  list : mg "list" = none
  len : mg "len" = none
  sum : mg "sum" = none
  sorted : mg "sorted" = none
  range : mg "range" = none
  enumerate : mg "enumerate" = none
  dict : mg "dict" = none
theorem at_map {α : Type} {f : α → V} {ns : List α} {i : Nat} {x : V} {d : α} (h : (ns.map f)[i]? = some x) : x = f (ns.getD i d) := by
  rw [List.getElem?_map] at h
  obtain ⟨z, hz, e⟩ := Option.map_eq_some_iff.mp h
  rw [← e, List.getD_eq_getElem?_getD, hz]
  rfl
theorem none_back {H H' : Hp} {a : Addr} (s : Grows H H') (h : H' a = none) : H a = none := by
  rcases Option.eq_none_or_eq_some (H a) with e | ⟨o, e⟩
  · exact e
  · rw [s a o e] at h
    cases h
theorem inV_ints (i : Int) (ns : List Int) : inV (.int i) (ns.map V.int) = decide (i ∈ ns) := by
  unfold inV
  induction ns with
  | nil => rfl
  | cons x ns ih =>
    rw [List.map_cons, List.any_cons, ih]
    show ((x == i) || decide (i ∈ ns)) = decide (i ∈ x :: ns)
    by_cases e : x = i
    · rw [e, beq_self_eq_true, Bool.true_or, decide_eq_true List.mem_cons_self]
    · rw [beq_eq_false_iff_ne.mpr e, Bool.false_or]
      by_cases m : i ∈ ns
      · rw [decide_eq_true m, decide_eq_true (List.mem_cons_of_mem _ m)]
      · rw [decide_eq_false m, decide_eq_false fun z => (List.mem_cons.mp z).elim (fun q => e q.symm) m]
theorem flat_ints (ns : List Int) : (ns.map V.int).all flatV = true := by
  rw [List.all_map]
  exact List.all_eq_true.mpr fun _ _ => rfl
/-! ### what the program's defs answer -/
theorem mulW_of {i j : Int} {a b : Nat} (ha : i.natAbs < 2 ^ a) (hb : j.natAbs < 2 ^ b) (a0 : 0 < a) (b0 : 0 < b) (l : a + b ≤ 100000) : CMulW i j := by
  have x := PySem.Flt.log2_lt_of a0 ha
  have y := PySem.Flt.log2_lt_of b0 hb
  unfold CMulW
  omega
theorem few_comb (a b : Nat) (ha : a < 40) (hb : b < 40) : (PySem.W.mcComb a b).natAbs < 2 ^ 64 := by
  have all : ∀ a b : Fin 40, decide ((PySem.W.mcComb (a.val : Int) (b.val : Int)).natAbs < 2 ^ 64) = true := by decide +kernel
  exact of_decide_eq_true (all ⟨a, ha⟩ ⟨b, hb⟩)
def rgN (m : Nat) : Nat := (Builtin.Range.rangeSize 3 (2 * (m : Int) - 2) 2).toNat
theorem ways_rg : ∀ m : Nat, m ≤ 40 → RgC 3 (2 * (m : Int) - 2) 2 (rgN m) ∧ rgN m ≤ 39 := fun m hm => by
  have all : ∀ i : Fin 41, (Builtin.Range.small 3 (2 * ((i.val : Nat) : Int) - 2) 2 && decide (rgN i.val ≤ 39) && decide (0 ≤ Builtin.Range.rangeSize 3 (2 * ((i.val : Nat) : Int) - 2) 2)) = true := by decide +kernel
  have q := all ⟨m, by omega⟩
  simp only [Bool.and_eq_true, decide_eq_true_eq] at q
  exact ⟨⟨by decide, by decide, q.1.1, (Int.toNat_of_nonneg q.2).symm⟩, q.1.2⟩
def wayN : Nat → Int
  | 0 => 1
  | i + 1 => wayN i * (3 + (i : Int) * 2)
/-- the partings of so many persons -/
def wayI (m : Int) : Int := wayN (rgN m.toNat)
theorem wayN_ok : ∀ i : Nat, i ≤ 39 → 1 ≤ wayN i ∧ (wayN i).natAbs < 2 ^ (8 * i + 1)
  | 0, _ => ⟨Int.le_refl _, by decide⟩
  | i + 1, hi => by
    obtain ⟨v1, v2⟩ := wayN_ok i (by omega)
    have b1 : (3 + (i : Int) * 2).natAbs < 2 ^ 8 := by
      show _ < 256
      omega
    refine ⟨?_, ?_⟩
    · show 1 ≤ wayN i * (3 + (i : Int) * 2)
      have : (1 : Int) * 1 ≤ wayN i * (3 + (i : Int) * 2) := Int.mul_le_mul v1 (by omega) (by decide) (by omega)
      omega
    · show (wayN i * (3 + (i : Int) * 2)).natAbs < _
      rw [Int.natAbs_mul, show 8 * (i + 1) + 1 = (8 * i + 1) + 8 by omega, Nat.pow_add]
      exact Nat.mul_lt_mul'' v2 b1
theorem wayI_ok {m : Int} (h : m ≤ 40) : 1 ≤ wayI m ∧ (wayI m).natAbs < 2 ^ 320 := by
  obtain ⟨_, r2⟩ := ways_rg m.toNat (by omega)
  obtain ⟨a, b⟩ := wayN_ok (rgN m.toNat) r2
  exact ⟨a, Nat.lt_of_lt_of_le b (Nat.pow_le_pow_right (by decide) (by omega))⟩
def apartI (p m : Int) : Int := PySem.W.mcComb (2 * p - m - 1) (m - 1) * wayI (p - m + 1)
def wwcI (a b c : Int) : Int := apartI a c * apartI b c * ((Builtin.Math.factorialNat (c - 1).toNat : Nat) : Int) * (2 * (a + b) - 3 * c) * wayI (a + b) / wayI (a + b - c + 1)
def ccI (n x : Int) : List Int := if x = 0 ∨ x = n then [wayI n] else 0 :: (List.range (min x (n - x)).toNat).map fun i : Nat => wwcI x (n - x) (1 + (i : Int))
def spNumber (K : PySem.W.Frag) : Sp := fun vs H Q _ => ∃ (x : V) (t : String), vs = [x] ∧ TyX K H x (.type t) ∧ t ∈ kinds ∧ Q (.bl (decide (t = "int"))) H
def spNPs : Sp := fun vs H Q _ => ∃ n : Int, vs = [.int n] ∧ 1 ≤ n ∧ n ≤ 20 ∧ Q .non H
def spNN : Sp := fun vs H Q _ => ∃ x l m : Int, vs = [.int x, .int l, .int m] ∧ l ≤ x ∧ x ≤ m ∧ Q .non H
def spWays : Sp := fun vs H Q _ => ∃ m : Int, vs = [.int m] ∧ 0 ≤ m ∧ m ≤ 40 ∧ Q (.int (wayI m)) H
def spApart : Sp := fun vs H Q _ => ∃ p m : Int, vs = [.int p, .int m] ∧ 1 ≤ m ∧ m ≤ p ∧ p ≤ 19 ∧ ((apartI p m).natAbs < 2 ^ 384 → Q (.int (apartI p m)) H)
def spWwc : Sp := fun vs H Q _ => ∃ a b ch : Int, vs = [.int a, .int b, .int ch] ∧ 1 ≤ ch ∧ ch ≤ a ∧ ch ≤ b ∧ a + b ≤ 20 ∧ Q (.int (wwcI a b ch)) H
def spCC : Sp := fun vs H Q _ => ∃ n x : Int, vs = [.int n, .int x] ∧ 1 ≤ n ∧ n ≤ 20 ∧ 0 ≤ x ∧ x ≤ n ∧ ∀ (D : Addr) H', H D = none → Grows H H' → H' D = some (.lst ((ccI n x).map V.int)) → Q (.ref D) H'
section
variable {P : Program} {w : World} {K : PySem.W.Frag} {mg : Str → Option Value} {base : Heap}
theorem scNumber : FnScope ["thing"] ["thing"] (defScope sNumber) := ⟨rfl, rfl, rfl, by decide +kernel, rfl, by decide +kernel, by decide +kernel⟩
theorem scNPs : FnScope ["persons"] ["persons"] (defScope sNPs) := ⟨rfl, rfl, rfl, by decide +kernel, rfl, by decide +kernel, by decide +kernel⟩
theorem scNeedN : FnScope ["number", "least", "most"] ["number", "least", "most"] (defScope sNeedN) := ⟨rfl, rfl, rfl, by decide +kernel, rfl, by decide +kernel, by decide +kernel⟩
theorem scWays : FnScope ["many", "ways", "odd"] ["many"] (defScope sWays) := ⟨rfl, rfl, rfl, by decide +kernel, rfl, by decide +kernel, by decide +kernel⟩
theorem scApart : FnScope ["persons", "many"] ["persons", "many"] (defScope sApart) := ⟨rfl, rfl, rfl, by decide +kernel, rfl, by decide +kernel, by decide +kernel⟩
theorem scWwc : FnScope ["marked", "others", "changes", "persons", "ways"] ["marked", "others", "changes"] (defScope sWwc) := ⟨rfl, rfl, rfl, by decide +kernel, rfl, by decide +kernel, by decide +kernel⟩
theorem scCC : FnScope ["persons", "number", "most", "changes"] ["persons", "number"] (defScope sCC) := ⟨rfl, rfl, rfl, by decide +kernel, rfl, by decide +kernel, by decide +kernel⟩
theorem ok_number {f : Addr} {fd : FuncData} (F : Fun K "is_number" "is_number" sNumber f fd) (T : TxtP mg) : FnOk P w K mg base CX0 1 f fd ["thing"] (spNumber K) := by
  refine F.ok scNumber (fun vs H Q E h => ?_) (fun cdv A outer s H vs Q E hr h => ?_)
  · obtain ⟨x, t, rfl, _⟩ := h
    rfl
  · obtain ⟨x, t, rfl, ty, hk, k⟩ := h
    refine ⟨_, (pss_one (ps_ret (pe_and (pe_callB call_isi (by rfl) T.isi (by decide +kernel) (pa_cons (pv 0) (pa_cons (pe_bltn (v := .ty "int") (u := .type "int") (by rfl) T.int (by decide +kernel) rfl) pa_nil))) (pe_one (pe_not (pe_callB call_isi (by rfl) T.isi (by decide +kernel) (pa_cons (pv 0) (pa_cons (pe_bltn (v := .ty "bool") (u := .type "bool") (by rfl) T.bool (by decide +kernel) rfl) pa_nil)))))))), ?_⟩
    simp only [kinds, List.mem_cons, List.not_mem_nil, or_false] at hk
    rcases hk with rfl | rfl | rfl | rfl | rfl | rfl | rfl
    · exact ⟨_, rfl, _, _, _, _, true, rfl, .ty "int", ty, kit_ty (by decide +kernel), true, rfl, _, rfl, _, _, _, _, false, rfl, .ty "bool", ty, kit_ty (by decide +kernel), false, rfl, k⟩
    · exact ⟨_, rfl, _, _, _, _, true, rfl, .ty "int", ty, kit_ty (by decide +kernel), true, rfl, _, rfl, _, _, _, _, true, rfl, .ty "bool", ty, kit_ty (by decide +kernel), true, rfl, k⟩
    all_goals exact ⟨_, rfl, _, _, _, _, false, rfl, .ty "int", ty, kit_ty (by decide +kernel), false, rfl, k⟩
theorem ok_nps (Z : ProgF K mg) (T : TxtP mg) (U : CcF K mg) : FnOk P w K mg base CX0 2 U.fNPs U.dNPs ["persons"] spNPs := by
  have GNum : FnOk P w K mg base CX0 1 Z.fNum Z.dNum ["thing"] (spNumber K) := ok_number Z.FNum T
  refine U.FNPs.ok scNPs (fun vs H Q E h => ?_) (fun cdv A outer s H vs Q E hr h => ?_)
  · obtain ⟨n, rfl, _⟩ := h
    rfl
  · obtain ⟨n, rfl, h1, h2, k⟩ := h
    refine ⟨_, (pss_one (ps_if (PW.pt (pw_or (pt_not (pt_val (pe_call GNum (hr.mono (by decide)) rfl Z.gNum Z.FNum.kp Z.bNum .nil pass0 (pa_cons (pv 0) pa_nil)))) (pw_or1 (pt_not (pt_chain op_le op_le pe_int (pv 0) (pe_glob (v := .int 20) rfl Z.gMost ⟨_, rfl⟩)))))) (pss_one ps_never) pss_nil)), ?_⟩
    refine ⟨_, rfl, .int n, "int", rfl, .base (.int n), by simp [kinds], _, rfl, iteF ⟨_, rfl, _, _, rfl, rfl, _, rfl, ?_⟩⟩
    rw [if_pos (decide_eq_true h1)]
    refine ⟨_, _, rfl, rfl, _, rfl, ?_⟩
    rw [decide_eq_true h2]
    exact iteF k
theorem ok_nn (Z : ProgF K mg) (T : TxtP mg) (U : CcF K mg) : FnOk P w K mg base CX0 2 U.fNN U.dNN ["number", "least", "most"] spNN := by
  have GNum : FnOk P w K mg base CX0 1 Z.fNum Z.dNum ["thing"] (spNumber K) := ok_number Z.FNum T
  refine U.FNN.ok scNeedN (fun vs H Q E h => ?_) (fun cdv A outer s H vs Q E hr h => ?_)
  · obtain ⟨x, l, m, rfl, _⟩ := h
    rfl
  · obtain ⟨x, l, m, rfl, h1, h2, k⟩ := h
    refine ⟨_, (pss_one (ps_if (PW.pt (pw_or (pt_not (pt_val (pe_call GNum (hr.mono (by decide)) rfl Z.gNum Z.FNum.kp Z.bNum .nil pass0 (pa_cons (pv 0) pa_nil)))) (pw_or1 (pt_not (pt_chain op_le op_le (pv 1) (pv 0) (pv 2)))))) (pss_one ps_never) pss_nil)), ?_⟩
    refine ⟨_, rfl, .int x, "int", rfl, .base (.int x), by simp [kinds], _, rfl, iteF ⟨_, rfl, _, rfl, _, _, rfl, rfl, _, rfl, ?_⟩⟩
    rw [if_pos (decide_eq_true h1)]
    refine ⟨_, rfl, _, _, rfl, rfl, _, rfl, ?_⟩
    rw [decide_eq_true h2]
    exact iteF k
theorem ok_ways (T : TxtP mg) (U : CcF K mg) : FnOk P w K mg base CX0 1 U.fWays U.dWays ["many"] spWays := by
  refine U.FWays.ok scWays (fun vs H Q E h => ?_) (fun cdv A outer s H vs Q E hr h => ?_)
  · obtain ⟨m, rfl, _⟩ := h
    rfl
  · obtain ⟨m, rfl, h0, hm, k⟩ := h
    refine ⟨_, (pss_cons (ps_set (i := 1) scWays.nd rfl (.inl rfl) pe_int)
      (pss_cons (ps_for PassesOwn.never rfl (pi_range3 rfl T.range (pa_cons pe_int (pa_cons (pe_op op_sub (pe_op op_mul pe_int (pv 0)) pe_int) (pa_cons pe_int pa_nil)))) (pg_name (i := 2) scWays.nd rfl (.inl rfl))
      (pss_one (ps_set (i := 1) scWays.nd rfl (.inl rfl) (pe_op op_mul (pv 1) (pv 2)))))
      (pss_one (ps_ret (pv 1))))), ?_⟩
    obtain ⟨mm, rfl⟩ : ∃ mm : Nat, m = (mm : Int) := ⟨m.toNat, by omega⟩
    obtain ⟨r1, r2⟩ := ways_rg mm (by omega)
    refine ⟨_, rfl, _, _, rfl, rfl, .inl ⟨by decide, by decide⟩, _, _, rfl, rfl, _, _, _, _, rfl, r1, for_rangeC (lo := 3) (c := 2) (n := rgN mm) (fun i σ H' => ∃ (o : Option V), σ = [some (.int (mm : Int)), some (.int (wayN i)), o] ∧ H' = H)
      ⟨none, rfl, rfl⟩ (fun i σ H' hi ⟨o, e, eH⟩ => ?_) fun σ H' ⟨o, e, eH⟩ => ?_⟩
    · subst e eH
      exact ⟨_, rfl, _, rfl, _, _, rfl, rfl, .inr ⟨by omega, by omega⟩, _, rfl, rfl⟩
    · subst e eH
      exact ⟨_, rfl, k⟩
theorem ok_apart (T : TxtP mg) (U : CcF K mg) : FnOk P w K mg base CX0 2 U.fApart U.dApart ["persons", "many"] spApart := by
  have GWays : FnOk P w K mg base CX0 1 U.fWays U.dWays ["many"] spWays := ok_ways T U
  refine U.FApart.ok scApart (fun vs H Q E h => ?_) (fun cdv A outer s H vs Q E hr h => ?_)
  · obtain ⟨p, m, rfl, _⟩ := h
    rfl
  · obtain ⟨p, m, rfl, m0, m1, p1, k⟩ := h
    refine ⟨_, (pss_one (ps_ret (pe_op op_mulW (pe_callBfun (id := "math.comb") MathC.cr_comb rfl U.gComb2 (pa_cons (pe_op op_sub (pe_op op_sub (pe_op op_mulW pe_int (pv 0)) (pv 1)) pe_int) (pa_cons (pe_op op_sub (pv 1) pe_int) pa_nil))) (pe_call GWays (hr.mono (by decide)) rfl U.gWays U.FWays.kp U.bWays .nil pass0 (pa_cons (pe_op op_add (pe_op op_sub (pv 0) (pv 1)) pe_int) pa_nil))))), ?_⟩
    have small : ∀ x : Int, 0 ≤ x → x < 100 → x.natAbs < 2 ^ 10 := fun x h0 h1 => by omega
    obtain ⟨a, ea⟩ : ∃ a : Nat, (2 * p - m - 1 : Int) = (a : Nat) := ⟨(2 * p - m - 1).toNat, by omega⟩
    obtain ⟨b, eb⟩ : ∃ b : Nat, (m - 1 : Int) = (b : Nat) := ⟨(m - 1).toNat, by omega⟩
    obtain ⟨v0, v1⟩ := wayI_ok (m := p - m + 1) (by omega)
    refine ⟨_, rfl, _, _, rfl, rfl, mulW_of (a := 10) (b := 10) (by decide) (small p (by omega) (by omega)) (by decide) (by decide) (by decide), _, rfl, _, _, rfl, rfl, _, _, rfl, rfl, _, rfl, _, _, rfl, rfl, _, _, rfl, by omega, by omega, by omega, _, rfl, _, rfl, _, _, rfl, rfl, _, _, rfl, rfl, p - m + 1, rfl, by omega, by omega, ?_⟩
    have cb : (PySem.W.mcComb (2 * p - m - 1) (m - 1)).natAbs < 2 ^ 64 := by
      rw [ea, eb]
      exact few_comb a b (by omega) (by omega)
    exact ⟨_, _, rfl, rfl, mulW_of cb v1 (by decide) (by decide) (by decide), k (wide_lt cb v1)⟩
theorem ok_wwc (T : TxtP mg) (U : CcF K mg) : FnOk P w K mg base CX0 3 U.fWwc U.dWwc ["marked", "others", "changes"] spWwc := by
  have GWays : FnOk P w K mg base CX0 1 U.fWays U.dWays ["many"] spWays := ok_ways T U
  have GApart : FnOk P w K mg base CX0 2 U.fApart U.dApart ["persons", "many"] spApart := ok_apart T U
  refine U.FWwc.ok scWwc (fun vs H Q E h => ?_) (fun cdv A outer s H vs Q E hr h => ?_)
  · obtain ⟨a, b, ch, rfl, _⟩ := h
    rfl
  · obtain ⟨a, b, ch, rfl, c0, ca, cb, ab, k⟩ := h
    refine ⟨_, (pss_cons (ps_set (i := 3) scWwc.nd rfl (.inl rfl) (pe_op op_add (pv 0) (pv 1)))
      (pss_cons (ps_set (i := 4) scWwc.nd rfl (.inl rfl) (pe_op op_mulW (pe_op op_mulW (pe_call GApart (hr.mono (by decide)) rfl U.gApart U.FApart.kp U.bApart .nil pass0 (pa_cons (pv 0) (pa_cons (pv 2) pa_nil))) (pe_call GApart (hr.mono (by decide)) rfl U.gApart U.FApart.kp U.bApart .nil pass0 (pa_cons (pv 1) (pa_cons (pv 2) pa_nil)))) (pe_callBfun (id := "math.factorial") MathC.cr_fact rfl U.gFact (pa_cons (pe_op op_sub (pv 2) pe_int) pa_nil))))
      (pss_one (ps_ret (pe_op op_fdivW (pe_op op_mulW (pe_op op_mulW (pv 4) (pe_op op_sub (pe_op op_mulW pe_int (pv 3)) (pe_op op_mulW pe_int (pv 2)))) (pe_call GWays (hr.mono (by decide)) rfl U.gWays U.FWays.kp U.bWays .nil pass0 (pa_cons (pv 3) pa_nil))) (pe_call GWays (hr.mono (by decide)) rfl U.gWays U.FWays.kp U.bWays .nil pass0 (pa_cons (pe_op op_add (pe_op op_sub (pv 3) (pv 2)) pe_int) pa_nil))))))), ?_⟩
    have small : ∀ x : Int, -100 < x → x < 100 → x.natAbs < 2 ^ 10 := fun x h0 h1 => by omega
    obtain ⟨v0, v1⟩ := wayI_ok (m := a + b) (by omega)
    obtain ⟨u0, u1⟩ := wayI_ok (m := a + b - ch + 1) (by omega)
    refine ⟨_, rfl, _, rfl, _, _, rfl, rfl, ?_⟩
    refine ⟨_, rfl, _, rfl, a, ch, rfl, c0, ca, by omega, fun x1 => ⟨_, rfl, _, rfl, b, ch, rfl, c0, cb, by omega, fun y1 => ⟨_, _, rfl, rfl, mulW_of x1 y1 (by decide) (by decide) (by decide), ?_⟩⟩⟩
    have f0 : ((Builtin.Math.factorialNat (ch - 1).toNat : Nat) : Int).natAbs < 2 ^ 1281 := by
      rw [Int.natAbs_natCast]
      exact Nat.lt_of_le_of_lt (PySem.W.mc_fac_le _ (by omega)) (Nat.pow_lt_pow_right (by decide) (by omega))
    refine ⟨_, rfl, _, _, rfl, rfl, _, rfl, by omega, by omega, _, _, rfl, rfl, mulW_of (wide_lt x1 y1) f0 (by decide) (by decide) (by decide), ?_⟩
    have w4 := wide_lt (wide_lt x1 y1) f0
    refine ⟨_, rfl, _, rfl, _, _, rfl, rfl, mulW_of (a := 10) (b := 10) (by decide) (small _ (by omega) (by omega)) (by decide) (by decide) (by decide), _, rfl, _, _, rfl, rfl, mulW_of (a := 10) (b := 10) (by decide) (small _ (by omega) (by omega)) (by decide) (by decide) (by decide), _, _, rfl, rfl, ?_⟩
    have r10 : (2 * (a + b) - 3 * ch).natAbs < 2 ^ 10 := small _ (by omega) (by omega)
    refine ⟨_, _, rfl, rfl, mulW_of w4 r10 (by decide) (by decide) (by decide), _, rfl, a + b, rfl, by omega, by omega, _, _, rfl, rfl, mulW_of (wide_lt w4 r10) v1 (by decide) (by decide) (by decide), ?_⟩
    exact ⟨_, rfl, _, rfl, _, _, rfl, rfl, _, _, rfl, rfl, a + b - ch + 1, rfl, by omega, by omega, _, _, rfl, rfl, wide_div (by omega) u1 (by decide) (by decide), k⟩
theorem ok_cc (Z : ProgF K mg) (T : TxtP mg) (T0 : Txt0 mg) (U : CcF K mg) : FnOk P w K mg base CX0 4 U.fCC U.dCC ["persons", "number"] spCC := by
  have GNPs := ok_nps (P := P) (w := w) (base := base) Z T U
  have GNN := ok_nn (P := P) (w := w) (base := base) Z T U
  have GWays : FnOk P w K mg base CX0 1 U.fWays U.dWays ["many"] spWays := ok_ways T U
  have GWwc : FnOk P w K mg base CX0 3 U.fWwc U.dWwc ["marked", "others", "changes"] spWwc := ok_wwc T U
  refine U.FCC.ok scCC (fun vs H Q E h => ?_) (fun cdv A outer s H vs Q E hr h => ?_)
  · obtain ⟨n, x, rfl, _⟩ := h
    rfl
  · obtain ⟨n, x, rfl, n1, n2, x0, x1, k⟩ := h
    refine ⟨_, (pss_cons (ps_expr (pe_call GNPs (hr.mono (by decide)) rfl U.gNPs U.FNPs.kp U.bNPs .nil pass0 (pa_cons (pv 0) pa_nil)))
      (pss_cons (ps_expr (pe_call GNN (hr.mono (by decide)) rfl U.gNN U.FNN.kp U.bNN .nil pass0 (pa_cons (pv 1) (pa_cons pe_int (pa_cons (pv 0) pa_nil)))))
      (pss_cons (ps_if (pt_cmpR op_in_seq (pv 1) (pe_tup (pa_cons pe_int (pa_cons (pv 0) pa_nil))) (by rfl)) (pss_one (ps_ret (pe_lst (pa_cons (pe_call GWays (hr.mono (by decide)) rfl U.gWays U.FWays.kp U.bWays .nil pass0 (pa_cons (pv 0) pa_nil)) pa_nil)))) pss_nil)
      (pss_cons (ps_set (i := 2) scCC.nd rfl (.inl rfl) (pe_callB (call_min2 rfl) (by rfl) T0.min (by decide +kernel) (pa_cons (pv 1) (pa_cons (pe_op op_sub (pv 0) (pv 1)) pa_nil))))
      (pss_one (ps_ret (pe_op op_cat (pe_lst (pa_cons pe_int pa_nil)) (pe_lc (own := [("changes", 3)]) (g := gName 3) (tt := tYes) rfl scCC.nd (pi_range2 (by rfl) T.range (pa_cons pe_int (pa_cons (pe_op op_add (pv 2) pe_int) pa_nil))) (blkOk_by (own := [("changes", 3)]) (N := ["persons", "number", "most", "changes"]) (sc := defScope sCC) (by decide +kernel)) (fun _ _ _ _ _ => pg_name (i := 3) scCC.nd rfl (Or.inl rfl)) (fun _ _ _ _ _ => pts_nil) (fun _ _ _ _ _ => (pe_call GWwc (hr.mono (by decide)) rfl U.gWwc U.FWwc.kp U.bWwc .nil pass0 (pa_cons (pv 1) (pa_cons (pe_op op_sub (pv 0) (pv 1)) (pa_cons (pv 3) pa_nil))))))))))))), ?_⟩
    refine ⟨_, rfl, n, rfl, n1, n2, ?_⟩
    refine ⟨_, rfl, _, rfl, x, 0, n, rfl, x0, x1, ?_⟩
    refine ⟨_, rfl, _, rfl, (by show 2 ≤ sizeLine; decide), fun t ht => ⟨t, _, rfl, .inr (SqT.of upd_same), rfl, rfl, _, rfl, iteN _ (fun e => ?_) fun e => ?_⟩⟩
    · have g3 := Grows.new (o := .tup [L2.V.int 0, L2.V.int n]) ht
      rw [if_neg Bool.false_ne_true, show [L2.V.int 0, L2.V.int n] = ([0, n] : List Int).map L2.V.int from rfl, inV_ints] at e
      have e := of_decide_eq_true e
      have c : x = 0 ∨ x = n := (List.mem_cons.mp e).imp id fun z => List.mem_singleton.mp z
      refine ⟨_, rfl, n, rfl, by omega, by omega, (by show 1 ≤ sizeLine; decide), fun q hq => k q _ (none_back g3 hq) (g3.trans (Grows.new hq)) ?_⟩
      rw [upd_same]
      unfold ccI
      rw [if_pos c]
      rfl
    · have g3 := Grows.new (o := .tup [L2.V.int 0, L2.V.int n]) ht
      rw [if_neg Bool.false_ne_true, show [L2.V.int 0, L2.V.int n] = ([0, n] : List Int).map L2.V.int from rfl, inV_ints] at e
      have e := of_decide_eq_false e
      have y0 : x ≠ 0 := fun z => e (by rw [z]; exact List.mem_cons_self)
      have y1 : x ≠ n := fun z => e (by rw [z]; exact List.mem_cons_of_mem _ List.mem_cons_self)
      have c : ¬ (x = 0 ∨ x = n) := fun z => z.elim y0 y1
      obtain ⟨mo, emo⟩ : ∃ mo : Int, mo = (if n - x < x then n - x else x) := ⟨_, rfl⟩
      have mb : 1 ≤ mo ∧ mo ≤ x ∧ mo ≤ n - x := by
        rw [emo]
        split <;> omega
      have mm : min x (n - x) = mo := by
        rw [emo, Int.min_def]
        split <;> split <;> omega
      refine ⟨_, rfl, _, rfl, _, rfl, _, _, rfl, rfl, _, _, rfl, ?_⟩
      rw [← emo]
      refine ⟨(by show 1 ≤ sizeLine; decide), fun q hq => ⟨_, rfl, _, _, rfl, rfl, 1, mo + 1, rfl, ⟨by decide, by decide, by omega, by omega⟩, fun D hD => ?_⟩⟩
      have g4 := g3.trans (Grows.new (o := .lst [L2.V.int 0]) hq)
      have e4 : upd (upd H t (.tup [L2.V.int 0, L2.V.int n])) q (.lst [L2.V.int 0]) q = some (.lst [L2.V.int 0]) := upd_same
      generalize upd (upd H t (.tup [L2.V.int 0, L2.V.int n])) q (.lst [L2.V.int 0]) = H3 at g4 e4 hD ⊢
      refine lc_range (lo := 1) (n := (mo + 1 - 1).toNat) (fun i G => Grows H3 G ∧ G D = some (.lst ((List.range i).map fun j : Nat => L2.V.int (wwcI x (n - x) (1 + (j : Int)))))) ⟨Grows.new hD, upd_same⟩ (fun i G hi ⟨gg, eD⟩ => ?_) fun G ⟨gg, eD⟩ => ?_
      · refine ⟨rfl, ?_⟩
        unfold tYes
        dsimp only
        rw [if_pos rfl]
        refine ⟨_, rfl, _, rfl, _, rfl, _, _, rfl, rfl, _, rfl, x, n - x, 1 + (i : Int), rfl, by omega, by omega, by omega, by omega, _, eD, ?_, fun b o eb => ?_, ?_⟩
        · rw [List.length_map, List.length_range]
          exact small1000 (by omega)
        · rw [upd_ne (ne_of_none eb hD)]
          exact gg _ _ eb
        · rw [upd_same, List.range_succ, List.map_append]
          rfl
      · refine ⟨q, D, _, _, rfl, rfl, gg _ _ e4, eD, ?_, fun y hy => k y _ (none_back (g4.trans gg) hy) ((g4.trans gg).trans (Grows.new hy)) ?_⟩
        · rw [List.length_map, List.length_range]
          show 1 + (mo + 1 - 1).toNat ≤ sizeLine
          exact Nat.le_trans (show 1 + (mo + 1 - 1).toNat ≤ 100 by omega) (by decide)
        · rw [upd_same]
          unfold ccI
          rw [if_neg c, mm, show (mo + 1 - 1).toNat = mo.toNat by omega]
          show some (HO.lst ([L2.V.int 0] ++ _)) = some (HO.lst (L2.V.int 0 :: List.map L2.V.int (List.map _ _)))
          rw [List.map_map]
          rfl
end
end K34

namespace K34
open PySem PySem.Spec PyProof.Rows L2 SortR LcM
def Nice (xs ys : List Int) : Prop := (∀ z ∈ xs, z ∉ ys) ∨ (∀ z ∈ xs, z ∈ ys) ∨ ∀ z ∈ ys, z ∈ xs
/-! ### families that grow newcomer by newcomer -/
theorem len_sub : ∀ {xs ys : List Int}, xs.Nodup → (∀ z ∈ xs, z ∈ ys) → xs.length ≤ ys.length
  | [], _, _, _ => Nat.zero_le _
  | x :: xs, ys, h, s => by
    obtain ⟨nx, n⟩ := List.nodup_cons.mp h
    have m : x ∈ ys := s x List.mem_cons_self
    have q := len_sub n (ys := ys.erase x) fun z hz => (List.mem_erase_of_ne fun e => nx (by rw [← e]; exact hz)).mpr (s z (List.mem_cons_of_mem _ hz))
    rw [List.length_erase_of_mem m] at q
    have := List.length_pos_of_mem m
    rw [List.length_cons]
    omega
theorem sub_back {xs ys : List Int} (h : xs.Nodup) (s : ∀ z ∈ xs, z ∈ ys) (l : ys.length ≤ xs.length) : ∀ z ∈ ys, z ∈ xs := fun z hz => by
  apply Classical.byContradiction
  intro no
  have q := len_sub (List.nodup_cons.mpr ⟨no, h⟩) fun y hy => (List.mem_cons.mp hy).elim (fun e => by rw [e]; exact hz) (s y)
  rw [List.length_cons] at q
  omega
theorem up_nodup {xs : List Int} (h : xs.Pairwise (· < ·)) : xs.Nodup := h.imp fun {a b} lt e => by omega
theorem Nice.symm {xs ys : List Int} (h : Nice xs ys) : Nice ys xs := by
  rcases h with h | h | h
  · exact .inl fun z hz hx => h z hx hz
  · exact .inr (.inr h)
  · exact .inr (.inl h)
theorem Nice.same {xs : List Int} : Nice xs xs := .inr (.inl fun _ h => h)
/-- what the newcomer is beside or around -/
def baseB (rs : List (List Int)) (item : Int) : List Int := if 0 ≤ item then [item] else rs.getD (0 - item - 1).toNat []
/-- whether a group is around it -/
def inB (b w : List Int) : Bool := decide (b.length < w.length) && decide (b.headD 0 ∈ w)
def growB (f : Int) (b w : List Int) : List Int := if inB b w = true then w ++ [f] else w
def stepB (rs : List (List Int)) (item : Int) : List (List Int) := rs.map (growB ((rs.length : Int) + 1) (baseB rs item)) ++ [baseB rs item ++ [(rs.length : Int) + 1]]
def famB (is : List Int) : Nat → List (List Int)
  | 0 => []
  | n + 1 => stepB (famB is n) (is.getD n 0)
theorem stepB_len (rs : List (List Int)) (item : Int) : (stepB rs item).length = rs.length + 1 := by
  unfold stepB
  rw [List.length_append, List.length_map]
  rfl
theorem famB_len (is : List Int) : ∀ n, (famB is n).length = n
  | 0 => rfl
  | n + 1 => by
    show (stepB (famB is n) _).length = n + 1
    rw [stepB_len, famB_len is n]
structure Fam (rs : List (List Int)) : Prop where
  up : ∀ r ∈ rs, r.Pairwise (· < ·)
  two : ∀ r ∈ rs, 2 ≤ r.length
  rng : ∀ r ∈ rs, ∀ x ∈ r, 0 ≤ x ∧ x ≤ (rs.length : Int)
  nice : rs.Pairwise fun a b => Nice a b ∧ a ≠ b
theorem pw_mem {α : Type} {R : α → α → Prop} (sy : ∀ a b, R a b → R b a) {xs : List α} (h : xs.Pairwise R) {a b : α} (ha : a ∈ xs) (hb : b ∈ xs) : a = b ∨ R a b := by
  induction h with
  | nil => cases ha
  | @cons x xs hx _ ih =>
    rcases List.mem_cons.mp ha with e1 | e1
    · rcases List.mem_cons.mp hb with e2 | e2
      · exact .inl (e1.trans e2.symm)
      · rw [e1]
        exact .inr (hx b e2)
    · rcases List.mem_cons.mp hb with e2 | e2
      · rw [e2]
        exact .inr (sy _ _ (hx a e1))
      · exact ih e1 e2
theorem Fam.two_nice {rs : List (List Int)} (F : Fam rs) {a b : List Int} (ha : a ∈ rs) (hb : b ∈ rs) : Nice a b := by
  rcases pw_mem (R := fun a b => Nice a b ∧ a ≠ b) (fun a b h => ⟨h.1.symm, h.2.symm⟩) F.nice ha hb with e | e
  · rw [e]
    exact .same
  · exact e.1
structure Bas (rs : List (List Int)) (b : List Int) : Prop where
  up : b.Pairwise (· < ·)
  ne : ∃ h t, b = h :: t
  rng : ∀ x ∈ b, 0 ≤ x ∧ x ≤ (rs.length : Int)
  nice : ∀ w ∈ rs, Nice b w
theorem Fam.bas {rs : List (List Int)} (F : Fam rs) {item : Int} (h0 : -(rs.length : Int) ≤ item) (h1 : item ≤ rs.length) : Bas rs (baseB rs item) := by
  unfold baseB
  by_cases p : 0 ≤ item
  · rw [if_pos p]
    refine ⟨List.pairwise_singleton _ _, ⟨_, _, rfl⟩, fun x hx => by rw [List.mem_singleton.mp hx]; exact ⟨p, h1⟩, fun w _ => ?_⟩
    by_cases m : item ∈ w
    · exact .inr (.inl fun z hz => by rw [List.mem_singleton.mp hz]; exact m)
    · exact .inl fun z hz => by rw [List.mem_singleton.mp hz]; exact m
  · rw [if_neg p]
    have lt : (0 - item - 1).toNat < rs.length := by omega
    have e : rs.getD (0 - item - 1).toNat [] = rs[(0 - item - 1).toNat] := by rw [List.getD_eq_getElem?_getD, List.getElem?_eq_getElem lt]; rfl
    have m : rs.getD (0 - item - 1).toNat [] ∈ rs := by rw [e]; exact List.getElem_mem lt
    refine ⟨F.up _ m, ?_, F.rng _ m, fun w hw => F.two_nice m hw⟩
    have t := F.two _ m
    cases z : rs.getD (0 - item - 1).toNat [] with
    | nil => rw [z] at t; exact absurd t (by decide)
    | cons x y => exact ⟨x, y, rfl⟩
theorem Bas.head {rs : List (List Int)} {b : List Int} (B : Bas rs b) : b.headD 0 ∈ b := by
  obtain ⟨h, t, e⟩ := B.ne
  rw [e]
  exact List.mem_cons_self
theorem Bas.sub {rs : List (List Int)} {b w : List Int} (B : Bas rs b) (F : Fam rs) (hw : w ∈ rs) (i : inB b w = true) : (∀ z ∈ b, z ∈ w) ∧ b.length < w.length := by
  unfold inB at i
  simp only [Bool.and_eq_true, decide_eq_true_eq] at i
  refine ⟨?_, i.1⟩
  rcases B.nice w hw with h | h | h
  · exact absurd i.2 (h _ B.head)
  · exact h
  · have := len_sub (up_nodup (F.up w hw)) h
    omega
theorem Bas.out {rs : List (List Int)} {b w : List Int} (B : Bas rs b) (hw : w ∈ rs) (i : inB b w = false) : (∀ z ∈ b, z ∉ w) ∨ ∀ z ∈ w, z ∈ b := by
  rcases B.nice w hw with h | h | h
  · exact .inl h
  · refine .inr (sub_back (up_nodup B.up) h ?_)
    apply Classical.byContradiction
    intro l
    unfold inB at i
    rw [decide_eq_true (show b.length < w.length by omega), decide_eq_true (h _ B.head)] at i
    cases i
  · exact .inr h
theorem nice_both {a b : List Int} {f h : Int} (ha : h ∈ a) (hb : h ∈ b) (n : Nice a b) : Nice (a ++ [f]) (b ++ [f]) := by
  rcases n with n | n | n
  · exact absurd hb (n h ha)
  · exact .inr (.inl fun z hz => (List.mem_append.mp hz).elim (fun q => List.mem_append.mpr (.inl (n z q))) fun q => List.mem_append.mpr (.inr q))
  · exact .inr (.inr fun z hz => (List.mem_append.mp hz).elim (fun q => List.mem_append.mpr (.inl (n z q))) fun q => List.mem_append.mpr (.inr q))
theorem nice_one {rs : List (List Int)} {b w1 w2 : List Int} {f : Int} (B : Bas rs b) (F : Fam rs) (h1 : w1 ∈ rs) (h2 : w2 ∈ rs) (i1 : inB b w1 = true) (i2 : inB b w2 = false) (nf : f ∉ w2) : Nice (w1 ++ [f]) w2 := by
  obtain ⟨s, l⟩ := B.sub F h1 i1
  rcases F.two_nice h1 h2 with n | n | n
  · refine .inl fun z hz h => ?_
    rcases List.mem_append.mp hz with q | q
    · exact n z q h
    · rw [List.mem_singleton.mp q] at h
      exact nf h
  · have := len_sub (up_nodup (F.up w1 h1)) n
    unfold inB at i2
    rw [decide_eq_true (show b.length < w2.length by omega), decide_eq_true (n _ (s _ B.head))] at i2
    cases i2
  · exact .inr (.inr fun z hz => List.mem_append.mpr (.inl (n z hz)))
theorem Fam.step {rs : List (List Int)} (F : Fam rs) {item : Int} (h0 : -(rs.length : Int) ≤ item) (h1 : item ≤ rs.length) : Fam (stepB rs item) := by
  have B := F.bas h0 h1
  obtain ⟨f, ef⟩ : ∃ f : Int, f = (rs.length : Int) + 1 := ⟨_, rfl⟩
  have nf : ∀ w ∈ rs, f ∉ w := fun w hw z => by
    have := (F.rng w hw f z).2
    omega
  have nb : f ∉ baseB rs item := fun z => by
    have := (B.rng f z).2
    omega
  have up1 : ∀ {w : List Int}, w.Pairwise (· < ·) → (∀ x ∈ w, x ≤ (rs.length : Int)) → (w ++ [f]).Pairwise (· < ·) := fun {w} u r => List.pairwise_append.mpr ⟨u, List.pairwise_singleton _ _, fun a ha b hb => by
    rw [List.mem_singleton.mp hb]
    have := r a ha
    omega⟩
  have mem : ∀ r ∈ stepB rs item, (∃ w ∈ rs, r = growB f (baseB rs item) w) ∨ r = baseB rs item ++ [f] := fun r hr => by
    unfold stepB at hr
    rw [← ef] at hr
    rcases List.mem_append.mp hr with q | q
    · obtain ⟨w, hw, e⟩ := List.mem_map.mp q
      exact .inl ⟨w, hw, e.symm⟩
    · exact .inr (List.mem_singleton.mp q)
  have big : ((stepB rs item).length : Int) = f := by
    rw [stepB_len, ef]
    rfl
  refine ⟨fun r hr => ?_, fun r hr => ?_, fun r hr x hx => ?_, ?_⟩
  · rcases mem r hr with ⟨w, hw, rfl⟩ | rfl
    · unfold growB
      split
      · exact up1 (F.up w hw) fun x hx => (F.rng w hw x hx).2
      · exact F.up w hw
    · exact up1 B.up fun x hx => (B.rng x hx).2
  · rcases mem r hr with ⟨w, hw, rfl⟩ | rfl
    · have := F.two w hw
      unfold growB
      split
      · rw [List.length_append]
        omega
      · exact this
    · obtain ⟨h, t, e⟩ := B.ne
      rw [e, List.length_append, List.length_cons]
      show 2 ≤ t.length + 1 + 1
      omega
  · rw [big]
    have fin : ∀ {w : List Int}, (∀ x ∈ w, 0 ≤ x ∧ x ≤ (rs.length : Int)) → x ∈ w ++ [f] → 0 ≤ x ∧ x ≤ f := fun {w} r h => by
      rcases List.mem_append.mp h with q | q
      · have := r x q
        omega
      · rw [List.mem_singleton.mp q]
        omega
    rcases mem r hr with ⟨w, hw, rfl⟩ | rfl
    · unfold growB at hx
      split at hx
      · exact fin (F.rng w hw) hx
      · exact fin (F.rng w hw) (List.mem_append.mpr (.inl hx))
    · exact fin B.rng hx
  · unfold stepB
    rw [← ef]
    refine List.pairwise_append.mpr ⟨?_, List.pairwise_singleton _ _, fun a ha b hb => ?_⟩
    · rw [List.pairwise_map]
      refine F.nice.imp_of_mem fun {w1 w2} m1 m2 ⟨n, ne⟩ => ?_
      unfold growB
      cases i1 : inB (baseB rs item) w1 <;> cases i2 : inB (baseB rs item) w2
      · exact ⟨n, ne⟩
      · refine ⟨(nice_one B F m2 m1 i2 i1 (nf w1 m1)).symm, fun e => nf w1 m1 ?_⟩
        rw [if_neg Bool.false_ne_true, if_pos rfl] at e
        rw [e]
        exact List.mem_append.mpr (.inr List.mem_cons_self)
      · refine ⟨nice_one B F m1 m2 i1 i2 (nf w2 m2), fun e => nf w2 m2 ?_⟩
        rw [if_neg Bool.false_ne_true, if_pos rfl] at e
        rw [← e]
        exact List.mem_append.mpr (.inr List.mem_cons_self)
      · refine ⟨nice_both ((B.sub F m1 i1).1 _ B.head) ((B.sub F m2 i2).1 _ B.head) n, fun e => ne ?_⟩
        rw [if_pos rfl, if_pos rfl] at e
        exact List.append_cancel_right e
    · rw [List.mem_singleton.mp hb]
      obtain ⟨w, hw, e⟩ := List.mem_map.mp ha
      rw [← e]
      unfold growB
      cases i : inB (baseB rs item) w
      · rw [if_neg Bool.false_ne_true]
        refine ⟨?_, fun q => nf w hw ?_⟩
        · rcases B.out hw i with n | n
          · refine .inl fun z hz h => ?_
            rcases List.mem_append.mp h with q | q
            · exact n z q hz
            · rw [List.mem_singleton.mp q] at hz
              exact nf w hw hz
          · exact .inr (.inl fun z hz => List.mem_append.mpr (.inl (n z hz)))
        · rw [q]
          exact List.mem_append.mpr (.inr List.mem_cons_self)
      · rw [if_pos rfl]
        obtain ⟨s, l⟩ := B.sub F hw i
        refine ⟨.inr (.inr fun z hz => (List.mem_append.mp hz).elim (fun q => List.mem_append.mpr (.inl (s z q))) fun q => List.mem_append.mpr (.inr q)), fun q => ?_⟩
        have := congrArg List.length (List.append_cancel_right q)
        omega
theorem famB_ok {is : List Int} (h : Bnd is) : ∀ n, n ≤ is.length → Fam (famB is n)
  | 0, _ => ⟨(fun _ h => nomatch h), (fun _ h => nomatch h), (fun _ h => nomatch h), List.Pairwise.nil⟩
  | n + 1, hn => by
    have e : is[n]? = some is[n] := List.getElem?_eq_getElem hn
    have b := h n _ e
    have eg : is.getD n 0 = is[n] := by rw [List.getD_eq_getElem?_getD, e]; rfl
    have L := famB_len is n
    exact (famB_ok h n (Nat.le_of_succ_le hn)).step (by rw [L, eg]; exact b.1) (by rw [L, eg]; exact b.2)
def sortB (rs : List (List Int)) : List (List Int) := rs.mergeSort fun p q => decide (p ≤ q)
end K34

namespace K34
open PySem PySem.Spec PyProof.Rows L2 SortR LcM
abbrev sGroups : Stmt := top 19
/-! ### the dict by makers: its k-th row under the key k -/
def kvO (k : Int) : List (Addr × List Int) → List (Key × V)
  | [] => []
  | b :: bs => (.inl k, .ref b.1) :: kvO (k + 1) bs
theorem kvO_len : ∀ (k : Int) (bs : List (Addr × List Int)), (kvO k bs).length = bs.length
  | _, [] => rfl
  | k, b :: bs => by
    show (kvO (k + 1) bs).length + 1 = bs.length + 1
    rw [kvO_len]
theorem kvO_vals : ∀ (k : Int) (bs : List (Addr × List Int)), (kvO k bs).map (·.2) = bs.map fun b => V.ref b.1
  | _, [] => rfl
  | k, b :: bs => by
    show V.ref b.1 :: (kvO (k + 1) bs).map (·.2) = V.ref b.1 :: bs.map fun b => V.ref b.1
    rw [kvO_vals]
theorem kvO_keys : ∀ (k : Int) (bs : List (Addr × List Int)), (kvO k bs).map (fun kv => kV kv.1) = ((List.range bs.length).map fun j => k + (j : Nat)).map V.int
  | _, [] => rfl
  | k, b :: bs => by
    show V.int k :: (kvO (k + 1) bs).map (fun kv => kV kv.1) = _
    have e : ((List.range bs.length).map Nat.succ).map (fun j : Nat => k + (j : Int)) = (List.range bs.length).map fun j : Nat => k + 1 + (j : Int) := by
      rw [List.map_map]
      refine List.map_congr_left fun j _ => ?_
      show k + ((j + 1 : Nat) : Int) = k + 1 + (j : Int)
      omega
    rw [kvO_keys, List.length_cons, List.range_succ_eq_map, List.map_cons, List.map_cons, e, show k + ((0 : Nat) : Int) = k by omega]
theorem kvO_at : ∀ (k : Int) (bs : List (Addr × List Int)) (j : Nat) (b : Addr × List Int), bs[j]? = some b → valV (kvO k bs) (.inl (k + (j : Nat))) = some (.ref b.1)
  | _, [], j, b, e => by rw [List.getElem?_nil] at e; cases e
  | k, c :: bs, 0, b, e => by
    cases e
    exact valV_pos (by show (Sum.inl k : Key) = Sum.inl (k + ((0 : Nat) : Int)); rw [show k + ((0 : Nat) : Int) = k by omega])
  | k, c :: bs, j + 1, b, e => by
    have z := kvO_at (k + 1) bs j b (by rw [List.getElem?_cons_succ] at e; exact e)
    rw [show k + 1 + (j : Int) = k + ((j + 1 : Nat) : Int) by omega] at z
    refine Eq.trans (valV_neg fun q => ?_) z
    have := Sum.inl.inj q
    omega
theorem kvO_none : ∀ (k m : Int) (bs : List (Addr × List Int)), m < k ∨ k + bs.length ≤ m → valV (kvO k bs) (.inl m) = none
  | _, _, [], _ => rfl
  | k, m, c :: bs, h => by
    rw [List.length_cons] at h
    refine Eq.trans (valV_neg fun q => ?_) (kvO_none (k + 1) m bs (by omega))
    have := Sum.inl.inj q
    omega
theorem kvO_map : ∀ (k m : Int) (v : V) (bs : List (Addr × List Int)), m < k → (kvO k bs).map (fun kv => if kv.1 = (.inl m : Key) then (kv.1, v) else kv) = kvO k bs
  | _, _, _, [], _ => rfl
  | k, m, v, c :: bs, h => by
    show (if (.inl k : Key) = .inl m then ((.inl k : Key), v) else (.inl k, .ref c.1)) :: (kvO (k + 1) bs).map _ = _
    rw [if_neg (fun q => by have := Sum.inl.inj q; omega), kvO_map (k + 1) m v bs (by omega)]
    rfl
theorem kvO_set : ∀ (k : Int) (bs : List (Addr × List Int)) (j : Nat) (a : Addr) (r : List Int), j < bs.length → (kvO k bs).map (fun kv => if kv.1 = (.inl (k + (j : Nat)) : Key) then (kv.1, .ref a) else kv) = kvO k (bs.set j (a, r))
  | _, [], j, _, _, h => absurd h (Nat.not_lt_zero _)
  | k, c :: bs, 0, a, r, h => by
    show (if (.inl k : Key) = .inl (k + ((0 : Nat) : Int)) then ((.inl k : Key), V.ref a) else (.inl k, .ref c.1)) :: (kvO (k + 1) bs).map _ = (.inl k, .ref a) :: kvO (k + 1) bs
    rw [if_pos (by rw [show k + ((0 : Nat) : Int) = k by omega]), kvO_map (k + 1) _ _ bs (by omega)]
  | k, c :: bs, j + 1, a, r, h => by
    have z := kvO_set (k + 1) bs j a r (Nat.lt_of_succ_lt_succ h)
    rw [show k + 1 + (j : Int) = k + ((j + 1 : Nat) : Int) by omega] at z
    show (if (.inl k : Key) = .inl (k + ((j + 1 : Nat) : Int)) then ((.inl k : Key), V.ref a) else (.inl k, .ref c.1)) :: (kvO (k + 1) bs).map _ = (.inl k, .ref c.1) :: kvO (k + 1) (bs.set j (a, r))
    rw [if_neg (fun q => by have := Sum.inl.inj q; omega), z]
theorem put_at {k : Int} {bs : List (Addr × List Int)} {j : Nat} {a : Addr} (r : List Int) (h : j < bs.length) : putK (kvO k bs) (.inl (k + (j : Nat))) (.ref a) = kvO k (bs.set j (a, r)) := by
  unfold putK
  rw [valV_any, kvO_at k bs j _ (List.getElem?_eq_getElem h), if_pos (show (some (V.ref bs[j].1)).isSome = true from rfl), kvO_set k bs j a r h]
theorem kvO_end : ∀ (k : Int) (bs : List (Addr × List Int)) (a : Addr) (r : List Int), kvO k bs ++ [(.inl (k + bs.length), .ref a)] = kvO k (bs ++ [(a, r)])
  | k, [], a, r => by
    show [((.inl (k + ((0 : Nat) : Int)) : Key), V.ref a)] = [(.inl k, .ref a)]
    rw [show k + ((0 : Nat) : Int) = k by omega]
  | k, c :: bs, a, r => by
    have z := kvO_end (k + 1) bs a r
    rw [show k + 1 + (bs.length : Int) = k + ((bs.length + 1 : Nat) : Int) by omega] at z
    show (.inl k, .ref c.1) :: (kvO (k + 1) bs ++ [((.inl (k + ((bs.length + 1 : Nat) : Int)) : Key), V.ref a)]) = (.inl k, .ref c.1) :: kvO (k + 1) (bs ++ [(a, r)])
    rw [z]
theorem put_end {k : Int} {bs : List (Addr × List Int)} {a : Addr} (r : List Int) : putK (kvO k bs) (.inl (k + bs.length)) (.ref a) = kvO k (bs ++ [(a, r)]) := by
  unfold putK
  rw [valV_any, kvO_none k _ bs (.inr (by omega)), if_neg (show ¬ (none : Option V).isSome = true from Bool.false_ne_true), kvO_end k bs a r]
/-- the rows as they stand, under their keys -/
structure Mad (H0 : Hp) (D : Addr) (bs : List (Addr × List Int)) (rs : List (List Int)) (H : Hp) : Prop where
  grow : Grows H0 H
  top : H D = some (.dK (kvO 1 bs))
  each : ∀ b ∈ bs, H b.1 = some (.lst (b.2.map V.int)) ∧ b.1 ≠ D
  rows : bs.map (·.2) = rs
  new : ∀ b ∈ bs, H0 b.1 = none
theorem Mad.keep {H0 H H' : Hp} {D : Addr} {bs : List (Addr × List Int)} {rs : List (List Int)} (m : Mad H0 D bs rs H) (g : Grows H H') : Mad H0 D bs rs H' := ⟨m.grow.trans g, g _ _ m.top, fun b h => ⟨g _ _ (m.each b h).1, (m.each b h).2⟩, m.rows, m.new⟩
theorem Mad.len {H0 H : Hp} {D : Addr} {bs : List (Addr × List Int)} {rs : List (List Int)} (m : Mad H0 D bs rs H) : bs.length = rs.length := by
  rw [← m.rows, List.length_map]
theorem set_same {α : Type} : ∀ {xs : List α} {j : Nat} {x : α}, xs[j]? = some x → xs.set j x = xs
  | [], _, _, h => by rw [List.getElem?_nil] at h; cases h
  | y :: ys, 0, x, h => by
    cases h
    rfl
  | y :: ys, j + 1, x, h => by
    have z := set_same (xs := ys) (j := j) (x := x) (by rw [List.getElem?_cons_succ] at h; exact h)
    show y :: ys.set j x = y :: ys
    rw [z]
theorem upd_D {H0 H : Hp} {D : Addr} {o : HO} (hD : H0 D = none) (g : Grows H0 H) : Grows H0 (upd H D o) := fun b u e => by
  rw [upd_ne fun z => by rw [z, hD] at e; cases e]
  exact g b u e
theorem Mad.set {H0 H H2 : Hp} {D y : Addr} {bs : List (Addr × List Int)} {rs : List (List Int)} {r : List Int} {j : Nat} (m : Mad H0 D bs rs H) (hD : H0 D = none) (g : Grows H H2) (hy : H2 y = some (.lst (r.map V.int))) (ny : y ≠ D) (nw : H0 y = none) : Mad H0 D (bs.set j (y, r)) (rs.set j r) (upd H2 D (.dK (kvO 1 (bs.set j (y, r))))) :=
  ⟨upd_D hD (m.grow.trans g), upd_same, fun b hb => by
    rcases List.mem_or_eq_of_mem_set hb with z | z
    · exact ⟨by rw [upd_ne (m.each b z).2]; exact g _ _ (m.each b z).1, (m.each b z).2⟩
    · rw [z]
      exact ⟨by rw [upd_ne ny]; exact hy, ny⟩, by rw [List.map_set, m.rows], fun b hb => by
    rcases List.mem_or_eq_of_mem_set hb with z | z
    · exact m.new b z
    · rw [z]
      exact nw⟩
theorem Mad.add {H0 H H2 : Hp} {D y : Addr} {bs : List (Addr × List Int)} {rs : List (List Int)} {r : List Int} (m : Mad H0 D bs rs H) (hD : H0 D = none) (g : Grows H H2) (hy : H2 y = some (.lst (r.map V.int))) (ny : y ≠ D) (nw : H0 y = none) : Mad H0 D (bs ++ [(y, r)]) (rs ++ [r]) (upd H2 D (.dK (kvO 1 (bs ++ [(y, r)])))) :=
  ⟨upd_D hD (m.grow.trans g), upd_same, fun b hb => by
    rcases List.mem_append.mp hb with z | z
    · exact ⟨by rw [upd_ne (m.each b z).2]; exact g _ _ (m.each b z).1, (m.each b z).2⟩
    · rw [List.mem_singleton.mp z]
      exact ⟨by rw [upd_ne ny]; exact hy, ny⟩, by rw [List.map_append, m.rows]; rfl, fun b hb => by
    rcases List.mem_append.mp hb with z | z
    · exact m.new b z
    · rw [List.mem_singleton.mp z]
      exact nw⟩
/-- rows of which the first ones are grown -/
def mixB (G : List Int → List Int) (rs : List (List Int)) (j : Nat) : List (List Int) := (rs.take j).map G ++ rs.drop j
theorem mix_zero {G : List Int → List Int} {rs : List (List Int)} : mixB G rs 0 = rs := rfl
theorem mix_all {G : List Int → List Int} {rs : List (List Int)} : mixB G rs rs.length = rs.map G := by
  unfold mixB
  rw [List.take_length, List.drop_length, List.append_nil]
theorem mix_len {G : List Int → List Int} {rs : List (List Int)} {j : Nat} (h : j ≤ rs.length) : (mixB G rs j).length = rs.length := by
  unfold mixB
  rw [List.length_append, List.length_map, List.length_take, List.length_drop]
  omega
theorem mix_at {G : List Int → List Int} {rs : List (List Int)} {j : Nat} {r : List Int} (h : rs[j]? = some r) : (mixB G rs j)[j]? = some r := by
  have l := (List.getElem?_eq_some_iff.mp h).1
  unfold mixB
  have e : ((rs.take j).map G).length = j := by
    rw [List.length_map, List.length_take]
    omega
  rw [List.getElem?_append_right (by omega), e, Nat.sub_self, List.getElem?_drop, Nat.add_zero]
  exact h
theorem mix_set {G : List Int → List Int} : ∀ {rs : List (List Int)} {j : Nat} {r : List Int}, rs[j]? = some r → (mixB G rs j).set j (G r) = mixB G rs (j + 1)
  | [], j, r, h => by rw [List.getElem?_nil] at h; cases h
  | c :: rs, 0, r, h => by
    cases h
    rfl
  | c :: rs, j + 1, r, h => by
    have z := mix_set (G := G) (rs := rs) (j := j) (r := r) (by rw [List.getElem?_cons_succ] at h; exact h)
    show G c :: (mixB G rs j).set j (G r) = G c :: mixB G rs (j + 1)
    rw [z]
theorem mix_same {G : List Int → List Int} {rs : List (List Int)} {j : Nat} {r : List Int} (h : rs[j]? = some r) (e : G r = r) : mixB G rs (j + 1) = mixB G rs j := by
  rw [← mix_set h, e]
  exact set_same (mix_at h)
theorem sort_snd (bs : List (Addr × List Int)) : (bs.mergeSort rowLe).map (·.2) = sortB (bs.map (·.2)) := by
  unfold sortB
  exact (List.map_mergeSort fun _ _ _ _ => rfl)
def spGroups (K : PySem.W.Frag) : Sp := fun vs H Q _ => ∃ (a : Addr) (is : List Int), vs = [.ref a] ∧ SqL K H a (is.map V.int) ∧ Bnd is ∧ is.length ≤ 19 ∧
  ∀ (p : Addr) (cs : List (Addr × List Int)) (H' : Hp), Grows H H' → H p = none → H' p = some (.lst (cs.map fun c => V.ref c.1)) → (∀ c ∈ cs, H' c.1 = some (.lst (c.2.map V.int)) ∧ H c.1 = none) → cs.map (·.2) = sortB (famB is is.length) → Q (.ref p) H'
section
variable {P : Program} {w : World} {K : PySem.W.Frag} {mg : Str → Option Value} {base : Heap}
theorem scGroups : FnScope ["items", "made", "place", "item", "base", "maker", "wide"] ["items"] (defScope sGroups) := ⟨rfl, rfl, rfl, by decide +kernel, rfl, by decide +kernel, by decide +kernel⟩
theorem ok_groups {f : Addr} {fd : FuncData} (F : Fun K "_law_groups" "_law_groups" sGroups f fd) (T : TxtP mg) : FnOk P w K mg base CX0 1 f fd ["items"] (spGroups K) := by
  refine F.ok scGroups (fun vs H Q E h => ?_) (fun cdv A outer s H vs Q E hr h => ?_)
  · obtain ⟨a, is, rfl, _⟩ := h
    rfl
  · obtain ⟨a, is, rfl, hS, hb, hl, k⟩ := h
    have hu := hu_of hr
    refine ⟨_, (pss_cons (ps_set (i := 1) scGroups.nd rfl (.inl rfl) pe_dnewK)
      (pss_cons (ps_for PassesOwn.never rfl (pi_enum (by rfl) T.enumerate (pa_cons (pv 0) pa_nil)) (pg_tup (by rfl) (pgs_cons (pg_name (i := 2) scGroups.nd rfl (.inl rfl)) (pgs_cons (pg_name (i := 3) scGroups.nd rfl (.inl rfl)) pgs_nil)))
      (pss_cons (ps_set (i := 4) scGroups.nd rfl (.inl rfl) (pe_ifExp (pt_cmpR op_ge (pv 3) pe_int (nomark _)) (pe_lst (pa_cons (pv 3) pa_nil)) (pe_dget hu (pv 1) (pe_op op_sub pe_int (pv 3)) (fun _ _ => rfl))))
      (pss_cons (ps_for PassesOwn.never rfl (pi_list (pe_callTy (call_list_dK (by rfl)) (by rfl) T.list (by decide +kernel) (pa_cons (pv 1) pa_nil))) (pg_name (i := 5) scGroups.nd rfl (.inl rfl))
      (pss_cons (ps_set (i := 6) scGroups.nd rfl (.inl rfl) (pe_dget hu (pv 1) (pv 5) (fun _ _ => rfl)))
      (pss_one (ps_if (PW.pt (pw_and (pt_cmpR op_gt (pe_callB call_len_seq (by rfl) T.len (by decide +kernel) (pa_cons (pv 6) pa_nil)) (pe_callB call_len_seq (by rfl) T.len (by decide +kernel) (pa_cons (pv 4) pa_nil)) (nomark _)) (pw_and1 (pt_cmpR op_in_seq (pe_ix (r := rIxL K) ix_list (pv 4) pe_int (fun _ _ => rfl)) (pv 6) (by rfl))))) (pss_one (ps_dput hu (pv 1) (pv 5) (pe_op op_cat (pv 6) (pe_lst (pa_cons (pe_op op_add (pv 2) pe_int) pa_nil))) rfl)) pss_nil))))
      (pss_one (ps_dput hu (pv 1) (pe_op op_add (pv 2) pe_int) (pe_op op_cat (pv 4) (pe_lst (pa_cons (pe_op op_add (pv 2) pe_int) pa_nil))) rfl)))))
      (pss_one (ps_ret (pe_sortVals hr.units (by rfl) (by rfl) T.sorted (pv 1)))))), ?_⟩
    refine fun D hD => ?_
    refine ⟨_, rfl, a, _, rfl, Grows.seq (Grows.new hD) hS, for_enumL (K := K) (xs := is.map V.int) (fun i σ H' => ∃ (bs : List (Addr × List Int)) (o2 o3 o4 o5 o6 : Option V), σ = [some (.ref a), some (.ref D), o2, o3, o4, o5, o6] ∧ Mad H D bs (famB is i) H')
      ⟨[], none, none, none, none, none, rfl, ⟨Grows.new hD, upd_same, (fun _ h => nomatch h), rfl, fun _ h => nomatch h⟩⟩ (fun i σ H' ⟨bs, o2, o3, o4, o5, o6, e, m⟩ => Grows.seq m.grow hS) (fun i x Tp σ H' hx ⟨bs, o2, o3, o4, o5, o6, e, m⟩ hT => ?_) fun σ H' ⟨bs, o2, o3, o4, o5, o6, e, m⟩ => ?_⟩
    · subst e
      have il := (List.getElem?_eq_some_iff.mp hx).1
      rw [List.length_map] at il
      obtain rfl := at_map (d := 0) hx
      obtain ⟨x, ex⟩ : ∃ x : Int, x = is.getD i 0 := ⟨_, rfl⟩
      have bx : -(i : Int) ≤ x ∧ x ≤ (i : Int) := by
        refine hb i x ?_
        rw [ex, List.getD_eq_getElem?_getD, List.getElem?_eq_getElem il]
        rfl
      rw [← ex]
      refine ⟨Tp, _, rfl, SqT.of upd_same, rfl, _, _, rfl, _, _, rfl, rfl, ?_⟩
      have m1 := m.keep (Grows.new (o := .tup [V.int ((i : Nat) : Int), V.int x]) hT)
      generalize upd H' Tp (.tup [V.int ((i : Nat) : Int), V.int x]) = H1 at m1 ⊢
      clear m hT
      have li : (famB is i).length = i := famB_len is i
      refine seq_all (fun σ' H2 => ∃ pb : Addr, σ' = [some (.ref a), some (.ref D), some (.int ((i : Nat) : Int)), some (.int x), some (.ref pb), o5, o6] ∧ Grows H1 H2 ∧ H2 pb = some (.lst ((baseB (famB is i) x).map V.int)) ∧ pb ≠ D) (fun σ' H2 ⟨pb, e, g, ep, np⟩ => ?_) fun k2 => ?_
      · subst e
        have m2 := m1.keep g
        clear m1 g
        refine ⟨_, rfl, D, _, rfl, m2.top, fun L hL => ⟨L, rfl, ⟨_, SqL.of upd_same⟩, ?_⟩⟩
        have m3 := m2.keep (Grows.new (o := .lst ((kvO 1 bs).map fun kv => kV kv.1)) hL)
        obtain ⟨G, eG⟩ : ∃ G : List Int → List Int, G = growB ((i : Int) + 1) (baseB (famB is i) x) := ⟨_, rfl⟩
        have nL : L ≠ D := (ne_of_none m2.top hL).symm
        refine for_list (K := K) (xs := (kvO 1 bs).map fun kv => kV kv.1) (fun j σ H3 => ∃ (cs : List (Addr × List Int)) (p5 p6 : Option V), σ = [some (.ref a), some (.ref D), some (.int ((i : Nat) : Int)), some (.int x), some (.ref pb), p5, p6] ∧ Mad H D cs (mixB G (famB is i) j) H3 ∧ Gr D (upd H2 L (.lst ((kvO 1 bs).map fun kv => kV kv.1))) H3)
          ⟨bs, _, _, rfl, m3, .refl⟩ (fun j σ H3 _ ⟨cs, p5, p6, e, m4, gr⟩ => SqL.of (gr _ _ nL upd_same)) (fun j v σ H3 hv ⟨cs, p5, p6, e, m4, gr⟩ => ?_) fun σ H3 ⟨cs, p5, p6, e, m4, gr⟩ => ?_
        · subst e
          have lk : (kvO 1 bs).length = i := by rw [kvO_len, m2.len, li]
          have ji : j < i := by
            have := (List.getElem?_eq_some_iff.mp hv).1
            rw [List.length_map, lk] at this
            exact this
          have lc : cs.length = i := by rw [m4.len, mix_len (by rw [li]; exact Nat.le_of_lt ji), li]
          obtain rfl : v = .int (1 + (j : Int)) := by
            rw [kvO_keys, List.getElem?_map, List.getElem?_map, List.getElem?_range (by rw [m2.len, li]; exact ji)] at hv
            cases hv
            rfl
          have jc : j < cs.length := by rw [lc]; exact ji
          have jr : j < (famB is i).length := by rw [li]; exact ji
          obtain ⟨c, ec⟩ : ∃ c, cs[j]? = some c := ⟨_, List.getElem?_eq_getElem jc⟩
          obtain ⟨r, er⟩ : ∃ r, (famB is i)[j]? = some r := ⟨_, List.getElem?_eq_getElem jr⟩
          have mc : c ∈ cs := List.mem_of_getElem? ec
          have cr : c.2 = r := by
            have z := mix_at (G := G) er
            rw [← m4.rows, List.getElem?_map, ec] at z
            exact Option.some.inj z
          have dg : DGet H3 D (.int (1 + (j : Int))) (some (.ref c.1)) := by
            have z := DGet.k (k := .inl (1 + (j : Int))) m4.top
            rw [kvO_at 1 cs j _ ec] at z
            exact z
          have ew : H3 c.1 = some (.lst (r.map V.int)) := by
            rw [← cr]
            exact (m4.each c mc).1
          have ep3 : H3 pb = some (.lst ((baseB (famB is i) x).map V.int)) := gr _ _ np (Grows.new hL _ _ ep)
          have same : G r = r → ∃ (cs : List (Addr × List Int)) (p5 p6 : Option V), [some (.ref a), some (.ref D), some (.int ((i : Nat) : Int)), some (.int x), some (.ref pb), some (.int (1 + (j : Int))), some (.ref c.1)] = [some (.ref a), some (.ref D), some (.int ((i : Nat) : Int)), some (.int x), some (.ref pb), p5, p6] ∧ Mad H D cs (mixB G (famB is i) (j + 1)) H3 ∧ Gr D (upd H2 L (.lst ((kvO 1 bs).map fun kv => kV kv.1))) H3 := fun e => ⟨cs, _, _, rfl, by rw [mix_same er e]; exact m4, gr⟩
          refine ⟨_, rfl, _, rfl, D, _, rfl, dg, ?_⟩
          refine ⟨_, rfl, c.1, _, rfl, .inl (SqL.of ew), _, rfl, pb, _, rfl, .inl (SqL.of ep3), _, _, rfl, rfl, _, rfl, iteN _ (fun c1 => ?_) fun c1 => ?_⟩
          · have c1 := of_decide_eq_true c1
            rw [List.length_map, List.length_map] at c1
            have B := (famB_ok hb i (Nat.le_of_lt il)).bas (item := x) (by rw [li]; exact bx.1) (by rw [li]; exact bx.2)
            obtain ⟨h, t, eb⟩ := B.ne
            refine ⟨_, rfl, pb, _, 0, .int h, rfl, rfl, SqL.of ep3, (by rw [eb]; exact atI_nat (j := 0) rfl), _, rfl, c.1, _, rfl, .inl (SqL.of ew), rfl, flat_ints r, _, rfl, iteN _ (fun c2 => ?_) fun c2 => ?_⟩
            · rw [if_neg Bool.false_ne_true, inV_ints] at c2
              have c2 := of_decide_eq_true c2
              have eGr : G r = r ++ [(i : Int) + 1] := by
                rw [eG]
                unfold growB inB
                rw [decide_eq_true (show (baseB (famB is i) x).length < r.length by omega), decide_eq_true (show (baseB (famB is i) x).headD 0 ∈ r by rw [eb]; exact c2)]
                rfl
              refine ⟨_, rfl, _, rfl, _, _, rfl, rfl, (by show 1 ≤ sizeLine; decide), fun q hq => ⟨c.1, q, _, _, rfl, rfl, Grows.new hq _ _ ew, upd_same, ?_, fun y hy => ⟨_, rfl, _, rfl, D, _, rfl, DPut.k (k := .inl (1 + (j : Int))) ((Grows.new hq).trans (Grows.new hy) _ _ m4.top) (by rw [kvO_len, lc]; exact small1000 (by omega)), ?_⟩⟩⟩
              · rw [List.length_map]
                have := len_sub (xs := r) (ys := (List.range (i + 1)).map fun z => ((z : Nat) : Int)) (up_nodup ((famB_ok hb i (Nat.le_of_lt il)).up r (List.mem_of_getElem? er))) fun z hz => by
                  have q := (famB_ok hb i (Nat.le_of_lt il)).rng r (List.mem_of_getElem? er) z hz
                  rw [li] at q
                  exact List.mem_map.mpr ⟨z.toNat, List.mem_range.mpr (by omega), by omega⟩
                rw [List.length_map, List.length_range] at this
                exact Nat.le_trans (show r.length + 1 ≤ 100 by omega) (by decide)
              · have gg : Grows H3 (upd (upd H3 q (.lst [V.int ((i : Int) + 1)])) y (.lst (r.map V.int ++ [V.int ((i : Int) + 1)]))) := (Grows.new hq).trans (Grows.new hy)
                have ny : y ≠ D := (ne_of_none (Grows.new hq _ _ m4.top) hy).symm
                rw [put_at (r ++ [(i : Int) + 1]) jc]
                refine ⟨cs.set j (y, r ++ [(i : Int) + 1]), _, _, rfl, ?_, fun b o n e => by rw [upd_ne n]; exact gg _ _ (gr b o n e)⟩
                rw [← mix_set er, eGr]
                exact m4.set hD gg (by rw [upd_same, List.map_append]; rfl) ny (none_back (m4.grow.trans (Grows.new hq)) hy)
            · rw [if_neg Bool.false_ne_true, inV_ints] at c2
              refine same ?_
              rw [eG]
              unfold growB inB
              rw [decide_eq_false (show ¬ (baseB (famB is i) x).headD 0 ∈ r by rw [eb]; exact of_decide_eq_false c2), Bool.and_false, if_neg Bool.false_ne_true]
          · have c1 := of_decide_eq_false c1
            rw [List.length_map, List.length_map] at c1
            refine same ?_
            rw [eG]
            unfold growB inB
            rw [decide_eq_false (show ¬ (baseB (famB is i) x).length < r.length by omega), Bool.false_and, if_neg Bool.false_ne_true]
        · subst e
          have lk : ((kvO 1 bs).map fun kv => kV kv.1).length = (famB is i).length := by rw [List.length_map, kvO_len, m2.len]
          rw [lk, mix_all] at m4
          have lc : cs.length = i := by rw [m4.len, List.length_map, li]
          have ep3 : H3 pb = some (.lst ((baseB (famB is i) x).map V.int)) := gr _ _ np (Grows.new hL _ _ ep)
          refine ⟨_, rfl, _, rfl, _, _, rfl, rfl, (by show 1 ≤ sizeLine; decide), fun q hq => ⟨pb, q, _, _, rfl, rfl, Grows.new hq _ _ ep3, upd_same, ?_, fun y hy => ⟨_, rfl, _, rfl, _, _, rfl, rfl, D, _, rfl, DPut.k (k := .inl ((i : Int) + 1)) ((Grows.new hq).trans (Grows.new hy) _ _ m4.top) (by rw [kvO_len, lc]; exact small1000 (by omega)), ?_⟩⟩⟩
          · have B := (famB_ok hb i (Nat.le_of_lt il)).bas (item := x) (by rw [li]; exact bx.1) (by rw [li]; exact bx.2)
            rw [List.length_map]
            have := len_sub (xs := baseB (famB is i) x) (ys := (List.range (i + 1)).map fun z => ((z : Nat) : Int)) (up_nodup B.up) fun z hz => by
              have q := B.rng z hz
              rw [li] at q
              exact List.mem_map.mpr ⟨z.toNat, List.mem_range.mpr (by omega), by omega⟩
            rw [List.length_map, List.length_range] at this
            exact Nat.le_trans (show (baseB (famB is i) x).length + 1 ≤ 100 by omega) (by decide)
          · have gg : Grows H3 (upd (upd H3 q (.lst [V.int ((i : Int) + 1)])) y (.lst ((baseB (famB is i) x).map V.int ++ [V.int ((i : Int) + 1)]))) := (Grows.new hq).trans (Grows.new hy)
            have ny : y ≠ D := (ne_of_none (Grows.new hq _ _ m4.top) hy).symm
            have ke : ((i : Int) + 1) = 1 + ((cs.length : Nat) : Int) := by rw [lc]; omega
            have pe : putK (kvO 1 cs) (.inl ((i : Int) + 1)) (.ref y) = kvO 1 (cs ++ [(y, baseB (famB is i) x ++ [(i : Int) + 1])]) := by
              rw [show (.inl ((i : Int) + 1) : Key) = .inl (1 + ((cs.length : Nat) : Int)) from congrArg Sum.inl ke]
              exact put_end _
            rw [pe]
            refine ⟨cs ++ [(y, baseB (famB is i) x ++ [(i : Int) + 1])], _, _, _, _, _, rfl, ?_⟩
            have e : famB is (i + 1) = (famB is i).map G ++ [baseB (famB is i) x ++ [(i : Int) + 1]] := by
              show stepB (famB is i) (is.getD i 0) = _
              unfold stepB
              rw [← ex, li, eG]
            rw [e]
            exact m4.add hD gg (by rw [upd_same, List.map_append]; rfl) ny (none_back (m4.grow.trans (Grows.new hq)) hy)
      · refine ⟨_, rfl, _, _, rfl, rfl, _, rfl, iteN _ (fun c => ?_) fun c => ?_⟩
        · have c := of_decide_eq_true c
          refine ⟨_, rfl, (by show 1 ≤ sizeLine; decide), fun q hq => k2 _ _ ⟨q, rfl, Grows.new hq, ?_, (ne_of_none m1.top hq).symm⟩⟩
          rw [upd_same]
          unfold baseB
          rw [if_pos c]
          rfl
        · have c := of_decide_eq_false c
          have lj : (0 - x - 1).toNat < bs.length := by
            rw [m1.len, li]
            omega
          have eb := List.getElem?_eq_getElem lj
          have dg : DGet H1 D (.int (0 - x)) (some (.ref bs[(0 - x - 1).toNat].1)) := by
            have z := DGet.k (k := .inl (1 + (((0 - x - 1).toNat : Nat) : Int))) m1.top
            rw [kvO_at 1 bs _ _ eb] at z
            have e : (1 + (((0 - x - 1).toNat : Nat) : Int)) = 0 - x := by omega
            have z2 : DGet H1 D (.int (1 + (((0 - x - 1).toNat : Nat) : Int))) (some (.ref bs[(0 - x - 1).toNat].1)) := z
            generalize hg : (1 + (((0 - x - 1).toNat : Nat) : Int)) = u at e z2
            rw [e] at z2
            exact z2
          have mem := List.getElem_mem lj
          refine ⟨_, rfl, _, rfl, _, _, rfl, rfl, D, _, rfl, dg, k2 _ _ ⟨_, rfl, .refl, ?_, (m1.each _ mem).2⟩⟩
          rw [(m1.each _ mem).1]
          unfold baseB
          rw [if_neg c, ← m1.rows, List.getD_eq_getElem?_getD, List.getElem?_map, eb]
          rfl
    · subst e
      rw [List.length_map] at m
      refine ⟨_, rfl, D, _, bs, rfl, m.top, kvO_vals 1 bs, fun b h => (m.each b h).1, fun p hp => ?_⟩
      have g := m.grow.trans (Grows.new (o := .lst ((bs.mergeSort rowLe).map fun b => V.ref b.1)) hp)
      refine k p (bs.mergeSort rowLe) _ g (none_back m.grow hp) upd_same (fun c h => ?_) (by rw [sort_snd, m.rows])
      exact ⟨Grows.new hp _ _ (m.each c (List.mem_mergeSort.mp h)).1, m.new c (List.mem_mergeSort.mp h)⟩
end
end K34

namespace K34
open PySem PySem.Spec PyProof.Rows L2 SortR LcM RepA
theorem cut_take (xs : List V) {z : Int} (h : 0 ≤ z) : cutV xs none (some z) = xs.take z.toNat := by
  unfold cutV HT.sIx
  show List.take ((if z < 0 then (z + (xs.length : Nat)).toNat else min z.toNat xs.length) - 0) (List.drop 0 xs) = _
  rw [if_neg (by omega), List.drop_zero, Nat.sub_zero]
  rcases Nat.le_total z.toNat xs.length with l | l
  · rw [Nat.min_eq_left l]
  · rw [Nat.min_eq_right l, List.take_length, List.take_of_length_le l]
theorem take_nextD {α : Type} {xs : List α} {i : Nat} {x : α} (h : xs[i]? = some x) : xs.take (i + 1) = xs.take i ++ [x] := by
  rw [List.take_succ, h]
  rfl
theorem rg_ints (n : Int) : rgV 0 n = ((List.range n.toNat).map fun i => (0 + (i : Nat) : Int)).map V.int := by
  unfold rgV
  rw [List.map_map, Int.sub_zero]
  rfl
theorem gr_none {p a : Addr} {H H' : Hp} (g : Gr p H H') (h : H' a = none) (n : a ≠ p) : H a = none := by
  rcases Option.eq_none_or_eq_some (H a) with z | ⟨o, z⟩
  · exact z
  · rw [g a o n z] at h
    cases h
def toI : PyData → Int
  | .int i => i
  | _ => 0
def toR : PyData → List Int
  | .list ds => ds.map toI
  | _ => []
def upto (k : Nat) : List Int := (List.range k).map fun i : Nat => (i : Int)
structure Tx (n w : Nat) (d : PyData) : Prop where
  sh : d.showable = true
  dp : d.depth ≤ n
  lv : PyData.leavesShort 40 d = true
  wt : d.weight ≤ w
theorem Tx.le {n w m v : Nat} {d : PyData} (h : Tx n w d) (a : n ≤ m) (b : w ≤ v) : Tx m v d := ⟨h.sh, Nat.le_trans h.dp a, h.lv, Nat.le_trans h.wt b⟩
theorem dp_mem {K : PySem.W.Frag} {H : Hp} : ∀ {xs : List L2.V} {ds : List PyData}, DpAll K H xs ds → ∀ x ∈ xs, ∃ d ∈ ds, Dp K H x d
  | _, _, .nil, _, h => nomatch h
  | _, _, .cons a b, x, h => by
    rcases List.mem_cons.mp h with e | e
    · rw [e]
      exact ⟨_, List.mem_cons_self, a⟩
    · obtain ⟨d, hd, q⟩ := dp_mem b x e
      exact ⟨d, List.mem_cons_of_mem _ hd, q⟩
/-! ### texts that are not too long -/
def txB (n w : Nat) (d : PyData) : Bool := d.showable && decide (d.depth ≤ n) && PyData.leavesShort 40 d && decide (d.weight ≤ w)
theorem tx_of {n w : Nat} {d : PyData} (h : txB n w d = true) : Tx n w d := by
  unfold txB at h
  simp only [Bool.and_eq_true, decide_eq_true_eq] at h
  exact ⟨h.1.1.1, h.1.1.2, h.1.2, h.2⟩
theorem tx_all {n w : Nat} : ∀ ds : List PyData, (∀ d ∈ ds, Tx n w d) → PyData.showableAll ds = true ∧ PyData.depthAll ds ≤ n ∧ PyData.leavesShortAll 40 ds = true ∧ PyData.weightAll ds ≤ ds.length * (w + 1)
  | [], _ => by simp only [PyData.showableAll, PyData.depthAll, PyData.leavesShortAll, PyData.weightAll]; exact ⟨trivial, Nat.zero_le _, trivial, Nat.zero_le _⟩
  | d :: ds, h => by
    obtain ⟨a1, a3, a4, a5⟩ := tx_all ds fun e m => h e (List.mem_cons_of_mem _ m)
    obtain ⟨b1, b3, b4, b5⟩ := h d List.mem_cons_self
    refine ⟨?_, ?_, ?_, ?_⟩
    · simp only [PyData.showableAll, a1, b1, Bool.and_self]
    · simp only [PyData.depthAll]; omega
    · simp only [PyData.leavesShortAll, a4, b4, Bool.and_self]
    · simp only [PyData.weightAll, List.length_cons]
      rw [Nat.add_mul]
      omega
theorem tx_list {n w m : Nat} {ds : List PyData} (h : ∀ d ∈ ds, Tx n w d) (l : ds.length ≤ m) : Tx (n + 1) (m * (w + 1)) (.list ds) := by
  obtain ⟨a1, a3, a4, a5⟩ := tx_all ds h
  refine ⟨?_, ?_, ?_, ?_⟩
  · simp only [PyData.showable, a1]
  · simp only [PyData.depth]; omega
  · simp only [PyData.leavesShort, a4]
  · simp only [PyData.weight]; exact Nat.le_trans a5 (Nat.mul_le_mul_right _ l)
theorem tx_tuple {n w m : Nat} {ds : List PyData} (h : ∀ d ∈ ds, Tx n w d) (l : ds.length ≤ m) : Tx (n + 1) (m * (w + 1)) (.tuple ds) := by
  obtain ⟨a1, a3, a4, a5⟩ := tx_all ds h
  refine ⟨?_, ?_, ?_, ?_⟩
  · simp only [PyData.showable, a1]
  · simp only [PyData.depth]; omega
  · simp only [PyData.leavesShort, a4]
  · simp only [PyData.weight]; exact Nat.le_trans a5 (Nat.mul_le_mul_right _ l)
theorem tx_int {i : Int} (h : i.natAbs < 10 ^ 12) : Tx 0 110 (.int i) := by
  have s := show_ints [i] (fun x hx => by rw [List.mem_singleton.mp hx]; exact h)
  have w := weight_ints [i] (fun x hx => by rw [List.mem_singleton.mp hx]; exact h)
  have l := PyData.intsShortAll_ints [i] (fun x hx => by rw [List.mem_singleton.mp hx]; exact h)
  refine ⟨?_, ?_, ?_, ?_⟩
  · simpa [PyData.showableAll] using s
  · simp only [PyData.depth]; omega
  · have l2 : PyData.intsShort 13 (.int i) = true := by simpa [PyData.intsShortAll] using l
    have l3 := PyData.leavesShort_of_canLay0 13 (.int i) (by simp only [PyData.canLay0]) l2
    rw [PyData.leavesShort] at l3 ⊢
    exact decide_eq_true (Nat.le_trans (of_decide_eq_true l3) (by decide))
  · simp only [List.map_cons, List.map_nil, PyData.weightAll, List.length_cons, List.length_nil] at w
    omega
/-- rows of persons -/
abbrev rowD (r : List Int) : PyData := .list (r.map .int)
abbrev rowsD (rs : List (List Int)) : List PyData := rs.map rowD
def Sm (r : List Int) : Prop := r.length ≤ 25 ∧ ∀ x ∈ r, 0 ≤ x ∧ x ≤ 1000
theorem tx_row {r : List Int} (h : Sm r) : Tx 1 2775 (rowD r) := tx_list (n := 0) (w := 110) (m := 25) (fun d hd => by
  obtain ⟨x, hx, rfl⟩ := List.mem_map.mp hd
  have := h.2 x hx
  exact tx_int (by omega)) (by rw [List.length_map]; exact h.1)
theorem tx_rows {rs : List (List Int)} {m : Nat} (h : ∀ r ∈ rs, Sm r) (l : rs.length ≤ m) : Tx 2 (m * 2776) (.list (rowsD rs)) := tx_list (n := 1) (w := 2775) (m := m) (fun d hd => by
  obtain ⟨r, hr, rfl⟩ := List.mem_map.mp hd
  exact tx_row (h r hr)) (by rw [List.length_map]; exact l)
theorem tx_shown {d : PyData} (h : Tx 20 100000 d) : d.shown.length ≤ sizeLine := by
  have q := PyData.shown_le 40 (by decide) d h.lv
  have w := h.wt
  rw [sizeLine_eq]
  omega
/-- repr of data that are not too long -/
def rReprD (K : PySem.W.Frag) : List V → Hp → VK → Prop := fun xs H Q => ∃ (x : V) (d : PyData), xs = [x] ∧ Dd K H x d ∧ Tx 20 100000 d ∧ Q (.str d.shown) H
theorem cr_reprD {X : Cx} (hg : X.A.guards = some []) (hu : X.A.units + 64 < cLine) : CallR X (.builtin "repr") (rReprD X.K) := by
  intro pins s σ H xs us Q I r h
  obtain ⟨x, d, e, hd, tx, q⟩ := h
  exact call_reprV hg hu pins s σ H xs us Q I r ⟨x, d, e, .inl hd, tx.sh, Nat.le_trans tx.dp (by decide), tx_shown tx, q⟩
theorem tx_big {n w : Nat} {d : PyData} (h : Tx n w d) (a : n ≤ 20) (b : w ≤ 100000) : Tx 20 100000 d := h.le a b
/-- a tuple of two ints that stands -/
theorem dp_two {K : PySem.W.Frag} {H : Hp} {t : Addr} {u v : Int} (h : H t = some (.tup [.int u, .int v])) : Dp K H (.ref t) (.tuple [.int u, .int v]) := .tup (SqT.of h) (.cons (.int u) (.cons (.int v) .nil))
theorem tx_two {u v : Int} (a : u.natAbs < 10 ^ 12) (b : v.natAbs < 10 ^ 12) : Tx 20 100000 (.tuple [.int u, .int v]) :=
  tx_big (tx_tuple (n := 0) (w := 110) (m := 2) (fun d hd => by
    rcases List.mem_cons.mp hd with e | e
    · rw [e]
      exact tx_int a
    · rw [List.mem_singleton.mp e]
      exact tx_int b) (Nat.le_refl 2)) (by decide) (by decide)
/-! ### data that stand as lists and tuples of one's own -/
mutual
inductive DL (H : Hp) : V → PyData → Prop
  | int (i : Int) : DL H (.int i) (.int i)
  | lst {a : Addr} {xs : List V} {ds : List PyData} (h : H a = some (.lst xs)) (t : DLs H xs ds) : DL H (.ref a) (.list ds)
  | tup {a : Addr} {xs : List V} {ds : List PyData} (h : H a = some (.tup xs)) (t : DLs H xs ds) : DL H (.ref a) (.tuple ds)
inductive DLs (H : Hp) : List V → List PyData → Prop
  | nil : DLs H [] []
  | cons {v : V} {d : PyData} {vs : List V} {ds : List PyData} (h : DL H v d) (t : DLs H vs ds) : DLs H (v :: vs) (d :: ds)
end
mutual
theorem DL.grow {H H' : Hp} (s : Grows H H') : ∀ {v : V} {d : PyData}, DL H v d → DL H' v d
  | _, _, .int i => .int i
  | _, _, .lst h t => .lst (s _ _ h) (DLs.grow s t)
  | _, _, .tup h t => .tup (s _ _ h) (DLs.grow s t)
theorem DLs.grow {H H' : Hp} (s : Grows H H') : ∀ {vs : List V} {ds : List PyData}, DLs H vs ds → DLs H' vs ds
  | _, _, .nil => .nil
  | _, _, .cons h t => .cons (DL.grow s h) (DLs.grow s t)
end
mutual
theorem DL.dp {K : PySem.W.Frag} {H : Hp} : ∀ {v : V} {d : PyData}, DL H v d → Dp K H v d
  | _, _, .int i => .int i
  | _, _, .lst h t => .lst (SqL.of h) (DLs.dp t)
  | _, _, .tup h t => .tup (SqT.of h) (DLs.dp t)
theorem DLs.dp {K : PySem.W.Frag} {H : Hp} : ∀ {vs : List V} {ds : List PyData}, DLs H vs ds → DpAll K H vs ds
  | _, _, .nil => .nil
  | _, _, .cons h t => .cons (DL.dp h) (DLs.dp t)
end
theorem DLs.len {H : Hp} : ∀ {vs : List V} {ds : List PyData}, DLs H vs ds → vs.length = ds.length
  | _, _, .nil => rfl
  | _, _, .cons _ t => congrArg (· + 1) (DLs.len t)
theorem DLs.app {H : Hp} : ∀ {vs ws : List V} {ds es : List PyData}, DLs H vs ds → DLs H ws es → DLs H (vs ++ ws) (ds ++ es)
  | _, _, _, _, .nil, h => h
  | _, _, _, _, .cons a b, h => .cons a (DLs.app b h)
theorem DLs.at {H : Hp} : ∀ {vs : List V} {ds : List PyData} {i : Nat} {x : V}, DLs H vs ds → vs[i]? = some x → ∃ d, ds[i]? = some d ∧ DL H x d
  | _, _, _, _, .nil, h => nomatch h
  | _, _, 0, _, .cons a _, h => by
    cases h
    exact ⟨_, rfl, a⟩
  | v :: vs, d :: ds, i + 1, x, .cons _ b, h => DLs.at (i := i) b h
theorem DLs.take {H : Hp} : ∀ (i : Nat) {vs : List V} {ds : List PyData}, DLs H vs ds → DLs H (vs.take i) (ds.take i)
  | 0, _, _, _ => .nil
  | _ + 1, _, _, .nil => .nil
  | i + 1, _, _, .cons a b => .cons a (DLs.take i b)
theorem DLs.drop {H : Hp} : ∀ (i : Nat) {vs : List V} {ds : List PyData}, DLs H vs ds → DLs H (vs.drop i) (ds.drop i)
  | 0, _, _, h => h
  | _ + 1, _, _, .nil => .nil
  | i + 1, _, _, .cons a b => DLs.drop i b
theorem DLs.rev {H : Hp} : ∀ {vs : List V} {ds : List PyData}, DLs H vs ds → DLs H vs.reverse ds.reverse
  | _, _, .nil => .nil
  | _, _, .cons a b => by
    rw [List.reverse_cons, List.reverse_cons]
    exact DLs.app (DLs.rev b) (.cons a .nil)
theorem DLs.ints {H : Hp} : ∀ ns : List Int, DLs H (ns.map V.int) (ns.map .int)
  | [] => .nil
  | n :: ns => .cons (.int n) (DLs.ints ns)
/-- a heap without one place -/
def off (D : Addr) (H : Hp) : Hp := fun b => if b = D then none else H b
theorem off_le {D : Addr} {H : Hp} : Grows (off D H) H := fun b o e => by
  unfold off at e
  by_cases z : b = D
  · rw [if_pos z] at e; cases e
  · rw [if_neg z] at e
    exact e
theorem off_of {D : Addr} {H0 H : Hp} (hD : H0 D = none) (g : Grows H0 H) : Grows H0 (off D H) := fun b o e => by
  unfold off
  rw [if_neg fun z => by rw [z, hD] at e; cases e]
  exact g _ _ e
theorem off_grow {D : Addr} {H H' : Hp} (g : Grows H H') : Grows (off D H) (off D H') := fun b o e => by
  unfold off at e ⊢
  by_cases z : b = D
  · rw [if_pos z] at e; cases e
  · rw [if_neg z] at e ⊢
    exact g _ _ e
theorem off_upd {D : Addr} {H : Hp} {o : HO} : off D (upd H D o) = off D H := by
  funext b
  unfold off
  by_cases z : b = D
  · rw [if_pos z, if_pos z]
  · rw [if_neg z, if_neg z, upd_ne z]
theorem off_at {D a : Addr} {H : Hp} {o : HO} (h : H a = some o) (n : a ≠ D) : off D H a = some o := by
  unfold off
  rw [if_neg n]
  exact h
section
variable {K : PySem.W.Frag} {a : Addr} {xs : List V} {ds : List PyData} {g : TG} {tt : TT} {te : TE} {vs : List Nat} {σ : L2.St} {H0 : Hp} {D : Addr} {Qd : Hp → Prop}
theorem filt_next (p : PyData → Bool) (F : PyData → PyData) {i : Nat} {d : PyData} (h : ds[i]? = some d) : ((ds.take (i + 1)).filter p).map F = ((ds.take i).filter p).map F ++ (if p d = true then [F d] else []) := by
  rw [take_nextD h, List.filter_append, List.map_append]
  congr 1
  cases e : p d with
  | true => rw [if_pos rfl, List.filter_cons, if_pos e]; rfl
  | false => rw [if_neg Bool.false_ne_true, List.filter_cons, if_neg (by rw [e]; exact Bool.false_ne_true)]; rfl
/-- [e for x in xs if c], by the data of its items -/
theorem lc_listDL (p : PyData → Bool) (F : PyData → PyData) (hD : H0 D = none) (hx : SqL K H0 a xs) (all : DLs H0 xs ds) (small : ds.length ≤ 1000)
    (turn : ∀ (i : Nat) (x : V) (d : PyData) (G : Hp) (Ry : V → Hp → Prop) (Rn : Hp → Prop), ds[i]? = some d → Grows H0 G → Grows H0 (off D G) → DL (off D G) x d → G D ≠ none → (p d = true → ∀ y H4, Grows G H4 → DL (off D H4) y (F d) → Ry y H4) → (p d = false → ∀ H4, Grows G H4 → Rn H4) →
      g x (wipe σ vs) G fun σ2 H2 => wipe σ2 vs = wipe σ vs ∧ tt σ2 H2 fun t H3 => if t = true then te σ2 H3 Ry else Rn H3)
    (done : ∀ G acc, Grows H0 G → G D = some (.lst acc) → DLs (off D G) acc ((ds.filter p).map F) → Qd G) :
    ∃ W : Nat → Nat → Hp → Prop, (∃ m, W 0 m (upd H0 D (.lst []))) ∧ ∀ i m H, W i m H →
      ((Itl K a).stop i H ∧ Qd H) ∨ ((Itl K a).go i H ∧ ∃ Nx : Hp → Prop, (∀ H', Nx H' → ∃ m', m' < m ∧ W (i + 1) m' H') ∧ ∀ x H', (Itl K a).yld i H x H' → g x (wipe σ vs) H' fun σ2 H2 => wipe σ2 vs = wipe σ vs ∧ tt σ2 H2 fun b H3 =>
        if b = true then te σ2 H3 fun y H4 => ∃ acc, H4 D = some (.lst acc) ∧ acc.length < sizeLine ∧ Nx (upd H4 D (.lst (acc ++ [y]))) else Nx H3) := by
  have xl := DLs.len all
  refine lc_list (fun i G => ∃ acc, Grows H0 G ∧ G D = some (.lst acc) ∧ DLs (off D G) acc (((ds.take i).filter p).map F)) ⟨[], Grows.new hD, upd_same, .nil⟩ (fun i G _ ⟨_, gg, _⟩ => gg.seq hx) (fun i x G ex ⟨acc, gg, eD, al⟩ => ?_) fun G ⟨acc, gg, eD, al⟩ => ?_
  · obtain ⟨d, hd, hdx⟩ := DLs.at all ex
    have go := off_of hD gg
    have al2 : acc.length ≤ 1000 := by
      rw [DLs.len al, List.length_map]
      have := List.length_filter_le p (ds.take i)
      rw [List.length_take] at this
      omega
    refine turn i x d G _ _ hd gg go (DL.grow go hdx) (by rw [eD]; exact fun z => nomatch z) (fun pd y H4 g4 hy => ?_) fun pd H4 g4 => ?_
    · refine ⟨acc, g4 _ _ eD, Nat.lt_of_le_of_lt al2 (by decide), acc ++ [y], upd_D hD (gg.trans g4), upd_same, ?_⟩
      rw [off_upd, filt_next p F hd, if_pos pd]
      exact DLs.app (DLs.grow (off_grow g4) al) (.cons hy .nil)
    · refine ⟨acc, gg.trans g4, g4 _ _ eD, ?_⟩
      rw [filt_next p F hd, if_neg (by rw [pd]; exact Bool.false_ne_true), List.append_nil]
      exact DLs.grow (off_grow g4) al
  · rw [xl, List.take_length] at al
    exact done G acc gg eD al
/-- [e for i in range(lo, ..)], by the data of its turns -/
theorem lc_rangeDL {lo : Int} {n : Nat} (F : Nat → PyData) (hD : H0 D = none) (small : n ≤ 1000)
    (turn : ∀ (i : Nat) (G : Hp) (Ry : V → Hp → Prop), i < n → Grows H0 G → Grows H0 (off D G) → G D ≠ none → (∀ y H4, Grows G H4 → DL (off D H4) y (F i) → Ry y H4) →
      g (.int (lo + i)) (wipe σ vs) G fun σ2 H2 => wipe σ2 vs = wipe σ vs ∧ te σ2 H2 Ry)
    (done : ∀ G acc, Grows H0 G → G D = some (.lst acc) → DLs (off D G) acc ((List.range n).map F) → Qd G) :
    ∃ W : Nat → Nat → Hp → Prop, (∃ m, W 0 m (upd H0 D (.lst []))) ∧ ∀ i m H, W i m H →
      ((Itr lo n).stop i H ∧ Qd H) ∨ ((Itr lo n).go i H ∧ ∃ Nx : Hp → Prop, (∀ H', Nx H' → ∃ m', m' < m ∧ W (i + 1) m' H') ∧ ∀ x H', (Itr lo n).yld i H x H' → g x (wipe σ vs) H' fun σ2 H2 => wipe σ2 vs = wipe σ vs ∧ tYes σ2 H2 fun b H3 =>
        if b = true then te σ2 H3 fun y H4 => ∃ acc, H4 D = some (.lst acc) ∧ acc.length < sizeLine ∧ Nx (upd H4 D (.lst (acc ++ [y]))) else Nx H3) := by
  refine lc_range (lo := lo) (n := n) (fun i G => ∃ acc, Grows H0 G ∧ G D = some (.lst acc) ∧ DLs (off D G) acc ((List.range i).map F)) ⟨[], Grows.new hD, upd_same, .nil⟩ (fun i G il ⟨acc, gg, eD, al⟩ => ?_) fun G ⟨acc, gg, eD, al⟩ => done G acc gg eD al
  rw [yes_eq (A := fun σ2 => wipe σ2 vs = wipe σ vs)]
  have al2 : acc.length ≤ 1000 := by
    rw [DLs.len al, List.length_map, List.length_range]
    omega
  refine turn i G _ il gg (off_of hD gg) (by rw [eD]; exact fun z => nomatch z) fun y H4 g4 hy => ⟨acc, g4 _ _ eD, Nat.lt_of_le_of_lt al2 (by decide), acc ++ [y], upd_D hD (gg.trans g4), upd_same, ?_⟩
  rw [off_upd, List.range_succ, List.map_append]
  exact DLs.app (DLs.grow (off_grow g4) al) (.cons hy .nil)
end
/-- x + y, lists of one's own: the list is new -/
theorem cat_DL {H : Hp} {D a b : Addr} {xs ys : List V} {ds es : List PyData} (ha : H a = some (.lst xs)) (hb : H b = some (.lst ys)) (h1 : DLs (off D H) xs ds) (h2 : DLs (off D H) ys es) (l : xs.length + ys.length ≤ 1000) (nD : H D ≠ none) {Q : VK}
    (k : ∀ y, H y = none → DL (off D (upd H y (.lst (xs ++ ys)))) (.ref y) (.list (ds ++ es)) → Q (.ref y) (upd H y (.lst (xs ++ ys)))) : rCat (.ref a) (.ref b) H Q :=
  ⟨a, b, xs, ys, rfl, rfl, ha, hb, Nat.le_trans l (by decide), fun y hy => k y hy (.lst (off_at upd_same fun z => nD (by rw [← z]; exact hy)) (DLs.app (DLs.grow (off_grow (Grows.new hy)) h1) (DLs.grow (off_grow (Grows.new hy)) h2)))⟩
def famsD (fs : List (List (List Int))) : List PyData := fs.map fun rs => .list (rowsD rs)
def toF : PyData → List (List Int)
  | .list ds => ds.map toR
  | _ => []
theorem toR_row (r : List Int) : toR (rowD r) = r := by
  show (r.map PyData.int).map toI = r
  rw [List.map_map]
  exact (List.map_congr_left fun _ _ => rfl).trans (List.map_id r)
theorem toF_rows (rs : List (List Int)) : toF (.list (rowsD rs)) = rs := by
  show (rs.map rowD).map toR = rs
  rw [List.map_map]
  exact (List.map_congr_left fun r _ => toR_row r).trans (List.map_id rs)
theorem dl_list {H : Hp} {v : V} {ds : List PyData} (h : DL H v (.list ds)) : ∃ a xs, v = .ref a ∧ H a = some (.lst xs) ∧ DLs H xs ds := by
  cases h with
  | lst h t => exact ⟨_, _, rfl, h, t⟩
theorem dl_ints {H : Hp} : ∀ {xs : List V} {ns : List Int}, DLs H xs (ns.map .int) → xs = ns.map V.int
  | _, [], .nil => rfl
  | _, n :: ns, .cons (v := v) a b => by
    cases a
    rw [dl_ints b]
    rfl
theorem dl_row {H : Hp} {v : V} {r : List Int} (h : DL H v (rowD r)) : ∃ a, v = .ref a ∧ H a = some (.lst (r.map V.int)) := by
  obtain ⟨a, xs, rfl, e, t⟩ := dl_list h
  rw [dl_ints t] at e
  exact ⟨a, rfl, e⟩
theorem dl_of_row {H : Hp} {a : Addr} {r : List Int} (h : H a = some (.lst (r.map V.int))) : DL H (.ref a) (rowD r) := .lst h (DLs.ints r)
theorem rowsD_app (rs qs : List (List Int)) : rowsD (rs ++ qs) = rowsD rs ++ rowsD qs := List.map_append
theorem filt_yes {α : Type} (l : List α) : l.filter (fun _ => true) = l := List.filter_eq_self.mpr fun _ _ => rfl
theorem famsD_app (a b : List (List (List Int))) : famsD (a ++ b) = famsD a ++ famsD b := List.map_append
theorem filt_map {α β : Type} (f : α → β) (p : β → Bool) (q : α → Bool) (h : ∀ x, p (f x) = q x) (l : List α) : (l.map f).filter p = (l.filter q).map f := by
  rw [List.filter_map]
  congr 1
  exact List.filter_congr fun x _ => h x
/-! ### sorting that the kernel can do -/
def ins {α : Type} (le : α → α → Bool) (x : α) : List α → List α
  | [] => [x]
  | y :: ys => if le x y = true then x :: y :: ys else y :: ins le x ys
def isort {α : Type} (le : α → α → Bool) : List α → List α
  | [] => []
  | x :: xs => ins le x (isort le xs)
theorem ins_perm {α : Type} (le : α → α → Bool) (x : α) : ∀ ys : List α, (ins le x ys).Perm (x :: ys)
  | [] => .refl _
  | y :: ys => by
    unfold ins
    split
    · exact .refl _
    · exact ((ins_perm le x ys).cons y).trans (List.Perm.swap _ _ _)
theorem isort_perm {α : Type} (le : α → α → Bool) : ∀ xs : List α, (isort le xs).Perm xs
  | [] => .refl _
  | x :: xs => (ins_perm le x _).trans ((isort_perm le xs).cons x)
theorem ins_up {α : Type} {le : α → α → Bool} (tr : ∀ a b c, le a b = true → le b c = true → le a c = true) (tot : ∀ a b, le a b = true ∨ le b a = true) (x : α) : ∀ ys : List α, ys.Pairwise (fun a b => le a b = true) → (ins le x ys).Pairwise (fun a b => le a b = true)
  | [], _ => List.pairwise_singleton _ _
  | y :: ys, h => by
    obtain ⟨h1, h2⟩ := List.pairwise_cons.mp h
    unfold ins
    by_cases e : le x y = true
    · rw [if_pos e]
      refine List.pairwise_cons.mpr ⟨fun z hz => ?_, h⟩
      rcases List.mem_cons.mp hz with q | q
      · rw [q]; exact e
      · exact tr _ _ _ e (h1 z q)
    · rw [if_neg e]
      refine List.pairwise_cons.mpr ⟨fun z hz => ?_, ins_up tr tot x ys h2⟩
      rcases List.mem_cons.mp ((ins_perm le x ys).mem_iff.mp hz) with q | q
      · rw [q]; exact (tot x y).resolve_left e
      · exact h1 z q
theorem isort_up {α : Type} {le : α → α → Bool} (tr : ∀ a b c, le a b = true → le b c = true → le a c = true) (tot : ∀ a b, le a b = true ∨ le b a = true) : ∀ xs : List α, (isort le xs).Pairwise (fun a b => le a b = true)
  | [] => .nil
  | x :: xs => ins_up tr tot x _ (isort_up tr tot xs)
theorem sort_is {α : Type} {le : α → α → Bool} (tr : ∀ a b c, le a b = true → le b c = true → le a c = true) (tot : ∀ a b, le a b = true ∨ le b a = true) (anti : ∀ a b, le a b = true → le b a = true → a = b) (xs : List α) : xs.mergeSort le = isort le xs :=
  List.Perm.eq_of_pairwise (le := fun a b => le a b = true) (fun a b _ _ => anti a b) (List.pairwise_mergeSort tr (fun a b => by
    rcases tot a b with h | h
    · rw [h]; rfl
    · rw [h, Bool.or_true]) xs) (isort_up tr tot xs) ((List.mergeSort_perm _ _).trans (isort_perm le xs).symm)
def rowB (p q : List Int) : Bool := decide (p ≤ q)
theorem sort_rowsI (xs : List (List Int)) : (xs.mergeSort fun p q => decide (p ≤ q)) = isort rowB xs :=
  sort_is (le := rowB) (fun a b c h1 h2 => decide_eq_true (List.le_trans (of_decide_eq_true h1) (of_decide_eq_true h2))) (fun a b => (List.le_total a b).imp decide_eq_true decide_eq_true) (fun a b h1 h2 => List.le_antisymm (of_decide_eq_true h1) (of_decide_eq_true h2)) xs
theorem sort_intsI (xs : List Int) : xs.mergeSort intLe = isort intLe xs :=
  sort_is (fun a b c h1 h2 => by
    unfold intLe at *
    simp only [decide_eq_true_eq] at *
    omega) (fun a b => by
    unfold intLe
    simp only [decide_eq_true_eq]
    omega) (fun a b h1 h2 => by
    unfold intLe at *
    simp only [decide_eq_true_eq] at *
    omega) xs
/-- the ints of a list in order are one list -/
theorem sorted_one {ns ns' : List Int} (p : ns'.Perm ns) (u : ns'.Pairwise (· ≤ ·)) : ns' = isort intLe ns := by
  have up := isort_up (le := intLe) (fun a b c h1 h2 => by
    unfold intLe at *
    simp only [decide_eq_true_eq] at *
    omega) (fun a b => by
    unfold intLe
    simp only [decide_eq_true_eq]
    omega) ns
  refine List.Perm.eq_of_pairwise (le := fun a b => a ≤ b) (fun a b _ _ h1 h2 => by omega) u (up.imp fun {a b} h => ?_) (p.trans (isort_perm intLe ns).symm)
  unfold intLe at h
  exact of_decide_eq_true h
theorem dl_rows {H : Hp} : ∀ {xs : List V} {rs : List (List Int)}, DLs H xs (rowsD rs) → ∃ bs : List (Addr × List Int), xs = bs.map (fun b => V.ref b.1) ∧ bs.map (·.2) = rs ∧ ∀ b ∈ bs, H b.1 = some (.lst (b.2.map V.int))
  | _, [], .nil => ⟨[], rfl, rfl, fun _ h => nomatch h⟩
  | _, r :: rs, .cons a t => by
    obtain ⟨bs, e1, e2, e3⟩ := dl_rows t
    obtain ⟨b, rfl, eb⟩ := dl_row a
    refine ⟨(b, r) :: bs, by rw [e1]; rfl, by rw [← e2]; rfl, fun c hc => ?_⟩
    rcases List.mem_cons.mp hc with e | e
    · rw [e]
      exact eb
    · exact e3 c e
theorem dl_of_rows {H : Hp} : ∀ {bs : List (Addr × List Int)}, (∀ b ∈ bs, H b.1 = some (.lst (b.2.map V.int))) → DLs H (bs.map fun b => V.ref b.1) (rowsD (bs.map (·.2)))
  | [], _ => .nil
  | b :: bs, h => .cons (dl_of_row (h b List.mem_cons_self)) (dl_of_rows fun c hc => h c (List.mem_cons_of_mem _ hc))
theorem pairs_eq : ∀ {bs cs : List (Addr × List Int)}, bs.map (fun b => V.ref b.1) = cs.map (fun b => V.ref b.1) → bs.map (·.2) = cs.map (·.2) → bs = cs
  | [], [], _, _ => rfl
  | [], _ :: _, e, _ => nomatch e
  | _ :: _, [], e, _ => nomatch e
  | (a, r) :: bs, (b, q) :: cs, e1, e2 => by
    obtain ⟨e3, e4⟩ := List.cons.inj e1
    obtain ⟨e5, e6⟩ := List.cons.inj e2
    have e3 : a = b := V.ref.inj e3
    have e5 : r = q := e5
    rw [e3, e5, pairs_eq e4 e6]
theorem dl_tup {H : Hp} {v : V} {ds : List PyData} (h : DL H v (.tuple ds)) : ∃ a xs, v = .ref a ∧ H a = some (.tup xs) ∧ DLs H xs ds := by
  cases h with
  | tup h t => exact ⟨_, _, rfl, h, t⟩
theorem dls_kept {H : Hp} {xs : List V} {ds : List PyData} (h : DLs H xs ds) : ∀ is : List Nat, (∀ i ∈ is, i < ds.length) → DLs H (is.map fun i => xs.getD i .non) (is.map fun i => ds.getD i .none)
  | [], _ => .nil
  | i :: is, hi => by
    have l : i < ds.length := hi i List.mem_cons_self
    have lx : i < xs.length := by rw [DLs.len h]; exact l
    obtain ⟨d, hd, q⟩ := DLs.at h (List.getElem?_eq_getElem lx)
    refine .cons ?_ (dls_kept h is fun j hj => hi j (List.mem_cons_of_mem _ hj))
    show DL H (xs.getD i .non) (ds.getD i .none)
    rw [List.getD_eq_getElem?_getD, List.getElem?_eq_getElem lx, List.getD_eq_getElem?_getD, hd]
    exact q
theorem nm_b {i : Nat} {v : L2.V} {t u : TS} {D : Ends} {σ : L2.St} {H : Hp} (h : tSeq t u D (σ.set i (some v)) H) : gName i v σ H (fun σ2 H2 => tSeq t u D σ2 H2) := h
theorem nm_e {i : Nat} {v : L2.V} {t u : TS} {D E' : Ends} {σ : L2.St} {H : Hp} (e : E'.nx = tSeq t u D) (h : tSeq t u D (σ.set i (some v)) H) : gName i v σ H E'.nx := by
  rw [e]
  exact h
theorem tif_of {c : TT} {t1 t2 : TE} {i : Nat} {σ : L2.St} {H : Hp} {D : Ends} {rest : TS} (Pr : V → Hp → Prop) (h : ∀ R : VK, (∀ v G, Grows H G → Pr v G → R v G) → tIf c t1 t2 σ H R) (k : ∀ v G, Grows H G → Pr v G → rest D (σ.set i (some v)) G) : tSeq (tAsg (tIf c t1 t2) (gName i)) rest D σ H := h _ k
theorem seq_no {c : TT} {a rest : TS} {D : Ends} {σ : L2.St} {H : Hp} (h : ∀ R : Bool → Hp → Prop, (∀ G, Grows H G → R false G) → c σ H R) (k : ∀ G, Grows H G → rest D σ G) : tSeq (tIfS c a tNext) rest D σ H := h _ fun G g => iteF (k G g)
theorem seq_of {t rest : TS} {D : Ends} {σ : L2.St} {H : Hp} (Pr : L2.St → Hp → Prop) (h : ∀ D' : Ends, (∀ σ G, Pr σ G → D'.nx σ G) → t D' σ H) (k : ∀ σ G, Pr σ G → rest D σ G) : tSeq t rest D σ H := h _ k
theorem units65 {A : Around} {k : Nat} (hr : Room k A) : A.units + 65 < cLine := by
  have := hr.un
  omega
theorem nm_d {i : Nat} {v : L2.V} {t : TS} {D : Ends} {σ : L2.St} {H : Hp} (h : t D (σ.set i (some v)) H) : gName i v σ H (fun σ2 H2 => t D σ2 H2) := h
theorem pe_revN {K : PySem.W.Frag} {X : Cx} {te : TE} {x : Str} {p p2 p3 p4 pos : Pos} {j : Nat} (hk : X.K = K) (he : PE X (.Name x p) te) : PE X (.Subscript (.Name x p) (.Slice none none (some (.UnaryOp .USub (.Constant (.int 1) j p2) p3)) p4) pos) (tRev K te) := by
  subst hk
  exact pe_rev he
def selL {α : Type} : List α → List α → List α
  | [], ws => ws
  | us, [] => us
  | _, _ => []
theorem cut_last (ys : List V) (v : V) : cutV (ys ++ [v]) none (some (-1)) = ys := by
  unfold cutV HT.sIx
  show List.take ((if (-1 : Int) < 0 then ((-1 : Int) + (((ys ++ [v]).length : Nat) : Int)).toNat else min (-1 : Int).toNat (ys ++ [v]).length) - 0) (List.drop 0 (ys ++ [v])) = ys
  rw [if_pos (by decide), List.drop_zero, Nat.sub_zero, List.length_append]
  show List.take ((-1 : Int) + ((ys.length + 1 : Nat) : Int)).toNat (ys ++ [v]) = ys
  rw [show ((-1 : Int) + ((ys.length + 1 : Nat) : Int)).toNat = ys.length by omega]
  exact List.take_left
end K34

namespace K34
open PySem PySem.Spec PyProof.Rows L2 SortR LcM RepA
abbrev sEvery : Stmt := top 20
/-! ### all partings of few persons -/
def evI : Nat → List (List Int)
  | 0 => [[]]
  | k + 1 => (evI k).flatMap fun r => (List.range (2 * k + 1)).map fun j : Nat => r ++ [(1 - (1 + (k : Int))) + (j : Int)]
def grpM (is : List Int) : List (List Int) := isort rowB (famB is is.length)
def everyM (n : Nat) : List (List (List Int)) := (evI (n - 1)).map grpM
def bndB (is : List Int) : Bool := (List.range is.length).all fun j => decide (-(j : Int) ≤ is.getD j 0) && decide (is.getD j 0 ≤ (j : Int))
theorem bnd_of {is : List Int} (h : bndB is = true) : Bnd is := fun j x e => by
  have l := (List.getElem?_eq_some_iff.mp e).1
  have z := List.all_eq_true.mp h j (List.mem_range.mpr l)
  have eg : is.getD j 0 = x := by rw [List.getD_eq_getElem?_getD, e]; rfl
  rw [eg, Bool.and_eq_true, decide_eq_true_eq, decide_eq_true_eq] at z
  exact z
theorem ev_all : ((List.range 5).all fun k => decide ((evI k).length ≤ 105) && (evI k).all fun r => bndB r && decide (r.length ≤ 4)) = true := by decide +kernel
theorem ev_ok {k : Nat} (h : k < 5) : (evI k).length ≤ 105 ∧ ∀ r ∈ evI k, Bnd r ∧ r.length ≤ 4 := by
  have z := List.all_eq_true.mp ev_all k (List.mem_range.mpr h)
  rw [Bool.and_eq_true, decide_eq_true_eq] at z
  refine ⟨z.1, fun r hr => ?_⟩
  have q := List.all_eq_true.mp z.2 r hr
  rw [Bool.and_eq_true, decide_eq_true_eq] at q
  exact ⟨bnd_of q.1, q.2⟩
def spEvery : Sp := fun vs H Q _ => ∃ n : Nat, vs = [.int (n : Int)] ∧ 1 ≤ n ∧ n ≤ 5 ∧ ∀ (D : Addr) (xs : List V) (H' : Hp), Grows H H' → H' D = some (.lst xs) → DLs H' xs (famsD (everyM n)) → Q (.ref D) H'
section
variable {P : Program} {w : World} {K : PySem.W.Frag} {mg : Str → Option Value} {base : Heap}
theorem scEv : FnScope ["many_here", "found", "who", "longer", "items", "item"] ["many_here"] (defScope sEvery) := ⟨rfl, rfl, rfl, by decide +kernel, rfl, by decide +kernel, by decide +kernel⟩
theorem ok_every {f fGroups : Addr} {fd dGroups : FuncData} (F : Fun K "_law_every" "_law_every" sEvery f fd) (T : TxtP mg) (FGroups : Fun K "_law_groups" "_law_groups" sGroups fGroups dGroups) (gGroups : mg "_law_groups" = some (.ref fGroups)) (bGroups : Binds K dGroups ["items"] []) :
    FnOk P w K mg base CX0 2 f fd ["many_here"] spEvery := by
  have GGroups := ok_groups (P := P) (w := w) (base := base) FGroups T
  refine F.ok scEv (fun vs H Q E h => ?_) (fun cdv A outer s H vs Q E hr h => ?_)
  · obtain ⟨n, rfl, _⟩ := h
    rfl
  · obtain ⟨n, rfl, n1, n5, k⟩ := h
    refine ⟨_, (pss_cons (ps_set (i := 1) scEv.nd rfl (.inl rfl) (pe_lst (pa_cons (pe_lst pa_nil) pa_nil)))
      (pss_cons (ps_for PassesOwn.never rfl (pi_range2 (by rfl) T.range (pa_cons pe_int (pa_cons (pv 0) pa_nil))) (pg_name (i := 2) scEv.nd rfl (.inl rfl))
      (pss_cons (ps_set (i := 3) scEv.nd rfl (.inl rfl) (pe_lst pa_nil))
      (pss_cons (ps_for PassesOwn.never rfl (pi_list (pv 1)) (pg_name (i := 4) scEv.nd rfl (.inr rfl))
      (pss_one (ps_expr (pe_bm PySem.F.plainAttrs_list PySem.F.slot_list_extend PySem.F.type_list_extend mt_extend (pv 3) (pa_cons (pe_lc (own := [("item", 5)]) (g := gName 5) (tt := tYes) rfl scEv.nd (pi_range2 (by rfl) T.range (pa_cons (pe_op op_sub pe_int (pv 2)) (pa_cons (pv 2) pa_nil))) (blkOk_by (own := [("item", 5)]) (N := ["many_here", "found", "who", "longer", "items", "item"]) (sc := defScope sEvery) (by decide +kernel)) (fun _ _ _ _ _ => pg_name (i := 5) scEv.nd rfl (Or.inl rfl)) (fun _ _ _ _ _ => pts_nil) (fun _ _ _ _ _ => (pe_op op_cat (pv 4) (pe_lst (pa_cons (pv 5) pa_nil))))) pa_nil)))))
      (pss_one (ps_set (i := 1) scEv.nd rfl (.inl rfl) (pv 3))))))
      (pss_one (ps_ret (pe_lc (own := [("items", 4)]) (g := gName 4) (tt := tYes) rfl scEv.nd (pi_list (pv 1)) (blkOk_by (own := [("items", 4)]) (N := ["many_here", "found", "who", "longer", "items", "item"]) (sc := defScope sEvery) (by decide +kernel)) (fun _ _ _ _ _ => pg_name (i := 4) scEv.nd rfl (Or.inl rfl)) (fun _ _ _ _ _ => pts_nil) (fun _ _ _ _ _ => (pe_call GGroups (hr.mono (by decide)) rfl gGroups FGroups.kp bGroups .nil pass0 (pa_cons (pv 4) pa_nil)))))))), ?_⟩
    refine ⟨(by show 0 ≤ sizeLine; decide), fun q0 hq0 => ⟨(by show 1 ≤ sizeLine; decide), fun q1 hq1 => ?_⟩⟩
    have g0 := Grows.new (o := .lst []) hq0
    have g1 := Grows.new (o := .lst [V.ref q0]) hq1
    have d0 : DLs (upd (upd H q0 (.lst [])) q1 (.lst [V.ref q0])) [V.ref q0] (rowsD (evI 0)) := .cons (.lst (g1 _ _ upd_same) .nil) .nil
    refine ⟨_, rfl, 1, (n : Int), rfl, ⟨by decide, by decide, by omega, by omega⟩, for_range (lo := 1) (n := ((n : Int) - 1).toNat) (fun i σ G => ∃ (F : Addr) (xs : List V) (o2 o3 o4 : Option V), σ = [some (.int (n : Int)), some (.ref F), o2, o3, o4, none] ∧ Grows H G ∧ G F = some (.lst xs) ∧ DLs G xs (rowsD (evI i)))
      ⟨q1, _, none, none, none, rfl, g0.trans g1, upd_same, d0⟩ (fun i σ B il ⟨F, xs, o2, o3, o4, e, gB, eF, bl⟩ => ?_) fun σ B ⟨F, xs, o2, o3, o4, e, gB, eF, bl⟩ => ?_⟩
    · subst e
      have nx : evI (i + 1) = (evI i).flatMap fun r => (List.range (2 * i + 1)).map fun j : Nat => r ++ [(1 - (1 + (i : Int))) + (j : Int)] := rfl
      obtain ⟨c1, c2⟩ := ev_ok (k := i) (by omega)
      generalize evI i = es at bl nx c1 c2
      have xl := DLs.len bl
      unfold rowsD at xl
      rw [List.length_map] at xl
      refine ⟨(by show 0 ≤ sizeLine; decide), fun L hL => ?_⟩
      have gL := Grows.new (o := .lst []) hL
      refine ⟨_, rfl, F, rfl, ⟨_, SqL.of (gL _ _ eF)⟩, for_list (K := K) (a := F) (xs := xs) (fun j σ G => ∃ (o4 : Option V) (acc : List V), σ = [some (.int (n : Int)), some (.ref F), some (.int (1 + (i : Int))), some (.ref L), o4, none] ∧ Grows B G ∧ G L = some (.lst acc) ∧ DLs (off L G) acc (rowsD ((es.take j).flatMap fun r => (List.range (2 * i + 1)).map fun j : Nat => r ++ [(1 - (1 + (i : Int))) + (j : Int)])) ∧ acc.length ≤ 9 * j)
        ⟨_, [], rfl, gL, upd_same, .nil, Nat.le_refl _⟩ (fun j σ G _ ⟨_, _, _, g, _⟩ => SqL.of (g _ _ eF)) (fun j x σ G hx ⟨o4, acc, e, g, eL, al, sz⟩ => ?_) fun σ G ⟨o4, acc, e, g, eL, al, sz⟩ => ?_⟩
      · subst e
        obtain ⟨d, hd, hdx⟩ := DLs.at bl hx
        unfold rowsD at hd
        rw [List.getElem?_map] at hd
        obtain ⟨r, hr2, rfl⟩ := Option.map_eq_some_iff.mp hd
        obtain ⟨b, rfl, eb⟩ := dl_row hdx
        have rl := (c2 r (List.mem_of_getElem? hr2)).2
        have jl := (List.getElem?_eq_some_iff.mp hr2).1
        rw [take_nextD hr2, List.flatMap_append]
        refine ⟨_, rfl, .inl ⟨rfl, _, SqL.of eL⟩, ?_⟩
        refine ⟨_, rfl, _, _, rfl, rfl, _, rfl, 1 - (1 + (i : Int)), 1 + (i : Int), rfl, ⟨by omega, by omega, by omega, by omega⟩, fun D hD => ?_⟩
        have DL1 : D ≠ L := fun z => by rw [z, eL] at hD; cases hD
        refine lc_range (lo := 1 - (1 + (i : Int))) (n := (1 + (i : Int) - (1 - (1 + (i : Int)))).toNat) (fun u G2 => Grows G G2 ∧ ∃ bs : List (Addr × List Int), G2 D = some (.lst (bs.map fun b => V.ref b.1)) ∧ (∀ b ∈ bs, G2 b.1 = some (.lst (b.2.map V.int)) ∧ b.1 ≠ D ∧ b.1 ≠ L) ∧ bs.map (·.2) = (List.range u).map fun j : Nat => r ++ [(1 - (1 + (i : Int))) + (j : Int)])
          ⟨Grows.new hD, [], upd_same, (fun _ z => nomatch z), rfl⟩ (fun u G2 ul ⟨gg, bs, eD, each, er⟩ => ?_) fun G2 ⟨gg, bs, eD, each, er⟩ => ?_
        · refine ⟨rfl, ?_⟩
          unfold tYes
          dsimp only
          rw [if_pos rfl]
          have bsl := congrArg List.length er
          rw [List.length_map, List.length_map, List.length_range] at bsl
          refine ⟨_, rfl, _, rfl, (by show 1 ≤ sizeLine; decide), fun q hq => ?_⟩
          have gq := Grows.new (o := .lst [V.int (1 - (1 + (i : Int)) + (u : Int))]) hq
          refine ⟨b, q, _, _, rfl, rfl, gq _ _ (gg _ _ (g _ _ eb)), upd_same, ?_, fun y hy => ?_⟩
          · rw [List.length_map]
            exact Nat.le_trans (show r.length + 1 ≤ 10 by omega) (by decide)
          have gy := gq.trans (Grows.new (o := .lst (r.map V.int ++ [V.int (1 - (1 + (i : Int)) + (u : Int))])) hy)
          have yD : y ≠ D := fun z => by rw [z, gq _ _ eD] at hy; cases hy
          have yL : y ≠ L := fun z => by rw [z, gq _ _ (gg _ _ eL)] at hy; cases hy
          refine ⟨_, gy _ _ eD, ?_, fun b' o e' => ?_, bs ++ [(y, r ++ [(1 - (1 + (i : Int))) + (u : Int)])], ?_, fun c hc => ?_, ?_⟩
          · rw [List.length_map]
            exact small1000 (by omega)
          · rw [upd_ne (ne_of_none e' hD)]
            exact gy _ _ (gg _ _ e')
          · rw [upd_same, List.map_append]
            rfl
          · rcases List.mem_append.mp hc with m | m
            · obtain ⟨m1, m2, m3⟩ := each c m
              exact ⟨by rw [upd_ne m2]; exact gy _ _ m1, m2, m3⟩
            · rw [List.mem_singleton.mp m]
              refine ⟨?_, yD, yL⟩
              rw [upd_ne yD, upd_same, List.map_append]
              rfl
          · rw [List.map_append, er, List.range_succ, List.map_append]
            rfl
        · have en : (1 + (i : Int) - (1 - (1 + (i : Int)))).toNat = 2 * i + 1 := by omega
          rw [en] at er
          have bsl := congrArg List.length er
          rw [List.length_map, List.length_map, List.length_range] at bsl
          have eL2 := gg _ _ eL
          refine ⟨L, D, acc, _, rfl, rfl, eL2, eD, ?_, _, acc ++ bs.map fun b => V.ref b.1, rfl, upd_D hL (g.trans gg), upd_same, ?_, ?_⟩
          · rw [List.length_map]
            exact Nat.le_trans (show acc.length + bs.length ≤ 10000 by omega) (by decide)
          · rw [off_upd, rowsD_app]
            refine DLs.app (DLs.grow (off_grow gg) al) ?_
            have z := dl_of_rows (H := off L G2) (bs := bs) fun c hc => off_at (each c hc).1 (each c hc).2.2
            rw [er] at z
            show DLs _ _ (rowsD ([r].flatMap _))
            rw [List.flatMap_cons, List.flatMap_nil, List.append_nil]
            exact z
          · rw [List.length_append, List.length_map]
            omega
      · subst e
        rw [xl, List.take_length, ← nx] at al
        exact ⟨_, rfl, L, acc, _, _, _, rfl, gB.trans g, eL, DLs.grow off_le al⟩
    · subst e
      have ei : ((n : Int) - 1).toNat = n - 1 := by omega
      rw [ei] at bl
      obtain ⟨c1, c2⟩ := ev_ok (k := n - 1) (by omega)
      have xl := DLs.len bl
      unfold rowsD at xl
      rw [List.length_map] at xl
      refine ⟨_, rfl, F, rfl, ⟨_, SqL.of eF⟩, fun D hD => lc_listDL (K := K) (fun _ => true) (fun d => .list (rowsD (grpM (toR d)))) hD (SqL.of eF) bl (by unfold rowsD; rw [List.length_map]; omega) (fun j x d G Ry Rn hd gg go hdx nD kY kN => ?_) fun G acc g1 eD al => ?_⟩
      · obtain ⟨r, hr2, rfl⟩ := List.mem_map.mp (List.mem_of_getElem? hd)
        obtain ⟨b, rfl, eb⟩ := dl_row hdx
        obtain ⟨r1, r2⟩ := c2 r hr2
        rw [toR_row] at kY
        refine ⟨rfl, ?_⟩
        unfold tYes
        refine iteT ⟨_, rfl, b, r, rfl, SqL.of (off_le _ _ eb), r1, by omega, fun p cs H' g2 np ep each ec => kY rfl _ _ g2 (.lst (off_at ep fun z => nD (by rw [← z]; exact np)) ?_)⟩
        have z := dl_of_rows (H := off D H') (bs := cs) fun c hc => off_at (each c hc).1 fun z => nD (by rw [← z]; exact (each c hc).2)
        have e2 : cs.map (·.2) = grpM r := ec.trans (sort_rowsI _)
        rw [e2] at z
        exact z
      · rw [filt_yes] at al
        have e9 : (rowsD (evI (n - 1))).map (fun d => PyData.list (rowsD (grpM (toR d)))) = famsD (everyM n) := by
          unfold famsD everyM rowsD
          rw [List.map_map, List.map_map]
          refine List.map_congr_left fun r _ => ?_
          show PyData.list (rowsD (grpM (toR (rowD r)))) = _
          rw [toR_row]
          rfl
        rw [e9] at al
        exact k D acc G (gB.trans g1) eD (DLs.grow off_le al)
end
end K34

namespace K34
open PySem PySem.Spec PyProof.Rows L2 SortR LcM RepA
abbrev sHalves : Stmt := top 21
/-- both parts of a group -/
def firM (rs : List (List Int)) (g : List Int) : List Int := rs.foldl (fun f r => if f.length < r.length ∧ r.length < g.length ∧ g.getD 0 0 ∈ r then r else f) (g.take 1)
def secM (rs : List (List Int)) (g : List Int) : List Int := g.filter fun x => decide (x ∉ firM rs g)
theorem firM_next {rs : List (List Int)} {g r : List Int} {i : Nat} (h : rs[i]? = some r) : firM (rs.take (i + 1)) g = if (firM (rs.take i) g).length < r.length ∧ r.length < g.length ∧ g.getD 0 0 ∈ r then r else firM (rs.take i) g := by
  unfold firM
  rw [take_nextD h, List.foldl_append]
  rfl
structure Rw (K : PySem.W.Frag) (H : Hp) (a : Addr) (bs : List (Addr × List Int)) : Prop where
  top : SqL K H a (bs.map fun b => V.ref b.1)
  each : ∀ b ∈ bs, SqL K H b.1 (b.2.map V.int)
theorem Rw.keep {K : PySem.W.Frag} {H H' : Hp} {a : Addr} {bs : List (Addr × List Int)} (r : Rw K H a bs) (s : Grows H H') : Rw K H' a bs := ⟨s.seq r.top, fun b m => s.seq (r.each b m)⟩
theorem filt (p : Int → Bool) (g : List Int) : (((List.range g.length).filter fun i => p (g.getD i 0)).map fun i => g.getD i 0) = g.filter p := by
  have e : g = (List.range g.length).map fun i => g.getD i 0 := by
    refine List.ext_getElem (by rw [List.length_map, List.length_range]) fun i h1 h2 => ?_
    rw [List.getElem_map, List.getElem_range, List.getD_eq_getElem?_getD, List.getElem?_eq_getElem h1]
    rfl
  have z : ((List.range g.length).map fun i => g.getD i 0).filter p = ((List.range g.length).filter fun i => p (g.getD i 0)).map fun i => g.getD i 0 := List.filter_map ..
  rw [← z, ← e]
/-- a new list of both parts of a group -/
def spHalves (K : PySem.W.Frag) : Sp := fun vs H Q _ => ∃ (a b : Addr) (bs : List (Addr × List Int)) (g : List Int), vs = [.ref a, .ref b] ∧ Rw K H a bs ∧ SqL K H b (g.map V.int) ∧ g ≠ [] ∧ g.length ≤ 1000 ∧
  ∀ (p q1 q2 : Addr) (H' : Hp), Grows H H' → H' p = some (.lst [.ref q1, .ref q2]) → SqL K H' q1 ((firM (bs.map (·.2)) g).map V.int) → SqL K H' q2 ((secM (bs.map (·.2)) g).map V.int) → Q (.ref p) H'
section
variable {P : Program} {w : World} {K : PySem.W.Frag} {mg : Str → Option Value} {base : Heap}
theorem scHalves : FnScope ["lot", "row", "first", "inner", "who"] ["lot", "row"] (defScope sHalves) := ⟨rfl, rfl, rfl, by decide +kernel, rfl, by decide +kernel, by decide +kernel⟩
theorem ok_halves {f : Addr} {fd : FuncData} (F : Fun K "_law_halves" "_law_halves" sHalves f fd) (T : TxtP mg) : FnOk P w K mg base CX0 1 f fd ["lot", "row"] (spHalves K) := by
  refine F.ok scHalves (fun vs H Q E h => ?_) (fun cdv A outer s H vs Q E hr h => ?_)
  · obtain ⟨a, b, bs, g, rfl, _⟩ := h
    rfl
  · obtain ⟨a, b, bs, g, rfl, hB, hb, hne, gl, k⟩ := h
    refine ⟨_, (pss_cons (ps_set (i := 2) scHalves.nd rfl (.inr rfl) (pe_slice (r := rSlL K) sl_list (pv 1) po_none (po_some pe_int)))
      (pss_cons (ps_for PassesOwn.never rfl (pi_list (pv 0)) (pg_name (i := 3) scHalves.nd rfl (.inl rfl))
      (pss_one (ps_if (PW.pt (pw_and (pt_chain op_lt op_lt (pe_callB call_len_seq (by rfl) T.len (by decide +kernel) (pa_cons (pv 2) pa_nil)) (pe_callB call_len_seq (by rfl) T.len (by decide +kernel) (pa_cons (pv 3) pa_nil)) (pe_callB call_len_seq (by rfl) T.len (by decide +kernel) (pa_cons (pv 1) pa_nil))) (pw_and1 (pt_cmpR (r := rIn K false) (by exact op_in_seq) (pe_ix (r := rIxL K) ix_list (pv 1) pe_int (fun _ _ => rfl)) (pv 3) (by rfl))))) (pss_one (ps_set (i := 2) scHalves.nd rfl (.inr rfl) (pv 3))) pss_nil)))
      (pss_one (ps_ret (pe_lst (pa_cons (pv 2) (pa_cons (pe_lc (own := [("who", 4)]) (g := gName 4)  rfl scHalves.nd (pi_list (pv 1)) (blkOk_by (own := [("who", 4)]) (N := ["lot", "row", "first", "inner", "who"]) (sc := defScope sHalves) (by decide +kernel)) (fun _ _ _ _ _ => pg_name (i := 4) scHalves.nd rfl (Or.inl rfl)) (fun _ _ _ _ _ => (pts_one (pt_cmpR (r := rIn K true) (by exact op_notIn_seq) (pv 4) (pv 2) (by rfl)))) (fun _ _ _ _ _ => (pv 4))) pa_nil))))))), ?_⟩
    refine ⟨_, rfl, _, rfl, b, _, rfl, hb, fun f0 hf0 => ?_⟩
    rw [cut_take _ (by decide), show (1 : Int).toNat = 1 from rfl, ← List.map_take]
    have g0 : Grows H (upd H f0 (.lst ((g.take 1).map V.int))) := Grows.new hf0
    have head : atI (g.map V.int) 0 = some (.int (g.getD 0 0)) := by
      cases g with
      | nil => exact absurd rfl hne
      | cons x t => exact atI_nat (j := 0) rfl
    refine ⟨_, rfl, a, rfl, ⟨_, (hB.keep g0).top⟩, for_list (K := K) (a := a) (xs := bs.map fun b => V.ref b.1) (fun i σ G => ∃ f o, σ = [some (.ref a), some (.ref b), some (.ref f), o, none] ∧ Grows H G ∧ SqL K G f ((firM ((bs.map (·.2)).take i) g).map V.int))
      ⟨f0, none, rfl, g0, SqL.of upd_same⟩ (fun i σ G _ ⟨_, _, _, g', _⟩ => (hB.keep g').top) (fun i x σ G hx ⟨f, o, e, g', ef⟩ => ?_) fun σ G ⟨f, o, e, g', ef⟩ => ?_⟩
    · subst e
      rw [List.getElem?_map] at hx
      obtain ⟨c, hc, rfl⟩ := Option.map_eq_some_iff.mp hx
      have er : (bs.map (·.2))[i]? = some c.2 := by rw [List.getElem?_map, hc]; rfl
      rw [firM_next er]
      have ei := (hB.keep g').each c (List.mem_of_getElem? hc)
      have eb := g'.seq hb
      generalize firM ((bs.map (·.2)).take i) g = fr at ef ⊢
      refine ⟨_, rfl, f, _, rfl, .inl ef, _, rfl, _, _, rfl, .inl ei, _, _, rfl, rfl, _, rfl, ?_⟩
      rw [List.length_map, List.length_map]
      by_cases h2 : fr.length < c.2.length
      · rw [if_pos (decide_eq_true (show ((fr.length : Nat) : Int) < (c.2.length : Nat) by omega))]
        refine ⟨_, rfl, b, _, rfl, .inl eb, _, _, rfl, rfl, _, rfl, ?_⟩
        rw [List.length_map]
        by_cases h3 : c.2.length < g.length
        · rw [decide_eq_true (show ((c.2.length : Nat) : Int) < (g.length : Nat) by omega)]
          refine iteT ⟨_, rfl, _, _, 0, _, rfl, rfl, eb, head, _, rfl, _, _, rfl, .inl ei, rfl, flat_ints _, _, rfl, ?_⟩
          show if inV (V.int (g.getD 0 0)) (c.2.map V.int) = true then _ else _
          rw [inV_ints]
          by_cases h1 : g.getD 0 0 ∈ c.2
          · rw [decide_eq_true h1]
            refine iteT ⟨_, rfl, _, _, rfl, g', ?_⟩
            rw [if_pos ⟨h2, h3, h1⟩]
            exact ei
          · rw [decide_eq_false h1]
            exact iteF ⟨f, _, rfl, g', by rw [if_neg fun z => h1 z.2.2]; exact ef⟩
        · rw [decide_eq_false (show ¬ ((c.2.length : Nat) : Int) < (g.length : Nat) by omega)]
          exact iteF (iteF ⟨f, _, rfl, g', by rw [if_neg fun z => h3 z.2.1]; exact ef⟩)
      · rw [if_neg (by rw [decide_eq_false (show ¬ ((fr.length : Nat) : Int) < (c.2.length : Nat) by omega)]; exact Bool.false_ne_true)]
        exact ⟨_, rfl, iteF (iteF ⟨f, _, rfl, g', by rw [if_neg fun z => h2 z.1]; exact ef⟩)⟩
    · subst e
      rw [List.length_map, show (bs.map (·.2)).take bs.length = bs.map (·.2) from List.take_of_length_le (by rw [List.length_map]; exact Nat.le_refl _)] at ef
      have eb := g'.seq hb
      refine ⟨_, rfl, _, rfl, b, rfl, ⟨_, eb⟩, fun D hD => lc_listT (K := K) (fun i => decide (g.getD i 0 ∉ firM (bs.map (·.2)) g)) (fun i => V.int (g.getD i 0)) hD eb (by rw [List.length_map]; omega) (fun i x G2 Ry Rn hx sm ky kn => ?_) fun G2 sm eD => ?_⟩
      · obtain rfl := at_map (d := 0) hx
        refine ⟨rfl, _, rfl, _, rfl, f, _, rfl, .inl (sm.seq ef), rfl, flat_ints _, _, rfl, ?_⟩
        show if (!inV (V.int (g.getD i 0)) ((firM (bs.map (·.2)) g).map V.int)) = true then _ else _
        rw [inV_ints]
        by_cases m : g.getD i 0 ∈ firM (bs.map (·.2)) g
        · rw [decide_eq_true m]
          exact iteF (kn (decide_eq_false fun z => z m) _ .refl)
        · rw [decide_eq_false m]
          exact iteT ⟨_, rfl, ky (decide_eq_true m) _ .refl⟩
      · rw [List.length_map] at eD
        have ek : kept (fun i => decide (g.getD i 0 ∉ firM (bs.map (·.2)) g)) (fun i => V.int (g.getD i 0)) g.length = (secM (bs.map (·.2)) g).map V.int := by
          unfold kept secM
          rw [← filt (fun x => decide (x ∉ firM (bs.map (·.2)) g)) g, List.map_map]
          rfl
        rw [ek] at eD
        refine ⟨(by show 2 ≤ sizeLine; decide), fun p hp => ?_⟩
        have gp : Grows G2 (upd G2 p (.lst [V.ref f, V.ref D])) := Grows.new hp
        exact k p f D _ ((g'.trans sm).trans gp) upd_same ((sm.trans gp).seq ef) (SqL.of (gp _ _ eD))
end
end K34

namespace K34
open PySem PySem.Spec PyProof.Rows L2 SortR LcM RepA
abbrev sCosts : Stmt := top 22
theorem rg_upto (k : Nat) : rgV 0 (k : Int) = (upto k).map L2.V.int := by
  rw [rg_ints, Int.toNat_natCast]
  unfold upto
  rw [List.map_map, List.map_map]
  refine List.map_congr_left fun i _ => ?_
  show L2.V.int (0 + (i : Nat)) = L2.V.int (i : Nat)
  rw [Int.zero_add]
theorem upto_len (k : Nat) : (upto k).length = k := by
  unfold upto
  rw [List.length_map, List.length_range]
theorem upto_in {k : Nat} {z : Int} : z ∈ upto k ↔ 0 ≤ z ∧ z < k := by
  unfold upto
  rw [List.mem_map]
  constructor
  · rintro ⟨i, hi, rfl⟩
    have := List.mem_range.mp hi
    omega
  · rintro ⟨h0, h1⟩
    exact ⟨z.toNat, List.mem_range.mpr (by omega), by omega⟩
/-- repr of a row of small numbers -/
def txt (r : List Int) : Str := (PyData.list (r.map .int)).shown
def rReprI (K : PySem.W.Frag) : List V → Hp → VK → Prop := fun xs H Q => ∃ (a : Addr) (r : List Int), xs = [V.ref a] ∧ SqL K H a (r.map V.int) ∧ r.length ≤ 100 ∧ (∀ x ∈ r, 0 ≤ x ∧ x < 20) ∧ Q (.str (txt r)) H
theorem cr_reprI {X : Cx} (hg : X.A.guards = some []) (hu : X.A.units + 64 < cLine) : CallR X (.builtin "repr") (rReprI X.K) := by
  intro pins s σ H xs us Q I r h
  obtain ⟨a, ns, e, hs, hl, hn, q⟩ := h
  have sm : Smalls ns := fun x hx => by
    have := hn x hx
    exact Nat.lt_of_le_of_lt (show x.natAbs ≤ 20 by omega) (by decide)
  have br := brief_ints sm
  refine call_reprL hg hu pins s σ H xs us Q I r ⟨a, _, _, e, hs, DdAll.of_dp (rows_dp ns), show_ints ns sm, ?_, ?_, q⟩
  · rw [PySem.W.depth_ints]
    decide
  · have e : (PyData.list (ns.map .int)).shown = listText (PyData.shownAll (ns.map .int)) := by simp only [PyData.shown]
    rw [← e]
    refine PyData.shown_fits (B := 13) (by decide) (by decide) br.lv ?_
    have := br.wt
    omega
theorem txt_inj {r s : List Int} (nr : r ≠ []) (ns : s ≠ []) (hr : ∀ x ∈ r, 0 ≤ x ∧ x < 20) (hs : ∀ x ∈ s, 0 ≤ x ∧ x < 20) (e : txt r = txt s) : r = s := shown_inj nr ns hr hs e

/-! ### what groups cost -/
abbrev Cst := List (List Int × (Int × Int))
def look (tb : Cst) (x : List Int) : Option (Int × Int) := (tb.find? fun p => decide (p.1 = x)).map (·.2)
def node (l r : Int × Int) : Int × Int := (min l.1 (l.2 + 1) + min r.1 (r.2 + 1), min l.2 (l.1 + 1) + min r.2 (r.1 + 1))
def chS (rs : List (List Int)) (tb : Cst) (row : List Int) : Cst := (row, node ((look tb (firM rs row)).getD (0, 0)) ((look tb (secM rs row)).getD (0, 0))) :: tb
def tbL (gs : List Int) : Nat → Cst
  | 0 => []
  | i + 1 => ([(i : Int)], if (i : Int) ∈ gs then (99, 0) else (0, 99)) :: tbL gs i
def lenB (p q : List Int) : Bool := decide (p.length < q.length ∨ (p.length = q.length ∧ p ≤ q))
def srtM (rs : List (List Int)) : List (List Int) := isort lenB rs
def tbR (rs : List (List Int)) (n : Nat) (gs : List Int) (i : Nat) : Cst := ((srtM rs).take i).foldl (chS rs) (tbL gs n)
def chM (rs : List (List Int)) (n : Nat) (gs : List Int) : Int := let c := (look (tbR rs n gs rs.length) (upto n)).getD (0, 0); min c.1 c.2
def keyB (x : List Int) : Bool := !x.isEmpty && decide (x.length ≤ 20) && x.all fun z => decide (0 ≤ z) && decide (z < 20)
def chOk (rs : List (List Int)) (n : Nat) (gs : List Int) : Bool := decide (rs.length < 20) && decide (n ≤ 20) && rs.all keyB && ((List.range rs.length).all fun i => let r := (srtM rs).getD i []; let t := tbR rs n gs i; (look t (firM rs r)).isSome && (look t (secM rs r)).isSome && keyB (firM rs r) && keyB (secM rs r)) && (look (tbR rs n gs rs.length) (upto n)).isSome
theorem key_ok {x : List Int} (h : keyB x = true) : x ≠ [] ∧ x.length ≤ 100 ∧ ∀ z ∈ x, 0 ≤ z ∧ z < 20 := by
  unfold keyB at h
  simp only [Bool.and_eq_true, decide_eq_true_eq, List.all_eq_true, Bool.not_eq_true'] at h
  exact ⟨fun e => (by rw [e] at h; exact absurd h.1.1 (by decide)), by omega, fun z hz => h.2 z hz⟩
theorem srt_is (ds : List Pr) : (ds.mergeSort lenLe).map (·.2.2) = srtM (ds.map (·.2.2)) := by
  have e : (ds.mergeSort lenLe).map (·.2.2) = (ds.map (·.2.2)).mergeSort lenB := List.map_mergeSort fun _ _ _ _ => rfl
  rw [e]
  refine sort_is (le := lenB) (fun a b c h1 h2 => len_trans (0, 0, a) (0, 0, b) (0, 0, c) h1 h2) (fun a b => ?_) (fun a b h1 h2 => ?_) _
  · have z := len_total (0, 0, a) (0, 0, b)
    rw [Bool.or_eq_true] at z
    exact z
  · unfold lenB at h1 h2
    rw [decide_eq_true_eq] at h1 h2
    rcases h1 with h1 | h1 <;> rcases h2 with h2 | h2
    · omega
    · omega
    · omega
    · exact List.le_antisymm h1.2 h2.2
theorem look_cons {x y : List Int} {c : Int × Int} {tb : Cst} : look ((x, c) :: tb) y = if x = y then some c else look tb y := by
  unfold look
  rw [List.find?_cons]
  by_cases e : x = y
  · rw [decide_eq_true e, if_pos e]
    rfl
  · rw [decide_eq_false e, if_neg e]
theorem look_mem {x : List Int} {c : Int × Int} {tb : Cst} (h : look tb x = some c) : (x, c) ∈ tb := by
  unfold look at h
  obtain ⟨p, hp, e⟩ := Option.map_eq_some_iff.mp h
  have m := List.mem_of_find?_eq_some hp
  have q := List.find?_some hp
  rw [decide_eq_true_eq] at q
  rw [← q, ← e]
  exact m
structure TbOk (G : Hp) (t : Addr) (tb : Cst) (kvs : List (L2.Key × L2.V)) : Prop where
  top : G t = some (.dK kvs)
  len : kvs.length ≤ tb.length
  ok : ∀ p ∈ tb, keyB p.1 = true
  val : ∀ x c, look tb x = some c → ∃ q, valV kvs (Sum.inr (txt x)) = some (.ref q) ∧ G q = some (.lst [.int c.1, .int c.2])
theorem TbOk.grow {G G' : Hp} {t : Addr} {tb : Cst} {kvs : List (L2.Key × L2.V)} (h : TbOk G t tb kvs) (g : Grows G G') : TbOk G' t tb kvs :=
  ⟨g _ _ h.top, h.len, h.ok, fun x c hx => by
    obtain ⟨q, e1, e2⟩ := h.val x c hx
    exact ⟨q, e1, g _ _ e2⟩⟩
theorem TbOk.put {G : Hp} {t q : Addr} {x : List Int} {c : Int × Int} {tb : Cst} {kvs : List (L2.Key × L2.V)} (h : TbOk G t tb kvs) (hx : keyB x = true) (eq : G q = some (.lst [.int c.1, .int c.2])) :
    TbOk (upd G t (.dK (putK kvs (Sum.inr (txt x)) (.ref q)))) t ((x, c) :: tb) (putK kvs (Sum.inr (txt x)) (.ref q)) := by
  have ne : ∀ {q' : Addr} {xs : List L2.V}, G q' = some (.lst xs) → q' ≠ t := fun e z => by
    rw [z, h.top] at e
    cases e
  refine ⟨upd_same, ?_, fun p hp => ?_, fun y d hy => ?_⟩
  · have := length_putK kvs (Sum.inr (txt x)) (.ref q)
    have := h.len
    rw [List.length_cons]
    omega
  · rcases List.mem_cons.mp hp with e | e
    · rw [e]
      exact hx
    · exact h.ok p e
  · rw [valV_put]
    rw [look_cons] at hy
    by_cases e : x = y
    · rw [if_pos e] at hy
      cases hy
      rw [e, if_pos rfl]
      exact ⟨q, rfl, (upd_ne (ne eq)).trans eq⟩
    · rw [if_neg e] at hy
      obtain ⟨q', e1, e2⟩ := h.val y d hy
      have k1 := key_ok (h.ok _ (look_mem hy))
      have k2 := key_ok hx
      rw [if_neg fun z => e (txt_inj k2.1 k1.1 k2.2.2 k1.2.2 (Sum.inr.inj z).symm)]
      exact ⟨q', e1, (upd_ne (ne e2)).trans e2⟩
theorem tbL_len (gs : List Int) : ∀ i, (tbL gs i).length = i
  | 0 => rfl
  | i + 1 => congrArg (· + 1) (tbL_len gs i)
theorem tbR_next {rs : List (List Int)} {n : Nat} {gs : List Int} {i : Nat} {r : List Int} (h : (srtM rs)[i]? = some r) : tbR rs n gs (i + 1) = chS rs (tbR rs n gs i) r := by
  unfold tbR
  rw [take_nextD h, List.foldl_append]
  rfl
theorem tbR_len (rs : List (List Int)) (n : Nat) (gs : List Int) : ∀ i, (tbR rs n gs i).length ≤ n + i
  | 0 => by
    show (tbL gs n).length ≤ _
    rw [tbL_len]
    omega
  | i + 1 => by
    have z := tbR_len rs n gs i
    rcases Option.eq_none_or_eq_some (srtM rs)[i]? with e | ⟨r, e⟩
    · have l := List.getElem?_eq_none_iff.mp e
      unfold tbR at z ⊢
      rw [List.take_of_length_le (by omega)]
      rw [List.take_of_length_le l] at z
      omega
    · rw [tbR_next e]
      show (tbR rs n gs i).length + 1 ≤ _
      omega
/-- the least number of changes, by what groups cost -/
def spCosts (K : PySem.W.Frag) : Sp := fun vs H Q _ => ∃ (a b : Addr) (n : Nat) (bs : List (Addr × List Int)) (gs : List Int), vs = [.ref a, .int (n : Int), .ref b] ∧ H a = some (.lst (bs.map fun b => V.ref b.1)) ∧ (∀ c ∈ bs, H c.1 = some (.lst (c.2.map V.int))) ∧ H b = some (.lst (gs.map V.int)) ∧ chOk (bs.map (·.2)) n gs = true ∧
  ∀ H', Grows H H' → Q (.int (chM (bs.map (·.2)) n gs)) H'
section
variable {P : Program} {w : World} {K : PySem.W.Frag} {mg : Str → Option Value} {base : Heap}
theorem scCosts : FnScope ["lot", "many_here", "gang", "table", "who", "size_here", "row", "costs", "mark", "below", "half", "cost"] ["lot", "many_here", "gang"] (defScope sCosts) := ⟨rfl, rfl, rfl, by decide +kernel, rfl, by decide +kernel, by decide +kernel⟩
theorem ok_costs {f fHalves : Addr} {fd dHalves : FuncData} (F : Fun K "_law_changes" "_law_changes" sCosts f fd) (T : TxtP mg) (T0 : Txt0 mg) (gRepr : mg "repr" = none) (GHalves : FnOk P w K mg base CX0 1 fHalves dHalves ["lot", "row"] (spHalves K)) (FHalves : Fun K "_law_halves" "_law_halves" sHalves fHalves dHalves) (gHalves : mg "_law_halves" = some (.ref fHalves)) (bHalves : Binds K dHalves ["lot", "row"] []) : FnG P w K mg base CX0 2 f fd ["lot", "many_here", "gang"] (spCosts K) := by
  refine okG F scCosts (fun vs H Q E h => ?_) (fun cdv A outer s H vs Q E hr noG h => ?_)
  · obtain ⟨a, b, n, bs, gs, rfl, _⟩ := h
    rfl
  · obtain ⟨a, b, n, bs, gs, rfl, hBt, hBe, hb, ok, k⟩ := h
    refine ⟨_, (pss_cons (ps_set (i := 3) scCosts.nd rfl (.inr rfl) pe_dnewK)
      (pss_cons (ps_for PassesOwn.never rfl (pi_range1 (by rfl) T.range (pa_cons (pv 1) pa_nil)) (pg_name (i := 4) scCosts.nd rfl (.inl rfl))
      (pss_one (ps_dput (hu_of hr) (pv 3) (pe_callB (id := "repr") (r := rReprI K) (by exact cr_reprI noG hr.units) (by rfl) gRepr (by decide +kernel) (pa_cons (pe_lst (pa_cons (pv 4) pa_nil)) pa_nil)) (pe_ifExp (pt_cmpR (r := rIn K false) (by exact op_in_seq) (pv 4) (pv 2) (by rfl)) (pe_lst (pa_cons pe_int (pa_cons pe_int pa_nil))) (pe_lst (pa_cons pe_int (pa_cons pe_int pa_nil)))) rfl)))
      (pss_cons (ps_for PassesOwn.never rfl (pi_list (pe_callB (call_sortedP hr.units) (by rfl) T.sorted (by decide +kernel) (pa_cons (pe_lc (own := [("row", 6)]) (g := gName 6) (tt := tYes) rfl scCosts.nd (pi_list (pv 0)) (blkOk_by (own := [("row", 6)]) (N := ["lot", "many_here", "gang", "table", "who", "size_here", "row", "costs", "mark", "below", "half", "cost"]) (sc := defScope sCosts) (by decide +kernel)) (fun _ _ _ _ _ => pg_name (i := 6) scCosts.nd rfl (Or.inl rfl)) (fun _ _ _ _ _ => pts_nil) (fun _ _ _ _ _ => (pe_tup (pa_cons (pe_callB (id := "len") (r := rLenS K) (by exact call_lenK) (by rfl) T.len (by decide +kernel) (pa_cons (pv 6) pa_nil)) (pa_cons (pv 6) pa_nil))))) pa_nil))) (pg_tup (by rfl) (pgs_cons (pg_name (i := 5) scCosts.nd rfl (.inl rfl)) (pgs_cons (pg_name (i := 6) scCosts.nd rfl (.inl rfl)) pgs_nil)))
      (pss_cons (ps_set (i := 7) scCosts.nd rfl (.inl rfl) (pe_lst pa_nil))
      (pss_cons (ps_for PassesOwn.never rfl (pi_tup (pe_tup (pa_cons pe_int (pa_cons pe_int pa_nil)))) (pg_name (i := 8) scCosts.nd rfl (.inr rfl))
      (pss_cons (ps_setLc (i := 9) (own := [("half", 10)]) (g := gName 10) (tt := tYes) rfl scCosts.nd rfl rfl (sw_true rfl rfl rfl (by decide +kernel)) (pi_list (pe_call GHalves (hr.mono (by decide)) rfl gHalves FHalves.kp bHalves .nil pass0 (pa_cons (pv 0) (pa_cons (pv 6) pa_nil)))) (blkOk_by (own := [("half", 10)]) (N := ["lot", "many_here", "gang", "table", "who", "size_here", "row", "costs", "mark", "below", "half", "cost"]) (sc := defScope sCosts) (by decide +kernel)) (fun _ _ _ _ _ => pg_name (i := 10) scCosts.nd rfl (Or.inl rfl)) (fun _ _ _ _ _ => pts_nil) (fun _ _ _ _ _ => (pe_dget (hu_of hr) (pv 3) (pe_callB (id := "repr") (r := rReprI K) (by exact cr_reprI noG hr.units) (by rfl) gRepr (by decide +kernel) (pa_cons (pv 10) pa_nil)) (fun _ _ => rfl))))
      (pss_one (ps_expr (pe_bm PySem.F.plainAttrs_list PySem.F.slot_list_append PySem.F.type_list_append mt_append (pv 7) (pa_cons (pe_callB (id := "sum") (r := rSum K) (by exact cr_sum rfl) (by rfl) T.sum (by decide +kernel) (pa_cons (pe_lc (own := [("cost", 11)]) (g := gName 11) (tt := tYes) rfl scCosts.nd (pi_list (pv 9)) (blkOk_by (own := [("cost", 11)]) (N := ["lot", "many_here", "gang", "table", "who", "size_here", "row", "costs", "mark", "below", "half", "cost"]) (sc := defScope sCosts) (by decide +kernel)) (fun _ _ _ _ _ => pg_name (i := 11) scCosts.nd rfl (Or.inl rfl)) (fun _ _ _ _ _ => pts_nil) (fun _ _ _ _ _ => (pe_callB (call_min2 rfl) (by rfl) T0.min (by decide +kernel) (pa_cons (pe_ix (r := rIxL K) ix_list (pv 11) (pv 8) (fun _ _ => rfl)) (pa_cons (pe_op op_add (pe_ix (r := rIxL K) ix_list (pv 11) (pe_op op_sub pe_int (pv 8)) (fun _ _ => rfl)) pe_int) pa_nil))))) pa_nil)) pa_nil))))))
      (pss_one (ps_dput (hu_of hr) (pv 3) (pe_callB (id := "repr") (r := rReprI K) (by exact cr_reprI noG hr.units) (by rfl) gRepr (by decide +kernel) (pa_cons (pv 6) pa_nil)) (pv 7) rfl)))))
      (pss_one (ps_ret (pe_callB (id := "min") (r := rMin K) (by exact cr_min rfl) (by rfl) T0.min (by decide +kernel) (pa_cons (pe_dget (hu_of hr) (pv 3) (pe_callB (id := "repr") (r := rReprI K) (by exact cr_reprI noG hr.units) (by rfl) gRepr (by decide +kernel) (pa_cons (pe_listRg rfl (by rfl) T.list (prg_1 (by rfl) T.range (pv 1))) pa_nil)) (fun _ _ => rfl)) pa_nil))))))), ?_⟩
    obtain ⟨rs, ers⟩ : ∃ rs, rs = bs.map (·.2) := ⟨_, rfl⟩
    have rl : rs.length = bs.length := by rw [ers, List.length_map]
    rw [← ers] at k ok
    unfold chOk at ok
    simp only [Bool.and_eq_true, decide_eq_true_eq, List.all_eq_true, Option.isSome_iff_exists] at ok
    obtain ⟨⟨⟨⟨few, n20⟩, okR⟩, okT⟩, okE⟩ := ok
    refine fun M hM => ?_
    show tSeq _ _ _ [some (.ref a), some (.int (n : Int)), some (.ref b), some (.ref M), none, none, none, none, none, none, none, none] (upd H M (.dK []))
    have gM := Grows.new (o := .dK []) hM
    have tb0 : TbOk (upd H M (.dK [])) M (tbL gs 0) [] := ⟨upd_same, Nat.le_refl _, (fun p hp => nomatch hp), fun x c hx => nomatch hx⟩
    generalize upd H M (.dK []) = H1 at gM tb0
    refine ⟨_, rfl, _, rfl, by omega, by omega, for_range (lo := 0) (n := (n : Int).toNat) (fun i σ G => ∃ (o4 : Option L2.V) (kvs : List (L2.Key × L2.V)), σ = [some (.ref a), some (.int (n : Int)), some (.ref b), some (.ref M), o4, none, none, none, none, none, none, none] ∧ Grows H G ∧ TbOk G M (tbL gs i) kvs)
      ⟨none, [], rfl, gM, tb0⟩ (fun i σ G hi ⟨o4, kvs, e, g, tb⟩ => ?_) fun σ G ⟨o4, kvs, e, g, tb⟩ => ?_⟩
    · subst e
      rw [Int.toNat_natCast] at hi
      have hb1 := g _ _ hb
      refine nm_d ?_
      dsimp only [List.set_cons_succ, List.set_cons_zero]
      refine ⟨_, rfl, _, rfl, b, _, rfl, .inl (SqL.of hb1), rfl, flat_ints _, _, rfl, ?_⟩
      show if inV (V.int (0 + (i : Int))) (gs.map V.int) = true then _ else _
      rw [inV_ints, Int.zero_add]
      have hx : keyB [(i : Int)] = true := by
        unfold keyB
        simp only [List.isEmpty_cons, List.length_cons, List.length_nil, List.all_cons, List.all_nil, Bool.and_true, Bool.and_eq_true, decide_eq_true_eq]
        exact ⟨⟨rfl, by decide⟩, by omega, by omega⟩
      have next : ∀ (q : Addr) (G' : Hp) (c : Int × Int), Grows G G' → c = (if (i : Int) ∈ gs then (99, 0) else (0, 99)) → G' q = some (.lst [.int c.1, .int c.2]) → ∃ G5, DPut G' M (.str (txt [(i : Int)])) (.ref q) G5 ∧ ∃ (o4 : Option L2.V) (kvs : List (L2.Key × L2.V)), [some (L2.V.ref a), some (.int (n : Int)), some (.ref b), some (.ref M), some (.int (i : Int)), none, none, none, none, none, none, none] = [some (.ref a), some (.int (n : Int)), some (.ref b), some (.ref M), o4, none, none, none, none, none, none, none] ∧ Grows H G5 ∧ TbOk G5 M (tbL gs (i + 1)) kvs := fun q G' c g' ec eq => by
        refine ⟨_, DPut.k (k := Sum.inr (txt [(i : Int)])) (g' _ _ tb.top) ?_, _, putK kvs (Sum.inr (txt [(i : Int)])) (.ref q), rfl, fun b' o e => ?_, ?_⟩
        · have := tb.len
          rw [tbL_len] at this
          exact Nat.lt_of_le_of_lt (show kvs.length ≤ 20 by omega) (by decide)
        · rw [upd_ne (ne_of_none e hM)]
          exact g' _ _ (g _ _ e)
        · show TbOk _ M (([(i : Int)], if (i : Int) ∈ gs then (99, 0) else (0, 99)) :: tbL gs i) _
          rw [← ec]
          exact (tb.grow g').put hx eq
      by_cases m : (i : Int) ∈ gs
      · rw [decide_eq_true m]
        refine iteT ⟨(by show 2 ≤ sizeLine; decide), fun q hq => ⟨_, rfl, _, rfl, (by show 1 ≤ sizeLine; decide), fun q2 hq2 => ⟨q2, [(i : Int)], rfl, SqL.of upd_same, (by show 1 ≤ 100; decide), fun z hz => by rw [List.mem_singleton.mp hz]; omega, ?_⟩⟩⟩
        obtain ⟨G5, d, nx⟩ := next q _ (99, 0) ((Grows.new (o := .lst [.int 99, .int 0]) hq).trans (Grows.new (o := .lst [V.int (i : Int)]) hq2)) (by rw [if_pos m]) (Grows.new hq2 _ _ upd_same)
        exact ⟨M, G5, rfl, d, nx⟩
      · rw [decide_eq_false m]
        refine iteF ⟨(by show 2 ≤ sizeLine; decide), fun q hq => ⟨_, rfl, _, rfl, (by show 1 ≤ sizeLine; decide), fun q2 hq2 => ⟨q2, [(i : Int)], rfl, SqL.of upd_same, (by show 1 ≤ 100; decide), fun z hz => by rw [List.mem_singleton.mp hz]; omega, ?_⟩⟩⟩
        obtain ⟨G5, d, nx⟩ := next q _ (0, 99) ((Grows.new (o := .lst [.int 0, .int 99]) hq).trans (Grows.new (o := .lst [V.int (i : Int)]) hq2)) (by rw [if_neg m]) (Grows.new hq2 _ _ upd_same)
        exact ⟨M, G5, rfl, d, nx⟩
    · subst e
      rw [Int.toNat_natCast] at tb
      have hB1 := g _ _ hBt
      refine ⟨_, rfl, a, rfl, ⟨_, SqL.of hB1⟩, fun D hD => lc_list (K := K) (a := a) (xs := bs.map fun b => V.ref b.1) (fun i G' => Grows G G' ∧ ∃ ds : List Pr, ds.map (·.2) = bs.take i ∧ (∀ d ∈ ds, G' d.1 = some (.tup [V.int (d.2.2.length : Nat), V.ref d.2.1]) ∧ d.1 ≠ D) ∧ G' D = some (.lst (ds.map fun d => V.ref d.1)))
        ⟨Grows.new hD, [], rfl, (fun _ z => nomatch z), upd_same⟩ (fun i G' _ ⟨gg, _⟩ => SqL.of (gg _ _ hB1)) (fun i x G' hx ⟨gg, ds, ed, each, eD⟩ => ?_) fun G' ⟨gg, ds, ed, each, eD⟩ => ?_⟩
      · have il := (List.getElem?_eq_some_iff.mp hx).1
        rw [List.length_map] at il
        rw [List.getElem?_map] at hx
        obtain ⟨c, ec2, rfl⟩ := Option.map_eq_some_iff.mp hx
        have row := gg _ _ (g _ _ (hBe c (List.mem_of_getElem? ec2)))
        refine ⟨rfl, ?_⟩
        unfold tYes
        dsimp only
        rw [if_pos rfl]
        have dl : ds.length ≤ i := by
          have q := congrArg List.length ed
          rw [List.length_map, List.length_take] at q
          omega
        refine ⟨_, rfl, _, _, rfl, .inl (SqL.of row), _, rfl, (by show 2 ≤ sizeLine; decide), fun t ht => ?_⟩
        rw [List.length_map]
        have gt := Grows.new (o := .tup [V.int (c.2.length : Nat), V.ref c.1]) ht
        have tD : t ≠ D := (ne_of_none eD ht).symm
        refine ⟨_, gt _ _ eD, ?_, fun b' o e => ?_, ds ++ [(t, c)], ?_, fun d hd => ?_, ?_⟩
        · rw [List.length_map]
          exact Nat.lt_of_le_of_lt (show ds.length ≤ 20 by omega) (by decide)
        · rw [upd_ne (ne_of_none e hD)]
          exact gt _ _ (gg _ _ e)
        · rw [List.map_append, ed, List.take_succ, ec2]
          rfl
        · rcases List.mem_append.mp hd with z | z
          · rw [upd_ne (each d z).2]
            exact ⟨gt _ _ (each d z).1, (each d z).2⟩
          · rw [List.mem_singleton.mp z, upd_ne tD, upd_same]
            exact ⟨rfl, tD⟩
        · rw [upd_same, List.map_append]
          rfl
      · rw [List.length_map, List.take_length] at ed
        have inb : ∀ d ∈ ds, d.2 ∈ bs := fun d hd => by
          rw [← ed]
          exact List.mem_map.mpr ⟨d, hd, rfl⟩
        refine ⟨D, ds, rfl, SqL.of eD, fun d hd => ⟨SqT.of (each d hd).1, SqL.of (gg _ _ (g _ _ (hBe _ (inb d hd))))⟩, fun p hp => ?_⟩
        have gp := Grows.new (o := .lst ((ds.mergeSort lenLe).map fun d => V.ref d.1)) hp
        obtain ⟨cs, ecs⟩ : ∃ cs, cs = ds.mergeSort lenLe := ⟨_, rfl⟩
        have pcs : cs.Perm ds := by
          rw [ecs]
          exact List.mergeSort_perm _ _
        have srt : cs.map (·.2.2) = srtM rs := by
          rw [ecs, srt_is, ers, ← ed, List.map_map]
          rfl
        rw [← ecs] at gp ⊢
        have eM1 := gg _ _ tb.top
        have pM : M ≠ p := ne_of_none eM1 hp
        have tb4 := (tb.grow gg).grow gp
        have each4 : ∀ d ∈ cs, (upd G' p (.lst (cs.map fun d => V.ref d.1))) d.1 = some (.tup [V.int (d.2.2.length : Nat), V.ref d.2.1]) := fun d hd => gp _ _ (each d (pcs.mem_iff.mp hd)).1
        have ep4 : (upd G' p (.lst (cs.map fun d => V.ref d.1))) p = some (.lst (cs.map fun d => V.ref d.1)) := upd_same
        have gH4 := (g.trans gg).trans gp
        generalize upd G' p (.lst (cs.map fun d => V.ref d.1)) = G4 at tb4 each4 ep4 gH4 ⊢
        have csl : cs.length = bs.length := by
          have q := pcs.length_eq
          have q2 := congrArg List.length ed
          rw [List.length_map] at q2
          omega
        have nM : ∀ {q : Addr} {o : HO}, G4 q = some o → (∀ k, o ≠ .dK k) → q ≠ M := fun {q o} e n z => by
          rw [z, tb4.top] at e
          exact n _ (Option.some.inj e).symm
        refine ⟨p, rfl, ⟨_, SqL.of ep4⟩, for_list (K := K) (a := p) (xs := cs.map fun d => V.ref d.1) (fun i σ G => ∃ (o5 o6 o7 o8 o9 : Option L2.V) (kvs : List (L2.Key × L2.V)), σ = [some (.ref a), some (.int (n : Int)), some (.ref b), some (.ref M), o4, o5, o6, o7, o8, o9, none, none] ∧ Gr M G4 G ∧ Grows H G ∧ TbOk G M (tbR rs n gs i) kvs)
          ⟨none, none, none, none, none, kvs, rfl, .refl, gH4, tb4⟩ (fun i σ G _ ⟨_, _, _, _, _, _, _, gr, _⟩ => SqL.of (gr _ _ pM.symm ep4)) (fun i x σ G hx ⟨o5, o6, o7, o8, o9, kv, e, gr, gH, tbi⟩ => ?_) fun σ G ⟨o5, o6, o7, o8, o9, kv, e, gr, gH, tbi⟩ => ?_⟩
        · subst e
          have il := (List.getElem?_eq_some_iff.mp hx).1
          rw [List.length_map] at il
          rw [List.getElem?_map] at hx
          obtain ⟨c, ec2, rfl⟩ := Option.map_eq_some_iff.mp hx
          have cm := List.mem_of_getElem? ec2
          have cb : c.2 ∈ bs := inb c (pcs.mem_iff.mp cm)
          have cr : c.2.2 ∈ rs := by
            rw [ers]
            exact List.mem_map.mpr ⟨_, cb, rfl⟩
          have es : (srtM rs)[i]? = some c.2.2 := by
            rw [← srt, List.getElem?_map, ec2]
            rfl
          have eg : (srtM rs).getD i [] = c.2.2 := by rw [List.getD_eq_getElem?_getD, es]; rfl
          obtain ⟨⟨⟨s1, s2⟩, kf1⟩, kf2⟩ := okT i (List.mem_range.mpr (by omega))
          rw [eg] at s1 s2 kf1 kf2
          obtain ⟨⟨l0, l1⟩, e1⟩ := s1
          obtain ⟨⟨r0, r1⟩, e2⟩ := s2
          have et := gr _ _ (nM (each4 c cm) fun k z => nomatch z) (each4 c cm)
          refine ⟨c.1, _, rfl, SqT.of et, rfl, _, _, rfl, _, _, rfl, rfl, ?_⟩
          dsimp only [List.set_cons_succ, List.set_cons_zero]
          refine ⟨(by show 0 ≤ sizeLine; decide), fun C hC => ?_⟩
          have gC := Grows.new (o := .lst []) hC
          have eC : (upd G C (.lst [])) C = some (.lst (([] : List Int).map V.int)) := upd_same
          generalize upd G C (.lst []) = G5 at gC eC
          show tSeq _ _ _ [some (.ref a), some (.int (n : Int)), some (.ref b), some (.ref M), o4, some (.int (c.2.2.length : Nat)), some (.ref c.2.1), some (.ref C), o8, o9, none, none] G5
          obtain ⟨t1, v1, w1⟩ := tbi.val _ _ e1
          obtain ⟨t2, v2, w2⟩ := tbi.val _ _ e2
          have nd : node ((look (tbR rs n gs i) (firM rs c.2.2)).getD (0, 0)) ((look (tbR rs n gs i) (secM rs c.2.2)).getD (0, 0)) = (min l0 (l1 + 1) + min r0 (r1 + 1), min l1 (l0 + 1) + min r1 (r0 + 1)) := by
            rw [e1, e2]
            rfl
          refine ⟨(by show 2 ≤ sizeLine; decide), fun T hT => ⟨T, rfl, ⟨_, SqT.of upd_same⟩, for_tup (K := K) (a := T) (xs := [V.int 0, V.int 1]) (fun j σ G6 => ∃ (o8 o9 : Option L2.V), σ = [some (.ref a), some (.int (n : Int)), some (.ref b), some (.ref M), o4, some (.int (c.2.2.length : Nat)), some (.ref c.2.1), some (.ref C), o8, o9, none, none] ∧ Grows G G6 ∧ G6 T = some (.tup [V.int 0, V.int 1]) ∧ G6 C = some (.lst ((([min l0 (l1 + 1) + min r0 (r1 + 1), min l1 (l0 + 1) + min r1 (r0 + 1)]).take j).map V.int)))
            ⟨_, _, rfl, gC.trans (Grows.new hT), upd_same, Grows.new hT _ _ eC⟩ (fun j σ G6 _ ⟨_, _, _, _, e, _⟩ => SqT.of e) (fun j x σ G6 hx6 ⟨p8, p9, e, g6, eT, eC6⟩ => ?_) fun σ G6 ⟨p8, p9, e, g6, eT, eC6⟩ => ?_⟩⟩
          · subst e
            have jl := (List.getElem?_eq_some_iff.mp hx6).1
            obtain ⟨m, rfl, hm⟩ : ∃ m : Int, x = .int m ∧ ((j = 0 ∧ m = 0) ∨ (j = 1 ∧ m = 1)) := by
              match j, hx6 with
              | 0, hx6 => cases hx6; exact ⟨0, rfl, .inl ⟨rfl, rfl⟩⟩
              | 1, hx6 => cases hx6; exact ⟨1, rfl, .inr ⟨rfl, rfl⟩⟩
              | j + 2, hx6 => cases hx6
            refine nm_b ?_
            dsimp only [List.set_cons_succ, List.set_cons_zero]
            have gH6 := gH.trans g6
            have tb6 := tbi.grow g6
            have rwB : Rw K G6 a bs := ⟨SqL.of (gH6 _ _ hBt), fun b hb => SqL.of (gH6 _ _ (hBe b hb))⟩
            have kc := key_ok (okR _ cr)
            refine ⟨_, rfl, _, rfl, a, c.2.1, bs, c.2.2, rfl, rwB, SqL.of (gH6 _ _ (hBe _ cb)), kc.1, by have := kc.2.1; omega, fun ph q1 q2 G7 g7 ep x1 x2 => ⟨ph, rfl, ⟨_, SqL.of ep⟩, fun D2 hD2 => lc_list (K := K) (a := ph) (xs := [V.ref q1, V.ref q2]) (fun m G8 => Grows G7 G8 ∧ G8 D2 = some (.lst ([V.ref t1, V.ref t2].take m)))
              ⟨Grows.new hD2, upd_same⟩ (fun m G8 _ ⟨gg, _⟩ => SqL.of (gg _ _ ep)) (fun k2 x G8 hx8 ⟨gg, eD2⟩ => ?_) fun G8 ⟨gg, eD2⟩ => ?_⟩⟩
            · rw [← ers] at x1 x2
              refine ⟨rfl, ?_⟩
              unfold tYes
              dsimp only
              rw [if_pos rfl]
              have tb8 := (tb6.grow g7).grow gg
              have k1 := key_ok kf1
              have k2' := key_ok kf2
              match k2, hx8 with
              | 0, hx8 =>
                cases hx8
                refine ⟨_, rfl, _, rfl, q1, firM rs c.2.2, rfl, gg.seq x1, k1.2.1, k1.2.2, M, .ref t1, rfl, v1 ▸ DGet.k (k := Sum.inr (txt (firM rs c.2.2))) tb8.top, _, eD2, by show 0 < sizeLine; decide, fun b' o e => ?_, upd_same⟩
                rw [upd_ne (ne_of_none e hD2)]
                exact gg _ _ e
              | 1, hx8 =>
                cases hx8
                refine ⟨_, rfl, _, rfl, q2, secM rs c.2.2, rfl, gg.seq x2, k2'.2.1, k2'.2.2, M, .ref t2, rfl, v2 ▸ DGet.k (k := Sum.inr (txt (secM rs c.2.2))) tb8.top, _, eD2, by show 1 < sizeLine; decide, fun b' o e => ?_, upd_same⟩
                rw [upd_ne (ne_of_none e hD2)]
                exact gg _ _ e
              | k2 + 2, hx8 => cases hx8
            · have eD2' : G8 D2 = some (.lst [V.ref t1, V.ref t2]) := eD2
              have g78 := g7.trans gg
              have g8 := g6.trans g78
              have eC8 := g78 _ _ eC6
              have eT8 := g78 _ _ eT
              have w18 := g8 _ _ w1
              have w28 := g8 _ _ w2
              obtain ⟨lm, ln, rm, rn, a1, a2, a3, a4, tot⟩ : ∃ lm ln rm rn : Int, atI [V.int l0, V.int l1] m = some (.int lm) ∧ atI [V.int l0, V.int l1] (1 - m) = some (.int ln) ∧ atI [V.int r0, V.int r1] m = some (.int rm) ∧ atI [V.int r0, V.int r1] (1 - m) = some (.int rn) ∧ [min l0 (l1 + 1) + min r0 (r1 + 1), min l1 (l0 + 1) + min r1 (r0 + 1)].take (j + 1) = [min l0 (l1 + 1) + min r0 (r1 + 1), min l1 (l0 + 1) + min r1 (r0 + 1)].take j ++ [min lm (ln + 1) + min rm (rn + 1)] := by
                rcases hm with ⟨rfl, rfl⟩ | ⟨rfl, rfl⟩
                · exact ⟨l0, l1, r0, r1, atI_nat (j := 0) rfl, atI_nat (j := 1) rfl, atI_nat (j := 0) rfl, atI_nat (j := 1) rfl, rfl⟩
                · exact ⟨l1, l0, r1, r0, atI_nat (j := 1) rfl, atI_nat (j := 0) rfl, atI_nat (j := 1) rfl, atI_nat (j := 0) rfl, rfl⟩
              have fin : ∀ x y : Int, (if y < x then y else x) = min x y := fun x y => by
                rw [Int.min_def]
                split <;> split <;> omega
              refine ⟨_, rfl, .inl ⟨rfl, _, SqL.of eC8⟩, _, rfl, D2, rfl, ⟨_, SqL.of eD2'⟩, fun D3 hD3 => lc_list (K := K) (a := D2) (xs := [V.ref t1, V.ref t2]) (fun k3 G9 => Grows G8 G9 ∧ G9 D3 = some (.lst (([min lm (ln + 1), min rm (rn + 1)].take k3).map V.int)))
                ⟨Grows.new hD3, upd_same⟩ (fun k3 G9 _ ⟨gg9, _⟩ => SqL.of (gg9 _ _ eD2')) (fun k3 x G9 hx9 ⟨gg9, eD3⟩ => ?_) fun G9 ⟨gg9, eD3⟩ => ?_⟩
              · refine ⟨rfl, ?_⟩
                unfold tYes
                dsimp only
                rw [if_pos rfl]
                match k3, hx9 with
                | 0, hx9 =>
                  cases hx9
                  have w := gg9 _ _ w18
                  refine ⟨_, rfl, _, rfl, t1, _, m, .int lm, rfl, rfl, SqL.of w, a1, _, rfl, _, rfl, _, _, rfl, rfl, t1, _, 1 - m, .int ln, rfl, rfl, SqL.of w, a2, _, _, rfl, rfl, lm, ln + 1, rfl, ?_⟩
                  rw [fin]
                  refine ⟨_, eD3, by show 0 < sizeLine; decide, fun b' o e => ?_, upd_same⟩
                  rw [upd_ne (ne_of_none e hD3)]
                  exact gg9 _ _ e
                | 1, hx9 =>
                  cases hx9
                  have w := gg9 _ _ w28
                  refine ⟨_, rfl, _, rfl, t2, _, m, .int rm, rfl, rfl, SqL.of w, a3, _, rfl, _, rfl, _, _, rfl, rfl, t2, _, 1 - m, .int rn, rfl, rfl, SqL.of w, a4, _, _, rfl, rfl, rm, rn + 1, rfl, ?_⟩
                  rw [fin]
                  refine ⟨_, eD3, by show 1 < sizeLine; decide, fun b' o e => ?_, upd_same⟩
                  rw [upd_ne (ne_of_none e hD3)]
                  exact gg9 _ _ e
                | k3 + 2, hx9 => cases hx9
              · have eD3' : G9 D3 = some (.lst ([min lm (ln + 1), min rm (rn + 1)].map V.int)) := eD3
                have eC9 := gg9 _ _ eC8
                have eT9 := gg9 _ _ eT8
                have sum2 : [min lm (ln + 1), min rm (rn + 1)].sum = min lm (ln + 1) + min rm (rn + 1) := by simp
                refine ⟨D3, _, rfl, SqL.of eD3', C, _, _, rfl, rfl, eC9, ?_, some (.int m), some (.ref D2), rfl, fun b' o e => ?_, ?_, ?_⟩
                · rw [List.length_map, List.length_take]
                  exact Nat.lt_of_le_of_lt (Nat.min_le_left _ _) (Nat.lt_of_lt_of_le (show j < 2 from jl) (by decide))
                · rw [upd_ne (ne_of_none e hC)]
                  exact gg9 _ _ (g8 _ _ e)
                · rw [upd_ne fun z => by rw [z, eC9] at eT9; cases eT9]
                  exact eT9
                · rw [upd_same, tot, List.map_append, sum2]
                  rfl
          · subst e
            have gH6 := gH.trans g6
            have row := gH6 _ _ (hBe _ cb)
            have kc := key_ok (okR _ cr)
            have tb6 := tbi.grow g6
            refine ⟨_, rfl, _, rfl, _, rfl, c.2.1, c.2.2, rfl, SqL.of row, kc.2.1, kc.2.2, M, _, rfl, DPut.k (k := Sum.inr (txt c.2.2)) tb6.top ?_, _, _, _, _, _, putK kv (Sum.inr (txt c.2.2)) (.ref C), rfl, fun b' o ne e => ?_, fun b' o e => ?_, ?_⟩
            · have l := tb6.len
              have l2 := tbR_len rs n gs i
              exact Nat.lt_of_le_of_lt (show kv.length ≤ 100 by omega) (by decide)
            · rw [upd_ne ne]
              exact g6 _ _ (gr _ _ ne e)
            · rw [upd_ne (ne_of_none e hM)]
              exact g6 _ _ (gH _ _ e)
            · rw [tbR_next es]
              show TbOk _ M ((c.2.2, node _ _) :: _) _
              rw [nd]
              exact tb6.put (c := (min l0 (l1 + 1) + min r0 (r1 + 1), min l1 (l0 + 1) + min r1 (r0 + 1))) (okR _ cr) eC6
        · subst e
          rw [List.length_map] at tbi
          obtain ⟨⟨u, v⟩, eE⟩ := okE
          rw [rl, ← csl] at eE
          have ch : chM rs n gs = min u v := by
            unfold chM
            rw [rl, ← csl, eE]
            rfl
          obtain ⟨q, vq, eq⟩ := tbi.val _ _ eE
          refine ⟨_, rfl, _, rfl, _, rfl, .of_le (by decide) (by omega) (by decide) (by omega), fun q2 hq2 => ⟨q2, upto n, rfl, SqL.of (by rw [upd_same, rg_upto]), by rw [upto_len]; omega, fun z hz => by have := upto_in.mp hz; omega, M, .ref q, rfl, vq ▸ DGet.k (k := Sum.inr (txt (upto n))) (Grows.new hq2 _ _ tbi.top), q, [_, _], rfl, SqL.of (Grows.new hq2 _ _ eq), (by show 0 < 2; decide), fun m hm lo => ?_⟩⟩
          have m0 := lo _ List.mem_cons_self
          have m1 := lo _ (List.mem_cons_of_mem _ List.mem_cons_self)
          have em : m = chM rs n gs := by
            rw [ch]
            rcases List.mem_cons.mp hm with z | z
            · omega
            · have := List.mem_singleton.mp z
              omega
          rw [em]
          exact k _ (gH.trans (Grows.new hq2))
end
end K34

namespace K34
open PySem PySem.Spec PyProof.Rows L2 SortR LcM RepA
abbrev sChoose : Stmt := top 23
abbrev sJoin : Stmt := top 24
/-! ### the table of few persons, by first parts -/
abbrev PI := Int × Int
abbrev Ent := List (PI × Int)
abbrev Tab := List (PI × Ent)
section
variable {α β : Type}
def putM (kvs : List (PI × α)) (k : PI) (v : α) : List (PI × α) := if (kvs.any fun kv => decide (kv.1 = k)) = true then kvs.map (fun kv => if kv.1 = k then (kv.1, v) else kv) else kvs ++ [(k, v)]
def getM (kvs : List (PI × α)) (k : PI) : Option α := (kvs.find? fun kv => decide (kv.1 = k)).map (·.2)
def keyE (k : PI) : List L2.Key := [.inl k.1, .inl k.2]
def embE (g : α → V) (kvs : List (PI × α)) : List (List L2.Key × V) := kvs.map fun e => (keyE e.1, g e.2)
theorem keyE_eq {a b : PI} : (keyE a = keyE b) = (a = b) := by
  refine propext ⟨fun h => ?_, fun h => by rw [h]⟩
  obtain ⟨a1, a2⟩ := a
  obtain ⟨b1, b2⟩ := b
  injection h with h1 h2
  injection h2 with h2 h3
  exact Prod.ext (Sum.inl.inj h1) (Sum.inl.inj h2)
theorem keyE_val (k : PI) : (keyE k).map kV = [.int k.1, .int k.2] := rfl
theorem get_emb (g : α → V) (k : PI) : ∀ kvs : List (PI × α), valV (embE g kvs) (keyE k) = (getM kvs k).map g
  | [] => rfl
  | e :: kvs => by
    have ih := get_emb g k kvs
    unfold valV embE getM at ih ⊢
    rw [List.map_cons, List.find?_cons, List.find?_cons]
    simp only [keyE_eq]
    by_cases h : e.1 = k
    · rw [decide_eq_true h]
      rfl
    · rw [decide_eq_false h]
      exact ih
theorem put_emb (g : α → V) (kvs : List (PI × α)) (k : PI) (v : α) : putK (embE g kvs) (keyE k) (g v) = embE g (putM kvs k v) := by
  have e : ((embE g kvs).any fun kv => decide (kv.1 = keyE k)) = kvs.any fun kv => decide (kv.1 = k) := by
    unfold embE
    rw [List.any_map]
    congr 1
    funext x
    show decide (keyE x.1 = keyE k) = _
    simp only [keyE_eq]
  unfold putK putM
  rw [e]
  by_cases h : (kvs.any fun kv => decide (kv.1 = k)) = true
  · rw [if_pos h, if_pos h]
    unfold embE
    rw [List.map_map, List.map_map]
    refine List.map_congr_left fun x _ => ?_
    show (if keyE x.1 = keyE k then (keyE x.1, g v) else (keyE x.1, g x.2)) = (fun e : PI × α => (keyE e.1, g e.2)) (if x.1 = k then (x.1, v) else x)
    simp only [keyE_eq]
    by_cases z : x.1 = k
    · rw [if_pos z, if_pos z]
    · rw [if_neg z, if_neg z]
  · rw [if_neg h, if_neg h]
    unfold embE
    rw [List.map_append]
    rfl
theorem putM_map (h : α → β) (kvs : List (PI × α)) (k : PI) (v : α) : (putM kvs k v).map (fun e => (e.1, h e.2)) = putM (kvs.map fun e => (e.1, h e.2)) k (h v) := by
  have e : ((kvs.map fun e => (e.1, h e.2)).any fun kv => decide (kv.1 = k)) = kvs.any fun kv => decide (kv.1 = k) := by
    rw [List.any_map]
    rfl
  unfold putM
  rw [e]
  by_cases c : (kvs.any fun kv => decide (kv.1 = k)) = true
  · rw [if_pos c, if_pos c, List.map_map, List.map_map]
    refine List.map_congr_left fun x _ => ?_
    show (fun e : PI × α => (e.1, h e.2)) (if x.1 = k then (x.1, v) else x) = if x.1 = k then (x.1, h v) else (x.1, h x.2)
    by_cases z : x.1 = k
    · rw [if_pos z, if_pos z]
    · rw [if_neg z, if_neg z]
  · rw [if_neg c, if_neg c, List.map_append]
    rfl
theorem putM_len (kvs : List (PI × α)) (k : PI) (v : α) : (putM kvs k v).length ≤ kvs.length + 1 := by
  unfold putM
  split
  · rw [List.length_map]
    omega
  · rw [List.length_append]
    exact Nat.le_refl _
theorem putM_mem {kvs : List (PI × α)} {k : PI} {v : α} {e : PI × α} (h : e ∈ putM kvs k v) : e.2 = v ∨ e ∈ kvs := by
  unfold putM at h
  split at h
  · obtain ⟨x, hx, q⟩ := List.mem_map.mp h
    by_cases z : x.1 = k
    · rw [if_pos z] at q
      exact .inl (by rw [← q])
    · rw [if_neg z] at q
      exact .inr (by rw [← q]; exact hx)
  · rcases List.mem_append.mp h with q | q
    · exact .inr q
    · exact .inl (by rw [List.mem_singleton.mp q])
theorem getM_mem {kvs : List (PI × α)} {k : PI} {v : α} (h : getM kvs k = some v) : ∃ e ∈ kvs, e.2 = v := by
  unfold getM at h
  obtain ⟨p, hp, e⟩ := Option.map_eq_some_iff.mp h
  exact ⟨p, List.mem_of_find?_eq_some hp, e⟩
theorem getM_map (h : α → β) (k : PI) : ∀ kvs : List (PI × α), getM (kvs.map fun e => (e.1, h e.2)) k = (getM kvs k).map h
  | [] => rfl
  | e :: kvs => by
    have ih := getM_map h k kvs
    unfold getM at ih ⊢
    rw [List.map_cons, List.find?_cons, List.find?_cons]
    by_cases z : e.1 = k
    · rw [decide_eq_true z]
      rfl
    · rw [decide_eq_false z]
      exact ih
theorem embE_at {g : α → V} {kvs : List (PI × α)} {i : Nat} {k : List L2.Key} {v : V} (h : (embE g kvs)[i]? = some (k, v)) : ∃ e, kvs[i]? = some e ∧ k = keyE e.1 ∧ v = g e.2 := by
  unfold embE at h
  rw [List.getElem?_map] at h
  obtain ⟨e, he, q⟩ := Option.map_eq_some_iff.mp h
  cases q
  exact ⟨e, he, rfl, rfl⟩
theorem getM_some {kvs : List (PI × α)} {e : PI × α} (h : e ∈ kvs) : ∃ v, getM kvs e.1 = some v := by
  unfold getM
  cases z : kvs.find? fun kv => decide (kv.1 = e.1) with
  | none =>
    have q := List.find?_eq_none.mp z e h
    exact absurd (decide_eq_true rfl) q
  | some x => exact ⟨x.2, rfl⟩
theorem embE_len (g : α → V) (kvs : List (PI × α)) : (embE g kvs).length = kvs.length := List.length_map ..
end
def chN (m : Int) : Nat → Int
  | 0 => 1
  | i + 1 => chN m i * (m - (i : Int)) / ((i : Int) + 1)
def joinM (l r : PI) : PI := if l.1 = 2 ∨ r.1 = 2 ∨ l.1 = r.1 then (if l.1 = 2 then r.1 else l.1, l.2 + r.2) else (2, l.2 + r.2 + 1)
def addM (f : Ent) (k : PI) (v : Int) : Ent := putM f k ((getM f k).getD 0 + v)
def inR (w : Int) (l : PI × Int) (rs f : Ent) : Ent := rs.foldl (fun f r => addM f (joinM l.1 r.1) (w * l.2 * r.2)) f
def outR (w : Int) (ls rs f : Ent) : Ent := ls.foldl (fun f l => inR w l rs f) f
def oneS (T : Tab) (m p i j : Nat) (f : Ent) : Ent := if 0 < i + j ∧ i + j < m + p then outR (chN m i * chN p j) ((getM T (i, j)).getD []) ((getM T ((m : Int) - i, (p : Int) - j)).getD []) f else f
def rowS (T : Tab) (m p i : Nat) : Nat → Ent → Ent
  | 0, f => f
  | j + 1, f => oneS T m p i j (rowS T m p i j f)
def allS (T : Tab) (m p : Nat) : Nat → Ent
  | 0 => []
  | i + 1 => rowS T m p i (p + 1) (allS T m p i)
def halvM (f : Ent) : Ent := f.map fun e => (e.1, (getM f e.1).getD 0 / 2)
def halfM (f : Ent) : Ent := (halvM f).foldl (fun acc e => putM acc e.1 e.2) []
def entM (T : Tab) (m p : Nat) : Ent := halfM (allS T m p (m + 1))
def tabM (total : Nat) (T : Tab) : Nat → Tab
  | 0 => T
  | m + 1 => putM (tabM total T m) ((m : Int), ((total - m : Nat) : Int)) (entM (tabM total T m) m (total - m))
def tabT : Nat → Tab
  | 0 => [((1, 0), [((1, 0), 1)]), ((0, 1), [((0, 0), 1)])]
  | i + 1 => tabM (i + 2) (tabT i) (i + 3)
def smallT (T : Tab) : Bool := decide (T.length ≤ 50) && T.all fun e => decide (e.2.length ≤ 20) && e.2.all fun x => decide (x.2.natAbs < 2 ^ 60)
def okE (T : Tab) (m p : Nat) : Bool := (List.range (m + 1)).all fun i => (List.range (p + 1)).all fun j => !decide (0 < i + j ∧ i + j < m + p) || ((getM T ((i : Int), (j : Int))).isSome && (getM T ((m : Int) - i, (p : Int) - j)).isSome)
theorem tab_all : ((List.range 6).all fun i => (List.range (i + 3)).all fun m => okE (tabM (i + 2) (tabT i) m) m (i + 2 - m) && smallT (tabM (i + 2) (tabT i) m)) = true := by decide +kernel
theorem ch_all : ((List.range 8).all fun m => (List.range 8).all fun i => decide ((chN (m : Int) i).natAbs < 2 ^ 60)) = true := by decide +kernel
theorem ch_ok {m i : Nat} (h : m < 8) (hi : i < 8) : -(2 ^ 64) < chN (m : Int) i ∧ chN (m : Int) i < 2 ^ 64 := by
  have z := of_decide_eq_true (List.all_eq_true.mp (List.all_eq_true.mp ch_all m (List.mem_range.mpr h)) i (List.mem_range.mpr hi))
  omega
theorem merge_emb (acc : Ent) : ∀ f : Ent, DctU.mergeT (embE V.int acc) (embE V.int f) = embE V.int (f.foldl (fun acc e => putM acc e.1 e.2) acc) := fun f => by
  induction f generalizing acc with
  | nil => rfl
  | cons e f ih =>
    show DctU.mergeT (putK (embE V.int acc) (keyE e.1) (.int e.2)) (embE V.int f) = _
    rw [put_emb V.int]
    exact ih _
theorem inR_next {w : Int} {l : PI × Int} {rs f : Ent} {v : Nat} {r : PI × Int} (h : rs[v]? = some r) : inR w l (rs.take (v + 1)) f = addM (inR w l (rs.take v) f) (joinM l.1 r.1) (w * l.2 * r.2) := by
  unfold inR
  rw [take_nextD h, List.foldl_append]
  rfl
theorem outR_next {w : Int} {ls rs f : Ent} {u : Nat} {l : PI × Int} (h : ls[u]? = some l) : outR w (ls.take (u + 1)) rs f = inR w l rs (outR w (ls.take u) rs f) := by
  unfold outR
  rw [take_nextD h, List.foldl_append]
  rfl
theorem addM_len (f : Ent) (k : PI) (v : Int) : (addM f k v).length ≤ f.length + 1 := putM_len _ _ _
theorem tab_ok {i m : Nat} (hi : i < 6) (hm : m < i + 3) : okE (tabM (i + 2) (tabT i) m) m (i + 2 - m) = true ∧ smallT (tabM (i + 2) (tabT i) m) = true := by
  have z := List.all_eq_true.mp (List.all_eq_true.mp tab_all i (List.mem_range.mpr hi)) m (List.mem_range.mpr hm)
  rw [Bool.and_eq_true] at z
  exact z
theorem small_get {T : Tab} {k : PI} {f : Ent} (h : smallT T = true) (g : getM T k = some f) : f.length ≤ 20 ∧ ∀ x ∈ f, -(2 ^ 64) < x.2 ∧ x.2 < 2 ^ 64 := by
  obtain ⟨e, he, rfl⟩ := getM_mem g
  unfold smallT at h
  simp only [Bool.and_eq_true, decide_eq_true_eq, List.all_eq_true] at h
  obtain ⟨h1, h2⟩ := h.2 e he
  refine ⟨h1, fun x hx => ?_⟩
  have := h2 x hx
  omega
def spChoose : Sp := fun vs H Q _ => ∃ m k : Nat, vs = [.int (m : Int), .int (k : Int)] ∧ k ≤ m ∧ m ≤ 7 ∧ Q (.int (chN (m : Int) k)) H
def spJoin (K : PySem.W.Frag) : Sp := fun vs H Q _ => ∃ (p q : Addr) (l r : PI), vs = [.ref p, .ref q] ∧ SqT K H p [.int l.1, .int l.2] ∧ SqT K H q [.int r.1, .int r.2] ∧ ∀ t, H t = none → Q (.ref t) (upd H t (.tup [.int (joinM l r).1, .int (joinM l r).2]))
section
variable {P : Program} {w : World} {K : PySem.W.Frag} {mg : Str → Option Value} {base : Heap}
theorem scCh : FnScope ["many_here", "few", "found", "turn"] ["many_here", "few"] (defScope sChoose) := ⟨rfl, rfl, rfl, by decide +kernel, rfl, by decide +kernel, by decide +kernel⟩
theorem scJn : FnScope ["left", "right"] ["left", "right"] (defScope sJoin) := ⟨rfl, rfl, rfl, by decide +kernel, rfl, by decide +kernel, by decide +kernel⟩
theorem ok_choose {f : Addr} {fd : FuncData} (F : Fun K "_law_choose" "_law_choose" sChoose f fd) (T : TxtP mg) : FnOk P w K mg base CX0 1 f fd ["many_here", "few"] spChoose := by
  refine F.ok scCh (fun vs H Q E h => ?_) (fun cdv A outer s H vs Q E hr h => ?_)
  · obtain ⟨m, k, rfl, _⟩ := h
    rfl
  · obtain ⟨m, k, rfl, km, m7, q⟩ := h
    refine ⟨_, (pss_cons (ps_if (pt_not (pt_chain op_le op_le pe_int (pv 1) (pv 0))) (pss_one (ps_ret pe_int)) pss_nil)
      (pss_cons (ps_set (i := 2) scCh.nd rfl (.inl rfl) pe_int)
      (pss_cons (ps_for PassesOwn.never rfl (pi_range1 (by rfl) T.range (pa_cons (pv 1) pa_nil)) (pg_name (i := 3) scCh.nd rfl (.inl rfl))
      (pss_one (ps_set (i := 2) scCh.nd rfl (.inl rfl) (pe_op op_fdivW (pe_op op_mul (pv 2) (pe_op op_sub (pv 0) (pv 3))) (pe_op op_add (pv 3) pe_int)))))
      (pss_one (ps_ret (pv 2)))))), ?_⟩
    refine ⟨_, rfl, _, _, rfl, rfl, _, rfl, ?_⟩
    rw [if_pos (decide_eq_true (show (0 : Int) ≤ (k : Int) by omega))]
    refine ⟨_, rfl, _, _, rfl, rfl, _, rfl, ?_⟩
    rw [decide_eq_true (show (k : Int) ≤ (m : Int) by omega)]
    refine iteF ⟨_, rfl, (k : Int), rfl, by omega, by omega, for_range (lo := 0) (n := (k : Int).toNat) (fun i σ G => ∃ o, σ = [some (.int (m : Int)), some (.int (k : Int)), some (.int (chN (m : Int) i)), o] ∧ G = H)
      ⟨none, rfl, rfl⟩ (fun i σ G il ⟨o, e, eg⟩ => ?_) fun σ G ⟨o, e, eg⟩ => ?_⟩
    · subst e eg
      have bd := ch_ok (m := m) (i := i) (by omega) (by omega)
      refine ⟨_, rfl, _, rfl, _, rfl, _, _, rfl, rfl, _, _, rfl, rfl, .inl bd, _, rfl, _, _, rfl, rfl, _, _, rfl, rfl, wide_div (b := 10) (by omega) (by omega) (by decide) (by decide), ?_⟩
      refine ⟨some (.int (i : Int)), ?_, rfl⟩
      dsimp only [List.set_cons_succ, List.set_cons_zero]
      rw [Int.zero_add]
      rfl
    · subst e eg
      rw [Int.toNat_natCast]
      exact ⟨_, rfl, q⟩
theorem ok_join {f : Addr} {fd : FuncData} (F : Fun K "_law_join" "_law_join" sJoin f fd) : FnOk P w K mg base CX0 1 f fd ["left", "right"] (spJoin K) := by
  refine F.ok scJn (fun vs H Q E h => ?_) (fun cdv A outer s H vs Q E hr h => ?_)
  · obtain ⟨p, q, l, r, rfl, _⟩ := h
    rfl
  · obtain ⟨p, q, l, r, rfl, hp, hq, k⟩ := h
    refine ⟨_, (pss_cons (ps_if (PW.pt (pw_or (pt_cmpR op_eq (pe_ix (r := rIxT K) ix_tup (pv 0) pe_int (fun _ _ => rfl)) pe_int (nomark _)) (pw_or (pt_cmpR op_eq (pe_ix (r := rIxT K) ix_tup (pv 1) pe_int (fun _ _ => rfl)) pe_int (nomark _)) (pw_or1 (pt_cmpR op_eq (pe_ix (r := rIxT K) ix_tup (pv 0) pe_int (fun _ _ => rfl)) (pe_ix (r := rIxT K) ix_tup (pv 1) pe_int (fun _ _ => rfl)) (nomark _)))))) (pss_one (ps_ret (pe_tup (pa_cons (pe_ifExp (pt_cmpR op_eq (pe_ix (r := rIxT K) ix_tup (pv 0) pe_int (fun _ _ => rfl)) pe_int (nomark _)) (pe_ix (r := rIxT K) ix_tup (pv 1) pe_int (fun _ _ => rfl)) (pe_ix (r := rIxT K) ix_tup (pv 0) pe_int (fun _ _ => rfl))) (pa_cons (pe_op op_add (pe_ix (r := rIxT K) ix_tup (pv 0) pe_int (fun _ _ => rfl)) (pe_ix (r := rIxT K) ix_tup (pv 1) pe_int (fun _ _ => rfl))) pa_nil))))) pss_nil)
      (pss_one (ps_ret (pe_tup (pa_cons pe_int (pa_cons (pe_op op_add (pe_op op_add (pe_ix (r := rIxT K) ix_tup (pv 0) pe_int (fun _ _ => rfl)) (pe_ix (r := rIxT K) ix_tup (pv 1) pe_int (fun _ _ => rfl))) pe_int) pa_nil)))))), ?_⟩
    obtain ⟨l1, l2⟩ := l
    obtain ⟨r1, r2⟩ := r
    dsimp only at hp hq k
    have ne : ∀ {x y : Int}, x ≠ y → ¬ V.int x = V.int y := fun h z => h (V.int.inj z)
    refine ⟨_, rfl, p, _, 0, _, rfl, rfl, hp, rfl, rfl, _, rfl, ?_⟩
    by_cases c1 : l1 = 2
    · have j : joinM (l1, l2) (r1, r2) = (r1, l2 + r2) := by
        unfold joinM
        rw [if_pos (.inl c1), if_pos c1]
      rw [j] at k
      rw [decide_eq_true (congrArg V.int c1)]
      refine iteT (iteT ⟨_, rfl, p, _, 0, _, rfl, rfl, hp, rfl, rfl, _, rfl, ?_⟩)
      rw [decide_eq_true (congrArg V.int c1)]
      exact iteT ⟨_, rfl, q, _, 0, _, rfl, rfl, hq, rfl, _, rfl, p, _, 1, _, rfl, rfl, hp, rfl, _, rfl, q, _, 1, _, rfl, rfl, hq, rfl, _, _, rfl, rfl, (by show 2 ≤ sizeLine; decide), fun t ht => k t ht⟩
    rw [decide_eq_false (ne c1)]
    refine iteF ⟨_, rfl, q, _, 0, _, rfl, rfl, hq, rfl, rfl, _, rfl, ?_⟩
    have same : ∀ c : l1 = 2 ∨ r1 = 2 ∨ l1 = r1, joinM (l1, l2) (r1, r2) = (l1, l2 + r2) := fun c => by
      unfold joinM
      rw [if_pos c, if_neg c1]
    by_cases c2 : r1 = 2
    · rw [same (.inr (.inl c2))] at k
      rw [decide_eq_true (congrArg V.int c2)]
      refine iteT (iteT ⟨_, rfl, p, _, 0, _, rfl, rfl, hp, rfl, rfl, _, rfl, ?_⟩)
      rw [decide_eq_false (ne c1)]
      exact iteF ⟨_, rfl, p, _, 0, _, rfl, rfl, hp, rfl, _, rfl, p, _, 1, _, rfl, rfl, hp, rfl, _, rfl, q, _, 1, _, rfl, rfl, hq, rfl, _, _, rfl, rfl, (by show 2 ≤ sizeLine; decide), fun t ht => k t ht⟩
    rw [decide_eq_false (ne c2)]
    refine iteF ⟨_, rfl, p, _, 0, _, rfl, rfl, hp, rfl, _, rfl, q, _, 0, _, rfl, rfl, hq, rfl, rfl, _, rfl, ?_⟩
    by_cases c3 : l1 = r1
    · rw [same (.inr (.inr c3))] at k
      rw [decide_eq_true (congrArg V.int c3)]
      refine iteT ⟨_, rfl, p, _, 0, _, rfl, rfl, hp, rfl, rfl, _, rfl, ?_⟩
      rw [decide_eq_false (ne c1)]
      exact iteF ⟨_, rfl, p, _, 0, _, rfl, rfl, hp, rfl, _, rfl, p, _, 1, _, rfl, rfl, hp, rfl, _, rfl, q, _, 1, _, rfl, rfl, hq, rfl, _, _, rfl, rfl, (by show 2 ≤ sizeLine; decide), fun t ht => k t ht⟩
    · have j : joinM (l1, l2) (r1, r2) = (2, l2 + r2 + 1) := by
        unfold joinM
        rw [if_neg fun z => z.elim c1 fun z => z.elim c2 c3]
      rw [j] at k
      rw [decide_eq_false (ne c3)]
      exact iteF ⟨_, rfl, p, _, 1, _, rfl, rfl, hp, rfl, _, rfl, q, _, 1, _, rfl, rfl, hq, rfl, _, _, rfl, rfl, _, _, rfl, rfl, (by show 2 ≤ sizeLine; decide), fun t ht => k t ht⟩
end
end K34

namespace K34
open PySem PySem.Spec PyProof.Rows L2 SortR LcM RepA DctU
abbrev sTable : Stmt := top 25
abbrev Es := List (PI × (Addr × Ent))
structure TabOk (G : Hp) (t : Addr) (es : Es) : Prop where
  top : G t = some (.dT (embE (fun x => V.ref x.1) es))
  each : ∀ e ∈ es, ∃ o, G e.2.1 = some (.frz o (.dT (embE V.int e.2.2)))
def tabE (es : Es) : Tab := es.map fun e => (e.1, e.2.2)
theorem TabOk.grow {G G' : Hp} {t : Addr} {es : Es} (h : TabOk G t es) (g : Grows G G') : TabOk G' t es :=
  ⟨g _ _ h.top, fun e he => by
    obtain ⟨o, z⟩ := h.each e he
    exact ⟨o, g _ _ z⟩⟩
theorem TabOk.put {G : Hp} {t p : Addr} {o : Obj} {es : Es} {k : PI} {f : Ent} (h : TabOk G t es) (hp : G p = some (.frz o (.dT (embE V.int f)))) :
    TabOk (upd G t (.dT (putK (embE (fun x => V.ref x.1) es) (keyE k) (.ref p)))) t (putM es k (p, f)) := by
  have ne : ∀ {q : Addr} {o : Obj} {u : HO}, G q = some (.frz o u) → q ≠ t := fun e z => by
    rw [z, h.top] at e
    cases e
  refine ⟨?_, fun e he => ?_⟩
  · rw [upd_same]
    have z := put_emb (fun x : Addr × Ent => V.ref x.1) es k (p, f)
    rw [← z]
  · rcases putM_mem he with z | z
    · rw [z, upd_ne (ne hp)]
      exact ⟨o, hp⟩
    · obtain ⟨o2, q⟩ := h.each e z
      exact ⟨o2, by rw [upd_ne (ne q)]; exact q⟩
theorem TabOk.get {G : Hp} {t : Addr} {es : Es} (h : TabOk G t es) {k : PI} (s : (getM (tabE es) k).isSome = true) : ∃ (d : Addr) (o : Obj) (f : Ent), getM (tabE es) k = some f ∧ valV (embE (fun x => V.ref x.1) es) (keyE k) = some (.ref d) ∧ G d = some (.frz o (.dT (embE V.int f))) := by
  have gm : getM (tabE es) k = (getM es k).map (·.2) := getM_map (fun x : Addr × Ent => x.2) k es
  rw [gm] at s ⊢
  cases e : getM es k with
  | none => rw [e] at s; cases s
  | some x =>
    obtain ⟨e2, m, rfl⟩ := getM_mem e
    obtain ⟨o, z⟩ := h.each e2 m
    refine ⟨e2.2.1, o, e2.2.2, rfl, ?_, z⟩
    rw [get_emb, e]
    rfl
def spTable : Sp := fun vs H Q _ => vs = [.int 7] ∧ ∀ (t : Addr) (es : Es) (H' : Hp), Grows H H' → TabOk H' t es → tabE es = tabT 6 → Q (.ref t) H'
section
variable {P : Program} {w : World} {K : PySem.W.Frag} {mg : Str → Option Value} {base : Heap}
theorem scTb : FnScope ["most_here", "table", "total", "marked", "plain", "found", "inner", "other_here", "first", "last", "ways", "left", "part", "right", "more", "key"] ["most_here"] (defScope sTable) := ⟨rfl, rfl, rfl, by decide +kernel, rfl, by decide +kernel, by decide +kernel⟩
theorem ok_table {f fCh fJn : Addr} {fd dCh dJn : FuncData} (F : Fun K "_law_table" "_law_table" sTable f fd) (T : TxtP mg) (FCh : Fun K "_law_choose" "_law_choose" sChoose fCh dCh) (gCh : mg "_law_choose" = some (.ref fCh)) (bCh : Binds K dCh ["many_here", "few"] []) (FJn : Fun K "_law_join" "_law_join" sJoin fJn dJn) (gJn : mg "_law_join" = some (.ref fJn)) (bJn : Binds K dJn ["left", "right"] []) :
    FnOk P w K mg base CX0 2 f fd ["most_here"] spTable := by
  have GCh := ok_choose (P := P) (w := w) (base := base) FCh T
  have GJn := ok_join (P := P) (w := w) (mg := mg) (base := base) FJn
  refine F.ok scTb (fun vs H Q E h => ?_) (fun cdv A outer s H vs Q E hr h => ?_)
  · obtain ⟨rfl, _⟩ := h
    rfl
  · obtain ⟨rfl, k⟩ := h
    refine ⟨_, (pss_cons (ps_set (i := 1) scTb.nd rfl (.inl rfl) (DctU.pe_dispT (hu_of hr) (pps_cons (pe_tup (pa_cons pe_int (pa_cons pe_int pa_nil))) (DctU.pe_frz (DctU.pe_dispT (hu_of hr) (pps_cons (pe_tup (pa_cons pe_int (pa_cons pe_int pa_nil))) pe_int pps_nil) (by rfl) (by rfl) (fun z => by cases z) (by decide))) (pps_cons (pe_tup (pa_cons pe_int (pa_cons pe_int pa_nil))) (DctU.pe_frz (DctU.pe_dispT (hu_of hr) (pps_cons (pe_tup (pa_cons pe_int (pa_cons pe_int pa_nil))) pe_int pps_nil) (by rfl) (by rfl) (fun z => by cases z) (by decide))) pps_nil)) (by rfl) (by rfl) (fun z => by cases z) (by decide)))
      (pss_cons (ps_for PassesOwn.never rfl (pi_range2 (by rfl) T.range (pa_cons pe_int (pa_cons (pe_op op_add (pv 0) pe_int) pa_nil))) (pg_name (i := 2) scTb.nd rfl (.inl rfl))
      (pss_one (ps_for PassesOwn.never rfl (pi_range1 (by rfl) T.range (pa_cons (pe_op op_add (pv 2) pe_int) pa_nil)) (pg_name (i := 3) scTb.nd rfl (.inl rfl))
      (pss_cons (ps_asg (pe_tup (pa_cons (pe_op op_sub (pv 2) (pv 3)) (pa_cons pe_dnewT pa_nil))) (pg_tup (by rfl) (pgs_cons (pg_name (i := 4) scTb.nd rfl (.inl rfl)) (pgs_cons (pg_name (i := 5) scTb.nd rfl (.inr rfl)) pgs_nil))))
      (pss_cons (ps_for PassesOwn.never rfl (pi_range1 (by rfl) T.range (pa_cons (pe_op op_add (pv 3) pe_int) pa_nil)) (pg_name (i := 6) scTb.nd rfl (.inl rfl))
      (pss_one (ps_for PassesOwn.never rfl (pi_range1 (by rfl) T.range (pa_cons (pe_op op_add (pv 4) pe_int) pa_nil)) (pg_name (i := 7) scTb.nd rfl (.inl rfl))
      (pss_cons (ps_par (i := 8) (j := 9) (by rfl) scTb.nd rfl rfl (by decide) rfl rfl (pa_cons (pe_tup (pa_cons (pv 6) (pa_cons (pv 7) pa_nil))) (pa_cons (pe_tup (pa_cons (pe_op op_sub (pv 3) (pv 6)) (pa_cons (pe_op op_sub (pv 4) (pv 7)) pa_nil))) pa_nil)) (by rfl))
      (pss_one (ps_if (PW.pt (pw_and (pt_cmpR op_gt (pe_callB (id := "sum") (r := DctU.rSumT K) (by exact DctU.cr_sumT rfl) (by rfl) T.sum (by decide +kernel) (pa_cons (pv 8) pa_nil)) pe_int (nomark _)) (pw_and1 (pt_cmpR op_gt (pe_callB (id := "sum") (r := DctU.rSumT K) (by exact DctU.cr_sumT rfl) (by rfl) T.sum (by decide +kernel) (pa_cons (pv 9) pa_nil)) pe_int (nomark _))))) (pss_cons (ps_set (i := 10) scTb.nd rfl (.inl rfl) (pe_op op_mul (pe_call GCh (hr.mono (by decide)) rfl gCh FCh.kp bCh .nil pass0 (pa_cons (pv 3) (pa_cons (pv 6) pa_nil))) (pe_call GCh (hr.mono (by decide)) rfl gCh FCh.kp bCh .nil pass0 (pa_cons (pv 4) (pa_cons (pv 7) pa_nil)))))
      (pss_one (ps_for PassesOwn.never rfl (DctU.pi_itemsF (pe_dget (hu_of hr) (pv 1) (pv 8) (fun _ _ => rfl))) (pg_tup (by rfl) (pgs_cons (pg_name (i := 11) scTb.nd rfl (.inl rfl)) (pgs_cons (pg_name (i := 12) scTb.nd rfl (.inl rfl)) pgs_nil)))
      (pss_one (ps_for PassesOwn.never rfl (DctU.pi_itemsF (pe_dget (hu_of hr) (pv 1) (pv 9) (fun _ _ => rfl))) (pg_tup (by rfl) (pgs_cons (pg_name (i := 13) scTb.nd rfl (.inl rfl)) (pgs_cons (pg_name (i := 14) scTb.nd rfl (.inl rfl)) pgs_nil)))
      (pss_cons (ps_set (i := 15) scTb.nd rfl (.inl rfl) (pe_call GJn (hr.mono (by decide)) rfl gJn FJn.kp bJn .nil pass0 (pa_cons (pv 11) (pa_cons (pv 13) pa_nil))))
      (pss_one (ps_dput (hu_of hr) (pv 5) (pv 15) (pe_op op_add (pe_dget2 (hu_of hr) (pv 5) (pv 15) pe_int ⟨rfl, rfl, rfl, rfl⟩) (pe_op op_mul (pe_op op_mul (pv 10) (pv 12)) (pv 14))) rfl)))))))) pss_nil))))))
      (pss_one (ps_dput (hu_of hr) (pv 1) (pe_tup (pa_cons (pv 3) (pa_cons (pv 4) pa_nil))) (DctU.pe_frz (pe_callTy (T := "dict") (r := DctU.rDictT K) (by exact DctU.cr_dictT rfl hr.units) (by rfl) T.dict (by decide +kernel) (pa_cons (pe_lock (pe_lc (own := [("key", 15)]) (g := gName 15) (tt := tYes) rfl scTb.nd (pi_keys (pv 5)) (blkOk_by (own := [("key", 15)]) (N := ["most_here", "table", "total", "marked", "plain", "found", "inner", "other_here", "first", "last", "ways", "left", "part", "right", "more", "key"]) (sc := defScope sTable) (by decide +kernel)) (fun _ _ _ _ _ => pg_name (i := 15) scTb.nd rfl (Or.inl rfl)) (fun _ _ _ _ _ => pts_nil) (fun _ _ _ _ _ => (pe_tup (pa_cons (pv 15) (pa_cons (pe_op op_fdivW (pe_dget (hu_of hr) (pv 5) (pv 15) (fun _ _ => rfl)) pe_int) pa_nil)))))) pa_nil))) rfl)))))))
      (pss_one (ps_ret (pv 1))))), ?_⟩
    refine fun t ht => ⟨(by show 2 ≤ sizeLine; decide), fun a1 ha1 => fun d1 hd1 => ⟨(by show 2 ≤ sizeLine; decide), fun b1 hb1 => ?_⟩⟩
    have x1 := Grows.new (o := .dT []) ht
    have x2 := Grows.new (o := .tup [V.int 1, V.int 0]) ha1
    have x3 := Grows.new (o := .dT []) hd1
    have x4 := Grows.new (o := .tup [V.int 1, V.int 0]) hb1
    have gT := x2.trans (x3.trans x4)
    have eT := gT _ _ (upd_same (H := H) (a := t) (o := .dT []))
    have eA := (x3.trans x4) _ _ (upd_same (a := a1) (o := .tup [V.int 1, V.int 0]))
    have eD := x4 _ _ (upd_same (a := d1) (o := .dT []))
    have gH := x1.trans gT
    have eB := upd_same (H := upd (upd (upd H t (.dT [])) a1 (.tup [V.int 1, V.int 0])) d1 (.dT [])) (a := b1) (o := .tup [V.int 1, V.int 0])
    have dH : H d1 = none := none_back (x1.trans x2) hd1
    have tD : t ≠ d1 := fun z => by rw [← z, x2 _ _ upd_same] at hd1; cases hd1
    have aD : a1 ≠ d1 := fun z => by rw [← z, upd_same] at hd1; cases hd1
    generalize upd (upd (upd (upd H t (.dT [])) a1 (.tup [V.int 1, V.int 0])) d1 (.dT [])) b1 (.tup [V.int 1, V.int 0]) = G1 at eT eA eD eB gH
    refine ⟨eD, [(keyE (1, 0), V.int 1)], .cons ⟨b1, rfl, eB, rfl⟩ .nil, by decide, d1, _, rfl, upd_same, trivial, fun c1 => ⟨(by show 2 ≤ sizeLine; decide), fun a2 ha2 => fun d2 hd2 => ⟨(by show 2 ≤ sizeLine; decide), fun b2 hb2 => ?_⟩⟩⟩
    rw [show mergeT [] [(keyE (1, 0), V.int 1)] = embE V.int [((1, 0), 1)] from rfl] at ha2 hd2 hb2 ⊢
    have gH2 : Grows H (upd (upd G1 d1 (.dT (embE V.int [((1, 0), 1)]))) d1 (.frz c1 (.dT (embE V.int [((1, 0), 1)])))) := upd_D dH (upd_D dH gH)
    have eT2 : upd (upd G1 d1 (.dT (embE V.int [((1, 0), 1)]))) d1 (.frz c1 (.dT (embE V.int [((1, 0), 1)]))) t = some (.dT []) := by rw [upd_ne tD, upd_ne tD]; exact eT
    have eA2 : upd (upd G1 d1 (.dT (embE V.int [((1, 0), 1)]))) d1 (.frz c1 (.dT (embE V.int [((1, 0), 1)]))) a1 = some (.tup [V.int 1, V.int 0]) := by rw [upd_ne aD, upd_ne aD]; exact eA
    have eD2 := upd_same (H := upd G1 d1 (.dT (embE V.int [((1, 0), 1)]))) (a := d1) (o := .frz c1 (.dT (embE V.int [((1, 0), 1)])))
    generalize upd (upd G1 d1 (.dT (embE V.int [((1, 0), 1)]))) d1 (.frz c1 (.dT (embE V.int [((1, 0), 1)]))) = G2 at gH2 eT2 eA2 eD2 ha2 hd2 hb2
    have y2 := Grows.new (o := .tup [V.int 0, V.int 1]) ha2
    have y3 := Grows.new (o := .dT []) hd2
    have y4 := Grows.new (o := .tup [V.int 0, V.int 0]) hb2
    have y := y2.trans (y3.trans y4)
    have eT3 := y _ _ eT2
    have eA3 := y _ _ eA2
    have eD3 := y _ _ eD2
    have eP3 := (y3.trans y4) _ _ (upd_same (H := G2) (a := a2) (o := .tup [V.int 0, V.int 1]))
    have eQ3 := y4 _ _ (upd_same (a := d2) (o := .dT []))
    have eR3 := upd_same (H := upd (upd G2 a2 (.tup [V.int 0, V.int 1])) d2 (.dT [])) (a := b2) (o := .tup [V.int 0, V.int 0])
    have gH3 := gH2.trans y
    have dH2 : H d2 = none := none_back (gH2.trans y2) hd2
    have n1 : t ≠ d2 := fun z => by rw [← z, y2 _ _ eT2] at hd2; cases hd2
    have n2 : a1 ≠ d2 := fun z => by rw [z, eQ3] at eA3; cases eA3
    have n3 : a2 ≠ d2 := fun z => by rw [← z, upd_same] at hd2; cases hd2
    have n4 : d1 ≠ d2 := fun z => by rw [z, eQ3] at eD3; cases eD3
    generalize upd (upd (upd G2 a2 (.tup [V.int 0, V.int 1])) d2 (.dT [])) b2 (.tup [V.int 0, V.int 0]) = G3 at eT3 eA3 eD3 eP3 eQ3 eR3 gH3
    refine ⟨eQ3, [(keyE (0, 0), V.int 1)], .cons ⟨b2, rfl, eR3, rfl⟩ .nil, by decide, d2, _, rfl, upd_same, trivial, fun c2 => ?_⟩
    rw [show mergeT [] [(keyE (0, 0), V.int 1)] = embE V.int [((0, 0), 1)] from rfl]
    have up : ∀ {b : Addr}, b ≠ d2 → upd (upd G3 d2 (.dT (embE V.int [((0, 0), 1)]))) d2 (.frz c2 (.dT (embE V.int [((0, 0), 1)]))) b = G3 b := fun n => by rw [upd_ne n, upd_ne n]
    have gH4 : Grows H (upd (upd G3 d2 (.dT (embE V.int [((0, 0), 1)]))) d2 (.frz c2 (.dT (embE V.int [((0, 0), 1)])))) := upd_D dH2 (upd_D dH2 gH3)
    have eT4 := (up n1).trans eT3
    have eA4 := (up n2).trans eA3
    have eP4 := (up n3).trans eP3
    have eD4 := (up n4).trans eD3
    have eQ4 := upd_same (H := upd G3 d2 (.dT (embE V.int [((0, 0), 1)]))) (a := d2) (o := .frz c2 (.dT (embE V.int [((0, 0), 1)])))
    clear up
    generalize upd (upd G3 d2 (.dT (embE V.int [((0, 0), 1)]))) d2 (.frz c2 (.dT (embE V.int [((0, 0), 1)]))) = G4 at gH4 eT4 eA4 eP4 eD4 eQ4
    refine ⟨eT4, [(keyE (1, 0), V.ref d1), (keyE (0, 1), V.ref d2)], .cons ⟨a1, rfl, eA4, rfl⟩ (.cons ⟨a2, rfl, eP4, rfl⟩ .nil), (by show 2 ≤ 15; decide), ?_⟩
    obtain ⟨es0, ees⟩ : ∃ es0 : Es, es0 = [((1, 0), (d1, [((1, 0), 1)])), ((0, 1), (d2, [((0, 0), 1)]))] := ⟨_, rfl⟩
    have em : mergeT [] [(keyE (1, 0), V.ref d1), (keyE (0, 1), V.ref d2)] = embE (fun x => V.ref x.1) es0 := by
      rw [ees]
      rfl
    rw [em]
    have nT1 : d1 ≠ t := fun z => tD z.symm
    have nT2 : d2 ≠ t := fun z => n1 z.symm
    have tb0 : TabOk (upd G4 t (.dT (embE (fun x => V.ref x.1) es0))) t es0 := by
      refine ⟨upd_same, fun e he => ?_⟩
      rw [ees] at he
      rcases List.mem_cons.mp he with z | z
      · rw [z]
        exact ⟨c1, (upd_ne nT1).trans eD4⟩
      · rw [List.mem_singleton.mp z]
        exact ⟨c2, (upd_ne nT2).trans eQ4⟩
    have gH5 : Grows H (upd G4 t (.dT (embE (fun x => V.ref x.1) es0))) := upd_D ht gH4
    have te0 : tabE es0 = tabT 0 := by
      rw [ees]
      rfl
    clear ees em
    generalize upd G4 t (.dT (embE (fun x => V.ref x.1) es0)) = G5 at tb0 gH5
    show tSeq _ _ _ [some (.int 7), some (.ref t), none, none, none, none, none, none, none, none, none, none, none, none, none, none] G5
    refine ⟨_, rfl, _, _, rfl, rfl, 2, (7 : Int) + 1, rfl, ⟨by decide, by decide, by decide, by decide⟩, for_range (lo := 2) (n := ((7 : Int) + 1 - 2).toNat) (fun i σ G => ∃ o2 o3 o4 o5 o6 o7 o8 o9 o10 o11 o12 o13 o14 o15 : Option V, ∃ es : Es, σ = [some (.int 7), some (.ref t), o2, o3, o4, o5, o6, o7, o8, o9, o10, o11, o12, o13, o14, o15] ∧ Grows H G ∧ TabOk G t es ∧ tabE es = tabT i)
      ⟨none, none, none, none, none, none, none, none, none, none, none, none, none, none, es0, rfl, gH5, tb0, te0⟩ (fun i σ B0 il ⟨o2, o3, o4, o5, o6, o7, o8, o9, o10, o11, o12, o13, o14, o15, es, e, gB, tb, te⟩ => ?_) fun σ B0 ⟨o2, o3, o4, o5, o6, o7, o8, o9, o10, o11, o12, o13, o14, o15, es, e, gB, tb, te⟩ => ?_⟩
    rotate_left
    · subst e
      exact ⟨_, rfl, k t es B0 gB tb te⟩
    subst e
    have i6 : i < 6 := il
    have nx : tabT (i + 1) = tabM (i + 2) (tabT i) (i + 3) := rfl
    rw [nx]
    obtain ⟨T0, eT0⟩ : ∃ T0, T0 = tabT i := ⟨_, rfl⟩
    rw [← eT0] at te ⊢
    refine ⟨_, rfl, _, _, rfl, rfl, 2 + (i : Int) + 1, rfl, by omega, by omega, for_range (lo := 0) (n := (2 + (i : Int) + 1).toNat) (fun m σ G => ∃ o3 o4 o5 o6 o7 o8 o9 o10 o11 o12 o13 o14 o15 : Option V, ∃ es : Es, σ = [some (.int 7), some (.ref t), some (.int (2 + (i : Int))), o3, o4, o5, o6, o7, o8, o9, o10, o11, o12, o13, o14, o15] ∧ Grows H G ∧ TabOk G t es ∧ tabE es = tabM (i + 2) T0 m)
      ⟨o3, o4, o5, o6, o7, o8, o9, o10, o11, o12, o13, o14, o15, es, rfl, gB, tb, te⟩ (fun m σ B ml ⟨o3, o4, o5, o6, o7, o8, o9, o10, o11, o12, o13, o14, o15, es, e, gB, tb, te⟩ => ?_) fun σ B ⟨o3, o4, o5, o6, o7, o8, o9, o10, o11, o12, o13, o14, o15, es, e, gB, tb, te⟩ => ?_⟩
    rotate_left
    · subst e
      rw [show (2 + (i : Int) + 1).toNat = i + 3 by omega] at te
      exact ⟨_, o3, o4, o5, o6, o7, o8, o9, o10, o11, o12, o13, o14, o15, es, rfl, gB, tb, te⟩
    subst e
    obtain ⟨pl, epl⟩ : ∃ pl, pl = i + 2 - m := ⟨_, rfl⟩
    have hpl : 2 + (i : Int) - (m : Int) = (pl : Int) := by omega
    have nx : tabM (i + 2) T0 (m + 1) = putM (tabM (i + 2) T0 m) ((m : Int), (pl : Int)) (entM (tabM (i + 2) T0 m) m pl) := by
      rw [epl]
      rfl
    obtain ⟨ok1, ok2⟩ := tab_ok (i := i) (m := m) i6 (by omega)
    rw [← eT0] at ok2
    rw [← eT0, ← epl] at ok1
    rw [nx]
    generalize tabM (i + 2) T0 m = TT at te ok1 ok2 ⊢
    subst te
    clear nx
    refine nm_b ?_
    dsimp only [List.set_cons_succ, List.set_cons_zero]
    rw [Int.zero_add]
    refine ⟨_, rfl, _, rfl, _, _, rfl, rfl, fun D hD => ⟨(by show 2 ≤ sizeLine; decide), fun T hT => ⟨T, _, rfl, SqT.of upd_same, rfl, _, _, rfl, _, _, rfl, rfl, ?_⟩⟩⟩
    dsimp only [List.set_cons_succ, List.set_cons_zero]
    rw [hpl]
    have z1 := Grows.new (o := .dT []) hD
    have z2 := Grows.new (o := .tup [V.int (pl : Int), V.ref D]) hT
    have gBC := z1.trans z2
    have eDC := z2 _ _ (upd_same (H := B) (a := D) (o := .dT []))
    have tbC := tb.grow gBC
    have tD : t ≠ D := ne_of_none tb.top hD
    generalize upd (upd B D (.dT [])) T (.tup [V.int (pl : Int), V.ref D]) = C at gBC eDC tbC
    have keepT : ∀ {G : Hp}, Gr D C G → TabOk G t es := fun {G} g => ⟨g _ _ tD tbC.top, fun e he => by
      obtain ⟨o, z⟩ := tbC.each e he
      exact ⟨o, g _ _ (fun q => by rw [q, eDC] at z; cases z) z⟩⟩
    have m7 : m ≤ 7 := by omega
    have p7 : pl ≤ 7 := by omega
    show tSeq _ _ _ [some (.int 7), some (.ref t), some (.int (2 + (i : Int))), some (.int (m : Int)), some (.int (pl : Int)), some (.ref D), o6, o7, o8, o9, o10, o11, o12, o13, o14, o15] C
    refine ⟨_, rfl, _, _, rfl, rfl, (m : Int) + 1, rfl, by omega, by omega, for_range (lo := 0) (n := ((m : Int) + 1).toNat) (fun a σ G => ∃ o6 o7 o8 o9 o10 o11 o12 o13 o14 o15 : Option V, σ = [some (.int 7), some (.ref t), some (.int (2 + (i : Int))), some (.int (m : Int)), some (.int (pl : Int)), some (.ref D), o6, o7, o8, o9, o10, o11, o12, o13, o14, o15] ∧ Gr D C G ∧ G D = some (.dT (embE V.int (allS (tabE es) m pl a))) ∧ (allS (tabE es) m pl a).length ≤ 4000 * a)
      ⟨o6, o7, o8, o9, o10, o11, o12, o13, o14, o15, rfl, .refl, eDC, Nat.le_refl _⟩ (fun a σ G al ⟨o6, o7, o8, o9, o10, o11, o12, o13, o14, o15, e, g, eD, sz⟩ => ?_) fun σ G ⟨o6, o7, o8, o9, o10, o11, o12, o13, o14, o15, e, g, eD, sz⟩ => ?_⟩
    · subst e
      refine nm_d ?_
      dsimp only [List.set_cons_succ, List.set_cons_zero]
      rw [Int.zero_add]
      have nx : allS (tabE es) m pl (a + 1) = rowS (tabE es) m pl a (pl + 1) (allS (tabE es) m pl a) := rfl
      rw [nx]
      generalize allS (tabE es) m pl a = fa at eD sz ⊢
      refine ⟨_, rfl, _, _, rfl, rfl, (pl : Int) + 1, rfl, by omega, by omega, for_range (lo := 0) (n := ((pl : Int) + 1).toNat) (fun b σ G => ∃ o7 o8 o9 o10 o11 o12 o13 o14 o15 : Option V, σ = [some (.int 7), some (.ref t), some (.int (2 + (i : Int))), some (.int (m : Int)), some (.int (pl : Int)), some (.ref D), some (.int (a : Int)), o7, o8, o9, o10, o11, o12, o13, o14, o15] ∧ Gr D C G ∧ G D = some (.dT (embE V.int (rowS (tabE es) m pl a b fa))) ∧ (rowS (tabE es) m pl a b fa).length ≤ 4000 * a + 400 * b)
        ⟨o7, o8, o9, o10, o11, o12, o13, o14, o15, rfl, g, eD, sz⟩ (fun b σ G bl ⟨o7, o8, o9, o10, o11, o12, o13, o14, o15, e, g, eD, sz⟩ => ?_) fun σ G ⟨o7, o8, o9, o10, o11, o12, o13, o14, o15, e, g, eD, sz⟩ => ?_⟩
      rotate_left
      · subst e
        rw [show ((pl : Int) + 1).toNat = pl + 1 by omega] at eD sz
        exact ⟨_, o7, o8, o9, o10, o11, o12, o13, o14, o15, rfl, g, eD, by omega⟩
      subst e
      refine nm_b ?_
      dsimp only [List.set_cons_succ, List.set_cons_zero]
      rw [Int.zero_add]
      have nx : rowS (tabE es) m pl a (b + 1) fa = oneS (tabE es) m pl a b (rowS (tabE es) m pl a b fa) := rfl
      rw [nx]
      generalize rowS (tabE es) m pl a b fa = fb at eD sz ⊢
      refine ⟨_, rfl, _, rfl, (by show 2 ≤ sizeLine; decide), fun f1 hf1 => ⟨_, rfl, _, rfl, _, _, rfl, rfl, _, rfl, _, rfl, _, _, rfl, rfl, (by show 2 ≤ sizeLine; decide), fun f2 hf2 => ⟨_, _, rfl, ?_⟩⟩⟩
      dsimp only [List.set_cons_succ, List.set_cons_zero]
      have z1 := Grows.new (o := .tup [V.int (a : Int), V.int (b : Int)]) hf1
      have z2 := Grows.new (o := .tup [V.int ((m : Int) - (a : Int)), V.int ((pl : Int) - (b : Int))]) hf2
      have g2 := g.trans (z1.trans z2).gr
      have eD2 := (z1.trans z2) _ _ eD
      have ef1 := z2 _ _ (upd_same (H := G) (a := f1) (o := .tup [V.int (a : Int), V.int (b : Int)]))
      have ef2 := upd_same (H := upd G f1 (.tup [V.int (a : Int), V.int (b : Int)])) (a := f2) (o := .tup [V.int ((m : Int) - (a : Int)), V.int ((pl : Int) - (b : Int))])
      generalize upd (upd G f1 (.tup [V.int (a : Int), V.int (b : Int)])) f2 (.tup [V.int ((m : Int) - (a : Int)), V.int ((pl : Int) - (b : Int))]) = G2 at g2 eD2 ef1 ef2
      have s2 : ∀ x y : Int, [x, y].sum = x + y := fun x y => by simp
      have alle : m + 1 > a := by omega
      have ble : pl + 1 > b := by omega
      refine ⟨_, rfl, f1, [(a : Int), (b : Int)], rfl, SqT.of ef1, _, _, rfl, rfl, _, rfl, ?_⟩
      rw [s2]
      have skip : ¬ (0 < a + b ∧ a + b < m + pl) → ∃ p7 p8 p9 p10 p11 p12 p13 p14 p15 : Option V, [some (.int 7), some (.ref t), some (.int (2 + (i : Int))), some (.int (m : Int)), some (.int (pl : Int)), some (.ref D), some (.int (a : Int)), some (.int (b : Int)), some (.ref f1), some (.ref f2), o10, o11, o12, o13, o14, o15] = [some (.int 7), some (.ref t), some (.int (2 + (i : Int))), some (.int (m : Int)), some (.int (pl : Int)), some (.ref D), some (.int (a : Int)), p7, p8, p9, p10, p11, p12, p13, p14, p15] ∧ Gr D C G2 ∧ G2 D = some (HO.dT (embE V.int (oneS (tabE es) m pl a b fb))) ∧ (oneS (tabE es) m pl a b fb).length ≤ 4000 * a + 400 * (b + 1) := fun no => by
        refine ⟨_, _, _, o10, o11, o12, o13, o14, o15, rfl, g2, ?_, ?_⟩
        · unfold oneS
          rw [if_neg no]
          exact eD2
        · unfold oneS
          rw [if_neg no]
          omega
      by_cases c1 : 0 < (a : Int) + (b : Int)
      rotate_left
      · rw [decide_eq_false c1]
        refine iteF (iteF ?_)
        unfold tNext
        exact skip fun z => c1 (by omega)
      rw [decide_eq_true c1]
      refine iteT ⟨_, rfl, f2, [(m : Int) - (a : Int), (pl : Int) - (b : Int)], rfl, SqT.of ef2, _, _, rfl, rfl, _, rfl, ?_⟩
      rw [s2]
      by_cases c2 : 0 < (m : Int) - (a : Int) + ((pl : Int) - (b : Int))
      rotate_left
      · rw [decide_eq_false c2]
        refine iteF ?_
        unfold tNext
        exact skip fun z => c2 (by omega)
      rw [decide_eq_true c2]
      have yes : 0 < a + b ∧ a + b < m + pl := ⟨by omega, by omega⟩
      have one : oneS (tabE es) m pl a b fb = outR (chN m a * chN pl b) ((getM (tabE es) ((a : Int), (b : Int))).getD []) ((getM (tabE es) ((m : Int) - a, (pl : Int) - b)).getD []) fb := by
        unfold oneS
        rw [if_pos yes]
      have q := List.all_eq_true.mp (List.all_eq_true.mp ok1 a (List.mem_range.mpr (by omega))) b (List.mem_range.mpr (by omega))
      rw [decide_eq_true yes, Bool.not_true, Bool.false_or, Bool.and_eq_true] at q
      have tb2 := keepT g2
      obtain ⟨d1, oo1, L1, gm1, gv1, gd1⟩ := tb2.get q.1
      obtain ⟨d2, oo2, L2, gm2, gv2, gd2⟩ := tb2.get q.2
      obtain ⟨s11, s12⟩ := small_get ok2 gm1
      obtain ⟨s21, s22⟩ := small_get ok2 gm2
      rw [gm1, gm2] at one
      obtain ⟨wv, ewv⟩ : ∃ wv, wv = chN m a * chN pl b := ⟨_, rfl⟩
      rw [← ewv] at one
      have one : oneS (tabE es) m pl a b fb = outR wv L1 L2 fb := one
      rw [one]
      refine iteT ⟨_, rfl, _, rfl, m, a, rfl, by omega, m7, _, rfl, _, rfl, pl, b, rfl, by omega, p7, _, _, rfl, rfl, .inl (ch_ok (by omega) (by omega)), ?_⟩
      refine nm_d ?_
      dsimp only [List.set_cons_succ, List.set_cons_zero]
      rw [← ewv]
      clear skip one ewv q c1 c2
      have nd1 : d1 ≠ D := fun z => by rw [z, eD2] at gd1; cases gd1
      have nd2 : d2 ≠ D := fun z => by rw [z, eD2] at gd2; cases gd2
      have nf2 : f2 ≠ D := fun z => by rw [z, eD2] at ef2; cases ef2
      refine ⟨_, rfl, _, rfl, t, .ref d1, rfl, gv1 ▸ DGet.t (k := keyE ((a : Int), (b : Int))) tb2.top ef1, d1, oo1, embE V.int L1, rfl, gd1, ItT.for_itemsT (fun u σ G => ∃ o11 o12 o13 o14 o15 : Option V, σ = [some (.int 7), some (.ref t), some (.int (2 + (i : Int))), some (.int (m : Int)), some (.int (pl : Int)), some (.ref D), some (.int (a : Int)), some (.int (b : Int)), some (.ref f1), some (.ref f2), some (.int wv), o11, o12, o13, o14, o15] ∧ Gr D G2 G ∧ G D = some (.dT (embE V.int (outR wv (L1.take u) L2 fb))) ∧ (outR wv (L1.take u) L2 fb).length ≤ 4000 * a + 400 * b + 20 * u)
        ⟨o11, o12, o13, o14, o15, rfl, .refl, eD2, sz⟩ (fun u σ G ⟨o11, o12, o13, o14, o15, e, gr, _⟩ => gr _ _ nd1 gd1) (fun u kk v T q1 σ G ek ⟨o11, o12, o13, o14, o15, e, gr, eD, sz⟩ hT hq => ?_) fun σ G ⟨o11, o12, o13, o14, o15, e, gr, eD, sz⟩ => ?_⟩
      rotate_left
      · subst e
        rw [embE_len, List.take_length] at eD sz
        exact ⟨_, _, _, _, o11, o12, o13, o14, o15, rfl, g2.trans gr, eD, by omega⟩
      subst e
      obtain ⟨l, hl, rfl, rfl⟩ := embE_at ek
      have ul := (List.getElem?_eq_some_iff.mp hl).1
      rw [outR_next hl]
      generalize outR wv (L1.take u) L2 fb = fu at eD sz ⊢
      refine ⟨T, _, rfl, SqT.of upd_same, rfl, _, _, rfl, _, _, rfl, rfl, ?_⟩
      dsimp only [List.set_cons_succ, List.set_cons_zero]
      have zT := Grows.new (o := .tup [V.ref q1, V.int l.2]) hT
      have gr3 := gr.trans zT.gr
      have eD3 := zT _ _ eD
      have eq1 := zT _ _ hq
      have nq1 : q1 ≠ D := fun z => by rw [z, eD] at hq; cases hq
      generalize upd G T (.tup [V.ref q1, V.int l.2]) = G3 at gr3 eD3 eq1
      have top3 := (keepT (g2.trans gr3)).top
      refine ⟨_, rfl, _, rfl, t, .ref d2, rfl, gv2 ▸ DGet.t (k := keyE ((m : Int) - (a : Int), (pl : Int) - (b : Int))) top3 (gr3 _ _ nf2 ef2), d2, oo2, embE V.int L2, rfl, gr3 _ _ nd2 gd2, ItT.for_itemsT (fun v σ G => ∃ o13 o14 o15 : Option V, σ = [some (.int 7), some (.ref t), some (.int (2 + (i : Int))), some (.int (m : Int)), some (.int (pl : Int)), some (.ref D), some (.int (a : Int)), some (.int (b : Int)), some (.ref f1), some (.ref f2), some (.int wv), some (.ref q1), some (.int l.2), o13, o14, o15] ∧ Gr D G3 G ∧ G D = some (.dT (embE V.int (inR wv l (L2.take v) fu))) ∧ (inR wv l (L2.take v) fu).length ≤ 4000 * a + 400 * b + 20 * u + v)
        ⟨o13, o14, o15, rfl, .refl, eD3, sz⟩ (fun v σ G ⟨o13, o14, o15, e, gr, _⟩ => gr _ _ nd2 (gr3 _ _ nd2 gd2)) (fun v kk vv T2 q2 σ G ek2 ⟨o13, o14, o15, e, gr, eD, sz⟩ hT2 hq2 => ?_) fun σ G ⟨o13, o14, o15, e, gr, eD, sz⟩ => ?_⟩
      rotate_left
      · subst e
        rw [embE_len, List.take_length] at eD sz
        exact ⟨_, _, o13, o14, o15, rfl, gr3.trans gr, eD, by omega⟩
      subst e
      obtain ⟨r, hrr, rfl, rfl⟩ := embE_at ek2
      have vl := (List.getElem?_eq_some_iff.mp hrr).1
      rw [inR_next hrr]
      generalize inR wv l (L2.take v) fu = fv at eD sz ⊢
      refine ⟨T2, _, rfl, SqT.of upd_same, rfl, _, _, rfl, _, _, rfl, rfl, ?_⟩
      dsimp only [List.set_cons_succ, List.set_cons_zero]
      have zT2 := Grows.new (o := .tup [V.ref q2, V.int r.2]) hT2
      refine ⟨_, rfl, _, rfl, q1, q2, l.1, r.1, rfl, SqT.of (zT2 _ _ (gr _ _ nq1 eq1)), SqT.of (zT2 _ _ hq2), fun tk htk => ?_⟩
      refine nm_d ?_
      dsimp only [List.set_cons_succ, List.set_cons_zero]
      have zK := Grows.new (o := .tup [V.int (joinM l.1 r.1).1, V.int (joinM l.1 r.1).2]) htk
      have gr4 := gr.trans (zT2.trans zK).gr
      have eD4 := (zT2.trans zK) _ _ eD
      have ek4 := upd_same (H := upd G T2 (.tup [V.ref q2, V.int r.2])) (a := tk) (o := .tup [V.int (joinM l.1 r.1).1, V.int (joinM l.1 r.1).2])
      generalize upd (upd G T2 (.tup [V.ref q2, V.int r.2])) tk (.tup [V.int (joinM l.1 r.1).1, V.int (joinM l.1 r.1).2]) = G4 at gr4 eD4 ek4
      have dg := DGet.t (k := keyE (joinM l.1 r.1)) eD4 ek4
      rw [get_emb V.int] at dg
      have bp := s12 l (List.mem_of_getElem? hl)
      have bm := s22 r (List.mem_of_getElem? hrr)
      refine ⟨_, rfl, D, rfl, .inr ⟨_, .inl eD4⟩, _, rfl, _, dg, ?_⟩
      rw [show ((getM fv (joinM l.1 r.1)).map V.int).getD (V.int 0) = V.int ((getM fv (joinM l.1 r.1)).getD 0) by cases getM fv (joinM l.1 r.1) <;> rfl]
      have al := addM_len fv (joinM l.1 r.1) (wv * l.2 * r.2)
      have dp := DPut.t (v := V.int ((getM fv (joinM l.1 r.1)).getD 0 + wv * l.2 * r.2)) (k := keyE (joinM l.1 r.1)) eD4 ek4 (by rw [embE_len]; exact Nat.lt_of_le_of_lt (show fv.length ≤ 100000 by omega) (by decide))
      rw [put_emb V.int] at dp
      refine ⟨_, rfl, _, rfl, _, _, rfl, rfl, .inr bp, _, rfl, _, _, rfl, rfl, .inr bm, _, _, rfl, rfl, _, rfl, _, rfl, D, _, rfl, dp, ?_⟩
      exact ⟨_, _, _, rfl, gr4.trans .at, upd_same, by omega⟩
    · subst e
      rw [show ((m : Int) + 1).toNat = m + 1 by omega] at eD
      have ent : entM (tabE es) m pl = halfM (allS (tabE es) m pl (m + 1)) := rfl
      rw [ent]
      have fl : (allS (tabE es) m pl (m + 1)).length ≤ 32000 := by
        rw [show ((m : Int) + 1).toNat = m + 1 by omega] at sz
        omega
      generalize allS (tabE es) m pl (m + 1) = f at eD fl ⊢
      have hl : (halvM f).length = f.length := List.length_map ..
      refine ⟨D, _, eD, trivial, fun od => ?_⟩
      have eD0 := upd_same (H := G) (a := D) (o := .frz od (.dT (embE V.int f)))
      have g0 : Gr D C (upd G D (.frz od (.dT (embE V.int f)))) := g.trans .at
      generalize upd G D (.frz od (.dT (embE V.int f))) = G0 at eD0 g0
      refine ⟨_, rfl, D, od, rfl, .inr ⟨_, eD0, fun DL hDL => lc_keysT (fun j G' => Grows G0 G' ∧ ∃ ps : List Addr, G' DL = some (.lst (ps.map V.ref)) ∧ Paired (fun p (kv : List L2.Key × V) => ∃ b, G' p = some (.tup [.ref b, kv.2]) ∧ G' b = some (.tup (kv.1.map kV))) ps (embE V.int ((halvM f).take j)))
        ⟨Grows.new hDL, [], upd_same, .nil⟩ (fun j G' ⟨gg, _⟩ => gg _ _ eD0) (fun j kk vv q G' ek ⟨gg, ps, eL, pr⟩ hq => ?_) fun G' ⟨gg, ps, eL, pr⟩ => ?_⟩⟩
      · obtain ⟨e, he, rfl, rfl⟩ := embE_at ek
        have jl := (List.getElem?_eq_some_iff.mp he).1
        obtain ⟨x, ex⟩ := getM_some (List.mem_of_getElem? he)
        have vx : some (V.int x) = valV (embE V.int f) (keyE e.1) := by
          rw [get_emb, ex]
          rfl
        have dg : DGet G' D (.ref q) (some (.int x)) := .inr ⟨_, keyE e.1, q, .inr ⟨od, gg _ _ eD0⟩, rfl, hq, vx⟩
        have pl2 := Paired.length pr
        rw [embE_len, List.length_take] at pl2
        refine ⟨rfl, ?_⟩
        unfold tYes
        refine iteT ⟨_, rfl, _, rfl, _, rfl, D, .int x, rfl, dg, _, _, rfl, rfl, wide_div (b := 2) (by decide) (by decide) (by decide) (by decide), (by show 2 ≤ sizeLine; decide), fun p hp => ⟨_, Grows.new hp _ _ eL, ?_, upd_D hDL (gg.trans (Grows.new hp)), ps ++ [p], ?_, ?_⟩⟩
        · rw [List.length_map]
          exact Nat.lt_of_le_of_lt (show ps.length ≤ 100000 by omega) (by decide)
        · rw [upd_same, List.map_append]
          rfl
        · have up : ∀ {c : Addr} {xs : List V}, G' c = some (.tup xs) → upd (upd G' p (.tup [V.ref q, V.int (x / 2)])) DL (.lst (ps.map V.ref ++ [V.ref p])) c = some (.tup xs) := fun {c xs} h => by
            have n1 : c ≠ DL := fun z => by rw [z, eL] at h; cases h
            rw [upd_ne n1]
            exact Grows.new hp _ _ h
          have pn : p ≠ DL := fun z => by rw [z, eL] at hp; cases hp
          have tk : (halvM f).take (j + 1) = (halvM f).take j ++ [(e.1, x / 2)] := take_nextD (by
            unfold halvM
            rw [List.getElem?_map, he]
            show some (e.1, (getM f e.1).getD 0 / 2) = _
            rw [ex]
            rfl)
          rw [tk]
          unfold embE
          rw [List.map_append]
          exact Paired.snoc (Paired.mapP pr fun p kv ⟨b, z1, z2⟩ => ⟨b, up z1, up z2⟩) ⟨q, (upd_ne pn).trans upd_same, up hq⟩
      · rw [embE_len, List.take_of_length_le (by omega)] at pr
        have eDF := gg _ _ eD0
        refine ⟨eDF, DL, ps, embE V.int (halvM f), rfl, SqL.of ?_, by rw [embE_len]; omega, Paired.mapP pr fun p kv ⟨b, z1, z2⟩ => ⟨b, SqT.of ?_, ?_⟩, fun p hp => ⟨p, _, rfl, upd_same, trivial, fun o => ?_⟩⟩
        · rw [upd_ne fun z => by rw [z, eDF] at eL; cases eL]
          exact eL
        · rw [upd_ne fun z => by rw [z, eDF] at z1; cases z1]
          exact z1
        · rw [upd_ne fun z => by rw [z, eDF] at z2; cases z2]
          exact z2
        rw [show mergeT [] (embE V.int (halvM f)) = embE V.int (halfM f) from merge_emb [] _]
        have g6 : Gr D C (upd G' D (.dT (embE V.int f))) := (g0.trans gg.gr).trans .at
        generalize upd G' D (.dT (embE V.int f)) = G6 at hp g6
        have g7 : Gr D C (upd (upd G6 p (.dT (embE V.int (halfM f)))) p (.frz o (.dT (embE V.int (halfM f))))) := g6.trans fun b u _ e => by
          have nb := ne_of_none e hp
          rw [upd_ne nb, upd_ne nb]
          exact e
        have ep7 := upd_same (H := upd G6 p (.dT (embE V.int (halfM f)))) (a := p) (o := .frz o (.dT (embE V.int (halfM f))))
        generalize upd (upd G6 p (.dT (embE V.int (halfM f)))) p (.frz o (.dT (embE V.int (halfM f)))) = G7 at g7 ep7
        refine ⟨_, rfl, _, rfl, _, rfl, (by show 2 ≤ sizeLine; decide), fun kt hkt => ?_⟩
        have g8 := g7.trans (Gr.new (o := .tup [V.int (m : Int), V.int (pl : Int)]) hkt)
        have ek8 := upd_same (H := G7) (a := kt) (o := .tup [V.int (m : Int), V.int (pl : Int)])
        have ep8 := Grows.new (o := .tup [V.int (m : Int), V.int (pl : Int)]) hkt _ _ ep7
        generalize upd G7 kt (.tup [V.int (m : Int), V.int (pl : Int)]) = G8 at g8 ek8 ep8
        have tb8 := keepT g8
        have esl : es.length ≤ 50 := by
          unfold smallT tabE at ok2
          rw [Bool.and_eq_true, decide_eq_true_eq, List.length_map] at ok2
          exact ok2.1
        have dH : H D = none := none_back gB hD
        have gH8 : Grows H G8 := fun b u e => g8 b u (fun z => by rw [z, dH] at e; cases e) (gBC _ _ (gB _ _ e))
        refine ⟨t, _, rfl, DPut.t (k := keyE ((m : Int), (pl : Int))) tb8.top ek8 (by rw [embE_len]; exact Nat.lt_of_le_of_lt (show es.length ≤ 50 from esl) (by decide)), ?_⟩
        refine ⟨_, _, _, _, _, _, _, _, _, _, _, _, _, putM es ((m : Int), (pl : Int)) (p, halfM f), rfl, upd_D ht gH8, tb8.put ep8, ?_⟩
        exact putM_map (fun x : Addr × Ent => x.2) es _ _
end
end K34

namespace K34
open PySem PySem.Spec PyProof.Rows L2 SortR LcM RepA DctU
abbrev sFR : Stmt := top 27
def gangM (n far : Nat) : List Int := if far % 2 = 0 then upto far else (List.range far).map fun i : Nat => ((n : Int) - (far : Int)) + (i : Int)
def farsM (n far : Nat) : List Int := (everyM n).map fun rs => chM rs n (gangM n far)
def dueM (n far : Nat) : List Int := (List.range (min far (n - far) + 1)).map fun p : Nat => (((farsM n far).count (p : Int) : Nat) : Int)
def rowS2 (f : Ent) (row : List Int) : List Int := f.foldl (fun row e => row.set e.1.2.toNat (row.getD e.1.2.toNat 0 + e.2)) row
def tabB (k : PI) : Bool := let f := (getM (tabT 6) k).getD []; let c := (min k.1 k.2 + 1).toNat; (getM (tabT 6) k).isSome && decide (0 ≤ k.1) && decide (0 ≤ k.2) && decide (1 ≤ k.1 + k.2) && decide (k.1 + k.2 ≤ 20) && decide (rowS2 f (List.replicate c 0) = ccI (k.1 + k.2) k.1) && f.all fun x => decide (0 ≤ x.1.2) && decide (x.1.2 < (c : Int))
theorem fr_tab : ((tabT 6).all (fun e => tabB e.1)) = true := by decide +kernel
def fewB (n far : Nat) : Bool := decide (ccI n far = dueM n far) && (ccI n far).all (fun x => decide (x.natAbs < 10 ^ 12)) && decide ((ccI n far).length ≤ 30) && (everyM n).all fun rs => chOk rs n (gangM n far)
theorem fr_few : ((List.range 5).all fun k => decide ((everyM (k + 1)).length ≤ 105) && (List.range (k + 2)).all (fewB (k + 1))) = true := by decide +kernel
theorem few_ok {n far : Nat} (n1 : 1 ≤ n) (n5 : n ≤ 5) (h : far ≤ n) : ccI n far = dueM n far ∧ (∀ x ∈ ccI n far, x.natAbs < 10 ^ 12) ∧ (ccI n far).length ≤ 30 ∧ (everyM n).length ≤ 105 ∧ ∀ rs ∈ everyM n, chOk rs n (gangM n far) = true := by
  have z := List.all_eq_true.mp fr_few (n - 1) (List.mem_range.mpr (by omega))
  rw [show n - 1 + 1 = n by omega, Bool.and_eq_true, decide_eq_true_eq] at z
  have q := List.all_eq_true.mp z.2 far (List.mem_range.mpr (by omega))
  unfold fewB at q
  simp only [Bool.and_eq_true, decide_eq_true_eq, List.all_eq_true] at q
  exact ⟨q.1.1.1, q.1.1.2, q.1.2, z.1, q.2⟩
theorem tab_facts {k : PI} {f : Ent} {g : Ent} (h : (k, g) ∈ tabT 6) (e : getM (tabT 6) k = some f) : 0 ≤ k.1 ∧ 0 ≤ k.2 ∧ 1 ≤ k.1 + k.2 ∧ k.1 + k.2 ≤ 20 ∧ rowS2 f (List.replicate (min k.1 k.2 + 1).toNat 0) = ccI (k.1 + k.2) k.1 ∧ ∀ x ∈ f, 0 ≤ x.1.2 ∧ x.1.2 < ((min k.1 k.2 + 1).toNat : Int) := by
  have z := List.all_eq_true.mp fr_tab (k, g) h
  unfold tabB at z
  simp only [Bool.and_eq_true, decide_eq_true_eq, List.all_eq_true, e, Option.getD_some] at z
  obtain ⟨⟨⟨⟨⟨⟨_, a1⟩, a2⟩, a3⟩, a4⟩, a5⟩, a6⟩ := z
  exact ⟨a1, a2, a3, a4, a5, a6⟩
theorem row_next {f : Ent} {row : List Int} {j : Nat} {x : PI × Int} (h : f[j]? = some x) : rowS2 (f.take (j + 1)) row = (rowS2 (f.take j) row).set x.1.2.toNat ((rowS2 (f.take j) row).getD x.1.2.toNat 0 + x.2) := by
  unfold rowS2
  rw [take_nextD h, List.foldl_append]
  rfl
theorem row_len (row : List Int) : ∀ (f : Ent), (rowS2 f row).length = row.length := fun f => by
  unfold rowS2
  induction f generalizing row with
  | nil => rfl
  | cons x f ih =>
    rw [List.foldl_cons, ih, List.length_set]
theorem rep_zero (k : Nat) : (List.replicate k [V.int 0]).flatten = (List.replicate k (0 : Int)).map V.int := by
  rw [List.map_replicate]
  exact List.flatten_replicate_singleton
theorem tx_ints {ns : List Int} (l : ns.length ≤ 30) (h : ∀ x ∈ ns, x.natAbs < 10 ^ 12) : Tx 20 100000 (.list (ns.map .int)) :=
  tx_big (tx_list (n := 0) (w := 110) (m := 30) (fun d hd => by
    obtain ⟨x, hx, rfl⟩ := List.mem_map.mp hd
    exact tx_int (h x hx)) (by rw [List.length_map]; exact l)) (by decide) (by decide)
def spFR : Sp := fun vs H Q _ => vs = [.int 7] ∧ ∀ H', Grows H H' → Q (.bl true) H'
structure FrF (P : Program) (w : World) (base : Heap) (K : PySem.W.Frag) (mg : Str → Option Value) where
  (fEv fCo fTb : Addr)
  (dEv dCo dTb : FuncData)
  FEv : Fun K "_law_every" "_law_every" sEvery fEv dEv
  FCo : Fun K "_law_changes" "_law_changes" sCosts fCo dCo
  FTb : Fun K "_law_table" "_law_table" sTable fTb dTb
  gEv : mg "_law_every" = some (.ref fEv)
  gCo : mg "_law_changes" = some (.ref fCo)
  gTb : mg "_law_table" = some (.ref fTb)
  bEv : Binds K dEv ["many_here"] []
  bCo : Binds K dCo ["lot", "many_here", "gang"] []
  bTb : Binds K dTb ["most_here"] []
  gRepr : mg "repr" = none
  GEv : FnOk P w K mg base CX0 2 fEv dEv ["many_here"] spEvery
  GCo : FnG P w K mg base CX0 2 fCo dCo ["lot", "many_here", "gang"] (spCosts K)
  GTb : FnOk P w K mg base CX0 2 fTb dTb ["most_here"] spTable
section
variable {P : Program} {w : World} {K : PySem.W.Frag} {mg : Str → Option Value} {base : Heap}
theorem scFR : FnScope ["most_here", "many_here", "every", "far", "gang", "fars", "lot", "due", "place", "table", "marked", "plain", "row", "key", "part"] ["most_here"] (defScope sFR) := ⟨rfl, rfl, rfl, by decide +kernel, rfl, by decide +kernel, by decide +kernel⟩
theorem ok_fewR {f : Addr} {fd : FuncData} (F : Fun K "_law_few_right" "_law_few_right" sFR f fd) (Z : ProgF K mg) (T : TxtP mg) (T0 : Txt0 mg) (U : CcF K mg) (kbCC : KBinds K U.dCC ["persons", "number"] ["persons", "number"] selL selL) (L : FrF P w base K mg) : FnG P w K mg base CX0 6 f fd ["most_here"] spFR := by
  obtain ⟨fEv, fCo, fTb, dEv, dCo, dTb, FEv, FCo, FTb, gEv, gCo, gTb, bEv, bCo, bTb, gRepr, GEv, GCo, GTb⟩ := L
  have GCC := ok_cc (P := P) (w := w) (base := base) Z T T0 U
  refine okG F scFR (fun vs H Q E h => ?_) (fun cdv A outer s0 H vs Q E hr noG h => ?_)
  · obtain ⟨rfl, _⟩ := h
    rfl
  · obtain ⟨rfl, k⟩ := h
    refine ⟨_, (pss_cons (ps_for PassesOwn.never rfl (pi_range2 (by rfl) T.range (pa_cons pe_int (pa_cons pe_int pa_nil))) (pg_name (i := 1) scFR.nd rfl (.inr rfl))
      (pss_cons (ps_set (i := 2) scFR.nd rfl (.inl rfl) (pe_call GEv (hr.mono (by decide)) rfl gEv FEv.kp bEv .nil pass0 (pa_cons (pv 1) pa_nil)))
      (pss_one (ps_for PassesOwn.never rfl (pi_range1 (by rfl) T.range (pa_cons (pe_op op_add (pv 1) pe_int) pa_nil)) (pg_name (i := 3) scFR.nd rfl (.inl rfl))
      (pss_cons (ps_set (i := 4) scFR.nd rfl (.inr rfl) (pe_ifExp (pt_cmpR op_eq (pe_op op_mod (pe_callTy call_int1 (by rfl) T.int (by decide +kernel) (pa_cons (pv 3) pa_nil)) pe_int) pe_int (nomark _)) (pe_listRg rfl (by rfl) T.list (prg_1 (by rfl) T.range (pv 3))) (pe_listRg rfl (by rfl) T.list (prg_2 (by rfl) T.range (pe_op op_sub (pv 1) (pv 3)) (pv 1)))))
      (pss_cons (ps_set (i := 5) scFR.nd rfl (.inr rfl) (pe_lc (own := [("lot", 6)]) (g := gName 6) (tt := tYes) rfl scFR.nd (pi_list (pv 2)) (blkOk_by (own := [("lot", 6)]) (N := ["most_here", "many_here", "every", "far", "gang", "fars", "lot", "due", "place", "table", "marked", "plain", "row", "key", "part"]) (sc := defScope sFR) (by decide +kernel)) (fun _ _ _ _ _ => pg_name (i := 6) scFR.nd rfl (Or.inl rfl)) (fun _ _ _ _ _ => pts_nil) (fun _ _ _ _ _ => (pe_callG GCo (hr.mono (by decide)) noG rfl gCo FCo.kp bCo .nil pass0 (pa_cons (pv 6) (pa_cons (pv 1) (pa_cons (pv 4) pa_nil)))))))
      (pss_cons (ps_setLc (i := 7) (te := tBM K "list" (rCntI K) (tVar 5) (tCons (tVar 8) tNil)) (own := [("place", 8)]) (g := gName 8) (tt := tYes) rfl scFR.nd rfl rfl (sw_true rfl rfl rfl (by decide +kernel)) (pi_range1 (by rfl) T.range (pa_cons (pe_op op_add (pe_callB (call_min2 rfl) (by rfl) T0.min (by decide +kernel) (pa_cons (pv 3) (pa_cons (pe_op op_sub (pv 1) (pv 3)) pa_nil))) pe_int) pa_nil)) (blkOk_by (own := [("place", 8)]) (N := ["most_here", "many_here", "every", "far", "gang", "fars", "lot", "due", "place", "table", "marked", "plain", "row", "key", "part"]) (sc := defScope sFR) (by decide +kernel)) (fun _ _ _ _ _ => pg_name (i := 8) scFR.nd rfl (Or.inl rfl)) (fun _ _ _ _ _ => pts_nil) (fun _ _ _ _ _ => (pe_bm PySem.F.plainAttrs_list PySem.F.slot_list_count PySem.F.type_list_count mt_lcount (pv 5) (pa_cons (pv 8) pa_nil))))
      (pss_one (ps_if (pt_cmpR op_ne (pe_callB (id := "repr") (r := rReprD K) (by exact cr_reprD noG hr.units) (by rfl) gRepr (by decide +kernel) (pa_cons (pe_callKw GCC (hr.mono (by decide)) rfl U.gCC U.FCC.kp kbCC pass0 (pk_cons (pv 1) (pk_cons (pv 3) pk_nil))) pa_nil)) (pe_callB (id := "repr") (r := rReprD K) (by exact cr_reprD noG hr.units) (by rfl) gRepr (by decide +kernel) (pa_cons (pv 7) pa_nil)) (nomark _)) (pss_one (ps_ret pe_bl)) pss_nil)))))))))
      (pss_cons (ps_set (i := 9) scFR.nd rfl (.inl rfl) (pe_call GTb (hr.mono (by decide)) rfl gTb FTb.kp bTb .nil pass0 (pa_cons (pv 0) pa_nil)))
      (pss_cons (ps_lock (ps_for PassesOwn.never rfl (pi_keys (pv 9)) (pg_tup (by rfl) (pgs_cons (pg_name (i := 10) scFR.nd rfl (.inl rfl)) (pgs_cons (pg_name (i := 11) scFR.nd rfl (.inl rfl)) pgs_nil)))
      (pss_cons (ps_set (i := 12) scFR.nd rfl (.inl rfl) (pe_op op_rep (pe_lst (pa_cons pe_int pa_nil)) (pe_op op_add (pe_callB (call_min2 rfl) (by rfl) T0.min (by decide +kernel) (pa_cons (pv 10) (pa_cons (pv 11) pa_nil))) pe_int)))
      (pss_cons (ps_for PassesOwn.never rfl (DctU.pi_itemsF (pe_dget (hu_of hr) (pv 9) (pe_tup (pa_cons (pv 10) (pa_cons (pv 11) pa_nil))) (fun _ _ => rfl))) (pg_tup (by rfl) (pgs_cons (pg_name (i := 13) scFR.nd rfl (.inl rfl)) (pgs_cons (pg_name (i := 14) scFR.nd rfl (.inl rfl)) pgs_nil)))
      (pss_one (ps_asg (pe_op op_add (pe_ix (r := rIxL K) ix_list (pv 12) (pe_ix (r := rIxT K) ix_tup (pv 13) pe_int (fun _ _ => rfl)) (fun _ _ => rfl)) (pv 14)) (pg_sub (pv 12) (pe_ix (r := rIxT K) ix_tup (pv 13) pe_int (fun _ _ => rfl)) set_list))))
      (pss_one (ps_if (pt_cmpR (op_neD hr.units) (pe_call GCC (hr.mono (by decide)) rfl U.gCC U.FCC.kp U.bCC .nil pass0 (pa_cons (pe_op op_add (pv 10) (pv 11)) (pa_cons (pv 10) pa_nil))) (pv 12) (nomark _)) (pss_one (ps_ret pe_bl)) pss_nil))))))
      (pss_one (ps_ret pe_bl))))), ?_⟩
    refine ⟨1, 6, rfl, ⟨by decide, by decide, by decide, by decide⟩, for_range (lo := 1) (n := ((6 : Int) - 1).toNat) (fun i σ G => ∃ o1 o2 o3 o4 o5 o6 o7 o8 : Option V, σ = [some (.int 7), o1, o2, o3, o4, o5, o6, o7, o8, none, none, none, none, none, none] ∧ Grows H G)
      ⟨none, none, none, none, none, none, none, none, rfl, .refl⟩ (fun i σ B il ⟨o1, o2, o3, o4, o5, o6, o7, o8, e, gB⟩ => ?_) fun σ B ⟨o1, o2, o3, o4, o5, o6, o7, o8, e, gB⟩ => ?_⟩
    · subst e
      obtain ⟨n, en⟩ : ∃ n : Nat, n = i + 1 := ⟨_, rfl⟩
      have i5 : i < 5 := il
      refine nm_b ?_
      dsimp only [List.set_cons_succ, List.set_cons_zero]
      rw [show 1 + (i : Int) = (n : Int) by omega]
      refine ⟨_, rfl, n, rfl, by omega, by omega, fun Dv xs H1 g1 ev dl => ?_⟩
      dsimp only [List.set_cons_succ, List.set_cons_zero]
      refine nm_d ?_
      dsimp only [List.set_cons_succ, List.set_cons_zero]
      refine ⟨_, rfl, _, _, rfl, rfl, (n : Int) + 1, rfl, by omega, by omega, for_range (lo := 0) (n := ((n : Int) + 1).toNat) (fun j σ G => ∃ o3 o4 o5 o6 o7 o8 : Option V, σ = [some (.int 7), some (.int (n : Int)), some (.ref Dv), o3, o4, o5, o6, o7, o8, none, none, none, none, none, none] ∧ Grows H1 G)
        ⟨o3, o4, o5, o6, o7, o8, rfl, .refl⟩ (fun j σ G jl ⟨o3, o4, o5, o6, o7, o8, e, g⟩ => ?_) fun σ G ⟨o3, o4, o5, o6, o7, o8, e, g⟩ => ?_⟩
      rotate_left
      · subst e
        exact ⟨_, _, o3, o4, o5, o6, o7, o8, rfl, gB.trans (g1.trans g)⟩
      subst e
      obtain ⟨f1, f2, f3, f4, f5⟩ := few_ok (n := n) (far := j) (by omega) (by omega) (by omega)
      refine nm_b ?_
      dsimp only [List.set_cons_succ, List.set_cons_zero]
      rw [Int.zero_add]
      refine tif_of (fun v G2 => ∃ b, v = .ref b ∧ G2 b = some (.lst ((gangM n j).map V.int))) (fun R kR => ?_) fun v G2 g2 ⟨gb, ev2, eb⟩ => ?_
      · refine ⟨_, rfl, .inl ⟨_, rfl, _, _, rfl, rfl, (by show (0 : Int) < 2; decide), rfl, _, rfl, ?_⟩⟩
        by_cases c : j % 2 = 0
        · rw [decide_eq_true (show V.int ((j : Int) % 2) = V.int 0 from congrArg V.int (by omega))]
          refine iteT ⟨_, rfl, (j : Int), rfl, .of_le (by decide) (by omega) (by decide) (by omega), fun q hq => kR _ _ (Grows.new hq) ⟨q, rfl, ?_⟩⟩
          rw [upd_same, rg_upto]
          unfold gangM
          rw [if_pos c]
        · rw [decide_eq_false (show ¬ V.int ((j : Int) % 2) = V.int 0 from fun z => c (by have := V.int.inj z; omega))]
          refine iteF ⟨_, rfl, _, rfl, _, _, rfl, rfl, _, rfl, _, _, rfl, rfl, .of_le (by omega) (by omega) (by omega) (by omega), fun q hq => kR _ _ (Grows.new hq) ⟨q, rfl, ?_⟩⟩
          rw [upd_same]
          unfold gangM rgV
          rw [if_neg c, show ((n : Int) - ((n : Int) - (j : Int))).toNat = j by omega, List.map_map]
          rfl
      subst ev2
      dsimp only [List.set_cons_succ, List.set_cons_zero]
      have ev3 := g2 _ _ (g _ _ ev)
      have dl3 := DLs.grow (g.trans g2) dl
      have xl := DLs.len dl
      unfold famsD at xl
      rw [List.length_map] at xl
      refine ⟨_, rfl, Dv, rfl, ⟨_, SqL.of ev3⟩, fun D hD => lc_listDL (K := K) (fun _ => true) (fun d => .int (chM (toF d) n (gangM n j))) hD (SqL.of ev3) dl3 (by unfold famsD; rw [List.length_map]; omega) (fun u x d G3 Ry Rn hd gg go hdx nD kY kN => ?_) fun G3 acc g3 eD al => ?_⟩
      · obtain ⟨rs, hrs, rfl⟩ := List.mem_map.mp (List.mem_of_getElem? hd)
        obtain ⟨c, zs, rfl, ec, tz⟩ := dl_list hdx
        obtain ⟨bs, rfl, ers, each⟩ := dl_rows tz
        rw [toF_rows] at kY
        refine ⟨rfl, ?_⟩
        unfold tYes
        exact iteT ⟨_, rfl, _, rfl, _, rfl, c, gb, n, bs, gangM n j, rfl, off_le _ _ ec, fun b hb => off_le _ _ (each b hb), gg _ _ eb, by rw [ers]; exact f5 rs hrs, fun H' g' => by rw [ers]; exact kY rfl _ _ g' (.int _)⟩
      rw [filt_yes] at al
      have eal : (famsD (everyM n)).map (fun d => PyData.int (chM (toF d) n (gangM n j))) = (farsM n j).map .int := by
        unfold famsD farsM
        rw [List.map_map, List.map_map]
        refine List.map_congr_left fun rs _ => ?_
        show PyData.int (chM (toF (.list (rowsD rs))) n (gangM n j)) = _
        rw [toF_rows]
        rfl
      rw [eal] at al
      obtain rfl := dl_ints al
      dsimp only [List.set_cons_succ, List.set_cons_zero]
      obtain ⟨N, eN⟩ : ∃ N : Nat, N = min j (n - j) + 1 := ⟨_, rfl⟩
      have eJ : (if (n : Int) - (j : Int) < (j : Int) then (n : Int) - (j : Int) else (j : Int)) + 1 = (N : Int) := by split <;> omega
      have fl : (farsM n j).length ≤ 105 := by
        unfold farsM
        rw [List.length_map]
        exact f4
      refine ⟨_, rfl, _, rfl, _, rfl, _, _, rfl, rfl, (j : Int), (n : Int) - (j : Int), rfl, _, _, rfl, rfl, (N : Int), congrArg (fun z => [V.int z]) eJ, by omega, by omega, fun D6 hD6 => lc_rangeDL (n := (N : Int).toNat) (fun p => .int (((farsM n j).count (p : Int) : Nat) : Int)) hD6 (by omega) (fun p G Ry pl gg go nD kY => ?_) fun G acc6 g6 eD6 al6 => ?_⟩
      · rw [Int.zero_add]
        exact ⟨rfl, _, rfl, .inl ⟨rfl, _, SqL.of (gg _ _ eD)⟩, _, rfl, D, farsM n j, (p : Int), rfl, rfl, SqL.of (gg _ _ eD), kY _ _ .refl (.int _)⟩
      rw [Int.toNat_natCast, eN] at al6
      have e6 : (List.range (min j (n - j) + 1)).map (fun p : Nat => PyData.int (((farsM n j).count (p : Int) : Nat) : Int)) = (ccI n j).map .int := by
        rw [f1]
        unfold dueM
        rw [List.map_map]
        rfl
      rw [e6] at al6
      dsimp only [List.set_cons_succ, List.set_cons_zero]
      have tx := tx_ints f3 f2
      refine ⟨_, rfl, _, rfl, (n : Int), (j : Int), rfl, by omega, by omega, by omega, by omega, fun Dc H7 hDc g7 ec => ?_⟩
      refine ⟨_, _, rfl, .inl (.lst (SqL.of ec) (rows_dp _)), tx, _, rfl, _, _, rfl, .inl (.lst (SqL.of (g7 _ _ eD6)) (DLs.dp (DLs.grow (off_le.trans g7) al6))), tx, rfl, _, rfl, ?_⟩
      rw [decide_eq_true rfl]
      exact iteF ⟨_, _, _, _, _, _, rfl, ((((g.trans g2).trans g3).trans g6).trans g7)⟩
    · subst e
      refine ⟨_, rfl, rfl, fun t es H2 g2 tb te => ?_⟩
      dsimp only [List.set_cons_succ, List.set_cons_zero]
      refine ⟨t, _, tb.top, trivial, fun od => ?_⟩
      have eT0 := upd_same (H := H2) (a := t) (o := .frz od (.dT (embE (fun x : Addr × Ent => V.ref x.1) es)))
      have g0 : Gr t H2 (upd H2 t (.frz od (.dT (embE (fun x : Addr × Ent => V.ref x.1) es)))) := .at
      generalize upd H2 t (.frz od (.dT (embE (fun x : Addr × Ent => V.ref x.1) es))) = G0 at eT0 g0
      refine ⟨_, rfl, t, od, rfl, .inr ⟨_, eT0, for_keysT (fun u σ G => ∃ o1 o2 o3 o4 o5 o6 o7 o8 o10 o11 o12 o13 o14 : Option V, σ = [some (.int 7), o1, o2, o3, o4, o5, o6, o7, o8, some (.ref t), o10, o11, o12, o13, o14] ∧ Grows G0 G)
        ⟨o1, o2, o3, o4, o5, o6, o7, o8, none, none, none, none, none, rfl, .refl⟩ (fun u σ G ⟨o1, o2, o3, o4, o5, o6, o7, o8, o10, o11, o12, o13, o14, _, gg⟩ => gg _ _ eT0) (fun u kk v q σ G ek ⟨o1, o2, o3, o4, o5, o6, o7, o8, o10, o11, o12, o13, o14, e, gg⟩ hq => ?_) fun σ G ⟨o1, o2, o3, o4, o5, o6, o7, o8, o10, o11, o12, o13, o14, e, gg⟩ => ?_⟩⟩
      rotate_left
      · subst e
        refine ⟨gg _ _ eT0, k _ ((gB.trans g2).trans fun b u e => ?_)⟩
        by_cases z : b = t
        · rw [z, tb.top] at e
          rw [z, upd_same]
          exact e
        · rw [upd_ne z]
          exact gg _ _ (g0 _ _ z e)
      subst e
      obtain ⟨e, he, rfl, rfl⟩ := embE_at ek
      have mem : (e.1, e.2.2) ∈ tabT 6 := by
        rw [← te]
        exact List.mem_map.mpr ⟨e, List.mem_of_getElem? he, rfl⟩
      have isS : (getM (tabE es) e.1).isSome = true := by
        rw [te]
        obtain ⟨v, z⟩ := getM_some mem
        rw [z]
        rfl
      obtain ⟨d, oo, fe, gm, gv, gd⟩ := tb.get isS
      rw [te] at gm
      obtain ⟨k1, k2, k3, k4, k5, k6⟩ := tab_facts mem gm
      obtain ⟨cN, ecN⟩ : ∃ cN : Nat, cN = (min e.1.1 e.1.2 + 1).toNat := ⟨_, rfl⟩
      rw [← ecN] at k5 k6
      have ndt : d ≠ t := fun z => by rw [z, tb.top] at gd; cases gd
      have gdG := gg _ _ (g0 _ _ ndt gd)
      have hq : G q = some (.tup [V.int e.1.1, V.int e.1.2]) := hq
      refine ⟨q, _, rfl, SqT.of hq, rfl, _, _, rfl, _, _, rfl, rfl, ?_⟩
      dsimp only [List.set_cons_succ, List.set_cons_zero]
      have eM : (if e.1.2 < e.1.1 then e.1.2 else e.1.1) + 1 = (cN : Int) := by split <;> omega
      refine ⟨(by show 1 ≤ sizeLine; decide), fun l0 hl0 => ?_⟩
      have gl := Grows.new (o := .lst [V.int 0]) hl0
      refine ⟨_, rfl, _, rfl, e.1.1, e.1.2, rfl, _, _, rfl, rfl, l0, (cN : Int), [V.int 0], rfl, congrArg V.int eM, upd_same, by omega, by omega, ?_, fun R hR => ?_⟩
      · rw [Int.toNat_natCast]
        exact Nat.le_trans (show 1 * cN ≤ 100 by omega) (by decide)
      rw [Int.toNat_natCast, rep_zero] at *
      refine nm_b ?_
      dsimp only [List.set_cons_succ, List.set_cons_zero]
      have gR := gl.trans (Grows.new (o := .lst ((List.replicate cN (0 : Int)).map V.int)) hR)
      have eR := upd_same (H := upd G l0 (.lst [V.int 0])) (a := R) (o := .lst ((List.replicate cN (0 : Int)).map V.int))
      have nR : ∀ {b : Addr} {o : HO}, G b = some o → b ≠ R := fun z => ne_of_none (gl _ _ z) hR
      generalize upd (upd G l0 (.lst [V.int 0])) R (.lst ((List.replicate cN (0 : Int)).map V.int)) = G1 at gR eR
      refine ⟨_, rfl, _, rfl, _, rfl, (by show 2 ≤ sizeLine; decide), fun kt hkt => ?_⟩
      have gk := Grows.new (o := .tup [V.int e.1.1, V.int e.1.2]) hkt
      have ekt := upd_same (H := G1) (a := kt) (o := .tup [V.int e.1.1, V.int e.1.2])
      have eR2 := gk _ _ eR
      have dg : DGet (upd G1 kt (.tup [V.int e.1.1, V.int e.1.2])) t (.ref kt) (some (.ref d)) := .inr ⟨_, keyE e.1, kt, .inr ⟨od, gk _ _ (gR _ _ (gg _ _ eT0))⟩, rfl, ekt, gv.symm⟩
      have gd2 := gk _ _ (gR _ _ gdG)
      have g12 := gR.trans gk
      generalize upd G1 kt (.tup [V.int e.1.1, V.int e.1.2]) = G2 at dg eR2 gd2 g12
      clear gk ekt
      have ndR : d ≠ R := nR gdG
      refine ⟨t, .ref d, rfl, dg, d, oo, embE V.int fe, rfl, gd2, ItT.for_itemsT (fun j σ G3 => ∃ o13 o14 : Option V, σ = [some (.int 7), o1, o2, o3, o4, o5, o6, o7, o8, some (.ref t), some (.int e.1.1), some (.int e.1.2), some (.ref R), o13, o14] ∧ Gr R G2 G3 ∧ G3 R = some (.lst ((rowS2 (fe.take j) (List.replicate cN 0)).map V.int)))
        ⟨o13, o14, rfl, .refl, eR2⟩ (fun j σ G3 ⟨_, _, _, gr, _⟩ => gr _ _ ndR gd2) (fun j kk v T2 q2 σ G3 ek2 ⟨o13, o14, e3, gr, eR3⟩ hT2 hq2 => ?_) fun σ G3 ⟨o13, o14, e3, gr, eR3⟩ => ?_⟩
      · subst e3
        obtain ⟨x, hx, rfl, rfl⟩ := embE_at ek2
        obtain ⟨x0, x1⟩ := k6 x (List.mem_of_getElem? hx)
        obtain ⟨p, ep⟩ : ∃ p : Nat, x.1.2 = (p : Int) := ⟨x.1.2.toNat, by omega⟩
        rw [row_next hx]
        have rl := row_len (List.replicate cN 0) (fe.take j)
        rw [List.length_replicate] at rl
        generalize rowS2 (fe.take j) (List.replicate cN 0) = row at eR3 rl ⊢
        have zT := Grows.new (o := .tup [V.ref q2, V.int x.2]) hT2
        have hq3 := zT _ _ hq2
        have eR4 := zT _ _ eR3
        have pr : p < row.length := by omega
        have at1 : atI (row.map V.int) x.1.2 = some (.int (row.getD p 0)) := by
          rw [ep]
          exact atI_nat (by rw [List.getElem?_map, List.getElem?_eq_getElem pr, List.getD_eq_getElem?_getD, List.getElem?_eq_getElem pr]; rfl)
        have ix1 : ixN (row.map V.int).length x.1.2 = some p := by
          rw [ep]
          unfold ixN
          rw [List.length_map, if_pos (by omega), if_pos (by omega), Int.toNat_natCast]
        refine ⟨T2, _, rfl, SqT.of upd_same, rfl, _, _, rfl, _, _, rfl, rfl, ?_⟩
        dsimp only [List.set_cons_succ, List.set_cons_zero]
        refine ⟨_, rfl, _, rfl, q2, _, 1, .int x.1.2, rfl, rfl, SqT.of hq3, rfl, R, _, x.1.2, _, rfl, rfl, SqL.of eR4, at1, _, rfl, _, _, rfl, rfl, _, rfl, _, rfl, q2, _, 1, .int x.1.2, rfl, rfl, SqT.of hq3, rfl, R, _, x.1.2, p, rfl, rfl, eR4, ix1, ?_⟩
        refine ⟨_, _, rfl, gr.trans (zT.gr.trans .at), ?_⟩
        rw [upd_same, show x.1.2.toNat = p by omega]
        have z : (row.map V.int).set p (.int (row.getD p 0 + x.2)) = (row.set p (row.getD p 0 + x.2)).map V.int := (List.map_set ..).symm
        rw [z]
      · subst e3
        rw [embE_len, List.take_length, k5] at eR3
        have fin : Grows G G3 := fun b u z => gr _ _ (nR z) (g12 _ _ z)
        refine ⟨_, rfl, _, rfl, _, _, rfl, rfl, _, rfl, e.1.1 + e.1.2, e.1.1, rfl, by omega, by omega, by omega, by omega, fun Dc H7 hDc g7 ec => ?_⟩
        refine ⟨_, rfl, .list ((ccI (e.1.1 + e.1.2) e.1.1).map .int), .list ((ccI (e.1.1 + e.1.2) e.1.1).map .int), .lst (SqL.of ec) (rows_dp _), .lst (SqL.of (g7 _ _ eR3)) (rows_dp _), shaped_ints _, shaped_ints _, _, rfl, ?_⟩
        rw [eqv_ints, decide_eq_true rfl]
        exact iteF ⟨o1, o2, o3, o4, o5, o6, o7, o8, _, _, _, _, _, rfl, (gg.trans fin).trans g7⟩
end
end K34

namespace K34
open PySem PySem.Spec PyProof.Rows L2 SortR LcM RepA
abbrev sOdd : Stmt := top 26
abbrev sLast : Stmt := top 28
def oddN : Nat → Int
  | 0 => 1
  | i + 1 => oddN i * (2 * (1 + (i : Int)) - 1)
def oddI (w : Int) : Int := oddN (w - 1).toNat
def facI : Nat → Int
  | 0 => 1
  | i + 1 => facI i * (1 + (i : Int))
def botN : Nat → Int
  | 0 => 1
  | i + 1 => botN i * 2 * (1 + (i : Int))
def bo2 (b : Int) : Nat → Int
  | 0 => b
  | i + 1 => bo2 b i * (1 + (i : Int))
def topI (n l : Int) : Int := facI (2 * (n - l) - l - 1).toNat
def botI (n l : Int) : Int := bo2 (botN (n - l + -l + 1 - 1).toNat) (l - 1).toNat
def whoI (n l : Int) : Int := facI (l - 1).toNat * (topI n l / botI n l) * (2 * n - 3 * l)
def lastI (n l : Int) : Int := whoI n l * oddI n / oddI (n - l + 1)
theorem odd_all : ((List.range 22).all fun i => decide (0 < oddN i) && decide ((oddN i).natAbs < 2 ^ 100)) = true := by decide +kernel
theorem oddI_ok {w : Int} (h : w ≤ 21) : 0 < oddI w ∧ (oddI w).natAbs < 2 ^ 100 := by
  have z := List.all_eq_true.mp odd_all (w - 1).toNat (List.mem_range.mpr (by omega))
  rw [Bool.and_eq_true, decide_eq_true_eq, decide_eq_true_eq] at z
  exact z
theorem last_all : ((List.range 21).all fun n => (List.range 11).all fun l => !(decide (1 ≤ l) && decide (2 * l ≤ n)) || (decide ((facI ((l : Int) - 1).toNat).natAbs < 2 ^ 60) && decide (0 < botI n l) && decide ((botI n l).natAbs < 2 ^ 300) && decide ((whoI n l).natAbs < 2 ^ 300))) = true := by decide +kernel
theorem last_ok {n l : Nat} (h1 : 1 ≤ l) (h2 : 2 * l ≤ n) (h3 : n ≤ 20) : (facI ((l : Int) - 1).toNat).natAbs < 2 ^ 60 ∧ 0 < botI n l ∧ (botI n l).natAbs < 2 ^ 300 ∧ (whoI n l).natAbs < 2 ^ 300 := by
  have z := List.all_eq_true.mp (List.all_eq_true.mp last_all n (List.mem_range.mpr (by omega))) l (List.mem_range.mpr (by omega))
  rw [decide_eq_true h1, decide_eq_true h2, Bool.and_self, Bool.not_true, Bool.false_or] at z
  simp only [Bool.and_eq_true, decide_eq_true_eq] at z
  exact ⟨z.1.1.1, z.1.1.2, z.1.2, z.2⟩
def spOdd : Sp := fun vs H Q _ => ∃ n : Int, vs = [.int n] ∧ 0 ≤ n ∧ n ≤ 21 ∧ Q (.int (oddI n)) H
def spLast : Sp := fun vs H Q _ => ∃ n l : Nat, vs = [.int (n : Int), .int (l : Int)] ∧ 1 ≤ l ∧ 2 * l ≤ n ∧ n ≤ 20 ∧ ∀ H', Grows H H' → Q (.int (lastI n l)) H'
section
variable {P : Program} {w : World} {K : PySem.W.Frag} {mg : Str → Option Value} {base : Heap}
theorem scOd : FnScope ["wide", "found", "turn"] ["wide"] (defScope sOdd) := ⟨rfl, rfl, rfl, by decide +kernel, rfl, by decide +kernel, by decide +kernel⟩
theorem scLa : FnScope ["many_here", "least", "rest", "ways", "turn", "top", "bottom", "whole"] ["many_here", "least"] (defScope sLast) := ⟨rfl, rfl, rfl, by decide +kernel, rfl, by decide +kernel, by decide +kernel⟩
theorem ok_odd {f : Addr} {fd : FuncData} (F : Fun K "_law_odd" "_law_odd" sOdd f fd) (T : TxtP mg) : FnOk P w K mg base CX0 1 f fd ["wide"] spOdd := by
  refine F.ok scOd (fun vs H Q E h => ?_) (fun cdv A outer s H vs Q E hr h => ?_)
  · obtain ⟨n, rfl, _⟩ := h
    rfl
  · obtain ⟨n, rfl, n0, n1, q⟩ := h
    refine ⟨_, (pss_cons (ps_set (i := 1) scOd.nd rfl (.inl rfl) pe_int)
      (pss_cons (ps_for PassesOwn.never rfl (pi_range2 (by rfl) T.range (pa_cons pe_int (pa_cons (pv 0) pa_nil))) (pg_name (i := 2) scOd.nd rfl (.inl rfl))
      (pss_one (ps_set (i := 1) scOd.nd rfl (.inl rfl) (pe_op op_mul (pv 1) (pe_op op_sub (pe_op op_mul pe_int (pv 2)) pe_int)))))
      (pss_one (ps_ret (pv 1))))), ?_⟩
    refine ⟨_, rfl, 1, n, rfl, ⟨by decide, by decide, by omega, by omega⟩, for_range (lo := 1) (n := (n - 1).toNat) (fun i σ G => ∃ o, σ = [some (.int n), some (.int (oddN i)), o] ∧ G = H)
      ⟨none, rfl, rfl⟩ (fun i σ G il ⟨o, e, eg⟩ => ?_) fun σ G ⟨o, e, eg⟩ => ?_⟩
    · subst e eg
      exact ⟨_, rfl, _, rfl, _, _, rfl, rfl, .inl ⟨by decide, by decide⟩, _, _, rfl, rfl, _, _, rfl, rfl, .inr ⟨by omega, by omega⟩, some (.int (1 + (i : Int))), rfl, rfl⟩
    · subst e eg
      exact ⟨_, rfl, q⟩
theorem ok_last {f fOd : Addr} {fd dOd : FuncData} (F : Fun K "_law_last" "_law_last" sLast f fd) (T : TxtP mg) (FOd : Fun K "_law_odd" "_law_odd" sOdd fOd dOd) (gOd : mg "_law_odd" = some (.ref fOd)) (bOd : Binds K dOd ["wide"] []) : FnOk P w K mg base CX0 2 f fd ["many_here", "least"] spLast := by
  have GOd := ok_odd (P := P) (w := w) (base := base) FOd T
  refine F.ok scLa (fun vs H Q E h => ?_) (fun cdv A outer s H vs Q E hr h => ?_)
  · obtain ⟨n, l, rfl, _⟩ := h
    rfl
  · obtain ⟨n, l, rfl, l1, l2, n20, q⟩ := h
    refine ⟨_, (pss_cons (ps_par (i := 2) (j := 3) (by rfl) scLa.nd rfl rfl (by decide) rfl rfl (pa_cons (pe_op op_sub (pv 0) (pv 1)) (pa_cons pe_int pa_nil)) (by rfl))
      (pss_cons (ps_for PassesOwn.never rfl (pi_range2 (by rfl) T.range (pa_cons pe_int (pa_cons (pv 1) pa_nil))) (pg_name (i := 4) scLa.nd rfl (.inl rfl))
      (pss_one (ps_set (i := 3) scLa.nd rfl (.inl rfl) (pe_op op_mul (pv 3) (pv 4)))))
      (pss_cons (ps_asg (pe_tup (pa_cons pe_int (pa_cons pe_int pa_nil))) (pg_tup (by rfl) (pgs_cons (pg_name (i := 5) scLa.nd rfl (.inl rfl)) (pgs_cons (pg_name (i := 6) scLa.nd rfl (.inl rfl)) pgs_nil))))
      (pss_cons (ps_for PassesOwn.never rfl (pi_range2 (by rfl) T.range (pa_cons pe_int (pa_cons (pe_op op_sub (pe_op op_mul pe_int (pv 2)) (pv 1)) pa_nil))) (pg_name (i := 4) scLa.nd rfl (.inl rfl))
      (pss_one (ps_set (i := 5) scLa.nd rfl (.inl rfl) (pe_op op_mul (pv 5) (pv 4)))))
      (pss_cons (ps_for PassesOwn.never rfl (pi_range2 (by rfl) T.range (pa_cons pe_int (pa_cons (pe_op op_add (pe_op op_sub (pv 2) (pv 1)) pe_int) pa_nil))) (pg_name (i := 4) scLa.nd rfl (.inl rfl))
      (pss_one (ps_set (i := 6) scLa.nd rfl (.inl rfl) (pe_op op_mul (pe_op op_mul (pv 6) pe_int) (pv 4)))))
      (pss_cons (ps_for PassesOwn.never rfl (pi_range2 (by rfl) T.range (pa_cons pe_int (pa_cons (pv 1) pa_nil))) (pg_name (i := 4) scLa.nd rfl (.inl rfl))
      (pss_one (ps_set (i := 6) scLa.nd rfl (.inl rfl) (pe_op op_mul (pv 6) (pv 4)))))
      (pss_cons (ps_set (i := 7) scLa.nd rfl (.inl rfl) (pe_op op_mul (pe_op op_mul (pv 3) (pe_op op_fdivW (pv 5) (pv 6))) (pe_op op_sub (pe_op op_mul pe_int (pv 0)) (pe_op op_mul pe_int (pv 1)))))
      (pss_one (ps_ret (pe_op op_fdivW (pe_op op_mulW (pv 7) (pe_call GOd (hr.mono (by decide)) rfl gOd FOd.kp bOd .nil pass0 (pa_cons (pv 0) pa_nil))) (pe_call GOd (hr.mono (by decide)) rfl gOd FOd.kp bOd .nil pass0 (pa_cons (pe_op op_add (pe_op op_sub (pv 0) (pv 1)) pe_int) pa_nil)))))))))))), ?_⟩
    obtain ⟨b1, b2, b3, b4⟩ := last_ok l1 l2 n20
    obtain ⟨v0, v1⟩ := oddI_ok (w := (n : Int)) (by omega)
    obtain ⟨u0, u1⟩ := oddI_ok (w := (n : Int) - (l : Int) + 1) (by omega)
    refine ⟨_, rfl, _, rfl, _, _, rfl, rfl, _, _, rfl, ?_⟩
    dsimp only [List.set_cons_succ, List.set_cons_zero]
    refine ⟨_, rfl, 1, (l : Int), rfl, ⟨by decide, by decide, by omega, by omega⟩, for_range (lo := 1) (n := ((l : Int) - 1).toNat) (fun i σ G => ∃ o, σ = [some (.int (n : Int)), some (.int (l : Int)), some (.int ((n : Int) - (l : Int))), some (.int (facI i)), o, none, none, none] ∧ G = H)
      ⟨none, rfl, rfl⟩ (fun i σ G il ⟨o, e, eg⟩ => ?_) fun σ G ⟨o, e, eg⟩ => ?_⟩
    · subst e eg
      exact ⟨_, rfl, _, rfl, _, _, rfl, rfl, .inr ⟨by omega, by omega⟩, some (.int (1 + (i : Int))), rfl, rfl⟩
    subst e eg
    refine ⟨(by show 2 ≤ sizeLine; decide), fun T0 hT0 => ⟨T0, _, rfl, SqT.of upd_same, rfl, _, _, rfl, _, _, rfl, rfl, ?_⟩⟩
    dsimp only [List.set_cons_succ, List.set_cons_zero]
    have g1 := Grows.new (o := .tup [V.int 1, V.int 1]) hT0
    generalize upd G T0 (.tup [V.int 1, V.int 1]) = G1 at g1
    have e1 : 2 * ((n : Int) - (l : Int)) - (l : Int) - 1 = (((2 * (n - l) - l - 1 : Nat) : Nat) : Int) ∨ True := .inr trivial
    refine ⟨_, rfl, _, _, rfl, rfl, .inl ⟨by decide, by decide⟩, _, rfl, _, _, rfl, rfl, 1, 2 * ((n : Int) - (l : Int)) - (l : Int), rfl, ⟨by decide, by decide, by omega, by omega⟩, for_range (lo := 1) (n := (2 * ((n : Int) - (l : Int)) - (l : Int) - 1).toNat) (fun i σ G => ∃ o, σ = [some (.int (n : Int)), some (.int (l : Int)), some (.int ((n : Int) - (l : Int))), some (.int (facI ((l : Int) - 1).toNat)), o, some (.int (facI i)), some (.int 1), none] ∧ G = G1)
      ⟨o, rfl, rfl⟩ (fun i σ G il ⟨o, e, eg⟩ => ?_) fun σ G ⟨o, e, eg⟩ => ?_⟩
    · subst e eg
      exact ⟨_, rfl, _, rfl, _, _, rfl, rfl, .inr ⟨by omega, by omega⟩, some (.int (1 + (i : Int))), rfl, rfl⟩
    subst e eg
    refine ⟨_, rfl, _, rfl, _, _, rfl, rfl, _, _, rfl, rfl, 1, (n : Int) - (l : Int) - (l : Int) + 1, rfl, ⟨by decide, by decide, by omega, by omega⟩, for_range (lo := 1) (n := ((n : Int) - (l : Int) - (l : Int) + 1 - 1).toNat) (fun i σ G2 => ∃ o, σ = [some (.int (n : Int)), some (.int (l : Int)), some (.int ((n : Int) - (l : Int))), some (.int (facI ((l : Int) - 1).toNat)), o, some (.int (topI n l)), some (.int (botN i)), none] ∧ G2 = G)
      ⟨o, rfl, rfl⟩ (fun i σ G2 il ⟨o, e, eg⟩ => ?_) fun σ G2 ⟨o, e, eg⟩ => ?_⟩
    · subst e eg
      exact ⟨_, rfl, _, _, rfl, rfl, .inr ⟨by decide, by decide⟩, _, rfl, _, _, rfl, rfl, .inr ⟨by omega, by omega⟩, some (.int (1 + (i : Int))), rfl, rfl⟩
    subst e eg
    refine ⟨_, rfl, 1, (l : Int), rfl, ⟨by decide, by decide, by omega, by omega⟩, for_range (lo := 1) (n := ((l : Int) - 1).toNat) (fun i σ G3 => ∃ o, σ = [some (.int (n : Int)), some (.int (l : Int)), some (.int ((n : Int) - (l : Int))), some (.int (facI ((l : Int) - 1).toNat)), o, some (.int (topI n l)), some (.int (bo2 (botN ((n : Int) - (l : Int) - (l : Int) + 1 - 1).toNat) i)), none] ∧ G3 = G2)
      ⟨o, rfl, rfl⟩ (fun i σ G3 il ⟨o, e, eg⟩ => ?_) fun σ G3 ⟨o, e, eg⟩ => ?_⟩
    · subst e eg
      exact ⟨_, rfl, _, rfl, _, _, rfl, rfl, .inr ⟨by omega, by omega⟩, some (.int (1 + (i : Int))), rfl, rfl⟩
    subst e eg
    have eb : bo2 (botN ((n : Int) - (l : Int) - (l : Int) + 1 - 1).toNat) ((l : Int) - 1).toNat = botI n l := by
      unfold botI
      rw [show (n : Int) - (l : Int) + -(l : Int) + 1 - 1 = (n : Int) - (l : Int) - (l : Int) + 1 - 1 by omega]
    rw [eb]
    refine ⟨_, rfl, _, rfl, _, rfl, _, _, rfl, rfl, wide_div b2 b3 (by decide) (by decide), _, _, rfl, rfl, .inl ⟨by omega, by omega⟩, _, rfl, _, _, rfl, rfl, .inl ⟨by decide, by decide⟩, _, rfl, _, _, rfl, rfl, .inl ⟨by decide, by decide⟩, _, _, rfl, rfl, _, _, rfl, rfl, .inr ⟨by omega, by omega⟩, ?_⟩
    refine ⟨_, rfl, _, rfl, (n : Int), rfl, by omega, by omega, _, _, rfl, rfl, mulW_of b4 v1 (by decide) (by decide) (by decide), ?_⟩
    exact ⟨_, rfl, _, rfl, _, _, rfl, rfl, _, _, rfl, rfl, (n : Int) - (l : Int) + 1, rfl, by omega, by omega, _, _, rfl, rfl, wide_div u0 u1 (by decide) (by decide), q _ g1⟩
end
end K34

namespace K34
open PySem PySem.Spec PyProof.Rows L2 SortR LcM RepA
abbrev sGr : Stmt := top 29
def grB (n f : Nat) : Bool := let row := ccI n f; let l := min f (n - f); let r : Int := (n : Int) - (f : Int); decide (row.length = l + 1) && decide (row.sum = oddI n) && decide (ccI n r = row) && (if l = 0 then decide (row = [oddI n]) else decide (row.getD l 0 = lastI n l) && decide (row.getD 0 0 = 0) && decide (row.getD 1 0 = oddI f * oddI (r + 1) + oddI r * oddI ((f : Int) + 1) - oddI f * oddI r))
theorem gr_all : ((List.range 20).all fun k => (List.range (k + 2)).all (grB (k + 1))) = true := by decide +kernel
theorem gr_ok {n f : Nat} (n1 : 1 ≤ n) (n2 : n ≤ 20) (h : f ≤ n) : (ccI n f).length = min f (n - f) + 1 ∧ (ccI n f).sum = oddI n ∧ ccI n ((n : Int) - (f : Int)) = ccI n f ∧ (min f (n - f) = 0 → ccI n f = [oddI n]) ∧
    (min f (n - f) ≠ 0 → (ccI n f).getD (min f (n - f)) 0 = lastI n (min f (n - f) : Nat) ∧ (ccI n f).getD 0 0 = 0 ∧ (ccI n f).getD 1 0 = oddI f * oddI ((n : Int) - (f : Int) + 1) + oddI ((n : Int) - (f : Int)) * oddI ((f : Int) + 1) - oddI f * oddI ((n : Int) - (f : Int))) := by
  have z := List.all_eq_true.mp (List.all_eq_true.mp gr_all (n - 1) (List.mem_range.mpr (by omega))) f (List.mem_range.mpr (by omega))
  rw [show n - 1 + 1 = n by omega] at z
  unfold grB at z
  simp only [Bool.and_eq_true, decide_eq_true_eq] at z
  refine ⟨z.1.1.1, z.1.1.2, z.1.2, fun c => ?_, fun c => ?_⟩
  · have q := z.2
    rw [if_pos c, decide_eq_true_eq] at q
    exact q
  · have q := z.2
    rw [if_neg c] at q
    simp only [Bool.and_eq_true, decide_eq_true_eq] at q
    exact ⟨q.1.1, q.1.2, q.2⟩
def spGr : Sp := fun vs H Q _ => ∃ (p : Addr) (n m : Int), vs = [.ref p, .int n] ∧ Pch H p m ∧ m < 2 ^ 40 ∧ 1 ≤ n ∧ n ≤ 20 ∧ ∀ H', Pch H' p (m + 4) → Gr p H H' → Q (.bl true) H'
structure LwF (P : Program) (w : World) (base : Heap) (K : PySem.W.Frag) (mg : Str → Option Value) where
  (fPick fOd fLa : Addr)
  (dPick dOd dLa : FuncData)
  FPick : Fun K "_law_pick" "_law_pick" sPick fPick dPick
  FOd : Fun K "_law_odd" "_law_odd" sOdd fOd dOd
  FLa : Fun K "_law_last" "_law_last" sLast fLa dLa
  gPick : mg "_law_pick" = some (.ref fPick)
  gOd : mg "_law_odd" = some (.ref fOd)
  gLa : mg "_law_last" = some (.ref fLa)
  bPick : Binds K dPick ["store", "bound"] []
  bOd : Binds K dOd ["wide"] []
  bLa : Binds K dLa ["many_here", "least"] []
  GPick : FnOk P w K mg base CX0 1 fPick dPick ["store", "bound"] spPick
  GOd : FnOk P w K mg base CX0 1 fOd dOd ["wide"] spOdd
  GLa : FnOk P w K mg base CX0 2 fLa dLa ["many_here", "least"] spLast
section
variable {P : Program} {w : World} {K : PySem.W.Frag} {mg : Str → Option Value} {base : Heap}
theorem scGr : FnScope ["store", "many_here", "far", "row", "least", "rest", "single"] ["store", "many_here"] (defScope sGr) := ⟨rfl, rfl, rfl, by decide +kernel, rfl, by decide +kernel, by decide +kernel⟩
theorem ok_great {f : Addr} {fd : FuncData} (F : Fun K "_law_great_right" "_law_great_right" sGr f fd) (Z : ProgF K mg) (T : TxtP mg) (T0 : Txt0 mg) (U : CcF K mg) (L : LwF P w base K mg) : FnOk P w K mg base CX0 5 f fd ["store", "many_here"] spGr := by
  obtain ⟨fPick, fOd, fLa, dPick, dOd, dLa, FPick, FOd, FLa, gPick, gOd, gLa, bPick, bOd, bLa, GPick, GOd, GLa⟩ := L
  have GCC := ok_cc (P := P) (w := w) (base := base) Z T T0 U
  refine F.ok scGr (fun vs H Q E h => ?_) (fun cdv A outer s0 H vs Q E hr h => ?_)
  · obtain ⟨p, n, m, rfl, _⟩ := h
    rfl
  · obtain ⟨p, n, m, rfl, hP, mb, n1, n2, k⟩ := h
    refine ⟨_, (pss_cons (ps_set (i := 2) scGr.nd rfl (.inl rfl) (pe_callB (call_min2 rfl) (by rfl) T0.min (by decide +kernel) (pa_cons (pe_call GPick (hr.mono (by decide)) rfl gPick FPick.kp bPick .nil pass0 (pa_cons (pv 0) (pa_cons pe_int pa_nil))) (pa_cons (pv 1) pa_nil))))
      (pss_cons (ps_if (PW.pt (pw_or (pt_cmpR op_eq (pe_call GPick (hr.mono (by decide)) rfl gPick FPick.kp bPick .nil pass0 (pa_cons (pv 0) (pa_cons pe_int pa_nil))) pe_int (nomark _)) (pw_or1 (pt_cmpR op_lt (pv 1) pe_int (nomark _))))) (pss_one (ps_set (i := 2) scGr.nd rfl (.inl rfl) (pe_call GPick (hr.mono (by decide)) rfl gPick FPick.kp bPick .nil pass0 (pa_cons (pv 0) (pa_cons (pe_op op_add (pv 1) pe_int) pa_nil))))) pss_nil)
      (pss_cons (ps_set (i := 2) scGr.nd rfl (.inl rfl) (pe_ix (r := rIxL K) ix_list (pe_lst (pa_cons (pv 2) (pa_cons (pe_op op_sub (pv 1) (pv 2)) pa_nil))) (pe_call GPick (hr.mono (by decide)) rfl gPick FPick.kp bPick .nil pass0 (pa_cons (pv 0) (pa_cons pe_int pa_nil))) (fun _ _ => rfl)))
      (pss_cons (ps_par (i := 3) (j := 4) (by rfl) scGr.nd rfl rfl (by decide) rfl rfl (pa_cons (pe_call GCC (hr.mono (by decide)) rfl U.gCC U.FCC.kp U.bCC .nil pass0 (pa_cons (pv 1) (pa_cons (pv 2) pa_nil))) (pa_cons (pe_callB (call_min2 rfl) (by rfl) T0.min (by decide +kernel) (pa_cons (pv 2) (pa_cons (pe_op op_sub (pv 1) (pv 2)) pa_nil))) pa_nil)) (by rfl))
      (pss_cons (ps_if (PW.pt (pw_or (pt_cmpR op_ne (pe_callB call_len_seq (by rfl) T.len (by decide +kernel) (pa_cons (pv 3) pa_nil)) (pe_op op_add (pv 4) pe_int) (nomark _)) (pw_or1 (pt_cmpR op_ne (pe_callB (cr_sum rfl) (by rfl) T.sum (by decide +kernel) (pa_cons (pv 3) pa_nil)) (pe_call GOd (hr.mono (by decide)) rfl gOd FOd.kp bOd .nil pass0 (pa_cons (pv 1) pa_nil)) (nomark _))))) (pss_one (ps_ret pe_bl)) pss_nil)
      (pss_cons (ps_if (PW.pt (pw_and (pt_cmpR op_lt (pv 1) pe_int (nomark _)) (pw_and1 (pt_cmpR (op_neD hr.units) (pe_call GCC (hr.mono (by decide)) rfl U.gCC U.FCC.kp U.bCC .nil pass0 (pa_cons (pv 1) (pa_cons (pe_op op_sub (pv 1) (pv 2)) pa_nil))) (pv 3) (nomark _))))) (pss_one (ps_ret pe_bl)) pss_nil)
      (pss_cons (ps_if (PW.pt (pw_and (pt_cmpR op_gt (pv 4) pe_int (nomark _)) (pw_and1 (pt_cmpR op_ne (pe_ix (r := rIxL K) ix_list (pv 3) (pv 4) (fun _ _ => rfl)) (pe_call GLa (hr.mono (by decide)) rfl gLa FLa.kp bLa .nil pass0 (pa_cons (pv 1) (pa_cons (pv 4) pa_nil))) (nomark _))))) (pss_one (ps_ret pe_bl)) pss_nil)
      (pss_cons (ps_if (pt_cmpR op_eq (pv 4) pe_int (nomark _)) (pss_one (ps_ret (pe_cmpR (op_eqD hr.units) (pv 3) (pe_lst (pa_cons (pe_call GOd (hr.mono (by decide)) rfl gOd FOd.kp bOd .nil pass0 (pa_cons (pv 1) pa_nil)) pa_nil)) (nomark _)))) pss_nil)
      (pss_cons (ps_set (i := 5) scGr.nd rfl (.inl rfl) (pe_op op_sub (pv 1) (pv 2)))
      (pss_cons (ps_set (i := 6) scGr.nd rfl (.inl rfl) (pe_op op_add (pe_op op_mulW (pe_call GOd (hr.mono (by decide)) rfl gOd FOd.kp bOd .nil pass0 (pa_cons (pv 2) pa_nil)) (pe_call GOd (hr.mono (by decide)) rfl gOd FOd.kp bOd .nil pass0 (pa_cons (pe_op op_add (pv 5) pe_int) pa_nil))) (pe_op op_mulW (pe_call GOd (hr.mono (by decide)) rfl gOd FOd.kp bOd .nil pass0 (pa_cons (pv 5) pa_nil)) (pe_call GOd (hr.mono (by decide)) rfl gOd FOd.kp bOd .nil pass0 (pa_cons (pe_op op_add (pv 2) pe_int) pa_nil)))))
      (pss_cons (ps_if (PW.pt (pw_or (pt_cmpR op_ne (pe_ix (r := rIxL K) ix_list (pv 3) pe_int (fun _ _ => rfl)) pe_int (nomark _)) (pw_or1 (pt_cmpR op_ne (pe_ix (r := rIxL K) ix_list (pv 3) pe_int (fun _ _ => rfl)) (pe_op op_sub (pv 6) (pe_op op_mulW (pe_call GOd (hr.mono (by decide)) rfl gOd FOd.kp bOd .nil pass0 (pa_cons (pv 2) pa_nil)) (pe_call GOd (hr.mono (by decide)) rfl gOd FOd.kp bOd .nil pass0 (pa_cons (pv 5) pa_nil)))) (nomark _))))) (pss_one (ps_ret pe_bl)) pss_nil)
      (pss_cons (ps_expr (pe_bm PySem.F.plainAttrs_list PySem.F.slot_list_append PySem.F.type_list_append mt_append (pv 3) (pa_cons pe_non pa_nil)))
      (pss_one (ps_ret (pe_or (pe_cmpR op_gt (pv 1) pe_int (nomark _)) (pe_one (pe_cmpR (op_eqD hr.units) (pe_call GCC (hr.mono (by decide)) rfl U.gCC U.FCC.kp U.bCC .nil pass0 (pa_cons (pv 1) (pa_cons (pv 2) pa_nil))) (pe_slice (r := rSlL K) (by exact sl_list) (pv 3) po_none (po_some (pe_un un_neg pe_int))) (nomark _)))))))))))))))))), ?_⟩
    refine ⟨_, rfl, p, 4, m, rfl, hP, Int.lt_of_lt_of_le mb (by decide), by decide, by decide, fun v0 H1 v00 v01 hP1 b1 => ⟨_, rfl, v0, n, rfl, ?_⟩⟩
    obtain ⟨f0, ef0⟩ : ∃ f0 : Int, f0 = (if n < v0 then n else v0) := ⟨_, rfl⟩
    have f00 : 0 ≤ f0 ∧ f0 ≤ n := by
      rw [ef0]
      split <;> omega
    rw [← ef0]
    dsimp only [List.set_cons_succ, List.set_cons_zero]
    clear ef0
    have gr1 : Gr p H H1 := but_gr b1
    refine seq_of (fun σ G => ∃ f1 : Int, σ = [some (.ref p), some (.int n), some (.int f1), none, none, none, none] ∧ 0 ≤ f1 ∧ f1 ≤ n ∧ Pch G p (m + 3) ∧ Gr p H G) (fun D' kN => ?_) fun σ G ⟨f1, e, f10, f11, hP2, gr2⟩ => ?_
    · refine ⟨_, rfl, p, 30, m + 1, rfl, hP1, by omega, by decide, by decide, fun v1 H2 v10 v11 hP2 b2 => ⟨rfl, _, rfl, ?_⟩⟩
      have gr2 := gr1.trans (but_gr b2)
      refine iteN _ (fun c => iteT ?_) fun c => ⟨_, rfl, _, _, rfl, rfl, _, rfl, iteN _ (fun c => ?_) fun c => ?_⟩
      · exact ⟨_, rfl, _, rfl, _, _, rfl, rfl, p, n + 1, m + 1 + 1, rfl, hP2, by omega, by omega, by omega, fun v2 H3 v20 v21 hP3 b3 => kN _ _ ⟨v2, rfl, v20, by omega, hP3.le (by omega), gr2.trans (but_gr b3)⟩⟩
      · exact ⟨_, rfl, _, rfl, _, _, rfl, rfl, p, n + 1, m + 1 + 1, rfl, hP2, by omega, by omega, by omega, fun v2 H3 v20 v21 hP3 b3 => kN _ _ ⟨v2, rfl, v20, by omega, hP3.le (by omega), gr2.trans (but_gr b3)⟩⟩
      · exact kN _ _ ⟨f0, rfl, f00.1, f00.2, hP2.le (by omega), gr2⟩
    subst e
    refine ⟨_, rfl, _, rfl, _, rfl, _, _, rfl, rfl, (by show 2 ≤ sizeLine; decide), fun l0 hl0 => ?_⟩
    have gl := Grows.new (o := .lst [V.int f1, V.int (n - f1)]) hl0
    have lp : l0 ≠ p := pch_ne hP2 hl0
    refine ⟨_, rfl, p, 2, m + 3, rfl, hP2.same gl, by omega, by decide, by decide, fun v3 H4 v30 v31 hP4 b4 => ?_⟩
    have gr4 : Gr p H H4 := (gr2.trans gl.gr).trans (but_gr b4)
    have el4 : H4 l0 = some (.lst [V.int f1, V.int (n - f1)]) := but_at b4 upd_same lp
    obtain ⟨z, hz, ez⟩ := at_in (xs := [V.int f1, V.int (n - f1)]) v30 v31
    obtain ⟨ff, rfl, ff1⟩ : ∃ ff : Nat, z = .int (ff : Int) ∧ (ff : Int) ≤ n := by
      rcases List.mem_cons.mp hz with e | e
      · exact ⟨f1.toNat, by rw [e, Int.toNat_of_nonneg f10], by omega⟩
      · exact ⟨(n - f1).toNat, by rw [List.mem_singleton.mp e, Int.toNat_of_nonneg (by omega)], by omega⟩
    refine ⟨l0, _, v3, _, rfl, rfl, SqL.of el4, ez, ?_⟩
    dsimp only [List.set_cons_succ, List.set_cons_zero]
    clear hz ez v30 v31 b4 el4 hP2 gr2 gl hl0
    obtain ⟨nn, rfl⟩ : ∃ nn : Nat, n = (nn : Int) := ⟨n.toNat, by omega⟩
    obtain ⟨a1, a2, a3, a4, a5⟩ := gr_ok (n := nn) (f := ff) (by omega) (by omega) (by omega)
    obtain ⟨ll, ell⟩ : ∃ ll : Nat, ll = min ff (nn - ff) := ⟨_, rfl⟩
    rw [← ell] at a1 a4 a5
    have elI : (if (nn : Int) - (ff : Int) < (ff : Int) then (nn : Int) - (ff : Int) else (ff : Int)) = (ll : Int) := by split <;> omega
    refine ⟨_, rfl, _, rfl, (nn : Int), (ff : Int), rfl, n1, n2, by omega, by omega, fun D H5 hD g5 eD => ⟨_, rfl, _, rfl, _, rfl, _, _, rfl, rfl, (ff : Int), (nn : Int) - (ff : Int), rfl, _, _, rfl, ?_⟩⟩
    rw [elI]
    dsimp only [List.set_cons_succ, List.set_cons_zero]
    have Dp : D ≠ p := pch_ne hP4 hD
    have HD : H D = none := gr_none gr4 hD Dp
    have gr5 := gr4.trans g5.gr
    have hP5 := hP4.same g5
    obtain ⟨row, erow⟩ : ∃ row, row = ccI (nn : Int) (ff : Int) := ⟨_, rfl⟩
    rw [← erow] at eD a1 a2 a3 a4 a5
    clear g5 hP4 gr4
    refine seq_no (fun R kR => ?_) fun H6 g6 => ?_
    · refine ⟨_, rfl, D, _, rfl, .inl (SqL.of eD), _, rfl, _, _, rfl, rfl, rfl, _, rfl, ?_⟩
      rw [List.length_map, a1, decide_eq_true (show V.int ((ll + 1 : Nat) : Int) = V.int ((ll : Int) + 1) from rfl)]
      refine iteF ⟨_, rfl, D, row, rfl, SqL.of eD, _, rfl, (nn : Int), rfl, by omega, by omega, rfl, _, rfl, ?_⟩
      rw [a2, decide_eq_true rfl]
      exact kR _ .refl
    have eD6 := g6 _ _ eD
    refine seq_no (fun R kR => ?_) fun H7 g7 => ?_
    · refine ⟨_, rfl, _, _, rfl, rfl, _, rfl, iteN _ (fun c => ?_) fun c => kR _ .refl⟩
      refine ⟨_, rfl, _, rfl, _, rfl, _, _, rfl, rfl, (nn : Int), (nn : Int) - (ff : Int), rfl, n1, n2, by omega, by omega, fun D2 H8 hD2 g8 e8 => ?_⟩
      rw [a3] at e8
      refine ⟨_, rfl, .list (row.map .int), .list (row.map .int), .lst (SqL.of e8) (rows_dp row), .lst (SqL.of (g8 _ _ eD6)) (rows_dp row), shaped_ints _, shaped_ints _, _, rfl, ?_⟩
      rw [eqv_ints, decide_eq_true rfl]
      exact kR _ g8
    have eD7 := g7 _ _ eD6
    have g57 := g6.trans g7
    refine seq_no (fun R kR => ?_) fun H9 g9 => ?_
    · refine ⟨_, rfl, _, _, rfl, rfl, _, rfl, iteN _ (fun c => ?_) fun c => kR _ .refl⟩
      have c := of_decide_eq_true c
      have l0 : ll ≠ 0 := by omega
      obtain ⟨q1, _, _⟩ := a5 l0
      have ll1 : ll < row.length := by omega
      have at1 : atI (row.map V.int) (ll : Int) = some (.int (row.getD ll 0)) := atI_nat (by rw [List.getElem?_map, List.getElem?_eq_getElem ll1, List.getD_eq_getElem?_getD, List.getElem?_eq_getElem ll1]; rfl)
      refine ⟨_, rfl, _, rfl, D, _, (ll : Int), _, rfl, rfl, SqL.of eD7, at1, _, rfl, _, rfl, nn, ll, rfl, by omega, by omega, by omega, fun H8 g8 => ⟨rfl, _, rfl, ?_⟩⟩
      rw [q1, decide_eq_true rfl]
      exact kR _ g8
    have eD9 := g9 _ _ eD7
    have g59 := g57.trans g9
    refine ⟨_, rfl, rfl, _, rfl, iteN _ (fun c => ?_) fun c => ?_⟩
    · have c : (ll : Int) = 0 := V.int.inj (of_decide_eq_true c)
      refine ⟨_, rfl, _, rfl, (nn : Int), rfl, by omega, by omega, (by show 1 ≤ sizeLine; decide), fun q hq => ?_⟩
      have gq := Grows.new (o := .lst [V.int (oddI (nn : Int))]) hq
      refine ⟨.list (row.map .int), .list ([oddI (nn : Int)].map .int), .lst (SqL.of (gq _ _ eD9)) (rows_dp row), .lst (SqL.of upd_same) (rows_dp [oddI (nn : Int)]), shaped_ints _, shaped_ints _, ?_⟩
      rw [eqv_ints, decide_eq_true (a4 (by omega))]
      exact k _ ((hP5.same (g59.trans gq)).le (by omega)) (gr5.trans (g59.trans gq).gr)
    have c : ll ≠ 0 := fun z => absurd (congrArg V.int (show (ll : Int) = 0 by omega)) (of_decide_eq_false c)
    obtain ⟨_, q2, q3⟩ := a5 c
    obtain ⟨_, u1⟩ := oddI_ok (w := (ff : Int)) (by omega)
    obtain ⟨_, u2⟩ := oddI_ok (w := (nn : Int) - (ff : Int) + 1) (by omega)
    obtain ⟨_, u3⟩ := oddI_ok (w := (nn : Int) - (ff : Int)) (by omega)
    obtain ⟨_, u4⟩ := oddI_ok (w := (ff : Int) + 1) (by omega)
    refine ⟨_, rfl, _, rfl, _, _, rfl, rfl, ?_⟩
    dsimp only [List.set_cons_succ, List.set_cons_zero]
    refine ⟨_, rfl, (ff : Int), rfl, by omega, by omega, _, rfl, _, _, rfl, rfl, (nn : Int) - (ff : Int) + 1, rfl, by omega, by omega, _, _, rfl, rfl, mulW_of u1 u2 (by decide) (by decide) (by decide), _, rfl, (nn : Int) - (ff : Int), rfl, by omega, by omega, _, rfl, _, _, rfl, rfl, (ff : Int) + 1, rfl, by omega, by omega, _, _, rfl, rfl, mulW_of u3 u4 (by decide) (by decide) (by decide), _, _, rfl, rfl, ?_⟩
    unfold gName
    dsimp only [List.set_cons_succ, List.set_cons_zero]
    have r0 : atI (row.map V.int) 0 = some (.int (row.getD 0 0)) := by
      have z : 0 < row.length := by omega
      exact atI_nat (j := 0) (by rw [List.getElem?_map, List.getElem?_eq_getElem z, List.getD_eq_getElem?_getD, List.getElem?_eq_getElem z]; rfl)
    have r1 : atI (row.map V.int) 1 = some (.int (row.getD 1 0)) := by
      have z : 1 < row.length := by omega
      exact atI_nat (j := 1) (by rw [List.getElem?_map, List.getElem?_eq_getElem z, List.getD_eq_getElem?_getD, List.getElem?_eq_getElem z]; rfl)
    refine seq_no (fun R kR => ?_) fun H10 g10 => ?_
    · refine ⟨_, rfl, D, _, 0, _, rfl, rfl, SqL.of eD9, r0, rfl, _, rfl, ?_⟩
      rw [q2, decide_eq_true rfl]
      refine iteF ⟨_, rfl, D, _, 1, _, rfl, rfl, SqL.of eD9, r1, _, rfl, _, rfl, (ff : Int), rfl, by omega, by omega, _, rfl, (nn : Int) - (ff : Int), rfl, by omega, by omega, _, _, rfl, rfl, mulW_of u1 u3 (by decide) (by decide) (by decide), _, _, rfl, rfl, rfl, _, rfl, ?_⟩
      rw [q3, decide_eq_true rfl]
      exact kR _ .refl
    have eD10 := g10 _ _ eD9
    have g510 := g59.trans g10
    refine ⟨_, rfl, .inl ⟨rfl, _, SqL.of eD10⟩, D, _, _, rfl, rfl, eD10, by rw [List.length_map]; exact Nat.lt_of_le_of_lt (show row.length ≤ 1000 by omega) (by decide), ?_⟩
    have grF : Gr p H (upd H10 D (.lst (row.map V.int ++ [V.non]))) := fun b o nb e => by
      rw [upd_ne fun z => by rw [z, HD] at e; cases e]
      exact (gr5.trans g510.gr) b o nb e
    have hPF : Pch (upd H10 D (.lst (row.map V.int ++ [V.non]))) p (m + 3 + 1) := by
      obtain ⟨x1, x2, x3, x4, x5⟩ := hP5.same g510
      exact ⟨x1, x2, x3, by rw [upd_ne fun z => Dp z.symm]; exact x4, x5⟩
    have eDF := upd_same (H := H10) (a := D) (o := .lst (row.map V.int ++ [V.non]))
    generalize upd H10 D (.lst (row.map V.int ++ [V.non])) = HF at grF hPF eDF
    dsimp only
    refine ⟨_, rfl, _, _, rfl, rfl, _, rfl, iteN _ (fun c => k _ (hPF.le (by omega)) grF) fun c => ?_⟩
    refine ⟨_, rfl, _, rfl, (nn : Int), (ff : Int), rfl, n1, n2, by omega, by omega, fun D2 H8 hD2 g8 e8 => ⟨_, rfl, _, rfl, -1, rfl, D, _, rfl, SqL.of (g8 _ _ eDF), fun q hq => ?_⟩⟩
    rw [← erow] at e8
    rw [cut_last]
    have gq := Grows.new (o := .lst (row.map V.int)) hq
    refine ⟨.list (row.map .int), .list (row.map .int), .lst (SqL.of (gq _ _ e8)) (rows_dp row), .lst (SqL.of upd_same) (rows_dp row), shaped_ints _, shaped_ints _, ?_⟩
    rw [eqv_ints, decide_eq_true rfl]
    exact k _ ((hPF.same (g8.trans gq)).le (by omega)) (grF.trans (g8.trans gq).gr)
end
end K34

namespace K34
open PySem PySem.Spec PyProof.Rows L2 SortR LcM RepA
abbrev sLaw : Stmt := top 30
def spLaw (K : PySem.W.Frag) : Sp := fun vs H Q _ => ∃ (a : Addr) (ns : List Int), vs = [.ref a] ∧ SqL K H a (ns.map L2.V.int) ∧ ns.length ≤ 63 ∧ ∀ H', Q (.bl true) H'
theorem mm (k : Int) : ∃ J : Int, 1 ≤ J ∧ J ≤ 3 ∧ (if (if k < 3 then k else 3) > 1 then (if k < 3 then k else 3) else 1) = J := by
  refine ⟨_, ?_, ?_, rfl⟩
  · split <;> omega
  · split <;> split <;> omega
theorem gr_grows {sd : Addr} {H H0 H1 G : Hp} (g0 : Grows H H0) (n : H sd = none) (g : Gr sd H1 G) (g1 : Grows H0 H1) : Grows H G := fun b o e => g b o (fun z => by rw [z, n] at e; cases e) (g1 _ _ (g0 b o e))
theorem two_at (c : Bool) : ∃ t : Int, 12 ≤ t ∧ t ≤ 20 ∧ atI [V.int 20, V.int 12] (if c = true then 1 else 0) = some (.int t) := by
  cases c
  · exact ⟨20, by decide, by decide, rfl⟩
  · exact ⟨12, by decide, by decide, rfl⟩
theorem vals : ccI 4 2 = [0, 5, 10] ∧ ccI 4 1 = [0, 15] ∧ ccI 1 1 = [1] ∧ ccI 2 1 = [0, 1] ∧ (ccI 20 5).length = 6 ∧ (ccI 20 5).sum = oddI 20 ∧ (ccI 20 5).getD 5 0 = lastI 20 5 := by decide +kernel
section
variable {P : Program} {w : World} {K : PySem.W.Frag} {mg : Str → Option Value} {base : Heap}
theorem scLaw : FnScope ["script", "k", "store", "top", "row"] ["script"] (defScope sLaw) := ⟨rfl, rfl, rfl, by decide +kernel, rfl, by decide +kernel, by decide +kernel⟩
theorem ok_law {f fStore fGr fFR : Addr} {fd dStore dGr dFR : FuncData} (F : Fun K "law" "law" sLaw f fd) (Z : ProgF K mg) (T : TxtP mg) (T0 : Txt0 mg) (U : CcF K mg) (L : LwF P w base K mg)
    (GStore : FnOk P w K mg base CX0 1 fStore dStore ["script", "k"] (spStore K)) (FStore : Fun K "_law_store" "_law_store" sStore fStore dStore) (gStore : mg "_law_store" = some (.ref fStore)) (bStore : Binds K dStore ["script", "k"] [])
    (FGr : Fun K "_law_great_right" "_law_great_right" sGr fGr dGr) (gGr : mg "_law_great_right" = some (.ref fGr)) (bGr : Binds K dGr ["store", "many_here"] [])
    (GFR : FnG P w K mg base CX0 6 fFR dFR ["most_here"] spFR) (FFR : Fun K "_law_few_right" "_law_few_right" sFR fFR dFR) (gFR : mg "_law_few_right" = some (.ref fFR)) (bFR : Binds K dFR ["most_here"] []) : FnG P w K mg base CX0 10 f fd ["script"] (spLaw K) := by
  have GGr : FnOk P w K mg base CX0 5 fGr dGr ["store", "many_here"] spGr := ok_great FGr Z T T0 U L
  have GCC := ok_cc (P := P) (w := w) (base := base) Z T T0 U
  obtain ⟨fPick, fOd, fLa, dPick, dOd, dLa, FPick, FOd, FLa, gPick, gOd, gLa, bPick, bOd, bLa, GPick, GOd, GLa⟩ := L
  refine okG F scLaw (fun vs H Q E h => ?_) (fun cdv A outer s H vs Q E hr noG h => ?_)
  · obtain ⟨a, ns, rfl, _⟩ := h
    rfl
  · obtain ⟨a, ns, rfl, hS, hl, kq⟩ := h
    refine ⟨_, (pss_cons (ps_if (pt_not (pt_val (pe_callG GFR (hr.mono (by decide)) noG rfl gFR FFR.kp bFR .nil pass0 (pa_cons pe_int pa_nil)))) (pss_one (ps_ret pe_bl)) pss_nil)
      (pss_cons (ps_for PassesOwn.never rfl (pi_range1 (by rfl) T.range (pa_cons (pe_callB (call_max2 rfl) (by rfl) T0.max (by decide +kernel) (pa_cons pe_int (pa_cons (pe_callB (call_min2 rfl) (by rfl) T0.min (by decide +kernel) (pa_cons pe_int (pa_cons (pe_callB call_len_seq (by rfl) T.len (by decide +kernel) (pa_cons (pv 0) pa_nil)) pa_nil))) pa_nil))) pa_nil)) (pg_name (i := 1) scLaw.nd rfl (.inl rfl))
      (pss_cons (ps_set (i := 2) scLaw.nd rfl (.inl rfl) (pe_call GStore (hr.mono (by decide)) rfl gStore FStore.kp bStore .nil pass0 (pa_cons (pv 0) (pa_cons (pv 1) pa_nil))))
      (pss_one (ps_for PassesOwn.never rfl (pi_tup (pe_tup (pa_cons (pe_ix (r := rIxL K) ix_list (pe_lst (pa_cons pe_int (pa_cons pe_int pa_nil))) (pe_callTy call_int1 (by rfl) T.int (by decide +kernel) (pa_cons (pe_cmpR op_gt (pv 1) pe_int (nomark _)) pa_nil)) (fun _ _ => rfl)) (pa_cons pe_int (pa_cons pe_int pa_nil))))) (pg_name (i := 3) scLaw.nd rfl (.inl rfl))
      (pss_one (ps_if (pt_not (pt_val (pe_call GGr (hr.mono (by decide)) rfl gGr FGr.kp bGr .nil pass0 (pa_cons (pv 2) (pa_cons (pe_op op_sub (pv 3) (pe_call GPick (hr.mono (by decide)) rfl gPick FPick.kp bPick .nil pass0 (pa_cons (pv 2) (pa_cons (pe_ix (r := rIxL K) ix_list (pe_lst (pa_cons pe_int (pa_cons (pv 3) pa_nil))) (pe_call GPick (hr.mono (by decide)) rfl gPick FPick.kp bPick .nil pass0 (pa_cons (pv 2) (pa_cons pe_int pa_nil))) (fun _ _ => rfl)) pa_nil)))) pa_nil))))) (pss_one (ps_ret pe_bl)) pss_nil))))))
      (pss_cons (ps_if (pt_cmpR (op_neD hr.units) (pe_lst (pa_cons (pe_call GCC (hr.mono (by decide)) rfl U.gCC U.FCC.kp U.bCC .nil pass0 (pa_cons pe_int (pa_cons pe_int pa_nil))) (pa_cons (pe_call GCC (hr.mono (by decide)) rfl U.gCC U.FCC.kp U.bCC .nil pass0 (pa_cons pe_int (pa_cons pe_int pa_nil))) (pa_cons (pe_call GCC (hr.mono (by decide)) rfl U.gCC U.FCC.kp U.bCC .nil pass0 (pa_cons pe_int (pa_cons pe_int pa_nil))) pa_nil)))) (pe_lst (pa_cons (pe_lst (pa_cons pe_int (pa_cons pe_int (pa_cons pe_int pa_nil)))) (pa_cons (pe_lst (pa_cons pe_int (pa_cons pe_int pa_nil))) (pa_cons (pe_lst (pa_cons pe_int pa_nil)) pa_nil)))) (nomark _)) (pss_one (ps_ret pe_bl)) pss_nil)
      (pss_cons (ps_if (pt_cmpR (op_neD hr.units) (pe_call GCC (hr.mono (by decide)) rfl U.gCC U.FCC.kp U.bCC .nil pass0 (pa_cons pe_int (pa_cons pe_int pa_nil))) (pe_lst (pa_cons pe_int (pa_cons pe_int pa_nil))) (nomark _)) (pss_one (ps_ret pe_bl)) pss_nil)
      (pss_cons (ps_set (i := 4) scLaw.nd rfl (.inl rfl) (pe_call GCC (hr.mono (by decide)) rfl U.gCC U.FCC.kp U.bCC .nil pass0 (pa_cons pe_int (pa_cons pe_int pa_nil))))
      (pss_one (ps_ret (pe_and (pe_cmpR op_eq (pe_callB call_len_seq (by rfl) T.len (by decide +kernel) (pa_cons (pv 4) pa_nil)) pe_int (nomark _)) (pe_and (pe_cmpR op_eq (pe_callB (cr_sum rfl) (by rfl) T.sum (by decide +kernel) (pa_cons (pv 4) pa_nil)) (pe_call GOd (hr.mono (by decide)) rfl gOd FOd.kp bOd .nil pass0 (pa_cons pe_int pa_nil)) (nomark _)) (pe_one (pe_cmpR op_eq (pe_ix (r := rIxL K) ix_list (pv 4) pe_int (fun _ _ => rfl)) (pe_call GLa (hr.mono (by decide)) rfl gLa FLa.kp bLa .nil pass0 (pa_cons pe_int (pa_cons pe_int pa_nil))) (nomark _)))))))))))), ?_⟩
    obtain ⟨v1, v2, v3, v4, v5, v6, v7⟩ := vals
    refine ⟨rfl, fun H1 g1 => ⟨_, rfl, iteF ?_⟩⟩
    obtain ⟨J, J1, J4, eJ⟩ := mm ((ns.map L2.V.int).length : Nat)
    refine ⟨_, rfl, a, _, rfl, .inl (g1.seq hS), 3, _, rfl, 1, _, rfl, J, congrArg (fun z => [L2.V.int z]) eJ, by omega, by omega, for_range (fun i σ H' => ∃ o1 o2 o3, σ = [some (.ref a), o1, o2, o3, none] ∧ Grows H H') ⟨none, none, none, rfl, g1⟩ (fun i σ H1 hi ⟨o2, o3, o4, e, g1⟩ => ?_) fun σ H1 ⟨o2, o3, o4, e, g1⟩ => ?_⟩
    · subst e
      refine ⟨_, rfl, _, rfl, a, _, ns, rfl, g1.seq hS, by omega, by omega, fun p H2 np g2 hP2 => ?_⟩
      have Hp0 : H p = none := none_back g1 np
      have g2' := g1.trans g2
      obtain ⟨t1, t10, t11, et1⟩ := two_at (decide ((0 : Int) < 0 + (i : Int)))
      refine ⟨(by show 2 ≤ sizeLine; decide), fun l1 hl1 => ⟨_, rfl, _, _, rfl, rfl, .inr ⟨_, rfl, l1, _, _, _, rfl, rfl, SqL.of upd_same, et1, (by show 3 ≤ sizeLine; decide), fun t ht => ⟨t, rfl, ⟨_, SqT.of upd_same⟩, ?_⟩⟩⟩⟩
      have gl := Grows.new (o := .lst [L2.V.int 20, L2.V.int 12]) hl1
      have hPl := hP2.same gl
      have tp : t ≠ p := fun z => by
        obtain ⟨_, _, _, eo, _⟩ := hPl
        rw [z, eo] at ht
        cases ht
      have gt := Grows.new (o := .tup [L2.V.int t1, L2.V.int 11, L2.V.int 8]) ht
      have hPt := hPl.same gt
      have et : (upd (upd H2 l1 (.lst [L2.V.int 20, L2.V.int 12])) t (.tup [L2.V.int t1, L2.V.int 11, L2.V.int 8])) t = some (.tup [L2.V.int t1, L2.V.int 11, L2.V.int 8]) := upd_same
      have glt := gl.trans gt
      generalize upd (upd H2 l1 (.lst [L2.V.int 20, L2.V.int 12])) t (.tup [L2.V.int t1, L2.V.int 11, L2.V.int 8]) = H5 at glt hPt et
      have g25 := g2'.trans glt
      refine for_tup (K := K) (xs := [L2.V.int t1, L2.V.int 11, L2.V.int 8]) (fun j σ G => ∃ o4, σ = [some (.ref a), some (.int (0 + (i : Nat))), some (.ref p), o4, none] ∧ Gr p H5 G ∧ Pch G p (2 + 100 * j)) ⟨_, rfl, .refl, hPt.le (by omega)⟩ (fun j σ G _ ⟨_, _, g, _⟩ => SqT.of (g _ _ tp et)) (fun j x σ G hx ⟨o4, e, g, hp⟩ => ?_) fun σ G ⟨o4, e, g, hp⟩ => ?_
      · subst e
        have hj : j < 3 := (List.getElem?_eq_some_iff.mp hx).1
        obtain ⟨n, rfl, n2, n20⟩ : ∃ n, x = L2.V.int n ∧ 8 ≤ n ∧ n ≤ 20 := by
          have hm := List.mem_of_getElem? hx
          simp only [List.mem_cons, List.not_mem_nil, or_false] at hm
          rcases hm with rfl | rfl | rfl <;> exact ⟨_, rfl, by omega, by omega⟩
        refine nm_d ?_
        dsimp only [List.set_cons_succ, List.set_cons_zero]
        refine ⟨_, rfl, _, rfl, _, rfl, _, rfl, (by show 2 ≤ sizeLine; decide), fun q hq => ⟨_, rfl, p, 2, _, rfl, hp.same (.new hq), Int.lt_of_le_of_lt (show (2 + 100 * (j : Int)) ≤ 100000 by omega) (by decide), by decide, by decide, fun v G2 v0 v1 hp2 but2 => ?_⟩⟩
        have nqp := pch_ne hp hq
        have e0 : G2 q = some (.lst [.int 2, .int n]) := (but2 q nqp).trans upd_same
        have gr2 : Gr p G G2 := (Gr.new hq).trans (but_gr but2)
        obtain ⟨z, hz, az⟩ := at_in (xs := [L2.V.int 2, .int n]) v0 (by show v < 2; omega)
        obtain ⟨wd, er, w2, wn⟩ : ∃ wd : Int, z = .int wd ∧ 2 ≤ wd ∧ wd ≤ n := by
          simp only [List.mem_cons, List.not_mem_nil, or_false] at hz
          rcases hz with rfl | rfl
          · exact ⟨2, rfl, by omega, by omega⟩
          · exact ⟨n, rfl, by omega, by omega⟩
        subst er
        refine ⟨q, _, v, _, rfl, rfl, SqL.of e0, az, p, wd, _, rfl, hp2, Int.lt_of_le_of_lt (show (2 + 100 * (j : Int) + 1) ≤ 100000 by omega) (by decide), by omega, Nat.lt_of_le_of_lt (show wd.natAbs ≤ 20 by omega) (by decide), fun v2 G3 v20 v21 hp3 but3 => ⟨_, _, rfl, rfl, p, n - v2, _, rfl, hp3, Int.lt_of_le_of_lt (show (2 + 100 * (j : Int) + 1 + 1) ≤ 100000 by omega) (by decide), by omega, by omega, fun G4 hp4 g4 => ⟨_, rfl, ?_⟩⟩⟩
        exact iteF ⟨_, rfl, g.trans (gr2.trans ((but_gr but3).trans g4)), hp4.le (by omega)⟩
      · subst e
        exact ⟨_, _, _, rfl, gr_grows g25 Hp0 g .refl⟩
    subst e
    dsimp only
    refine seq_no (fun R kR => ?_) fun H3 g3 => ?_
    · refine ⟨4, 2, rfl, by decide, by decide, by decide, by decide, fun Da Ha hDa ga ea => ⟨4, 1, rfl, by decide, by decide, by decide, by decide, fun Db Hb hDb gb eb => ⟨1, 1, rfl, by decide, by decide, by decide, by decide, fun Dc Hc hDc gc ec => ⟨(by show 3 ≤ sizeLine; decide), fun q hq => ⟨(by show 3 ≤ sizeLine; decide), fun r1 hr1 => ⟨(by show 2 ≤ sizeLine; decide), fun r2 hr2 => ⟨(by show 1 ≤ sizeLine; decide), fun r3 hr3 => ⟨(by show 3 ≤ sizeLine; decide), fun q2 hq2 => ?_⟩⟩⟩⟩⟩⟩⟩⟩
      rw [v1] at ea
      rw [v2] at eb
      rw [v3] at ec
      have w0 := Grows.new (o := .lst [V.ref Da, .ref Db, .ref Dc]) hq
      have w1 := Grows.new (o := .lst [V.int 0, .int 5, .int 10]) hr1
      have w2 := Grows.new (o := .lst [V.int 0, .int 15]) hr2
      have w3 := Grows.new (o := .lst [V.int 1]) hr3
      have w4 := Grows.new (o := .lst [V.ref r1, .ref r2, .ref r3]) hq2
      have w34 := w3.trans w4
      have w24 := w2.trans w34
      have w14 := w1.trans w24
      have w04 := w0.trans w14
      refine ⟨.list (rowsD [[0, 5, 10], [0, 15], [1]]), .list (rowsD [[0, 5, 10], [0, 15], [1]]), .lst (SqL.of (w14 _ _ upd_same)) (.cons (.lst (SqL.of (w04 _ _ (gc _ _ (gb _ _ ea)))) (rows_dp _)) (.cons (.lst (SqL.of (w04 _ _ (gc _ _ eb))) (rows_dp _)) (.cons (.lst (SqL.of (w04 _ _ ec)) (rows_dp _)) .nil))),
        .lst (SqL.of upd_same) (.cons (.lst (SqL.of (w24 _ _ upd_same)) (rows_dp [0, 5, 10])) (.cons (.lst (SqL.of (w34 _ _ upd_same)) (rows_dp [0, 15])) (.cons (.lst (SqL.of (w4 _ _ upd_same)) (rows_dp [1])) .nil))), shaped_rows [[0, 5, 10], [0, 15], [1]], shaped_rows [[0, 5, 10], [0, 15], [1]], _, rfl, ?_⟩
      rw [show PyData.eqv (.list (rowsD [[0, 5, 10], [0, 15], [1]])) (.list (rowsD [[0, 5, 10], [0, 15], [1]])) = true from (eqv_rows _ _).trans (decide_eq_true rfl)]
      exact kR _ (ga.trans (gb.trans (gc.trans w04)))
    refine seq_no (fun R kR => ?_) fun H4 g4 => ?_
    · refine ⟨2, 1, rfl, by decide, by decide, by decide, by decide, fun Da Ha hDa ga ea => ⟨(by show 2 ≤ sizeLine; decide), fun q2 hq2 => ?_⟩⟩
      rw [v4] at ea
      have w2 := Grows.new (o := .lst [V.int 0, .int 1]) hq2
      refine ⟨.list ([0, 1].map .int), .list ([0, 1].map .int), .lst (SqL.of (w2 _ _ ea)) (rows_dp [0, 1]), .lst (SqL.of upd_same) (rows_dp [0, 1]), shaped_ints _, shaped_ints _, _, rfl, ?_⟩
      rw [eqv_ints, decide_eq_true rfl]
      exact kR _ (ga.trans w2)
    refine ⟨20, 5, rfl, by decide, by decide, by decide, by decide, fun D H5 hD g5 eD => ?_⟩
    unfold gName
    dsimp only [List.set_cons_succ, List.set_cons_zero]
    obtain ⟨row, erow⟩ : ∃ row, row = ccI 20 5 := ⟨_, rfl⟩
    rw [← erow] at eD v5 v6 v7
    have at1 : atI (row.map V.int) 5 = some (.int (row.getD 5 0)) := by
      have z : 5 < row.length := by omega
      exact atI_nat (j := 5) (by rw [List.getElem?_map, List.getElem?_eq_getElem z, List.getD_eq_getElem?_getD, List.getElem?_eq_getElem z]; rfl)
    refine ⟨_, rfl, D, _, rfl, .inl (SqL.of eD), rfl, _, rfl, ?_⟩
    rw [List.length_map, v5, decide_eq_true (show V.int ((6 : Nat) : Int) = V.int 6 from rfl)]
    refine iteT ⟨_, rfl, D, row, rfl, SqL.of eD, 20, rfl, by decide, by decide, rfl, _, rfl, ?_⟩
    rw [v6, decide_eq_true rfl]
    refine iteT ⟨_, rfl, D, _, 5, _, rfl, rfl, SqL.of eD, at1, 20, 5, rfl, by decide, by decide, by decide, fun H' g' => ⟨rfl, ?_⟩⟩
    rw [v7, show lastI 20 5 = lastI ((20 : Nat) : Int) ((5 : Nat) : Int) from rfl, decide_eq_true rfl]
    exact kq _
end
end K34

namespace K34
open PySem PySem.Spec PyProof.Rows L2 SortR LcM RepA
theorem kb_two {K : PySem.W.Frag} {fd : FuncData} {x y : Str} (h2 : ∀ (s : Shared) (a b : Value), BindsTo s fd ⟨[], [(x, a), (y, b)]⟩ [(x, a), (y, b)]) (h0 : ∀ (s : Shared) (a b : Value), BindsTo s fd ⟨[a, b], []⟩ [(x, a), (y, b)]) :
    KBinds K fd [x, y] [x, y] selL selL := by
  refine ⟨fun s us ws _ h => ?_, fun r r2 => ?_⟩
  · match us, ws, h with
    | [], [_, _], _ => exact h2 _ _ _
    | [_, _], [], _ => exact h0 _ _ _
    | [], [], e => cases e
    | [], [_], e => cases e
    | [], _ :: _ :: _ :: _, e => cases e
    | [_], [], e => cases e
    | _ :: _ :: _ :: _, [], e => cases e
    | _ :: _, _ :: _, e => cases e
  · cases r with
    | nil => exact r2
    | cons a b =>
      cases r2 with
      | nil => exact .cons a b
      | cons c d => exact .nil
theorem kb_one {K : PySem.W.Frag} {fd : FuncData} {x : Str} (h2 : ∀ (s : Shared) (a : Value), BindsTo s fd ⟨[], [(x, a)]⟩ [(x, a)]) (h0 : ∀ (s : Shared) (a : Value), BindsTo s fd ⟨[a], []⟩ [(x, a)]) :
    KBinds K fd [x] [x] selL selL := by
  refine ⟨fun s us ws _ h => ?_, fun r r2 => ?_⟩
  · match us, ws, h with
    | [], [_], _ => exact h2 _ _
    | [_], [], _ => exact h0 _ _
    | [], [], e => cases e
    | [], _ :: _ :: _, e => cases e
    | _ :: _ :: _, [], e => cases e
    | _ :: _, _ :: _, e => cases e
  · cases r with
    | nil => exact r2
    | cons a b =>
      cases r2 with
      | nil => exact .cons a b
      | cons c d => exact .nil
theorem all_mk {l : PySem.W.OpenLaw} {w : World} {K : PySem.W.Frag} {h : Heap} {mg : Str → Option Value} {fa fNum fNPs fNN fWays fApart fWwc fCC fStore fPick fGroups fEv fHv fCo fCh fJn fTb fOd fFR fLa fGre fL : Addr} (X : K.In h) (G : h.Ns mainGlobals mg) (hfa : mg "law" = some (.ref fa))
    {odNum anNum odNPs anNPs odNN anNN odWays anWays odApart anApart odWwc anWwc odCC anCC odStore anStore odPick anPick odGroups anGroups odEv anEv odHv anHv odCo anCo odCh anCh odJn anJn odTb anTb odOd anOd odFR anFR odLa anLa odGre anGre odL anL : Option Addr} {slNum slNPs slNN slWays slApart slWwc slCC slStore slPick slGroups slEv slHv slCo slCh slJn slTb slOd slFR slLa slGre slL : Array (Option Value)} {ocNum kVNum dcNum pmNum cvNum ctNum ocNPs kVNPs dcNPs pmNPs cvNPs ctNPs ocNN kVNN dcNN pmNN cvNN ctNN ocWays kVWays dcWays pmWays cvWays ctWays ocApart kVApart dcApart pmApart cvApart ctApart ocWwc kVWwc dcWwc pmWwc cvWwc ctWwc ocCC kVCC dcCC pmCC cvCC ctCC ocStore kVStore dcStore pmStore cvStore ctStore ocPick kVPick dcPick pmPick cvPick ctPick ocGroups kVGroups dcGroups pmGroups cvGroups ctGroups ocEv kVEv dcEv pmEv cvEv ctEv ocHv kVHv dcHv pmHv cvHv ctHv ocCo kVCo dcCo pmCo cvCo ctCo ocCh kVCh dcCh pmCh cvCh ctCh ocJn kVJn dcJn pmJn cvJn ctJn ocTb kVTb dcTb pmTb cvTb ctTb ocOd kVOd dcOd pmOd cvOd ctOd ocFR kVFR dcFR pmFR cvFR ctFR ocLa kVLa dcLa pmLa cvLa ctLa ocGre kVGre dcGre pmGre cvGre ctGre ocL kVL dcL pmL cvL ctL : Value} {mtok : Tok}
    (aNum : PySem.W.nsIn K mainGlobals "is_number" = some (some (.ref fNum))) (lNum : K.lookup fNum = some ⟨ocNum, odNum, .func (PySem.W.fnOf "is_number" "is_number" (defArgs sNumber) (defBody sNumber) (defScope sNumber) .none kVNum dcNum pmNum anNum cvNum ctNum), slNum⟩) (xNum : PySem.W.codeIn K cvNum "is_number" = true) (kNum : PySem.W.keepIn K (.ref fNum) = true)
    (aNPs : PySem.W.nsIn K mainGlobals "need_persons" = some (some (.ref fNPs))) (lNPs : K.lookup fNPs = some ⟨ocNPs, odNPs, .func (PySem.W.fnOf "need_persons" "need_persons" (defArgs sNPs) (defBody sNPs) (defScope sNPs) .none kVNPs dcNPs pmNPs anNPs cvNPs ctNPs), slNPs⟩) (xNPs : PySem.W.codeIn K cvNPs "need_persons" = true) (kNPs : PySem.W.keepIn K (.ref fNPs) = true)
    (aNN : PySem.W.nsIn K mainGlobals "need_number" = some (some (.ref fNN))) (lNN : K.lookup fNN = some ⟨ocNN, odNN, .func (PySem.W.fnOf "need_number" "need_number" (defArgs sNeedN) (defBody sNeedN) (defScope sNeedN) .none kVNN dcNN pmNN anNN cvNN ctNN), slNN⟩) (xNN : PySem.W.codeIn K cvNN "need_number" = true) (kNN : PySem.W.keepIn K (.ref fNN) = true)
    (aWays : PySem.W.nsIn K mainGlobals "ways_of" = some (some (.ref fWays))) (lWays : K.lookup fWays = some ⟨ocWays, odWays, .func (PySem.W.fnOf "ways_of" "ways_of" (defArgs sWays) (defBody sWays) (defScope sWays) .none kVWays dcWays pmWays anWays cvWays ctWays), slWays⟩) (xWays : PySem.W.codeIn K cvWays "ways_of" = true) (kWays : PySem.W.keepIn K (.ref fWays) = true)
    (aApart : PySem.W.nsIn K mainGlobals "ways_apart" = some (some (.ref fApart))) (lApart : K.lookup fApart = some ⟨ocApart, odApart, .func (PySem.W.fnOf "ways_apart" "ways_apart" (defArgs sApart) (defBody sApart) (defScope sApart) .none kVApart dcApart pmApart anApart cvApart ctApart), slApart⟩) (xApart : PySem.W.codeIn K cvApart "ways_apart" = true) (kApart : PySem.W.keepIn K (.ref fApart) = true)
    (aWwc : PySem.W.nsIn K mainGlobals "ways_with_changes" = some (some (.ref fWwc))) (lWwc : K.lookup fWwc = some ⟨ocWwc, odWwc, .func (PySem.W.fnOf "ways_with_changes" "ways_with_changes" (defArgs sWwc) (defBody sWwc) (defScope sWwc) .none kVWwc dcWwc pmWwc anWwc cvWwc ctWwc), slWwc⟩) (xWwc : PySem.W.codeIn K cvWwc "ways_with_changes" = true) (kWwc : PySem.W.keepIn K (.ref fWwc) = true)
    (aCC : PySem.W.nsIn K mainGlobals "change_counts" = some (some (.ref fCC))) (lCC : K.lookup fCC = some ⟨ocCC, odCC, .func (PySem.W.fnOf "change_counts" "change_counts" (defArgs sCC) (defBody sCC) (defScope sCC) .none kVCC dcCC pmCC anCC cvCC ctCC), slCC⟩) (xCC : PySem.W.codeIn K cvCC "change_counts" = true) (kCC : PySem.W.keepIn K (.ref fCC) = true)
    (aStore : PySem.W.nsIn K mainGlobals "_law_store" = some (some (.ref fStore))) (lStore : K.lookup fStore = some ⟨ocStore, odStore, .func (PySem.W.fnOf "_law_store" "_law_store" (defArgs sStore) (defBody sStore) (defScope sStore) .none kVStore dcStore pmStore anStore cvStore ctStore), slStore⟩) (xStore : PySem.W.codeIn K cvStore "_law_store" = true) (kStore : PySem.W.keepIn K (.ref fStore) = true)
    (aPick : PySem.W.nsIn K mainGlobals "_law_pick" = some (some (.ref fPick))) (lPick : K.lookup fPick = some ⟨ocPick, odPick, .func (PySem.W.fnOf "_law_pick" "_law_pick" (defArgs sPick) (defBody sPick) (defScope sPick) .none kVPick dcPick pmPick anPick cvPick ctPick), slPick⟩) (xPick : PySem.W.codeIn K cvPick "_law_pick" = true) (kPick : PySem.W.keepIn K (.ref fPick) = true)
    (aGroups : PySem.W.nsIn K mainGlobals "_law_groups" = some (some (.ref fGroups))) (lGroups : K.lookup fGroups = some ⟨ocGroups, odGroups, .func (PySem.W.fnOf "_law_groups" "_law_groups" (defArgs sGroups) (defBody sGroups) (defScope sGroups) .none kVGroups dcGroups pmGroups anGroups cvGroups ctGroups), slGroups⟩) (xGroups : PySem.W.codeIn K cvGroups "_law_groups" = true) (kGroups : PySem.W.keepIn K (.ref fGroups) = true)
    (aEv : PySem.W.nsIn K mainGlobals "_law_every" = some (some (.ref fEv))) (lEv : K.lookup fEv = some ⟨ocEv, odEv, .func (PySem.W.fnOf "_law_every" "_law_every" (defArgs sEvery) (defBody sEvery) (defScope sEvery) .none kVEv dcEv pmEv anEv cvEv ctEv), slEv⟩) (xEv : PySem.W.codeIn K cvEv "_law_every" = true) (kEv : PySem.W.keepIn K (.ref fEv) = true)
    (aHv : PySem.W.nsIn K mainGlobals "_law_halves" = some (some (.ref fHv))) (lHv : K.lookup fHv = some ⟨ocHv, odHv, .func (PySem.W.fnOf "_law_halves" "_law_halves" (defArgs sHalves) (defBody sHalves) (defScope sHalves) .none kVHv dcHv pmHv anHv cvHv ctHv), slHv⟩) (xHv : PySem.W.codeIn K cvHv "_law_halves" = true) (kHv : PySem.W.keepIn K (.ref fHv) = true)
    (aCo : PySem.W.nsIn K mainGlobals "_law_changes" = some (some (.ref fCo))) (lCo : K.lookup fCo = some ⟨ocCo, odCo, .func (PySem.W.fnOf "_law_changes" "_law_changes" (defArgs sCosts) (defBody sCosts) (defScope sCosts) .none kVCo dcCo pmCo anCo cvCo ctCo), slCo⟩) (xCo : PySem.W.codeIn K cvCo "_law_changes" = true) (kCo : PySem.W.keepIn K (.ref fCo) = true)
    (aCh : PySem.W.nsIn K mainGlobals "_law_choose" = some (some (.ref fCh))) (lCh : K.lookup fCh = some ⟨ocCh, odCh, .func (PySem.W.fnOf "_law_choose" "_law_choose" (defArgs sChoose) (defBody sChoose) (defScope sChoose) .none kVCh dcCh pmCh anCh cvCh ctCh), slCh⟩) (xCh : PySem.W.codeIn K cvCh "_law_choose" = true) (kCh : PySem.W.keepIn K (.ref fCh) = true)
    (aJn : PySem.W.nsIn K mainGlobals "_law_join" = some (some (.ref fJn))) (lJn : K.lookup fJn = some ⟨ocJn, odJn, .func (PySem.W.fnOf "_law_join" "_law_join" (defArgs sJoin) (defBody sJoin) (defScope sJoin) .none kVJn dcJn pmJn anJn cvJn ctJn), slJn⟩) (xJn : PySem.W.codeIn K cvJn "_law_join" = true) (kJn : PySem.W.keepIn K (.ref fJn) = true)
    (aTb : PySem.W.nsIn K mainGlobals "_law_table" = some (some (.ref fTb))) (lTb : K.lookup fTb = some ⟨ocTb, odTb, .func (PySem.W.fnOf "_law_table" "_law_table" (defArgs sTable) (defBody sTable) (defScope sTable) .none kVTb dcTb pmTb anTb cvTb ctTb), slTb⟩) (xTb : PySem.W.codeIn K cvTb "_law_table" = true) (kTb : PySem.W.keepIn K (.ref fTb) = true)
    (aOd : PySem.W.nsIn K mainGlobals "_law_odd" = some (some (.ref fOd))) (lOd : K.lookup fOd = some ⟨ocOd, odOd, .func (PySem.W.fnOf "_law_odd" "_law_odd" (defArgs sOdd) (defBody sOdd) (defScope sOdd) .none kVOd dcOd pmOd anOd cvOd ctOd), slOd⟩) (xOd : PySem.W.codeIn K cvOd "_law_odd" = true) (kOd : PySem.W.keepIn K (.ref fOd) = true)
    (aFR : PySem.W.nsIn K mainGlobals "_law_few_right" = some (some (.ref fFR))) (lFR : K.lookup fFR = some ⟨ocFR, odFR, .func (PySem.W.fnOf "_law_few_right" "_law_few_right" (defArgs sFR) (defBody sFR) (defScope sFR) .none kVFR dcFR pmFR anFR cvFR ctFR), slFR⟩) (xFR : PySem.W.codeIn K cvFR "_law_few_right" = true) (kFR : PySem.W.keepIn K (.ref fFR) = true)
    (aLa : PySem.W.nsIn K mainGlobals "_law_last" = some (some (.ref fLa))) (lLa : K.lookup fLa = some ⟨ocLa, odLa, .func (PySem.W.fnOf "_law_last" "_law_last" (defArgs sLast) (defBody sLast) (defScope sLast) .none kVLa dcLa pmLa anLa cvLa ctLa), slLa⟩) (xLa : PySem.W.codeIn K cvLa "_law_last" = true) (kLa : PySem.W.keepIn K (.ref fLa) = true)
    (aGre : PySem.W.nsIn K mainGlobals "_law_great_right" = some (some (.ref fGre))) (lGre : K.lookup fGre = some ⟨ocGre, odGre, .func (PySem.W.fnOf "_law_great_right" "_law_great_right" (defArgs sGr) (defBody sGr) (defScope sGr) .none kVGre dcGre pmGre anGre cvGre ctGre), slGre⟩) (xGre : PySem.W.codeIn K cvGre "_law_great_right" = true) (kGre : PySem.W.keepIn K (.ref fGre) = true)
    (aL : PySem.W.nsIn K mainGlobals "law" = some (some (.ref fL))) (lL : K.lookup fL = some ⟨ocL, odL, .func (PySem.W.fnOf "law" "law" (defArgs sLaw) (defBody sLaw) (defScope sLaw) .none kVL dcL pmL anL cvL ctL), slL⟩) (xL : PySem.W.codeIn K cvL "law" = true) (kL : PySem.W.keepIn K (.ref fL) = true)
    (y_isinstance : PySem.W.nsIn K mainGlobals "isinstance" = some none)
    (y_int : PySem.W.nsIn K mainGlobals "int" = some none)
    (y_bool : PySem.W.nsIn K mainGlobals "bool" = some none)
    (y_list : PySem.W.nsIn K mainGlobals "list" = some none)
    (y_len : PySem.W.nsIn K mainGlobals "len" = some none)
    (y_sum : PySem.W.nsIn K mainGlobals "sum" = some none)
    (y_sorted : PySem.W.nsIn K mainGlobals "sorted" = some none)
    (y_range : PySem.W.nsIn K mainGlobals "range" = some none)
    (y_enumerate : PySem.W.nsIn K mainGlobals "enumerate" = some none)
    (y_abs : PySem.W.nsIn K mainGlobals "abs" = some none)
    (y_max : PySem.W.nsIn K mainGlobals "max" = some none)
    (y_min : PySem.W.nsIn K mainGlobals "min" = some none)
    (y_repr : PySem.W.nsIn K mainGlobals "repr" = some none)
    (y_dict : PySem.W.nsIn K mainGlobals "dict" = some none)
    (zMost : PySem.W.nsIn K mainGlobals "MOST_PERSONS" = some (some (.int 20 mtok))) (zCom2 : PySem.W.nsIn K mainGlobals "comb" = some (some (.builtin "math.comb"))) (zFact : PySem.W.nsIn K mainGlobals "factorial" = some (some (.builtin "math.factorial"))) :
    ∃ fd : FuncData, (∀ (s : Shared) (v : Value), BindsTo s fd ⟨[v], []⟩ [("script", v)]) ∧ ∀ base : Heap, K.In base → base.Ns mainGlobals mg → FnG l.prog w K mg base CX0 10 fa fd ["script"] (spLaw K) := by
  have e := hfa.symm.trans (PySem.W.mg_of X G aL)
  cases e
  have FNum := fun_mk (st := sNumber) lNum xNum kNum
  have bNum := FNum.binds (ps := ["thing"]) fun _ _ _ _ _ _ us hl => match us, hl with | [_], _ => rfl
  have FNPs := fun_mk (st := sNPs) lNPs xNPs kNPs
  have bNPs := FNPs.binds (ps := ["persons"]) fun _ _ _ _ _ _ us hl => match us, hl with | [_], _ => rfl
  have FNN := fun_mk (st := sNeedN) lNN xNN kNN
  have bNN := FNN.binds (ps := ["number", "least", "most"]) fun _ _ _ _ _ _ us hl => match us, hl with | [_, _, _], _ => rfl
  have FWays := fun_mk (st := sWays) lWays xWays kWays
  have bWays := FWays.binds (ps := ["many"]) fun _ _ _ _ _ _ us hl => match us, hl with | [_], _ => rfl
  have FApart := fun_mk (st := sApart) lApart xApart kApart
  have bApart := FApart.binds (ps := ["persons", "many"]) fun _ _ _ _ _ _ us hl => match us, hl with | [_, _], _ => rfl
  have FWwc := fun_mk (st := sWwc) lWwc xWwc kWwc
  have bWwc := FWwc.binds (ps := ["marked", "others", "changes"]) fun _ _ _ _ _ _ us hl => match us, hl with | [_, _, _], _ => rfl
  have FCC := fun_mk (st := sCC) lCC xCC kCC
  have bCC := FCC.binds (ps := ["persons", "number"]) fun _ _ _ _ _ _ us hl => match us, hl with | [_, _], _ => rfl
  have FStore := fun_mk (st := sStore) lStore xStore kStore
  have bStore := FStore.binds (ps := ["script", "k"]) fun _ _ _ _ _ _ us hl => match us, hl with | [_, _], _ => rfl
  have FPick := fun_mk (st := sPick) lPick xPick kPick
  have bPick := FPick.binds (ps := ["store", "bound"]) fun _ _ _ _ _ _ us hl => match us, hl with | [_, _], _ => rfl
  have FGroups := fun_mk (st := sGroups) lGroups xGroups kGroups
  have bGroups := FGroups.binds (ps := ["items"]) fun _ _ _ _ _ _ us hl => match us, hl with | [_], _ => rfl
  have FEv := fun_mk (st := sEvery) lEv xEv kEv
  have bEv := FEv.binds (ps := ["many_here"]) fun _ _ _ _ _ _ us hl => match us, hl with | [_], _ => rfl
  have FHv := fun_mk (st := sHalves) lHv xHv kHv
  have bHv := FHv.binds (ps := ["lot", "row"]) fun _ _ _ _ _ _ us hl => match us, hl with | [_, _], _ => rfl
  have FCo := fun_mk (st := sCosts) lCo xCo kCo
  have bCo := FCo.binds (ps := ["lot", "many_here", "gang"]) fun _ _ _ _ _ _ us hl => match us, hl with | [_, _, _], _ => rfl
  have FCh := fun_mk (st := sChoose) lCh xCh kCh
  have bCh := FCh.binds (ps := ["many_here", "few"]) fun _ _ _ _ _ _ us hl => match us, hl with | [_, _], _ => rfl
  have FJn := fun_mk (st := sJoin) lJn xJn kJn
  have bJn := FJn.binds (ps := ["left", "right"]) fun _ _ _ _ _ _ us hl => match us, hl with | [_, _], _ => rfl
  have FTb := fun_mk (st := sTable) lTb xTb kTb
  have bTb := FTb.binds (ps := ["most_here"]) fun _ _ _ _ _ _ us hl => match us, hl with | [_], _ => rfl
  have FOd := fun_mk (st := sOdd) lOd xOd kOd
  have bOd := FOd.binds (ps := ["wide"]) fun _ _ _ _ _ _ us hl => match us, hl with | [_], _ => rfl
  have FFR := fun_mk (st := sFR) lFR xFR kFR
  have bFR := FFR.binds (ps := ["most_here"]) fun _ _ _ _ _ _ us hl => match us, hl with | [_], _ => rfl
  have FLa := fun_mk (st := sLast) lLa xLa kLa
  have bLa := FLa.binds (ps := ["many_here", "least"]) fun _ _ _ _ _ _ us hl => match us, hl with | [_, _], _ => rfl
  have FGre := fun_mk (st := sGr) lGre xGre kGre
  have bGre := FGre.binds (ps := ["store", "many_here"]) fun _ _ _ _ _ _ us hl => match us, hl with | [_, _], _ => rfl
  have FL := fun_mk (st := sLaw) lL xL kL
  have bL := FL.binds (ps := ["script"]) fun _ _ _ _ _ _ us hl => match us, hl with | [_], _ => rfl
  have T : TxtP mg := ⟨PySem.W.mg_none_of X G y_isinstance, PySem.W.mg_none_of X G y_int, PySem.W.mg_none_of X G y_bool, PySem.W.mg_none_of X G y_list, PySem.W.mg_none_of X G y_len, PySem.W.mg_none_of X G y_sum, PySem.W.mg_none_of X G y_sorted, PySem.W.mg_none_of X G y_range, PySem.W.mg_none_of X G y_enumerate, PySem.W.mg_none_of X G y_dict⟩
  have T0 : Txt0 mg := ⟨PySem.W.mg_none_of X G y_int, PySem.W.mg_none_of X G y_range, PySem.W.mg_none_of X G y_len, PySem.W.mg_none_of X G y_abs, PySem.W.mg_none_of X G y_max, PySem.W.mg_none_of X G y_min⟩
  have Z : ProgF K mg := { fNum := fNum, dNum := _, FNum := FNum, gNum := PySem.W.mg_of X G aNum, bNum := bNum, mostT := _, gMost := PySem.W.mg_of X G zMost }
  refine ⟨PySem.W.fnOf "law" "law" (defArgs sLaw) (defBody sLaw) (defScope sLaw) .none kVL dcL pmL anL cvL ctL, fun s v => .of_eq rfl, fun base _ _ => ?_⟩
  have GPick := ok_pick (P := l.prog) (w := w) (K := K) (base := base) FPick T0
  have kbCC : KBinds K ({ fNPs := fNPs, dNPs := _, FNPs := FNPs, gNPs := PySem.W.mg_of X G aNPs, bNPs := bNPs, fNN := fNN, dNN := _, FNN := FNN, gNN := PySem.W.mg_of X G aNN, bNN := bNN, fWays := fWays, dWays := _, FWays := FWays, gWays := PySem.W.mg_of X G aWays, bWays := bWays, fApart := fApart, dApart := _, FApart := FApart, gApart := PySem.W.mg_of X G aApart, bApart := bApart, fWwc := fWwc, dWwc := _, FWwc := FWwc, gWwc := PySem.W.mg_of X G aWwc, bWwc := bWwc, fCC := fCC, dCC := _, FCC := FCC, gCC := PySem.W.mg_of X G aCC, bCC := bCC, gComb2 := PySem.W.mg_of X G zCom2, gFact := PySem.W.mg_of X G zFact } : CcF K mg).dCC ["persons", "number"] ["persons", "number"] selL selL := kb_two (fun s a b => .of_eq rfl) (fun s a b => .of_eq rfl)
  have GHv := ok_halves (P := l.prog) (w := w) (base := base) FHv T
  have GCo := ok_costs (P := l.prog) (w := w) (base := base) FCo T T0 (PySem.W.mg_none_of X G y_repr) GHv FHv (PySem.W.mg_of X G aHv) bHv
  have LF : FrF l.prog w base K mg := { fEv := fEv, dEv := _, FEv := FEv, gEv := PySem.W.mg_of X G aEv, bEv := bEv, fCo := fCo, dCo := _, FCo := FCo, gCo := PySem.W.mg_of X G aCo, bCo := bCo, fTb := fTb, dTb := _, FTb := FTb, gTb := PySem.W.mg_of X G aTb, bTb := bTb, gRepr := PySem.W.mg_none_of X G y_repr, GEv := ok_every FEv T FGroups (PySem.W.mg_of X G aGroups) bGroups, GCo := GCo, GTb := ok_table FTb T FCh (PySem.W.mg_of X G aCh) bCh FJn (PySem.W.mg_of X G aJn) bJn }
  have LL : LwF l.prog w base K mg := { fPick := fPick, dPick := _, FPick := FPick, gPick := PySem.W.mg_of X G aPick, bPick := bPick, fOd := fOd, dOd := _, FOd := FOd, gOd := PySem.W.mg_of X G aOd, bOd := bOd, fLa := fLa, dLa := _, FLa := FLa, gLa := PySem.W.mg_of X G aLa, bLa := bLa, GPick := GPick, GOd := ok_odd FOd T, GLa := ok_last FLa T FOd (PySem.W.mg_of X G aOd) bOd }
  have GFR := ok_fewR FFR Z T T0 ({ fNPs := fNPs, dNPs := _, FNPs := FNPs, gNPs := PySem.W.mg_of X G aNPs, bNPs := bNPs, fNN := fNN, dNN := _, FNN := FNN, gNN := PySem.W.mg_of X G aNN, bNN := bNN, fWays := fWays, dWays := _, FWays := FWays, gWays := PySem.W.mg_of X G aWays, bWays := bWays, fApart := fApart, dApart := _, FApart := FApart, gApart := PySem.W.mg_of X G aApart, bApart := bApart, fWwc := fWwc, dWwc := _, FWwc := FWwc, gWwc := PySem.W.mg_of X G aWwc, bWwc := bWwc, fCC := fCC, dCC := _, FCC := FCC, gCC := PySem.W.mg_of X G aCC, bCC := bCC, gComb2 := PySem.W.mg_of X G zCom2, gFact := PySem.W.mg_of X G zFact } : CcF K mg) kbCC LF
  exact ok_law FL Z T T0 ({ fNPs := fNPs, dNPs := _, FNPs := FNPs, gNPs := PySem.W.mg_of X G aNPs, bNPs := bNPs, fNN := fNN, dNN := _, FNN := FNN, gNN := PySem.W.mg_of X G aNN, bNN := bNN, fWays := fWays, dWays := _, FWays := FWays, gWays := PySem.W.mg_of X G aWays, bWays := bWays, fApart := fApart, dApart := _, FApart := FApart, gApart := PySem.W.mg_of X G aApart, bApart := bApart, fWwc := fWwc, dWwc := _, FWwc := FWwc, gWwc := PySem.W.mg_of X G aWwc, bWwc := bWwc, fCC := fCC, dCC := _, FCC := FCC, gCC := PySem.W.mg_of X G aCC, bCC := bCC, gComb2 := PySem.W.mg_of X G zCom2, gFact := PySem.W.mg_of X G zFact } : CcF K mg) LL (ok_store FStore T0) FStore (PySem.W.mg_of X G aStore) bStore FGre (PySem.W.mg_of X G aGre) bGre GFR FFR (PySem.W.mg_of X G aFR) bFR
theorem walk {l : PySem.W.OpenLaw} {q : Program} {loose : List Str} {XP : (Str → Option Value) → Heap → Prop} {YP : World → Heap → Prop} {d : DefRec} {K : Params → PySem.W.Frag} (hn : l.most = some 63) (hdf : d.params.defaults = [])
    (hY : ∀ (w : World) (h : Heap), YP w h → (K w.params).In h)
    (F : ∀ (w : World) (mg : Str → Option Value) (fa : Addr) (h : Heap), (K w.params).In h → h.Ns mainGlobals mg → mg d.name = some (.ref fa) →
      ∃ fd : FuncData, (∀ (s : Shared) (u : Value), BindsTo s fd ⟨[u], []⟩ [("script", u)]) ∧ ∀ base : Heap, (K w.params).In base → base.Ns mainGlobals mg → FnG l.prog w (K w.params) mg base CX0 10 fa fd ["script"] (spLaw (K w.params))) :
    PySem.W.WalkO q loose XP YP l.row.toRowW d [] (fun f vs => PySem.call f vs) :=
  walk_ofG (n := 63) (lv := 10) (x := "script") (cx := fun _ => CX0) (prom := fun w => spLaw (K w.params)) hn (by decide) hdf ⟨rfl, by decide, by decide⟩ hY F (fun _ _ a ns hl _ _ hS => ⟨a, ns, rfl, hS, hl, fun _ => rfl⟩) fun _ _ _ _ _ z => z
end K34


open PySem PySem.W PyProof.Rows in
set_option maxRecDepth 100000 in
set_option maxHeartbeats 0 in
theorem PySem.Challenge.cw_twopartings_k34_rows_of_changes_holds : PySem.Challenge.rw_twopartings_k34_rows_of_changes.Holds := by
  w_on; o_law; k_head; (case hw => w_witness2)
  k_fill
  refine K34.walk (l := PySem.Challenge.rw_twopartings_k34_rows_of_changes) rfl rfl (fun w h Y => PySem.W.kIn_of Y) ?F
  case F =>
    intro w mg fa h KX G hmg
    refine' K34.all_mk KX G hmg ?aNum ?lNum ?xNum ?kNum ?aNPs ?lNPs ?xNPs ?kNPs ?aNN ?lNN ?xNN ?kNN ?aWays ?lWays ?xWays ?kWays ?aApart ?lApart ?xApart ?kApart ?aWwc ?lWwc ?xWwc ?kWwc ?aCC ?lCC ?xCC ?kCC ?aStore ?lStore ?xStore ?kStore ?aPick ?lPick ?xPick ?kPick ?aGroups ?lGroups ?xGroups ?kGroups ?aEv ?lEv ?xEv ?kEv ?aHv ?lHv ?xHv ?kHv ?aCo ?lCo ?xCo ?kCo ?aCh ?lCh ?xCh ?kCh ?aJn ?lJn ?xJn ?kJn ?aTb ?lTb ?xTb ?kTb ?aOd ?lOd ?xOd ?kOd ?aFR ?lFR ?xFR ?kFR ?aLa ?lLa ?xLa ?kLa ?aGre ?lGre ?xGre ?kGre ?aL ?lL ?xL ?kL ?y_isinstance ?y_int ?y_bool ?y_list ?y_len ?y_sum ?y_sorted ?y_range ?y_enumerate ?y_abs ?y_max ?y_min ?y_repr ?y_dict ?zMost ?zCom2 ?zFact
    (case aNum => k_is)
    (case lNum => k_is)
    (case xNum => k_is)
    (case kNum => k_is)
    (case aNPs => k_is)
    (case lNPs => k_is)
    (case xNPs => k_is)
    (case kNPs => k_is)
    (case aNN => k_is)
    (case lNN => k_is)
    (case xNN => k_is)
    (case kNN => k_is)
    (case aWays => k_is)
    (case lWays => k_is)
    (case xWays => k_is)
    (case kWays => k_is)
    (case aApart => k_is)
    (case lApart => k_is)
    (case xApart => k_is)
    (case kApart => k_is)
    (case aWwc => k_is)
    (case lWwc => k_is)
    (case xWwc => k_is)
    (case kWwc => k_is)
    (case aCC => k_is)
    (case lCC => k_is)
    (case xCC => k_is)
    (case kCC => k_is)
    (case aStore => k_is)
    (case lStore => k_is)
    (case xStore => k_is)
    (case kStore => k_is)
    (case aPick => k_is)
    (case lPick => k_is)
    (case xPick => k_is)
    (case kPick => k_is)
    (case aGroups => k_is)
    (case lGroups => k_is)
    (case xGroups => k_is)
    (case kGroups => k_is)
    (case aEv => k_is)
    (case lEv => k_is)
    (case xEv => k_is)
    (case kEv => k_is)
    (case aHv => k_is)
    (case lHv => k_is)
    (case xHv => k_is)
    (case kHv => k_is)
    (case aCo => k_is)
    (case lCo => k_is)
    (case xCo => k_is)
    (case kCo => k_is)
    (case aCh => k_is)
    (case lCh => k_is)
    (case xCh => k_is)
    (case kCh => k_is)
    (case aJn => k_is)
    (case lJn => k_is)
    (case xJn => k_is)
    (case kJn => k_is)
    (case aTb => k_is)
    (case lTb => k_is)
    (case xTb => k_is)
    (case kTb => k_is)
    (case aOd => k_is)
    (case lOd => k_is)
    (case xOd => k_is)
    (case kOd => k_is)
    (case aFR => k_is)
    (case lFR => k_is)
    (case xFR => k_is)
    (case kFR => k_is)
    (case aLa => k_is)
    (case lLa => k_is)
    (case xLa => k_is)
    (case kLa => k_is)
    (case aGre => k_is)
    (case lGre => k_is)
    (case xGre => k_is)
    (case kGre => k_is)
    (case aL => k_is)
    (case lL => k_is)
    (case xL => k_is)
    (case kL => k_is)
    (case y_isinstance => k_is)
    (case y_int => k_is)
    (case y_bool => k_is)
    (case y_list => k_is)
    (case y_len => k_is)
    (case y_sum => k_is)
    (case y_sorted => k_is)
    (case y_range => k_is)
    (case y_enumerate => k_is)
    (case y_abs => k_is)
    (case y_max => k_is)
    (case y_min => k_is)
    (case y_repr => k_is)
    (case y_dict => k_is)
    (case zMost => k_is)
    (case zCom2 => k_is)
    (case zFact => k_is)
