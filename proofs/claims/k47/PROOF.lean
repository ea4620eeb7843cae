import PyProof.Rows.All
import Wide.All
import OpenK.AllK
import Wide.FinOn
import PySem.Challenge.RW_twopartings_k47_errors_of_leaving
import HandS.ForMost
import HandS.Wide
import HandS.WideBits
import PyProof.ReprRoads
import HandS.EndBits
import PyProof.ZipIter
import PyProof.CallType
import PyProof.Walk
import PyProof.WalkLemmas
import PyProof.RangeIter
import PyProof.RulesTry
import PyProof.TupleOfSeq
import KE.SortData
import KE.DataCmp
import HandS.DictComp
import HandS.Conv
import PyProof.ReprLen
import KE.KMinBuiltin
import KE.GoesEnumKw
import KE.KRevSl
import KE.KDictZip
import KE.GoesEnum
import HandS.ForExc
import HandS.HotCalls
import HandS.ExcIs
import HandS.RaiseMore
import HandS.WordsExc
import HandS.FStr
import HandS.IsInst
import HandS.Gcd
import HandS.List
set_option Elab.async false
set_option linter.all false
set_option maxRecDepth 100000
set_option maxHeartbeats 40000000
namespace RepA
open PySem PySem.Spec PyProof.Rows L2

/-! ### data without a dict -/
mutual
theorem dp_nodict {K : PySem.W.Frag} {H : Hp} : ∀ (d : PyData) (v : V), Dp K H v d → d.hasDict = false
  | .none, _, _ => by simp only [PyData.hasDict]
  | .bool _, _, _ => by simp only [PyData.hasDict]
  | .int _, _, _ => by simp only [PyData.hasDict]
  | .str _, _, _ => by simp only [PyData.hasDict]
  | .list ds, _, h => by
    cases h with
    | lst hs ha =>
      simp only [PyData.hasDict]
      exact dpAll_nodict ds _ ha
  | .tuple ds, _, h => by
    cases h with
    | tup hs ha =>
      simp only [PyData.hasDict]
      exact dpAll_nodict ds _ ha
  | .dict _, _, h => by cases h
theorem dpAll_nodict {K : PySem.W.Frag} {H : Hp} : ∀ (ds : List PyData) (vs : List V), DpAll K H vs ds → PyData.hasDictAll ds = false
  | [], _, _ => by simp only [PyData.hasDictAll]
  | d :: ds, _, h => by
    cases h with
    | cons h1 h2 => simp only [PyData.hasDictAll, dp_nodict d _ h1, dpAll_nodict ds _ h2, Bool.or_self]
end

/-! ### an item: data, or an empty dict -/
def Dd (K : PySem.W.Frag) (H : Hp) (v : V) (d : PyData) : Prop := Dp K H v d ∨ ∃ a, v = .ref a ∧ H a = some (.dK []) ∧ d = .dict []
inductive DdAll (K : PySem.W.Frag) (H : Hp) : List V → List PyData → Prop
  | nil : DdAll K H [] []
  | cons {v : V} {vs : List V} {d : PyData} {ds : List PyData} : Dd K H v d → DdAll K H vs ds → DdAll K H (v :: vs) (d :: ds)
theorem DdAll.of_dp {K : PySem.W.Frag} {H : Hp} : ∀ {vs : List V} {ds : List PyData}, DpAll K H vs ds → DdAll K H vs ds
  | _, _, .nil => .nil
  | _, _, .cons h r => .cons (.inl h) (.of_dp r)

section
variable {X : Cx} {pins : List (Addr × Obj)} {σ : L2.St} {H : Hp} {s : Shared}
theorem dd_reads (I : Inv X pins σ H s) {v : V} {u : Value} {d : PyData} (h : Dd X.K H v d) (r : RelV v u) : ∃ as, Reads s.heap u d as ∧ (d.hasDict = true → sysModules ∉ as) := by
  rcases h with h | ⟨a, rfl, ha, rfl⟩
  · obtain ⟨as, q⟩ := Dp.reads I d v u h r
    exact ⟨as, q, fun e => by rw [dp_nodict d v h] at e; cases e⟩
  · obtain rfl : u = Value.ref a := r
    obtain ⟨_, hn, vs, rel, dd⟩ := dk_of I.hok ha
    obtain ⟨o, es, ep, e1, e2, e3, e4⟩ := dd
    cases rel
    have hes : es.toList = [] := by
      have q := e4.2.1
      generalize es.toList = l at q
      cases q
      rfl
    refine ⟨[a], ?_, fun _ hm => ?_⟩
    · refine Reads.dict (as := []) (bs := []) e1 e2.1 e3 ?_ ?_
      · rw [hes]
        exact ReadsAll.nil
      · rw [hes]
        exact ReadsAll.nil
    · rcases List.mem_cons.mp hm with q | q
      · rw [q] at hn
        rw [beq_self_eq_true] at hn
        cases hn
      · cases q

/-- all items, each by itself -/
theorem dd_all (I : Inv X pins σ H s) : ∀ {vs : List V} {ds : List PyData} {us : List Value}, DdAll X.K H vs ds → Vals vs us → PyData.showableAll ds = true → (∀ t ∈ PyData.shownAll ds, t.length ≤ sizeLine) →
    (∃ as, ReadsAll s.heap us ds as) ∧ ∃ bs, ReadAtMost s.heap (PyData.depthAll ds) bs ∧ ReprAllK X.prog X.w bs s.heap (PyData.depthAll ds) us (PyData.shownAll ds)
  | _, _, _, .nil, .nil, _, _ => ⟨⟨_, .nil⟩, [], (fun _ h => nomatch h), by simp only [PyData.shownAll]; exact .nil⟩
  | _, _, _, .cons (d := d) (ds := ds) h hr, .cons r rr, hs, hz => by
    obtain ⟨s1, s2⟩ : d.showable = true ∧ PyData.showableAll ds = true := by simpa [PyData.showableAll] using hs
    obtain ⟨a1, q1, n1⟩ := dd_reads I h r
    obtain ⟨b1, m1, k1⟩ := ReprK.of_reads (prog := X.prog) (w := X.w) q1 s1 n1 (hz _ (by simp only [PyData.shownAll]; exact List.mem_cons_self ..))
    obtain ⟨⟨a2, q2⟩, b2, m2, k2⟩ := dd_all I hr rr s2 fun t ht => hz t (by simp only [PyData.shownAll]; exact List.mem_cons_of_mem _ ht)
    have l1 : d.depth ≤ PyData.depthAll (d :: ds) := by simp only [PyData.depthAll]; omega
    have l2 : PyData.depthAll ds ≤ PyData.depthAll (d :: ds) := by simp only [PyData.depthAll]; omega
    refine ⟨⟨_, .cons q1 q2⟩, b1 ++ b2, fun b hb => ?_, ?_⟩
    · rcases List.mem_append.mp hb with hb | hb
      · obtain ⟨d', as', r', z⟩ := m1 b hb
        exact ⟨d', as', r', Nat.le_trans z l1⟩
      · obtain ⟨d', as', r', z⟩ := m2 b hb
        exact ⟨d', as', r', Nat.le_trans z l2⟩
    · simp only [PyData.shownAll]
      exact .cons ((k1.more fun b hb => List.mem_append.mpr (.inl hb)).level_le l1) (k2.more_le (fun b hb => List.mem_append.mpr (.inr hb)) l2)

/-- repr of a list of data and empty dicts, where no guard stands -/
theorem call_reprL (hg : X.A.guards = some []) (hu : X.A.units + 64 < cLine) : CallR X (.builtin "repr") (fun xs H Q => ∃ a ys ds, xs = [V.ref a] ∧ SqL X.K H a ys ∧ DdAll X.K H ys ds ∧ PyData.showableAll ds = true ∧ PyData.depthAll ds ≤ 40 ∧
    (listText (PyData.shownAll ds)).length ≤ sizeLine ∧ Q (.str (PyData.list ds).shown) H) := by
  intro pins s σ H xs us Q I r h
  obtain ⟨a, ys, ds, rfl, hs, hd, hw, hdp, hz, q⟩ := h
  obtain ⟨u, rfl, ru⟩ := vals1 r
  obtain rfl : u = Value.ref a := ru
  obtain ⟨its, rv, ⟨o, n, ho, hc, hne, hda⟩, hsz⟩ := I.list hs
  obtain ⟨⟨as, hR⟩, bs, hb, hk⟩ := dd_all I hd rv hw fun t ht => Nat.le_trans (listText_mem_le ht) hz
  have rd : Reads s.heap (.ref a) (.list ds) (a :: as) := .list ho hc hda hR
  have hna : a ∉ bs := not_mem_of_deeper rd (by simp only [PyData.depth]; omega) hb
  have fin : ∀ (t tk : Nat) (h' : Heap), (∀ b o, s.heap.get? b = some o → h'.get? b = some o) → EP X pins σ Q (.str (listText (PyData.shownAll ds)) t) { s with heap := h', toks := tk } := fun t tk h' k =>
    ⟨.str _, H, I.kept k, ⟨t, rfl⟩, by simpa only [PyData.shown] using q⟩
  refine call_repr_slot (by omega) ⟨o, ho, hc⟩ F.slot_list_repr.toG ?_
  obtain ⟨l⟩ : ∃ l, l = its := ⟨_, rfl⟩
  cases its with
  | nil =>
    cases hR
    exact call_list_repr_empty ⟨o, ho, hc⟩ ho hda ⟨_, _, rfl, by simpa only [PyData.shownAll, listText_nil] using fin s.toks (s.toks + 1) s.heap fun _ _ e => e⟩
  | cons x l =>
    refine call_list_reprK (h₀ := s.heap) ho hc hda hna (by simpa using hk.length_eq) (fun i y e => hk.item i y (by simpa using e)) hg (fun b _ => Clear.nil b) (by show X.A.units + 1 + (PyData.depthAll ds + 1) < cLine; omega) (fun _ _ e => e) (fun h' t tk k => ⟨_, _, rfl, fin t tk h' k⟩) hz
end
end RepA

namespace RepA
open PySem PySem.Spec PyProof.Rows L2

/-! ### the promise of a def that is called where no guard stands -/
structure FnG (Pg : Program) (wd : World) (Kf : PySem.W.Frag) (gl : Str → Option Value) (bs : Heap) (cx : CXT) (lv : Nat) (fa : Addr) (dat : FuncData) (names : List Str) (prom : Sp) : Prop where
  cnt : ∀ xs G Qv Ex, prom xs G Qv Ex → xs.length = names.length
  go : ∀ (Ar : Around) (fr : List Env) (sh : Shared) (G : Hp) (ar : Args) (us : List Value) (xs : List V) (Qv : VK) (Ex : XK), Room lv Ar → Ar.guards = some [] →
    Env0 Pg wd Kf gl bs Ar fr sh G → BindsTo sh dat ar (names.zip us) → Vals xs us → prom xs G Qv Ex →
    codeAny (model Pg wd) Ar (.call (.ref fa) ar) (CR cx fr Pg wd G sh Qv Ex) sh

theorem FnG.of {Pg : Program} {wd : World} {Kf : PySem.W.Frag} {gl : Str → Option Value} {bs : Heap} {cx : CXT} {lv : Nat} {fa : Addr} {dat : FuncData} {names : List Str} {prom : Sp}
    (f : FnOk Pg wd Kf gl bs cx lv fa dat names prom) : FnG Pg wd Kf gl bs cx lv fa dat names prom :=
  ⟨f.len, fun Ar fr sh G ar us xs Qv Ex r _ e b v p => f.run Ar fr sh G ar us xs Qv Ex r e b v p⟩

/-- a def of the text by its body, where no guard stands -/
theorem okG {Pg : Program} {wd : World} {Kf : PySem.W.Frag} {gl : Str → Option Value} {bs : Heap} {nm qn : Str} {st : Stmt} {fa : Addr} {dat : FuncData} {slots names : List Str} {lv : Nat} {prom : Sp}
    (F : Fun Kf nm qn st fa dat) (S : FnScope slots names (defScope st)) (cnt : ∀ xs G Qv Ex, prom xs G Qv Ex → xs.length = names.length)
    (body : ∀ (cd : Value) (Ar : Around) (fr : List Env) (sh : Shared) (G : Hp) (xs : List V) (Qv : VK) (Ex : XK), Room lv (Ar.deeper (envOfC qn (defScope st) sh.heap.objs.size fa cd)) → Ar.guards = some [] → prom xs G Qv Ex →
      ∃ t, PSs (cxOf CX0 Pg wd Kf gl bs slots qn (defScope st) fa cd Ar fr sh G Ex).nox (defBody st) t ∧ t { nx := fun _ G' => Qv .non G', rt := Qv } (start slots xs) G) :
    FnG Pg wd Kf gl bs CX0 (lv + 1) fa dat names prom := by
  obtain ⟨oc, od, kV, doc, pm, an, cd, ct, osl, rfl, look, code⟩ := F.ex
  refine ⟨cnt, fun Ar fr sh G ar us xs Qv Ex room noG env bind vals hp => ?_⟩
  have sz := cnt _ _ _ _ hp
  have inK : Kf.In sh.heap := env.mod.kin.keeps fun b o q => (env.bs b o q).1
  have noL : sh.heap.NoLimit := env.mod.nolimit.keeps fun b o q => (env.bs b o q).1
  have kinds : ∀ y ∈ names.zip us, (defScope st).names.lookup y.1 = some .local ∨ ((defScope st).names.lookup y.1 = some .cell ∧ ((cellsFrom (sh.heap.objs.size + 1) (defScope st).names []).lookup y.1).isSome = true) := by
    rintro ⟨n, v⟩ hy
    rcases S.par n (List.of_mem_zip hy).1 with z | z
    · exact .inl z
    · exact .inr ⟨z, PySem.W.cellsFrom_some _ _ _ (.inl z)⟩
  refine codeAny_call_function room.depth (inK _ _ look) rfl S.co S.gen rfl (PySem.W.codeRec_of inK code) (bind _ _ _ _ ?_)
  refine wpAny_newFunctionEnv_cells S.kind kinds fun en hen sh1 inC => ?_
  subst hen
  refine ⟨noL.keeps inC.toInCall.keep, codeAny_func ?_⟩
  obtain ⟨t, walk, read⟩ := body cd Ar fr sh G xs Qv Ex (room.deeper _) noG hp
  have I0 := inv_start (CX := CX0) (P := Pg) (w := wd) (K := Kf) (mg := gl) (base := bs) (E := Ex) S room.hd env sz vals inC
  refine wpAny_mono (walk.nox.run [] sh1 _ G _ I0 read) (fun fl sh2 out => ?_) fun _ _ x => x
  cases fl with
  | ret u =>
    obtain ⟨v, σ2, G2, J, rel, q⟩ := out
    exact ⟨v, G2, J.os, J.bare, J.base, J.hok, rel, q⟩
  | next =>
    obtain ⟨σ2, G2, J, q⟩ := out
    exact ⟨V.non, G2, J.os, J.bare, J.base, J.hok, (rfl : RelV V.non Value.none), q⟩
  | brk => exact out.elim fun _ z => z.elim fun _ z => z.2.elim
  | cont => exact out.elim fun _ z => z.elim fun _ z => z.2.elim

section
variable {X : Cx} {x : Str} {p pos : Pos} {e : Expr} {es : List Expr} {t : TA} {CX : CXT} {k : Nat} {f : Addr} {fd : FuncData} {ps : List Str} {sp : Sp} {ds : List Value} {dvs : List V} {E : XK}
/-- f(e, ..), f such a def -/
theorem pe_callG (F : FnG X.prog X.w X.K X.mg X.base CX k f fd ps sp) (room : Room k X.A) (noG : X.A.guards = some []) (hg : Gl X x) (hm : X.mg x = some (.ref f)) (kp : PySem.W.keepIn X.K (.ref f) = true) (bd : Binds X.K fd ps ds) (dv : Vals dvs ds) (ps' : Passes CX X E)
    (args : PA X (e :: es) t) (hdb : (x == ("__debug__" : Str)) = false := by decide) (h1 : starEach (e :: es) X.env = (false, eval e X.env) :: starEach es X.env := by rfl) (h2 : (backTo pos (starEach es X.env)).any (·.1) = false := by rfl) :
    PE X (.Call (.Name x p) (e :: es) [] pos) (tCall sp dvs E t) := by
  refine ⟨fun pins s σ H Q I rd => ?_⟩
  refine wpAny_Call_Name_kw (ld_glob I hg hm ?_ hdb)
  refine PySem.W.callWith_K (h₀ := X.base) I.ok.mod.kin kp (thn (args.run pos pins s σ H _ I rd) fun us s1 ⟨vs, H1, I1, rv, q⟩ => ⟨I1.kIn, ?_⟩) h1 h2
  have rv2 : Vals (vs ++ dvs) (us ++ ds) := rv.append dv
  have sz : (us ++ ds).length = ps.length := rv2.length.symm.trans (F.cnt _ _ _ _ q)
  refine wpAny_call (codeAny_mono (F.go X.A X.stack s1 H1 ⟨us, []⟩ _ _ Q E room noG I1.env0 (bd s1 us I1.kIn sz) rv2 q) fun r s2 out => ?_)
  match r, out with
  | .error er, out => exact ps' pins σ H1 s1 er s2 I1 out
  | .ok (.ret u), out => exact I1.after out
  | .ok .next, out => exact out.elim
  | .ok .brk, out => exact out.elim
  | .ok .cont, out => exact out.elim
end
end RepA

namespace RepA
open PySem PySem.Spec PyProof.Rows L2

/-- the law's call from the caller, over an abstract heap that holds at most the script -/
theorem from_caller {Pg : Program} {wd : World} {Kf : PySem.W.Frag} {gl mb : Str → Option Value} {cx : CXT} {lv : Nat} {fa a : Addr} {dat : FuncData} {x : Str} {prom : Sp} {sh : Shared} {ob : Obj} {n0 : Nat} {vals : Array Value}
    (inK : Kf.In sh.heap) (nG : sh.heap.Ns mainGlobals gl) (nB : sh.heap.Ns builtinsNs mb) (isB : ∀ y : Str, y ≠ "__name__" → mb y = bootBuiltins y) (noL : sh.heap.NoLimit) (noGen : sh.gens = #[]) (at_a : sh.heap.get? a = some ob) (list_a : ob.data = .seq vals n0)
    (room : Room lv callerA) (F : ∀ bs : Heap, Kf.In bs → bs.Ns mainGlobals gl → FnG Pg wd Kf gl bs cx lv fa dat [x] prom) (bd : ∀ (s : Shared) (u : Value), BindsTo s dat ⟨[u], []⟩ [(x, u)])
    (noX : ∀ G e s', cx [] G sh (fun _ _ _ => False) e s' → False) (G : Hp) (only : Only G) (keeps : HOk Pg wd G sh.heap) (justA : ∀ b, G b ≠ none → b = a) (notK : G a ≠ none → Kf.lookup a = none)
    (hp : prom [.ref a] G (fun v _ => v = .bl true) fun _ _ _ => False) :
    codeAny (model Pg wd) callerA (.call (.ref fa) ⟨[.ref a], []⟩) (fun r s' => r = .ok (.ret (.bool true)) ∧ OldK sh.heap s'.heap ∧ s'.os = sh.os ∧ AllBare s'.gens) sh := by
  have free : ∀ {b : Addr}, b ≠ a → G b = none := fun {b} ne => Classical.byContradiction fun z => ne (justA b z)
  have hides : ∀ {b : Addr} {o : Obj}, sh.heap.get? b = some o → G b = none → (hidT sh.heap G).get? b = some o := fun q z => hidT_get q z
  have ns : ∀ {b : Addr} {m : Str → Option Value}, sh.heap.Ns b m → (hidT sh.heap G).Ns b m := fun {b m} h => by
    obtain ⟨o, es, ep, q, dd, rest⟩ := h
    refine ⟨o, es, ep, hides q (free fun z => ?_), dd, rest⟩
    rw [z, at_a] at q
    cases q
    rw [list_a] at dd
    cases dd
  have inK' : Kf.In (hidT sh.heap G) := fun b o q => hides (inK b o q) (by
    rcases Option.eq_none_or_eq_some (G b) with z | ⟨u, z⟩
    · exact z
    · have ne : G b ≠ none := by rw [z]; exact fun c => nomatch c
      have ba := justA b ne
      rw [ba] at q ne
      rw [notK ne] at q
      cases q)
  have md : Mod Kf gl (hidT sh.heap G) := ⟨inK', ns nG, ⟨mb, ns nB, isB⟩, let ⟨mc, z1, z2⟩ := noL; ⟨mc, ns z1, z2⟩⟩
  have env : Env0 Pg wd Kf gl (hidT sh.heap G) callerA [] sh G := ⟨rfl, md, fun _ _ q => of_hidT q, Nat.le_of_eq (hidT_size _ _), trivial, (fun b hb => nomatch hb), keeps, .of_eq noGen⟩
  refine codeAny_mono ((F _ inK' (ns nG)).go callerA [] sh G ⟨[.ref a], []⟩ [.ref a] [.ref a] _ _ room rfl env (bd sh (.ref a)) (.cons rfl .nil) hp) fun r s' out => ?_
  match r, out with
  | .error er, out => exact (noX G er s' out).elim
  | .ok .next, out => exact out.elim
  | .ok .brk, out => exact out.elim
  | .ok .cont, out => exact out.elim
  | .ok (.ret u), out =>
    obtain ⟨v, G', hos, hbare, un, keeps', rel, ev⟩ := out
    have ev' : v = .bl true := ev
    subst ev'
    obtain rfl : u = Value.bool true := rel
    refine ⟨rfl, OldK.of_keep fun b o q => ?_, hos, hbare⟩
    rcases only b with z | ⟨o2, ys, z⟩
    · exact un.keep b o q z (fun c => nomatch c) (fun c => nomatch c)
    · obtain ⟨w1, _⟩ := keeps b _ z
      obtain ⟨w2, _⟩ := keeps' b _ (un.frzs b o2 _ z)
      rw [q] at w1
      cases w1
      exact w2

theorem law_callG {Pg : Program} {wd : World} {Kf : PySem.W.Frag} {gl mb : Str → Option Value} {cx : CXT} {lv : Nat} {fa a : Addr} {dat : FuncData} {x : Str} {prom : Sp} {sh : Shared} {vals : List Value} {ns : List Int}
    (inK : Kf.In sh.heap) (nG : sh.heap.Ns mainGlobals gl) (nB : sh.heap.Ns builtinsNs mb) (isB : ∀ y : Str, y ≠ "__name__" → mb y = bootBuiltins y) (noL : sh.heap.NoLimit) (noGen : sh.gens = #[])
    (at_a : sh.heap.get? a = some { cls := .type "list", data := .seq vals.toArray }) (inz : IntsAre vals ns) (short : ns.length ≤ sizeLine) (room : Room lv callerA)
    (F : ∀ bs : Heap, Kf.In bs → bs.Ns mainGlobals gl → FnG Pg wd Kf gl bs cx lv fa dat [x] prom) (bd : ∀ (s : Shared) (u : Value), BindsTo s dat ⟨[u], []⟩ [(x, u)])
    (hp : ∀ G : Hp, Only G → SqL Kf G a (ns.map V.int) → prom [.ref a] G (fun v _ => v = .bl true) fun _ _ _ => False) (noX : ∀ G e s', cx [] G sh (fun _ _ _ => False) e s' → False) :
    codeAny (model Pg wd) callerA (.call (.ref fa) ⟨[.ref a], []⟩) (fun r s' => r = .ok (.ret (.bool true)) ∧ OldK sh.heap s'.heap ∧ s'.os = sh.os ∧ AllBare s'.gens) sh := by
  have rv := vals_ints inz
  rcases Option.eq_none_or_eq_some (Kf.lookup a) with nk | ⟨o, isK⟩
  · let G : Hp := fun b => if b = a then some (.frz { cls := .type "list", data := .seq vals.toArray } (.lst (ns.map V.int))) else none
    have ga : G a = some (.frz { cls := .type "list", data := .seq vals.toArray } (.lst (ns.map V.int))) := if_pos rfl
    have gb : ∀ {b : Addr}, b ≠ a → G b = none := fun ne => if_neg ne
    have justA : ∀ b, G b ≠ none → b = a := fun b z => Classical.byContradiction fun ne => z (gb ne)
    have only : Only G := fun b => by
      by_cases ne : b = a
      · subst ne
        exact .inr ⟨_, _, ga⟩
      · exact .inl (gb ne)
    refine from_caller inK nG nB isB noL noGen at_a rfl room F bd noX G only (fun b u z => ?_) justA (fun _ => nk) (hp G only (.inl (.inr ⟨_, ga⟩)))
    have ba := justA b (by rw [z]; exact fun c => nomatch c)
    subst ba
    rw [ga] at z
    cases z
    exact ⟨at_a, by rw [List.length_map]; exact short, vals, _, rv, at_a⟩
  · have e := inK a o isK
    rw [at_a] at e
    cases e
    exact from_caller inK nG nB isB noL noGen at_a rfl room F bd noX (fun _ => none) (fun _ => .inl rfl) (fun b u z => nomatch z) (fun b z => absurd rfl z) (fun z => absurd rfl z)
      (hp _ (fun _ => .inl rfl) (.inr ⟨_, vals.toArray, _, isK, rfl, rfl, rfl, by rw [List.size_toArray, inz.length]; exact short, by simpa using rv⟩))

/-- the end of a law row, for a law that asks where no guard stands; the script's bits told -/
theorem walk_ofG {l : PySem.W.OpenLaw} {n lv : Nat} {q : Program} {loose : List Str} {XP : (Str → Option Value) → Heap → Prop} {YP : World → Heap → Prop} {d : DefRec} {K : Params → PySem.W.Frag} {cx : World → CXT} {prom : World → Sp} {x : Str}
    (most : l.most = some n) (short : n ≤ sizeLine) (noD : d.params.defaults = []) (room : Room lv callerA) (hY : ∀ (w : World) (h : Heap), YP w h → (K w.params).In h)
    (F : ∀ (w : World) (gl : Str → Option Value) (fa : Addr) (h : Heap), (K w.params).In h → h.Ns mainGlobals gl → gl d.name = some (.ref fa) →
      ∃ dat : FuncData, (∀ (s : Shared) (u : Value), BindsTo s dat ⟨[u], []⟩ [(x, u)]) ∧ ∀ bs : Heap, (K w.params).In bs → bs.Ns mainGlobals gl → FnG l.prog w (K w.params) gl bs (cx w) lv fa dat [x] (prom w))
    (hp : ∀ (w : World) (G : Hp) (a : Addr) (ns : List Int), ns.length ≤ n → (∀ z ∈ ns, Builtin.Int.intBits z ≤ 1048576) → Only G → SqL (K w.params) G a (ns.map V.int) → prom w [.ref a] G (fun v _ => v = .bl true) fun _ _ _ => False)
    (noX : ∀ (w : World) (G : Hp) (s : Shared) (e : Value) (s' : Shared), cx w [] G s (fun _ _ _ => False) e s' → False) :
    PySem.W.WalkO q loose XP YP l.row.toRowW d [] (fun f vs => PySem.call f vs) := by
  refine Att.attach_callB most noD fun w _ sh gl mb fa _ _ _ _ a vals ns gr y _ _ _ named at_a inz few bits noGen => ?_
  obtain ⟨dat, bd, FG⟩ := F w gl fa _ (hY w _ y) gr.T.g named
  exact law_callG (hY w _ y) gr.T.g gr.T.b gr.T.builtins gr.T.nolimit noGen at_a inz (Nat.le_trans few short) room FG bd (fun G o s => hp w G a ns few bits o s) fun G e s' => noX w G sh e s'
end RepA

/-! itertools.combinations(list, 2), made and drawn. -/
namespace Comb
open PySem PySem.Spec
open Sem (wp)
abbrev cName : String := "itertools.combinations"
theorem cMro : mroOf (.type "itertools.combinations") = pure [.type "itertools.combinations", .type "object"] := by rw [mroOf_type]; kernel_rfl
theorem cNew : typeLookup (.type "itertools.combinations") "__new__" = pure (some (.builtin "itertools.combinations.__new__")) := by rw [typeLookup_type, builtinLookup_eq_fast]; kernel_rfl
theorem cInit : Slot "itertools.combinations" "__init__" "object.__init__" :=
  .of (owner := "object") (n := "__init__") (by rw [typeLookup_type, builtinLookup_eq_fast]; kernel_rfl) (by decide +kernel) (by decide +kernel) (by decide +kernel) (by first | exact .inl (by decide +kernel) | exact .inr (by decide +kernel)) (by rw [isSubtype_type]; kernel_rfl)
theorem cSub : isSubtype (.type "itertools.combinations") (.type "itertools.combinations") = pure true := by rw [isSubtype_type]; kernel_rfl
theorem cCalled : TypeCalled "itertools.combinations" "itertools.combinations.__new__" "object.__init__" :=
  ⟨by decide +kernel, by decide +kernel, ⟨_, _, cMro⟩, madeBy_type cMro cNew (by decide +kernel), by decide +kernel, cSub, cInit⟩
theorem cType2 (a b : Value) : checkTypeCall "itertools.combinations" ⟨[a, b], []⟩ = pure () := by kernel_rfl
theorem cNew2 (a b : Value) : checkBuiltinCall "itertools.combinations.__new__" ⟨[.type "itertools.combinations", a, b], []⟩ = pure () := by kernel_rfl
theorem cEntryNew : entryFor table "itertools.combinations.__new__" = some Builtin.«itertools.combinations.__new__» := entryFor_of_tree (by kernel_rfl)
theorem cEntryNext : entryFor table "itertools.combinations.__next__" = some Builtin.«itertools.combinations.__next__» := entryFor_of_tree (by kernel_rfl)
theorem cEntryIter : entryFor table "itertools.combinations.__iter__" = some Builtin.«dict_keyiterator.__iter__» :=
  entryFor_alias (id' := "dict_keyiterator.__iter__") (by kernel_rfl) (by first | rfl | decide +kernel | (unfold String.splitOn; simp +decide [String.splitOnAux])) (by decide +kernel) (by kernel_rfl)
theorem cIter : Slot "itertools.combinations" "__iter__" "itertools.combinations.__iter__" :=
  .of (owner := "itertools.combinations") (n := "__iter__") (by rw [typeLookup_type, builtinLookup_eq_fast]; kernel_rfl) (by decide +kernel) (by decide +kernel) (by decide +kernel) (by first | exact .inl (by decide +kernel) | exact .inr (by decide +kernel)) cSub
theorem cNext : Slot "itertools.combinations" "__next__" "itertools.combinations.__next__" :=
  .of (owner := "itertools.combinations") (n := "__next__") (by rw [typeLookup_type, builtinLookup_eq_fast]; kernel_rfl) (by decide +kernel) (by decide +kernel) (by decide +kernel) (by first | exact .inl (by decide +kernel) | exact .inr (by decide +kernel)) cSub
theorem cOwner : Manifest.owners.lookup (String.ofList "snoitanibmoc.slootreti".toList.reverse) = some Manifest.sig_itertools_combinations := by kernel_rfl
theorem cArgsIter (a : Value) : argsOk "itertools.combinations.__iter__" ⟨[a], []⟩ := by
  unfold argsOk
  rw [signature?_of (id := "itertools.combinations.__iter__") (n := ['_', '_', 'r', 'e', 't', 'i', '_', '_']) (o := "snoitanibmoc.slootreti".toList) (by kernel_rfl) cOwner]
  kernel_rfl
theorem cArgsNext (a : Value) : argsOk "itertools.combinations.__next__" ⟨[a], []⟩ := by
  unfold argsOk
  rw [signature?_of (id := "itertools.combinations.__next__") (n := ['_', '_', 't', 'x', 'e', 'n', '_', '_']) (o := "snoitanibmoc.slootreti".toList) (by kernel_rfl) cOwner]
  kernel_rfl
theorem cNoDict : typeHasDict (.type "itertools.combinations") = false := by decide +kernel

/-- such an object: its pool, its state, what it handed out last, its places -/
def recC (pool : Addr) (st : Int) (last : Value) (i j : Int) : Obj := { cls := .type "itertools.combinations", dict := none, data := .fields #[.ref pool, rawInt st, last, rawInt i, rawInt j], slots := #[] }
abbrev IsC (h : Heap) (it pool : Addr) (st : Int) (last : Value) (i j : Int) : Prop := h.get? it = some (recC pool st last i j)
def tupO (xs : Array Value) : Obj := { cls := .type "tuple", data := .seq xs }

end Comb

namespace Comb
open PySem PySem.Spec
open Sem (wp)
theorem joinName : "itertools." ++ "combinations" = "itertools.combinations" := by decide
theorem new_meets (l : Addr) (o : Obj) (items : Array Value) (n : Nat) (t : Tok) (hc : o.cls = .type "list") (hd : o.data = .seq items n) (hsz : items.size ≤ sizeLine) :
    Meets (Builtin.«itertools.combinations.__new__» ⟨[.type "itertools.combinations", .ref l, .int 2 t], []⟩)
      (fun _ R s => s.heap.get? l = some o ∧ ∀ h' : Heap, (∀ b u, s.heap.get? b = some u → h'.get? b = some u) → R (.ok (.ret (.ref (h'.objs.size + 1)))) { s with heap := (h'.push (tupO items)).push (recC h'.objs.size (if 2 > items.size then 2 else 0) .none 0 1) }) :=
  .of_wp fun prog w A R s h => by
    obtain ⟨hp, g, dd, tk, os⟩ := s
    obtain ⟨at_l, h⟩ := h
    have hsub := cSub
    have hdic := cNoDict
    have hT : Shared.TypeIs ⟨hp, g, dd, tk, os⟩ (.ref l) "list" := ⟨o, at_l, hc⟩
    unfold Builtin.«itertools.combinations.__new__»
    repeat (first
      | (with_reducible refine wpAny_collect_seq (hsz := hsz) l (.inl rfl) at_l hc hd fun h' keep => ?_)
      | wp_step
      | (rw [joinName]))
    refine ⟨_, rfl, ?_⟩
    have e1 : items.toList.toArray = items := by simp
    have e2 : (h'.push (tupO items)).objs.size = h'.objs.size + 1 := Heap.size_push ..
    have e3 : items.toList.length = items.size := by simp
    rw [e1, e3]
    have q := h h' keep
    rw [← e2] at q
    exact q

end Comb

namespace Comb
open PySem PySem.Spec
open Sem (wp)
section
variable {prog : Program} {w : World} {A : Around} {E : Value → Shared → Prop} {s : Shared}
/-- combinations(l, 2): the heap grows by what is kept, then by the pool and the record -/
theorem call_comb {l : Addr} {o : Obj} {items : Array Value} {n : Nat} {t : Tok} {Q : Value → Shared → Prop} (at_l : s.heap.get? l = some o) (hc : o.cls = .type "list") (hd : o.data = .seq items n) (hsz : items.size ≤ sizeLine)
    (h : ∀ h1 : Heap, (∀ b u, s.heap.get? b = some u → h1.get? b = some u) → Q (.ref (h1.objs.size + 1)) { s with heap := (h1.push (tupO items)).push (recC h1.objs.size (if 2 > items.size then 2 else 0) .none 0 1) }) :
    wpAny (model prog w) A (call (.type "itertools.combinations") [.ref l, .int 2 t]) Q E s := by
  refine callType_new cCalled (by decide +kernel) (cType2 _ _) (cNew2 _ _) (fun obj => F.args_object_init_3 obj _ _) cEntryNew (new_meets l o items n t hc hd hsz) ?_
  refine ⟨at_l, fun h1 keep => ⟨⟨recC h1.objs.size (if 2 > items.size then 2 else 0) .none 0 1, ?_, rfl⟩, h h1 keep⟩⟩
  have sz : (h1.push (tupO items)).objs.size = h1.objs.size + 1 := Heap.size_push ..
  show Heap.get? _ (h1.objs.size + 1) = some (recC h1.objs.size (if 2 > items.size then 2 else 0) .none 0 1)
  rw [← sz]
  exact Heap.get?_push_size _ rfl
theorem iter_comb {it pool : Addr} {st i j : Int} {last : Value} {Q : Value → Shared → Prop} (hit : IsC s.heap it pool st last i j) (h : Q (.ref it) s) : wpAny (model prog w) A (pyIter (.ref it)) Q E s := by
  have hT : s.TypeIs (.ref it) "itertools.combinations" := ⟨_, hit, rfl⟩
  refine wpAny_pyIter_slot hT cIter (wpAny_call_entry cIter hT cEntryIter ?_ (cArgsIter _))
  show wpAny _ _ (ret (.ref it)) _ _ s
  exact wpAny_pure ⟨_, rfl, "itertools.combinations", _, hT, cNext.lookup, h⟩

theorem apart {h : Heap} {it pool : Addr} {st i j : Int} {last : Value} {items : Array Value} (hit : IsC h it pool st last i j) (hp : h.get? pool = some (tupO items)) : it ≠ pool := fun e => by
  rw [e] at hit
  have z : Value.type "tuple" = Value.type "itertools.combinations" := congrArg Obj.cls (Option.some.inj (hp.symm.trans hit))
  exact absurd (Value.type.inj z) (by decide)
/-- what is handed out is laid, then held by the record -/
theorem handed {h U : Heap} {it pool : Addr} {last : Value} {i j : Int} {xs : Array Value} (hU : IsC U it pool 1 last i j) (keep : ∀ b, b ≠ it → U.get? b = h.get? b) (sz : U.objs.size = h.objs.size) :
    (∀ b, b ≠ it → ∀ u, h.get? b = some u → ((U.push (tupO xs)).update it (Obj.mapFields fun x => x.setIfInBounds 2 (.ref U.objs.size))).get? b = some u) ∧
    ((U.push (tupO xs)).update it (Obj.mapFields fun x => x.setIfInBounds 2 (.ref U.objs.size))).get? h.objs.size = some (tupO xs) ∧
    IsC ((U.push (tupO xs)).update it (Obj.mapFields fun x => x.setIfInBounds 2 (.ref U.objs.size))) it pool 1 (.ref h.objs.size) i j := by
  have lt : it < U.objs.size := Heap.lt_size hU
  refine ⟨fun b ne u q => ?_, ?_, ?_⟩
  · exact (Heap.get?_update_other _ _ ne.symm).trans (Heap.get?_push_of_some _ ((keep b ne).trans q))
  · rw [← sz]
    exact (Heap.get?_update_other _ _ (Nat.ne_of_lt lt)).trans (Heap.get?_push_size _ rfl)
  · rw [← sz]
    exact Heap.get?_update_self _ (Heap.get?_push_of_some _ hU) rfl
theorem next_first {it pool : Addr} {last : Value} {items : Array Value} {n : Nat} {Q : Option Value → Shared → Prop} (hit : IsC s.heap it pool 0 last 0 1) (hp : s.heap.get? pool = some (tupO items)) (h2 : 2 ≤ items.size)
    (hQ : ∀ h', (∀ b, b ≠ it → ∀ u, s.heap.get? b = some u → h'.get? b = some u) → h'.get? s.heap.objs.size = some (tupO #[items.getD 0 .none, items.getD 1 .none]) → IsC h' it pool 1 (.ref s.heap.objs.size) 0 1 → Q (some (.ref s.heap.objs.size)) { s with heap := h' }) :
    wpAny (model prog w) A (pyNext (.ref it)) Q E s := by
  have hT : s.TypeIs (.ref it) "itertools.combinations" := ⟨_, hit, rfl⟩
  unfold pyNext
  refine wpAny_bind (wpAny_attempt (wpAny_callSpecial?_slot (name := Str.ofString "__next__") hT cNext (wpAny_call_entry cNext hT cEntryNext ?_ (cArgsNext _))))
  unfold Builtin.«itertools.combinations.__next__»
  have nip := apart hit hp
  have hp1 : (s.heap.update it (Obj.mapFields fun x => x.setIfInBounds 1 (rawInt 1))).get? pool = some (tupO items) := (Heap.get?_update_other _ _ nip).trans hp
  have hit1 : IsC (s.heap.update it (Obj.mapFields fun x => x.setIfInBounds 1 (rawInt 1))) it pool 1 last 0 1 := Heap.get?_update_self _ hit rfl
  repeat wp_step
  obtain ⟨q1, q2, q3⟩ := handed (xs := #[items.getD 0 .none, items.getD 1 .none]) hit1 (h := s.heap) (fun b ne => Heap.get?_update_other _ _ ne.symm) (Heap.size_update ..)
  refine ⟨_, rfl, wpAny_pure ?_⟩
  have z := hQ _ q1 q2 q3
  rw [show (s.heap.update it (Obj.mapFields fun x => x.setIfInBounds 1 (rawInt 1))).objs.size = s.heap.objs.size from Heap.size_update ..] at z ⊢
  exact z
end
end Comb

namespace Comb
open PySem PySem.Spec
open Sem (wp)
section
variable {prog : Program} {w : World} {A : Around} {E : Value → Shared → Prop} {s : Shared}
theorem next_more {it pool : Addr} {last : Value} {items : Array Value} {i j i' j' : Nat} {Q : Option Value → Shared → Prop} (hit : IsC s.heap it pool 1 last i j) (hp : s.heap.get? pool = some (tupO items))
    (hn : (match (List.range 2).reverse.find? fun k => [i, j].getD k 0 != k + items.size - 2 with | none => none | some k => some ([i, j].take k ++ (List.range (2 - k)).map ([i, j].getD k 0 + 1 + ·))) = some [i', j'])
    (hQ : ∀ h', (∀ b, b ≠ it → ∀ u, s.heap.get? b = some u → h'.get? b = some u) → h'.get? s.heap.objs.size = some (tupO #[items.getD i' .none, items.getD j' .none]) → IsC h' it pool 1 (.ref s.heap.objs.size) i' j' → Q (some (.ref s.heap.objs.size)) { s with heap := h' }) :
    wpAny (model prog w) A (pyNext (.ref it)) Q E s := by
  have hT : s.TypeIs (.ref it) "itertools.combinations" := ⟨_, hit, rfl⟩
  unfold pyNext
  refine wpAny_bind (wpAny_attempt (wpAny_callSpecial?_slot (name := Str.ofString "__next__") hT cNext (wpAny_call_entry cNext hT cEntryNext ?_ (cArgsNext _))))
  unfold Builtin.«itertools.combinations.__next__»
  repeat wp_step
  split
  · rename_i next hnx
    obtain rfl : next = [i', j'] := Option.some.inj (hnx.symm.trans hn)
    have nip := apart hit hp
    have hp1 : (s.heap.update it (Obj.mapFields fun x => x.extract 0 3 ++ (List.map (fun (n : Nat) => rawInt n) [i', j']).toArray)).get? pool = some (tupO items) := (Heap.get?_update_other _ _ nip).trans hp
    have hit1 : IsC (s.heap.update it (Obj.mapFields fun x => x.extract 0 3 ++ (List.map (fun (n : Nat) => rawInt n) [i', j']).toArray)) it pool 1 last i' j' := Heap.get?_update_self _ hit rfl
    repeat wp_step
    obtain ⟨q1, q2, q3⟩ := handed (xs := #[items.getD i' .none, items.getD j' .none]) hit1 (h := s.heap) (fun b ne => Heap.get?_update_other _ _ ne.symm) (Heap.size_update ..)
    refine ⟨_, rfl, wpAny_pure ?_⟩
    have z := hQ _ q1 q2 q3
    rw [show (s.heap.update it (Obj.mapFields fun x => x.extract 0 3 ++ (List.map (fun (n : Nat) => rawInt n) [i', j']).toArray)).objs.size = s.heap.objs.size from Heap.size_update ..] at z ⊢
    exact z
  · rename_i hnx
    cases hnx.symm.trans hn
theorem next_end {it pool : Addr} {last : Value} {items : Array Value} {i j : Nat} {Q : Option Value → Shared → Prop} (hh : A.handled = none) (hit : IsC s.heap it pool 1 last i j) (hp : s.heap.get? pool = some (tupO items))
    (hn : (match (List.range 2).reverse.find? fun k => [i, j].getD k 0 != k + items.size - 2 with | none => none | some k => some ([i, j].take k ++ (List.range (2 - k)).map ([i, j].getD k 0 + 1 + ·))) = none)
    (hQ : ∀ h', Heap.ExtBut it s.heap h' → Q none { s with heap := h' }) : wpAny (model prog w) A (pyNext (.ref it)) Q E s := by
  have hT : s.TypeIs (.ref it) "itertools.combinations" := ⟨_, hit, rfl⟩
  unfold pyNext
  refine wpAny_bind (wpAny_attempt (wpAny_callSpecial?_slot (name := Str.ofString "__next__") hT cNext (wpAny_call_entry cNext hT cEntryNext ?_ (cArgsNext _))))
  unfold Builtin.«itertools.combinations.__next__»
  repeat wp_step
  split
  · rename_i next hnx
    cases hn.symm.trans hnx
  · repeat wp_step
    simp only [raiseNew]; refine wpAny_bind (wpAny_handled ?_); rw [show A.in1.handled = none from hh]
    refine wpAny_bind (wpAny_pure (wpAny_throw ?_)); refine wpAny_bind (wpAny_isInstance (T := "StopIteration") (b := true) ⟨_, Heap.get?_push_size _ rfl, rfl⟩ isSubtype_stop ?_)
    exact wpAny_pure (hQ _ (fun b u ne q => Heap.get?_push_of_some _ (Heap.get?_push_of_some _ ((Heap.get?_update_other _ _ (Ne.symm ne)).trans q))))
theorem next_none {it pool : Addr} {last : Value} {items : Array Value} {i j : Nat} {Q : Option Value → Shared → Prop} (hh : A.handled = none) (hit : IsC s.heap it pool 2 last i j) (hp : s.heap.get? pool = some (tupO items))
    (hQ : ∀ h', Heap.ExtBut it s.heap h' → Q none { s with heap := h' }) : wpAny (model prog w) A (pyNext (.ref it)) Q E s := by
  have hT : s.TypeIs (.ref it) "itertools.combinations" := ⟨_, hit, rfl⟩
  unfold pyNext
  refine wpAny_bind (wpAny_attempt (wpAny_callSpecial?_slot (name := Str.ofString "__next__") hT cNext (wpAny_call_entry cNext hT cEntryNext ?_ (cArgsNext _))))
  unfold Builtin.«itertools.combinations.__next__»
  repeat wp_step
  simp only [raiseNew]; refine wpAny_bind (wpAny_handled ?_); rw [show A.in1.handled = none from hh]
  refine wpAny_bind (wpAny_pure (wpAny_throw ?_)); refine wpAny_bind (wpAny_isInstance (T := "StopIteration") (b := true) ⟨_, Heap.get?_push_size _ rfl, rfl⟩ isSubtype_stop ?_)
  exact wpAny_pure (hQ _ (((Heap.ExtBut.refl it s.heap).push _).push _))
end
end Comb

namespace Comb
open PySem PySem.Spec PyProof.Rows L2
/-! ### the pairs of places, in their sequence -/
def rows : Nat → Nat → List (Nat × Nat)
  | 0, _ => []
  | k + 1, i => (List.range (k + 1)).map (fun d => (i, i + 1 + d)) ++ rows k (i + 1)
def prs (n : Nat) : List (Nat × Nat) := rows (n - 1) 0
def nx (n i j : Nat) : Option (Nat × Nat) := if j + 1 < n then some (i, j + 1) else if i + 2 < n then some (i + 1, i + 2) else none
theorem rows_zero (k i : Nat) : (rows (k + 1) i)[0]? = some (i, i + 1) := by
  unfold rows
  rw [List.getElem?_append_left (by rw [List.length_map, List.length_range]; omega), List.getElem?_map, List.getElem?_range (Nat.succ_pos k)]
  rfl
theorem rows_step : ∀ (k i t a b : Nat), (rows k i)[t]? = some (a, b) → a < b ∧ b < i + 1 + k ∧ (rows k i)[t + 1]? = nx (i + 1 + k) a b
  | 0, _, _, _, _, h => by
    unfold rows at h
    rw [List.getElem?_nil] at h
    cases h
  | k + 1, i, t, a, b, h => by
    unfold rows at h ⊢
    have len : ((List.range (k + 1)).map (fun d => (i, i + 1 + d))).length = k + 1 := by rw [List.length_map, List.length_range]
    rcases Nat.lt_or_ge t (k + 1) with lt | ge
    · rw [List.getElem?_append_left (by omega), List.getElem?_map, List.getElem?_range lt] at h
      have h' : (i, i + 1 + t) = (a, b) := Option.some.inj h
      obtain ⟨rfl, rfl⟩ := Prod.mk.inj h'
      refine ⟨by omega, by omega, ?_⟩
      rcases Nat.lt_or_ge (t + 1) (k + 1) with l2 | g2
      · rw [List.getElem?_append_left (by omega), List.getElem?_map, List.getElem?_range l2]
        unfold nx
        rw [if_pos (by omega)]
        rfl
      · have et : t = k := by omega
        subst et
        rw [List.getElem?_append_right (by omega), len, Nat.sub_self]
        unfold nx
        rw [if_neg (by omega)]
        cases t with
        | zero =>
          rw [if_neg (by omega)]
          rfl
        | succ m =>
          rw [if_pos (by omega)]
          exact rows_zero m (i + 1)
    · rw [List.getElem?_append_right (by omega), len] at h
      obtain ⟨h1, h2, h3⟩ := rows_step k (i + 1) (t - (k + 1)) a b h
      refine ⟨h1, by omega, ?_⟩
      rw [List.getElem?_append_right (by omega), len, show t + 1 - (k + 1) = t - (k + 1) + 1 by omega, h3]
      congr 1
      omega
theorem prs_step {n t a b : Nat} (h : (prs n)[t]? = some (a, b)) : a < b ∧ b < n ∧ (prs n)[t + 1]? = nx n a b := by
  obtain ⟨h1, h2, h3⟩ := rows_step (n - 1) 0 t a b h
  have hn : 0 + 1 + (n - 1) = n := by omega
  rw [hn] at h2 h3
  exact ⟨h1, h2, h3⟩
theorem rows_mem : ∀ (k i a b : Nat), (a, b) ∈ rows k i ↔ i ≤ a ∧ a < b ∧ b < i + 1 + k
  | 0, i, a, b => by
    unfold rows
    constructor
    · intro h
      cases h
    · rintro ⟨h1, h2, h3⟩
      omega
  | k + 1, i, a, b => by
    unfold rows
    rw [List.mem_append, rows_mem k (i + 1) a b, List.mem_map]
    constructor
    · rintro (⟨d, hd, e⟩ | h)
      · have := List.mem_range.mp hd
        obtain ⟨rfl, rfl⟩ := Prod.mk.inj e
        omega
      · omega
    · rintro ⟨h1, h2, h3⟩
      rcases Nat.eq_or_lt_of_le h1 with e | l
      · exact .inl ⟨b - (i + 1), List.mem_range.mpr (by omega), by rw [← e]; congr 1; omega⟩
      · exact .inr ⟨l, h2, by omega⟩
theorem prs_mem {n a b : Nat} : (a, b) ∈ prs n ↔ a < b ∧ b < n := by
  unfold prs
  rw [rows_mem]
  omega
theorem rows_len : ∀ k i, (rows k i).length ≤ k * k
  | 0, i => Nat.zero_le _
  | k + 1, i => by
    unfold rows
    rw [List.length_append, List.length_map, List.length_range]
    have := rows_len k (i + 1)
    have e : (k + 1) * (k + 1) = k * k + k + (k + 1) := by rw [Nat.succ_mul, Nat.mul_succ]
    omega
theorem prs_none {n : Nat} (h : n < 2) : prs n = [] := by
  unfold prs
  rw [show n - 1 = 0 by omega]
  rfl
theorem prs_zero {n : Nat} (h : 2 ≤ n) : (prs n)[0]? = some (0, 1) := by
  unfold prs
  obtain ⟨m, rfl⟩ : ∃ m, n = m + 2 := ⟨n - 2, by omega⟩
  exact rows_zero m 0
/-- the model's own step is this one -/
theorem nx_some {n i j a b : Nat} (hi : i < j) (hj : j < n) (h : nx n i j = some (a, b)) :
    (match (List.range 2).reverse.find? fun k => [i, j].getD k 0 != k + n - 2 with | none => none | some k => some ([i, j].take k ++ (List.range (2 - k)).map ([i, j].getD k 0 + 1 + ·))) = some [a, b] := by
  have e : (List.range 2).reverse = [1, 0] := rfl
  rw [e]
  unfold nx at h
  by_cases h1 : j + 1 < n
  · rw [if_pos h1] at h
    cases h
    have z : ([i, j].getD 1 0 != 1 + n - 2) = true := by
      show (j != 1 + n - 2) = true
      rw [bne_iff_ne]
      omega
    rw [List.find?_cons_of_pos (p := fun k => [i, j].getD k 0 != k + n - 2) (a := 1) z]
    rfl
  · rw [if_neg h1] at h
    have z : ¬ ([i, j].getD 1 0 != 1 + n - 2) = true := by
      show ¬ (j != 1 + n - 2) = true
      rw [bne_iff_ne]
      omega
    by_cases h2 : i + 2 < n
    · rw [if_pos h2] at h
      cases h
      have z2 : ([i, j].getD 0 0 != 0 + n - 2) = true := by
        show (i != 0 + n - 2) = true
        rw [bne_iff_ne]
        omega
      rw [List.find?_cons_of_neg (p := fun k => [i, j].getD k 0 != k + n - 2) (a := 1) z, List.find?_cons_of_pos (p := fun k => [i, j].getD k 0 != k + n - 2) (a := 0) z2]
      rfl
    · rw [if_neg h2] at h
      cases h
theorem nx_none {n i j : Nat} (hi : i < j) (hj : j < n) (h : nx n i j = none) :
    (match (List.range 2).reverse.find? fun k => [i, j].getD k 0 != k + n - 2 with | none => none | some k => some ([i, j].take k ++ (List.range (2 - k)).map ([i, j].getD k 0 + 1 + ·))) = none := by
  have e : (List.range 2).reverse = [1, 0] := rfl
  rw [e]
  unfold nx at h
  by_cases h1 : j + 1 < n
  · rw [if_pos h1] at h
    cases h
  · rw [if_neg h1] at h
    by_cases h2 : i + 2 < n
    · rw [if_pos h2] at h
      cases h
    · have z : ¬ ([i, j].getD 1 0 != 1 + n - 2) = true := by
        show ¬ (j != 1 + n - 2) = true
        rw [bne_iff_ne]
        omega
      have z2 : ¬ ([i, j].getD 0 0 != 0 + n - 2) = true := by
        show ¬ (i != 0 + n - 2) = true
        rw [bne_iff_ne]
        omega
      rw [List.find?_cons_of_neg (p := fun k => [i, j].getD k 0 != k + n - 2) (a := 1) z, List.find?_cons_of_neg (p := fun k => [i, j].getD k 0 != k + n - 2) (a := 0) z2]
      rfl
end Comb

namespace Comb
open PySem PySem.Spec PyProof.Rows L2
/-- the pairs of these values, as new tuples -/
def Itcb (xs : List V) : It :=
  ⟨fun t _ => t < (prs xs.length).length,
    fun t H v H' => ∃ T i j x y, v = .ref T ∧ H T = none ∧ H' = upd H T (.tup [x, y]) ∧ (prs xs.length)[t]? = some (i, j) ∧ xs[i]? = some x ∧ xs[j]? = some y,
    fun t _ => (prs xs.length).length ≤ t⟩
def Stt (it pool : Addr) (items : Array Value) (t : Nat) (h : Heap) : Prop :=
  h.get? pool = some (tupO items) ∧ ((t = 0 ∧ IsC h it pool (if 2 > items.size then 2 else 0) .none 0 1) ∨ ∃ (u i j : Nat) (last : Value), t = u + 1 ∧ (prs items.size)[u]? = some (i, j) ∧ IsC h it pool 1 last i j)
theorem turn_comb {P : Program} {w : World} {K : PySem.W.Frag} {tg : Expr} {xs : List V} {its : List Value} (rv : Vals xs its) (it pool : Addr) (lt : pool < it) : Turn P w K tg (Itcb xs) [it, pool] it (Stt it pool its.toArray) where
  mem := by simp
  obj := fun t h st b hb => by
    obtain ⟨hp, st⟩ := st
    have e : b = it ∨ b = pool := by simpa using hb
    rcases e with e | e
    · rw [e]
      rcases st with ⟨_, c⟩ | ⟨_, _, _, _, _, _, c⟩ <;> exact ⟨_, c, fun v q => nomatch q⟩
    · rw [e]
      exact ⟨_, hp, fun v q => nomatch q⟩
  keep := fun t h h' st k => by
    obtain ⟨hp, st⟩ := st
    refine ⟨k pool (by simp) _ hp, ?_⟩
    rcases st with ⟨e, c⟩ | ⟨u, i, j, last, e, hu, c⟩
    · exact .inl ⟨e, k it (by simp) _ c⟩
    · exact .inr ⟨u, i, j, last, e, hu, k it (by simp) _ c⟩
  item := by
    intro X hP hw hK hc t pins s σ H E I hf st hg
    subst hP hw hK
    obtain ⟨hp, st⟩ := st
    have len := rv.length
    have sz : its.toArray.size = xs.length := by rw [List.size_toArray, len]
    -- what comes of the pair (i, j)
    have out : ∀ (i j : Nat) (h' : Heap), (prs xs.length)[t]? = some (i, j) → (∀ b, b ≠ it → ∀ u, s.heap.get? b = some u → h'.get? b = some u) → h'.get? s.heap.objs.size = some (tupO #[its.toArray.getD i .none, its.toArray.getD j .none]) →
        IsC h' it pool 1 (.ref s.heap.objs.size) i j → ∃ u, some (Value.ref s.heap.objs.size) = some u ∧
        wpAny (model X.prog X.w) X.A (letOwnedTupleGo tg (.ref it) u) (fun _ s2 => ∃ x H', Inv X pins σ H' s2 ∧ RelV x u ∧ (Itcb xs).yld t H x H' ∧ Stt it pool its.toArray (t + 1) s2.heap ∧ ∀ b ∈ [it, pool], H' b = none) E { s with heap := h' } := by
      intro i j h' ht keep new rec
      obtain ⟨l1, l2, _⟩ := prs_step ht
      have hx : xs[i]? = some xs[i] := List.getElem?_eq_getElem (by omega)
      have hy : xs[j]? = some xs[j] := List.getElem?_eq_getElem (by omega)
      obtain ⟨u1, hu1, r1⟩ := rv.get hx
      obtain ⟨u2, hu2, r2⟩ := rv.get hy
      have g1 : its.toArray.getD i .none = u1 := by
        rw [Array.getD_eq_getD_getElem?, List.getElem?_toArray, hu1]
        rfl
      have g2 : its.toArray.getD j .none = u2 := by
        rw [Array.getD_eq_getD_getElem?, List.getElem?_toArray, hu2]
        rfl
      rw [g1, g2] at new
      have obj : ObjOk X.prog X.w (upd H s.heap.objs.size (.tup [xs[i], xs[j]])) h' s.heap.objs.size (.tup [xs[i], xs[j]]) :=
        ⟨by show 2 ≤ sizeLine; decide, [u1, u2], .cons r1 (.cons r2 .nil), ⟨_, new, rfl, _, rfl⟩⟩
      have I1 : Inv X pins σ (upd H s.heap.objs.size (.tup [xs[i], xs[j]])) { s with heap := h' } :=
        I.turnedNew (t' := s.toks) (ch := [it, pool]) (fun c o hb q => keep c (fun z => hb (by simp [z])) o q) hf (Nat.le_refl _) obj
      refine ⟨_, rfl, go_of (s := { s with heap := h' }) rec rfl rfl (by decide) ⟨.ref s.heap.objs.size, _, I1, rfl, ⟨_, i, j, _, _, rfl, I.hok.fresh (Nat.le_refl _), rfl, ht, hx, hy⟩, ⟨keep pool (Nat.ne_of_lt lt) _ hp, .inr ⟨t, i, j, _, rfl, by rw [sz]; exact ht, rec⟩⟩, fun c hcm => ?_⟩⟩
      have small : c < s.heap.objs.size := by
        have e : c = it ∨ c = pool := by simpa using hcm
        have hit : it < s.heap.objs.size := by
          rcases st with ⟨_, c⟩ | ⟨_, _, _, _, _, _, c⟩ <;> exact Heap.lt_size c
        rcases e with e | e
        · rw [e]; exact hit
        · rw [e]; exact Nat.lt_trans lt hit
      rw [upd_ne (Nat.ne_of_lt small)]
      exact (hf c hcm).1
    have hg' : t < (prs xs.length).length := hg
    obtain ⟨⟨i, j⟩, hij⟩ : ∃ q, (prs xs.length)[t]? = some q := ⟨_, List.getElem?_eq_getElem hg'⟩
    rcases st with ⟨e, c⟩ | ⟨u, i0, j0, last, e, hu, c⟩
    · subst e
      have h2 : 2 ≤ xs.length := by
        rcases Nat.lt_or_ge xs.length 2 with z | z
        · rw [prs_none z] at hg'
          cases hg'
        · exact z
      rw [prs_zero h2] at hij
      cases hij
      rw [sz, if_neg (by omega)] at c
      exact next_first (n := 0) c hp (by rw [sz]; exact h2) fun h' k new rec => out 0 1 h' (prs_zero h2) k new rec
    · subst e
      rw [sz] at hu
      obtain ⟨l1, l2, l3⟩ := prs_step hu
      refine next_more c hp (nx_some l1 (by rw [sz]; exact l2) (by rw [sz, ← l3]; exact hij)) fun h' k new rec => out i j h' hij k new rec
  done := by
    intro X hP hw hK hc t pins s σ H E I hf st hg
    subst hP hw hK
    obtain ⟨hp, st⟩ := st
    have len := rv.length
    have sz : its.toArray.size = xs.length := by rw [List.size_toArray, len]
    have hg' : (prs xs.length).length ≤ t := hg
    obtain ⟨f0, f1, f2, f3, f4, f5⟩ := hf it (by simp)
    have fin : ∀ h', Heap.ExtBut it s.heap h' → (none : Option Value) = none ∧ Inv X pins σ H { s with heap := h' } := fun h' eb => ⟨rfl, I.turned (t' := s.toks) (fun b o hb e => eb b o hb e) f0 f1 f3 f4 f5⟩
    rcases st with ⟨e, c⟩ | ⟨u, i0, j0, last, e, hu, c⟩
    · subst e
      have h2 : xs.length < 2 := by
        rcases Nat.lt_or_ge xs.length 2 with z | z
        · exact z
        · have := prs_zero z
          rw [List.getElem?_eq_none hg'] at this
          cases this
      rw [sz, if_pos (by omega)] at c
      exact next_none (i := 0) (j := 1) (I.ok.hd hc) c hp fin
    · subst e
      rw [sz] at hu
      obtain ⟨l1, l2, l3⟩ := prs_step hu
      rw [List.getElem?_eq_none hg'] at l3
      exact next_end (I.ok.hd hc) c hp (nx_none l1 (by rw [sz]; exact l2) (by rw [sz]; exact l3.symm)) fin
  self := fun A t s Q E st h => by
    obtain ⟨hp, st⟩ := st
    rcases st with ⟨_, c⟩ | ⟨_, _, _, _, _, _, c⟩ <;> exact iter_comb c h

section
variable {X : Cx} {tg : Expr}
def iComb (K : PySem.W.Frag) (ta : TA) : TI := fun σ H R => ta σ H fun vs H1 => ∃ a xs, vs = [.ref a, .int 2] ∧ SqL K H1 a xs ∧ R (Itcb xs) H1
theorem pi_comb {x : Str} {e e2 : Expr} {ta : TA} {p pos : Pos} (hg : Gl X x) (hm : X.mg x = some (.type "itertools.combinations")) (ha : PA X [e, e2] ta) (hdb : (x == ("__debug__" : Str)) = false := by decide)
    (hs : starEach [e, e2] X.env = (false, eval e X.env) :: starEach [e2] X.env := by rfl) (hpl : (backTo pos (starEach [e2] X.env)).any (·.1) = false := by rfl) :
    PI X tg (.Call (.Name x p) [e, e2] [] pos) (iComb X.K ta) := by
  refine ⟨fun pins s σ H R I h => ?_⟩
  refine wpAny_Call_Name_kw (ld_glob I hg hm ?_ hdb)
  refine PyProof.Rows.callWith_type1 (thn (ha.run pos pins s σ H _ I h) fun us s1 ⟨vs, H1, I1, r1, q1⟩ => ?_) hs hpl
  obtain ⟨a, xs, rfl, hq, q⟩ := q1
  obtain ⟨u1, u2, rfl, e1, ⟨t, rfl⟩⟩ := vals2 r1
  obtain rfl : u1 = Value.ref a := e1
  obtain ⟨its, rv, ⟨o, n, ho, hcl, hne, hda⟩, hz⟩ := I1.list hq
  have len := rv.length
  refine call_comb ho hcl hda (by rw [List.size_toArray, ← len]; exact hz) fun h1 keep => ?_
  have J0 : Inv X pins σ H1 { s1 with heap := h1 } := I1.kept (t' := s1.toks) keep
  have sz1 : (h1.push (tupO its.toArray)).objs.size = h1.objs.size + 1 := Heap.size_push ..
  have g1 : ((h1.push (tupO its.toArray)).push (recC h1.objs.size (if 2 > its.toArray.size then 2 else 0) .none 0 1)).get? h1.objs.size = some (tupO its.toArray) := Heap.get?_push_of_some _ (Heap.get?_push_size _ rfl)
  have g2 : ((h1.push (tupO its.toArray)).push (recC h1.objs.size (if 2 > its.toArray.size then 2 else 0) .none 0 1)).get? (h1.objs.size + 1) = some (recC h1.objs.size (if 2 > its.toArray.size then 2 else 0) .none 0 1) := by
    rw [← sz1]
    exact Heap.get?_push_size _ rfl
  refine iter_comb (s := { s1 with heap := _ }) g2 ?_
  have J1 : Inv X pins σ H1 { s1 with heap := (h1.push (tupO its.toArray)).push (recC h1.objs.size (if 2 > its.toArray.size then 2 else 0) .none 0 1) } :=
    I1.kept (t' := s1.toks) fun b o z => Heap.get?_push_of_some _ (Heap.get?_push_of_some _ (keep b o z))
  refine ⟨h1.objs.size + 1, [h1.objs.size + 1, h1.objs.size], _, _, H1, rfl, J1, turn_comb rv (h1.objs.size + 1) h1.objs.size (Nat.lt_succ_self _), ⟨g1, .inl ⟨rfl, g2⟩⟩, fun b hb => ?_, q⟩
  have low : h1.objs.size ≤ b := by
    have e : b = h1.objs.size + 1 ∨ b = h1.objs.size := by simpa using hb
    rcases e with e | e
    · rw [e]; exact Nat.le_succ _
    · rw [e]; exact Nat.le_refl _
  exact J0.fpOk low (J0.hok.fresh low)

/-- a comprehension over the pairs -/
theorem lc_comb {xs : List V} {g : TG} {tt : TT} {te : TE} {vs : List Nat} {σ : L2.St} {H1 : Hp} {D : Addr} {Qd : Hp → Prop} (Pv : Nat → Hp → Prop) (h0 : Pv 0 (upd H1 D (.lst [])))
    (hs : ∀ (t i j : Nat) (x y : V) (T : Addr) (H : Hp), (prs xs.length)[t]? = some (i, j) → xs[i]? = some x → xs[j]? = some y → Pv t H → H T = none → g (.ref T) (wipe σ vs) (upd H T (.tup [x, y])) fun σ2 H2 => wipe σ2 vs = wipe σ vs ∧ tt σ2 H2 fun b H3 =>
      if b = true then te σ2 H3 fun y H4 => ∃ acc, H4 D = some (.lst acc) ∧ acc.length < sizeLine ∧ Pv (t + 1) (upd H4 D (.lst (acc ++ [y]))) else Pv (t + 1) H3) (hd : ∀ H, Pv (prs xs.length).length H → Qd H) :
    ∃ W : Nat → Nat → Hp → Prop, (∃ m, W 0 m (upd H1 D (.lst []))) ∧ ∀ t m H, W t m H →
      ((Itcb xs).stop t H ∧ Qd H) ∨ ((Itcb xs).go t H ∧ ∃ Nx : Hp → Prop, (∀ H', Nx H' → ∃ m', m' < m ∧ W (t + 1) m' H') ∧ ∀ x H', (Itcb xs).yld t H x H' → g x (wipe σ vs) H' fun σ2 H2 => wipe σ2 vs = wipe σ vs ∧ tt σ2 H2 fun b H3 =>
        if b = true then te σ2 H3 fun y H4 => ∃ acc, H4 D = some (.lst acc) ∧ acc.length < sizeLine ∧ Nx (upd H4 D (.lst (acc ++ [y]))) else Nx H3) := by
  refine ⟨fun t m H => m = (prs xs.length).length - t ∧ t ≤ (prs xs.length).length ∧ Pv t H, ⟨_, rfl, Nat.zero_le _, h0⟩, ?_⟩
  rintro t m H ⟨rfl, ht, pv⟩
  rcases Nat.lt_or_ge t (prs xs.length).length with lt | ge
  · refine .inr ⟨lt, Pv (t + 1), fun H' p' => ⟨(prs xs.length).length - (t + 1), by omega, rfl, lt, p'⟩, fun v H' y => ?_⟩
    obtain ⟨T, i, j, a, b, rfl, hT, rfl, h1, h2, h3⟩ := y
    exact hs t i j a b T H h1 h2 h3 pv hT
  · have e : t = (prs xs.length).length := by omega
    subst e
    exact .inl ⟨Nat.le_refl _, hd H pv⟩
end
end Comb

namespace SortR
open PySem PySem.Spec PyProof.Rows L2 PySem.W
/-- lists of ints by their sequence -/
def rowLe (p q : Addr × List Int) : Bool := decide (p.2 ≤ q.2)
theorem enc_alike (p q : Addr × List Int) : alike (PyData.list (p.2.map .int)) (PyData.list (q.2.map .int)) = true := by
  simp only [alike]
  exact alike_ints p.2 q.2
theorem rows_dp {K : PySem.W.Frag} {H : Hp} : ∀ ns : List Int, DpAll K H (ns.map V.int) (ns.map PyData.int)
  | [] => .nil
  | n :: ns => .cons (.int n) (rows_dp ns)
theorem vals_each {h : Heap} {K : PySem.W.Frag} {H : Hp} {P : Addr × List Int → Prop} : ∀ {bs : List (Addr × List Int)} {us : List Value}, Vals (bs.map fun b => V.ref b.1) us → (∀ b ∈ bs, P b) → EachIs (fun v b => v = Value.ref b.1 ∧ P b) us bs
  | [], us, r, _ => by
    cases r
    exact .nil
  | b :: bs, us, r, hp => by
    cases r with
    | cons r1 r2 =>
      have e : _ = Value.ref b.1 := r1
      exact .cons ⟨e, hp b List.mem_cons_self⟩ (vals_each (h := h) (K := K) (H := H) r2 fun c hc => hp c (List.mem_cons_of_mem _ hc))
theorem each_back {P : Addr × List Int → Prop} : ∀ {us : List Value} {bs : List (Addr × List Int)}, EachIs (fun v b => v = Value.ref b.1 ∧ P b) us bs → Vals (bs.map fun b => V.ref b.1) us
  | _, _, .nil => .nil
  | _, _, .cons h t => .cons h.1 (each_back t)
theorem each_mono {α β : Type} {R S : α → β → Prop} : ∀ {as : List α} {bs : List β}, EachIs R as bs → (∀ a b, R a b → S a b) → EachIs S as bs
  | _, _, .nil, _ => .nil
  | _, _, .cons h t, f => .cons (f _ _ h) (each_mono t f)
section
variable {X : Cx}
/-- sorted(xs), xs a list of lists of ints, of any length -/
theorem call_sortedR (hu : X.A.units + 64 < cLine) : CallR X (.builtin "sorted") (fun xs H Q => ∃ (a : Addr) (bs : List (Addr × List Int)), xs = [V.ref a] ∧ SqL X.K H a (bs.map fun b => V.ref b.1) ∧ (∀ b ∈ bs, SqL X.K H b.1 (b.2.map V.int)) ∧
    ∀ p, H p = none → Q (.ref p) (upd H p (.lst ((bs.mergeSort rowLe).map fun b => V.ref b.1)))) := by
  intro pins s σ H xs us Q I r h
  obtain ⟨a, bs, rfl, hs, hb, q⟩ := h
  obtain ⟨u, rfl, ru⟩ := vals1 r
  obtain rfl : u = Value.ref a := ru
  obtain ⟨its, rv, hl, hz⟩ := I.list hs
  have each : EachIs (fun v b => v = Value.ref b.1 ∧ SqL X.K H b.1 (b.2.map V.int)) its bs := vals_each (h := s.heap) (K := X.K) (H := H) rv hb
  have len : its.length = bs.length := by rw [← rv.length, List.length_map]
  have each2 : EachIs (fun v (b : Addr × List Int) => ∃ as, Reads s.heap v (PyData.list (b.2.map .int)) as) its bs := each_mono each fun v b ⟨e, hq⟩ => by
    rw [e]
    exact Dp.reads I (PyData.list (b.2.map .int)) (.ref b.1) (.ref b.1) (.lst hq (rows_dp b.2)) rfl
  have le : dataLe false (fun b : Addr × List Int => PyData.list (b.2.map .int)) = rowLe := dataLe_rows (fun b : Addr × List Int => b.2)
  refine sorted_data (enc := fun b : Addr × List Int => PyData.list (b.2.map .int)) hl.isList each each2 (AllAlike.of enc_alike) (Sortable.others fun b => ⟨(fun z => nomatch z), fun xs z => nomatch z⟩) (by rw [← len]; rw [List.length_map] at hz; rw [len]; exact hz) (fun b _ => by
    have d : (PyData.list (b.2.map .int)).depth = 1 := by
      simp only [PyData.depth, depth_ints]
    rw [d]
    omega) fun out ho each3 => ?_
  rw [le] at each3
  have back := each_back each3
  obtain ⟨n, hn⟩ := sortedAll_at s.heap its out.toArray
  refine ⟨.ref (s.heap.objs.size + 1), upd H (s.heap.objs.size + 1) (.lst ((bs.mergeSort rowLe).map fun b => V.ref b.1)), I.laid (t' := s.toks) (fun b o e => sortedAll_old e) (Nat.le_succ _) ⟨?_, out, n, back, hn⟩, rfl, q _ (I.hok.fresh (Nat.le_succ _))⟩
  rw [List.length_map, List.length_mergeSort]
  rw [List.length_map] at hz
  exact hz
end
end SortR

namespace SortR
open PySem PySem.Spec PyProof.Rows L2 PySem.W
section
variable {X : Cx}
def rLtR (K : PySem.W.Frag) : R2 := fun x y H Q => ∃ (a b : Addr) (ns ms : List Int), x = .ref a ∧ y = .ref b ∧ SqL K H a (ns.map V.int) ∧ SqL K H b (ms.map V.int) ∧ Q (.bl (decide (ns < ms))) H
/-- xs < ys, two lists of ints -/
theorem op_ltR (hu : X.A.units + 64 < cLine) : OpR X (compareOp .Lt) (rLtR X.K) := by
  intro pins s σ H x y v u Q I rx ry h
  obtain ⟨a, b, ns, ms, rfl, rfl, hs, hm, q⟩ := h
  obtain ⟨as, r1⟩ := Dp.reads I (PyData.list (ns.map .int)) (.ref a) v (.lst hs (rows_dp ns)) rx
  obtain ⟨bs, r2⟩ := Dp.reads I (PyData.list (ms.map .int)) (.ref b) u (.lst hm (rows_dp ms)) ry
  have dep : (PyData.list (ns.map .int)).depth = 1 := by simp only [PyData.depth, depth_ints]
  have lt := rcLt_alike (PyData.list (ns.map .int)) (PyData.list (ms.map .int)) X.A s v u as bs r1 r2 (enc_alike (a, ns) (b, ms)) (fun z => nomatch z) (by rw [dep]; omega)
  have e : dataLt (PyData.list (ns.map .int)) (PyData.list (ms.map .int)) = decide (ns < ms) := by
    rw [dataLt_list]
    exact dataLt_ints ns ms
  rw [e] at lt
  exact lt _ _ _ _ ⟨.bl _, H, I, rfl, q⟩
/-- a comprehension over zip of two lists that stand still -/
theorem lc_zipL {K : PySem.W.Frag} {a b : Addr} {xs ys : List V} {g : TG} {tt : TT} {te : TE} {vs : List Nat} {σ : L2.St} {H1 : Hp} {D : Addr} {Qd : Hp → Prop} (Pv : Nat → Hp → Prop) (h0 : Pv 0 (upd H1 D (.lst []))) (hl : ∀ i H, Pv i H → SqL K H a xs ∧ SqL K H b ys)
    (hs : ∀ (i : Nat) (x y : V) (T : Addr) (H : Hp), xs[i]? = some x → ys[i]? = some y → Pv i H → H T = none → g (.ref T) (wipe σ vs) (upd H T (.tup [x, y])) fun σ2 H2 => wipe σ2 vs = wipe σ vs ∧ tt σ2 H2 fun b H3 =>
      if b = true then te σ2 H3 fun y H4 => ∃ acc, H4 D = some (.lst acc) ∧ acc.length < sizeLine ∧ Pv (i + 1) (upd H4 D (.lst (acc ++ [y]))) else Pv (i + 1) H3) (hd : ∀ H, Pv (min xs.length ys.length) H → Qd H) :
    ∃ W : Nat → Nat → Hp → Prop, (∃ m, W 0 m (upd H1 D (.lst []))) ∧ ∀ i m H, W i m H →
      ((Itz K a b).stop i H ∧ Qd H) ∨ ((Itz K a b).go i H ∧ ∃ Nx : Hp → Prop, (∀ H', Nx H' → ∃ m', m' < m ∧ W (i + 1) m' H') ∧ ∀ x H', (Itz K a b).yld i H x H' → g x (wipe σ vs) H' fun σ2 H2 => wipe σ2 vs = wipe σ vs ∧ tt σ2 H2 fun b H3 =>
        if b = true then te σ2 H3 fun y H4 => ∃ acc, H4 D = some (.lst acc) ∧ acc.length < sizeLine ∧ Nx (upd H4 D (.lst (acc ++ [y]))) else Nx H3) := by
  refine ⟨fun i m H => m = min xs.length ys.length - i ∧ i ≤ min xs.length ys.length ∧ Pv i H, ⟨_, rfl, Nat.zero_le _, h0⟩, ?_⟩
  rintro i m H ⟨rfl, hi, pv⟩
  obtain ⟨qx, qy⟩ := hl i H pv
  rcases Nat.lt_or_ge i (min xs.length ys.length) with lt | ge
  · have ex : xs[i]? = some xs[i] := List.getElem?_eq_getElem (by omega)
    have ey : ys[i]? = some ys[i] := List.getElem?_eq_getElem (by omega)
    refine .inr ⟨⟨xs, ys, _, _, qx, qy, ex, ey⟩, Pv (i + 1), fun H' p' => ⟨min xs.length ys.length - (i + 1), by omega, rfl, lt, p'⟩, fun v H' y => ?_⟩
    obtain ⟨T, x', y', rfl, hT, rfl, f1, f2⟩ := y
    exact hs i x' y' T H (f1 xs qx) (f2 ys qy) pv hT
  · have e : i = min xs.length ys.length := by omega
    subst e
    exact .inl ⟨⟨xs, ys, qx, qy, by omega⟩, hd H pv⟩
/-- a comprehension over enumerate of a list that stands still -/
theorem lc_enumL {K : PySem.W.Frag} {a : Addr} {xs : List V} {g : TG} {tt : TT} {te : TE} {vs : List Nat} {σ : L2.St} {H1 : Hp} {D : Addr} {Qd : Hp → Prop} (Pv : Nat → Hp → Prop) (h0 : Pv 0 (upd H1 D (.lst []))) (hl : ∀ i H, Pv i H → SqL K H a xs)
    (hs : ∀ (i : Nat) (x : V) (T : Addr) (H : Hp), xs[i]? = some x → Pv i H → H T = none → g (.ref T) (wipe σ vs) (upd H T (.tup [.int (i : Nat), x])) fun σ2 H2 => wipe σ2 vs = wipe σ vs ∧ tt σ2 H2 fun b H3 =>
      if b = true then te σ2 H3 fun y H4 => ∃ acc, H4 D = some (.lst acc) ∧ acc.length < sizeLine ∧ Pv (i + 1) (upd H4 D (.lst (acc ++ [y]))) else Pv (i + 1) H3) (hd : ∀ H, Pv xs.length H → Qd H) :
    ∃ W : Nat → Nat → Hp → Prop, (∃ m, W 0 m (upd H1 D (.lst []))) ∧ ∀ i m H, W i m H →
      ((Ite K a).stop i H ∧ Qd H) ∨ ((Ite K a).go i H ∧ ∃ Nx : Hp → Prop, (∀ H', Nx H' → ∃ m', m' < m ∧ W (i + 1) m' H') ∧ ∀ x H', (Ite K a).yld i H x H' → g x (wipe σ vs) H' fun σ2 H2 => wipe σ2 vs = wipe σ vs ∧ tt σ2 H2 fun b H3 =>
        if b = true then te σ2 H3 fun y H4 => ∃ acc, H4 D = some (.lst acc) ∧ acc.length < sizeLine ∧ Nx (upd H4 D (.lst (acc ++ [y]))) else Nx H3) := by
  refine ⟨fun i m H => m = xs.length - i ∧ i ≤ xs.length ∧ Pv i H, ⟨_, rfl, Nat.zero_le _, h0⟩, ?_⟩
  rintro i m H ⟨rfl, hi, pv⟩
  have qx := hl i H pv
  rcases Nat.lt_or_ge i xs.length with lt | ge
  · have ex : xs[i]? = some xs[i] := List.getElem?_eq_getElem lt
    refine .inr ⟨⟨xs, _, qx, ex⟩, Pv (i + 1), fun H' p' => ⟨xs.length - (i + 1), by omega, rfl, lt, p'⟩, fun v H' y => ?_⟩
    obtain ⟨T, x', rfl, hT, rfl, f1⟩ := y
    exact hs i x' T H (f1 xs qx) pv hT
  · have e : i = xs.length := by omega
    subst e
    exact .inl ⟨⟨xs, qx, Nat.le_refl _⟩, hd H pv⟩
end
end SortR

/-! Comprehensions without a test, by the value of each turn: what stood stands. -/
namespace LcM
open PySem PySem.Spec PyProof.Rows L2
/-- all that stood stands -/
def Grows (H H' : Hp) : Prop := ∀ b o, H b = some o → H' b = some o
theorem Grows.refl {H : Hp} : Grows H H := fun _ _ e => e
theorem Grows.trans {H H1 H2 : Hp} (x : Grows H H1) (y : Grows H1 H2) : Grows H H2 := fun b o e => y b o (x b o e)
theorem Grows.new {a : Addr} {H : Hp} {o : HO} (h : H a = none) : Grows H (upd H a o) := fun b u e => by
  rw [upd_ne (ne_of_none e h)]
  exact e
theorem Grows.seq {K : PySem.W.Frag} {H H' : Hp} {a : Addr} {xs : List V} (s : Grows H H') (h : SqL K H a xs) : SqL K H' a xs := by
  rcases h with (h | ⟨o, h⟩) | h
  · exact .inl (.inl (s _ _ h))
  · exact .inl (.inr ⟨o, s _ _ h⟩)
  · exact .inr h
theorem Grows.tup {K : PySem.W.Frag} {H H' : Hp} {a : Addr} {xs : List V} (s : Grows H H') (h : SqT K H a xs) : SqT K H' a xs := by
  rcases h with (h | ⟨o, h⟩) | h
  · exact .inl (.inl (s _ _ h))
  · exact .inl (.inr ⟨o, s _ _ h⟩)
  · exact .inr h
/-- the list that is made -/
def Ma (H0 : Hp) (D : Addr) (F : Nat → V) (i : Nat) (H : Hp) : Prop := Grows H0 H ∧ H D = some (.lst ((List.range i).map F))
theorem Ma.start {H0 : Hp} {D : Addr} {F : Nat → V} (hD : H0 D = none) : Ma H0 D F 0 (upd H0 D (.lst [])) := ⟨Grows.new hD, upd_same⟩
theorem yes_eq {te : TE} {A : L2.St → Prop} {R : V → Hp → Prop} {Y : Hp → Prop} :
    (fun (σ2 : L2.St) (H2 : Hp) => A σ2 ∧ tYes σ2 H2 fun b H3 => if b = true then te σ2 H3 R else Y H3) = fun σ2 H2 => A σ2 ∧ te σ2 H2 R := by
  funext σ2 H2
  unfold tYes
  dsimp only
  rw [if_pos rfl]
/-- one more -/
theorem Ma.more {H0 H H4 : Hp} {D : Addr} {F : Nat → V} {i : Nat} (hD : H0 D = none) (m : Ma H0 D F i H) (s : Grows H H4) (small : i < 1000000) :
    ∃ acc, H4 D = some (.lst acc) ∧ acc.length < sizeLine ∧ Ma H0 D F (i + 1) (upd H4 D (.lst (acc ++ [F i]))) := by
  refine ⟨_, s _ _ m.2, ?_, fun b o e => ?_, ?_⟩
  · rw [List.length_map, List.length_range]
    exact Nat.lt_trans small (by decide)
  · rw [upd_ne (ne_of_none e hD)]
    exact s _ _ (m.1 _ _ e)
  · rw [upd_same, List.range_succ, List.map_append]
    rfl
section
variable {K : PySem.W.Frag} {a b : Addr} {xs ys : List V} {g : TG} {te : TE} {vs : List Nat} {σ : L2.St} {H0 : Hp} {D : Addr} {Qd : Hp → Prop}
theorem lc_listM (F : Nat → V) (hD : H0 D = none) (hx : SqL K H0 a xs) (small : xs.length ≤ 1000000)
    (turn : ∀ (i : Nat) (x : V) (H : Hp) (R : V → Hp → Prop), xs[i]? = some x → Grows H0 H → (∀ H4, Grows H H4 → R (F i) H4) → g x (wipe σ vs) H fun σ2 H2 => wipe σ2 vs = wipe σ vs ∧ te σ2 H2 R)
    (done : ∀ H, Grows H0 H → H D = some (.lst ((List.range xs.length).map F)) → Qd H) :
    ∃ W : Nat → Nat → Hp → Prop, (∃ m, W 0 m (upd H0 D (.lst []))) ∧ ∀ i m H, W i m H →
      ((Itl K a).stop i H ∧ Qd H) ∨ ((Itl K a).go i H ∧ ∃ Nx : Hp → Prop, (∀ H', Nx H' → ∃ m', m' < m ∧ W (i + 1) m' H') ∧ ∀ x H', (Itl K a).yld i H x H' → g x (wipe σ vs) H' fun σ2 H2 => wipe σ2 vs = wipe σ vs ∧ tYes σ2 H2 fun b H3 =>
        if b = true then te σ2 H3 fun y H4 => ∃ acc, H4 D = some (.lst acc) ∧ acc.length < sizeLine ∧ Nx (upd H4 D (.lst (acc ++ [y]))) else Nx H3) := by
  refine lc_list (Ma H0 D F) (Ma.start hD) (fun i H _ m => m.1.seq hx) (fun i x H ex m => ?_) fun H m => done H m.1 m.2
  rw [yes_eq (A := fun σ2 => wipe σ2 vs = wipe σ vs)]
  exact turn i x H _ ex m.1 fun H4 s => m.more hD s (Nat.lt_of_lt_of_le (List.getElem?_eq_some_iff.mp ex).1 small)
theorem lc_zipM (F : Nat → V) (hD : H0 D = none) (hx : SqL K H0 a xs) (hy : SqL K H0 b ys) (small : xs.length ≤ 1000000)
    (turn : ∀ (i : Nat) (x y : V) (T : Addr) (H : Hp) (R : V → Hp → Prop), xs[i]? = some x → ys[i]? = some y → Grows H0 H → H T = none → (∀ H4, Grows (upd H T (.tup [x, y])) H4 → R (F i) H4) → g (.ref T) (wipe σ vs) (upd H T (.tup [x, y])) fun σ2 H2 => wipe σ2 vs = wipe σ vs ∧ te σ2 H2 R)
    (done : ∀ H, Grows H0 H → H D = some (.lst ((List.range (min xs.length ys.length)).map F)) → Qd H) :
    ∃ W : Nat → Nat → Hp → Prop, (∃ m, W 0 m (upd H0 D (.lst []))) ∧ ∀ i m H, W i m H →
      ((Itz K a b).stop i H ∧ Qd H) ∨ ((Itz K a b).go i H ∧ ∃ Nx : Hp → Prop, (∀ H', Nx H' → ∃ m', m' < m ∧ W (i + 1) m' H') ∧ ∀ x H', (Itz K a b).yld i H x H' → g x (wipe σ vs) H' fun σ2 H2 => wipe σ2 vs = wipe σ vs ∧ tYes σ2 H2 fun b H3 =>
        if b = true then te σ2 H3 fun y H4 => ∃ acc, H4 D = some (.lst acc) ∧ acc.length < sizeLine ∧ Nx (upd H4 D (.lst (acc ++ [y]))) else Nx H3) := by
  refine SortR.lc_zipL (Ma H0 D F) (Ma.start hD) (fun i H m => ⟨m.1.seq hx, m.1.seq hy⟩) (fun i x y T H ex ey m hT => ?_) fun H m => done H m.1 m.2
  rw [yes_eq (A := fun σ2 => wipe σ2 vs = wipe σ vs)]
  exact turn i x y T H _ ex ey m.1 hT fun H4 s => m.more hD ((Grows.new hT).trans s) (Nat.lt_of_lt_of_le (List.getElem?_eq_some_iff.mp ex).1 small)
theorem lc_enumM (F : Nat → V) (hD : H0 D = none) (hx : SqL K H0 a xs) (small : xs.length ≤ 1000000)
    (turn : ∀ (i : Nat) (x : V) (T : Addr) (H : Hp) (R : V → Hp → Prop), xs[i]? = some x → Grows H0 H → H T = none → (∀ H4, Grows (upd H T (.tup [.int (i : Nat), x])) H4 → R (F i) H4) → g (.ref T) (wipe σ vs) (upd H T (.tup [.int (i : Nat), x])) fun σ2 H2 => wipe σ2 vs = wipe σ vs ∧ te σ2 H2 R)
    (done : ∀ H, Grows H0 H → H D = some (.lst ((List.range xs.length).map F)) → Qd H) :
    ∃ W : Nat → Nat → Hp → Prop, (∃ m, W 0 m (upd H0 D (.lst []))) ∧ ∀ i m H, W i m H →
      ((Ite K a).stop i H ∧ Qd H) ∨ ((Ite K a).go i H ∧ ∃ Nx : Hp → Prop, (∀ H', Nx H' → ∃ m', m' < m ∧ W (i + 1) m' H') ∧ ∀ x H', (Ite K a).yld i H x H' → g x (wipe σ vs) H' fun σ2 H2 => wipe σ2 vs = wipe σ vs ∧ tYes σ2 H2 fun b H3 =>
        if b = true then te σ2 H3 fun y H4 => ∃ acc, H4 D = some (.lst acc) ∧ acc.length < sizeLine ∧ Nx (upd H4 D (.lst (acc ++ [y]))) else Nx H3) := by
  refine SortR.lc_enumL (Ma H0 D F) (Ma.start hD) (fun i H m => m.1.seq hx) (fun i x T H ex m hT => ?_) fun H m => done H m.1 m.2
  rw [yes_eq (A := fun σ2 => wipe σ2 vs = wipe σ vs)]
  exact turn i x T H _ ex m.1 hT fun H4 s => m.more hD ((Grows.new hT).trans s) (Nat.lt_of_lt_of_le (List.getElem?_eq_some_iff.mp ex).1 small)
theorem lc_combM (F : Nat → V) (hD : H0 D = none) (small : xs.length ≤ 1000)
    (turn : ∀ (t i j : Nat) (x y : V) (T : Addr) (H : Hp) (R : V → Hp → Prop), (Comb.prs xs.length)[t]? = some (i, j) → xs[i]? = some x → xs[j]? = some y → Grows H0 H → H T = none → (∀ H4, Grows (upd H T (.tup [x, y])) H4 → R (F t) H4) → g (.ref T) (wipe σ vs) (upd H T (.tup [x, y])) fun σ2 H2 => wipe σ2 vs = wipe σ vs ∧ te σ2 H2 R)
    (done : ∀ H, Grows H0 H → H D = some (.lst ((List.range (Comb.prs xs.length).length).map F)) → Qd H) :
    ∃ W : Nat → Nat → Hp → Prop, (∃ m, W 0 m (upd H0 D (.lst []))) ∧ ∀ t m H, W t m H →
      ((Comb.Itcb xs).stop t H ∧ Qd H) ∨ ((Comb.Itcb xs).go t H ∧ ∃ Nx : Hp → Prop, (∀ H', Nx H' → ∃ m', m' < m ∧ W (t + 1) m' H') ∧ ∀ x H', (Comb.Itcb xs).yld t H x H' → g x (wipe σ vs) H' fun σ2 H2 => wipe σ2 vs = wipe σ vs ∧ tYes σ2 H2 fun b H3 =>
        if b = true then te σ2 H3 fun y H4 => ∃ acc, H4 D = some (.lst acc) ∧ acc.length < sizeLine ∧ Nx (upd H4 D (.lst (acc ++ [y]))) else Nx H3) := by
  refine Comb.lc_comb (Ma H0 D F) (Ma.start hD) (fun t i j x y T H et ex ey m hT => ?_) fun H m => done H m.1 m.2
  rw [yes_eq (A := fun σ2 => wipe σ2 vs = wipe σ vs)]
  refine turn t i j x y T H _ et ex ey m.1 hT fun H4 s => m.more hD ((Grows.new hT).trans s) ?_
  have l1 := (List.getElem?_eq_some_iff.mp et).1
  have l2 := Comb.rows_len (xs.length - 1) 0
  have l3 : (xs.length - 1) * (xs.length - 1) ≤ 999 * 999 := Nat.mul_le_mul (by omega) (by omega)
  unfold Comb.prs at l1
  omega
end
/-- xs[1:] -/
theorem cut_tail (xs : List V) : cutV xs (some 1) none = xs.tail := by
  unfold cutV
  rw [HT.sIx_none, show (some (1 : Int)) = some ((1 : Nat) : Int) from rfl, HT.sIx_nat]
  cases xs with
  | nil => rfl
  | cons x l =>
    have e : min 1 (x :: l).length = 1 := by rw [List.length_cons]; omega
    rw [e, List.drop_one, List.tail_cons, List.length_cons, Nat.add_sub_cancel, List.take_length]
end LcM

/-! {key: value for target in iterable if test}, the keys tuples. -/
namespace DcT
open PySem PySem.Spec PyProof.Rows L2
section
variable {X : Cx} {pins : List (Addr × Obj)} {σ : L2.St} {H : Hp} {s : Shared}
/-- one entry is laid by the comprehension -/
theorem set_tup {Er : Value → Shared → Prop} {d b : Addr} {kvs : List (List L2.Key × V)} {k : List L2.Key} {v : V} {u r : Value} {Qu : Unit → Shared → Prop} (room : X.A.units + 1 < cLine) (I : Inv X pins σ H s) (at_d : H d = some (.dT kvs)) (few : kvs.length < sizeLine)
    (at_b : H b = some (.tup (k.map kV))) (ru : RelV (.ref b) u) (rr : RelV v r) (go : ∀ s', Inv X pins σ (upd H d (.dT (putK kvs k v))) s' → Qu () s') : wpAny (model X.prog X.w) X.A (dictSet d u r) Qu Er s := by
  obtain rfl : u = Value.ref b := ru
  obtain ⟨fits, notSys, xs, rel, raw⟩ := dt_of I.hok at_d
  have n1 : xs.length ≤ sizeLine := Paired.length rel ▸ fits
  have n2 : (putK kvs k v).length ≤ sizeLine := Nat.le_trans (length_putK kvs k v) few
  refine wpAny_dictSet_heap (hsz := n1) (show X.A.units < cLine from Nat.lt_of_succ_lt room) (key_of I.hok at_b) raw fun hp raw' same => go _ ?_
  obtain ⟨o, es, ep, g1, g2, g3, g4, _, g5⟩ := raw'
  refine d_write I (by rw [at_d]; exact True.intro) same ⟨o, g1⟩ ⟨n2, notSys, _, (rel.put k at_b rr).keeps fun c ys ec => ?_, o, es, ep, g1, g2, g3, g4, g5⟩
  rw [upd_ne (ne_of ec at_d fun z => nomatch z)]
  exact ec
end
section
variable {X : Cx}
def tDcT (wi : TI) (g : TG) (tt : TT) (tk tv : TE) (vs : List Nat) : TE := fun σ H Q => wi σ H fun J H1 => ∀ D, H1 D = none → ∃ W : Nat → Nat → Hp → Prop, (∃ m, W 0 m (upd H1 D (.dT []))) ∧ ∀ i m H, W i m H →
  (J.stop i H ∧ Q (.ref D) H) ∨ (J.go i H ∧ ∃ Nx : Hp → Prop, (∀ H', Nx H' → ∃ m', m' < m ∧ W (i + 1) m' H') ∧ ∀ x H', J.yld i H x H' → g x (wipe σ vs) H' fun σ2 H2 => wipe σ2 vs = wipe σ vs ∧ tt σ2 H2 fun t H3 =>
    if t = true then tk σ2 H3 fun y H4 => tv σ2 H4 fun z H5 => ∃ b kvs k, y = .ref b ∧ H5 b = some (.tup (k.map kV)) ∧ H5 D = some (.dT kvs) ∧ kvs.length < sizeLine ∧ Nx (upd H5 D (.dT (putK kvs k z))) else Nx H3)
theorem dcT_core {pins : List (Addr × Obj)} {s0 : Shared} {σ : L2.St} {H0 : Hp} {Q : VK} {kx vx tg iter : Expr} {ifs : List Expr} {scope : Scope} {own : List (Str × Nat)} {pos pos' : Pos} {wi : TI} {g : TG} {tt : TT} {tk tv : TE} {use : Option (Value → Sem Unit)} {Qf : Value → Shared → Prop}
    (room : X.A.units + 64 < cLine) (calm : X.calm = true) (nd : X.N.Nodup) (I0 : Inv X pins σ H0 s0) (pi : PI X tg iter wi) (ok : BlkOk X.N X.env.scope scope own)
    (pgs : ∀ (s : Shared) (H : Hp) (C : Addr) (cl : List (Str × Addr)) (fp : List Addr), PG (X.blk s H scope (compEnvC scope cl C X.env) fp) tg g) (pts : ∀ (s : Shared) (H : Hp) (C : Addr) (cl : List (Str × Addr)) (fp : List Addr), PTs (X.blk s H scope (compEnvC scope cl C X.env) fp) ifs tt)
    (pks : ∀ (s : Shared) (H : Hp) (C : Addr) (cl : List (Str × Addr)) (fp : List Addr), PE (X.blk s H scope (compEnvC scope cl C X.env) fp) kx tk) (pvs : ∀ (s : Shared) (H : Hp) (C : Addr) (cl : List (Str × Addr)) (fp : List Addr), PE (X.blk s H scope (compEnvC scope cl C X.env) fp) vx tv)
    (fold : ∀ x, foldedSetIterable iter X.env x = pure x) (rd : tDcT wi g tt tk tv (own.map (·.2)) σ H0 Q)
    (post : ∀ D C t ns G, Inv X pins σ G t → Q (.ref D) G → t.heap.Ns C ns → FpOk X pins G C → compPost (model X.prog X.w) X.A X.xe use Qf (.ref D) C (.ok .next) t) :
    wpAny (model X.prog X.w) X.A (comprehension (.DictComp kx vx [⟨tg, iter, ifs, 0⟩] scope pos) scope X.env pos' newDict false (eval iter X.env) use) Qf X.xe s0 := by
  have isFree : ∀ y ∈ scope.names, y.2 = .free → ∃ c, X.env.cells.lookup y.1 = some c := fun y hy ey => (ok.free y hy ey).elim (fun z => I0.ok.has _ (.inl z)) fun z => I0.ok.has _ (.inr z)
  refine wpAny_comprehension_free (use := use) rfl fold (closure_ok isFree) ok.kind (fun y hy ey => (ok.uniq y hy).trans (congrArg some ey)) (thn (pi.run pins s0 σ H0 _ I0 rd) fun _ sa ha => thn ha fun _ sb hb => ?_)
  obtain ⟨it, fp, tn, J, Hb, rfl, Ib, Tn, tn0, fb, q⟩ := hb
  refine wpAny_newObj_type (newEnv_comp ?_)
  have free0 : Hb sb.heap.objs.size = none := Ib.hok.fresh (Nat.le_refl _)
  obtain ⟨W, ⟨m0, w0⟩, turn⟩ := q _ free0
  -- with the dict, empty
  obtain ⟨sc, esc⟩ : ∃ z : Shared, z = { sb with heap := sb.heap.push { cls := .type "dict", data := .dict #[] } } := ⟨_, rfl⟩
  obtain ⟨Hc, eHc⟩ : ∃ z : Hp, z = upd Hb sb.heap.objs.size (.dT []) := ⟨_, rfl⟩
  have Ic : Inv X pins σ Hc sc := by
    rw [esc, eHc]
    exact Ib.laid (t' := sb.toks) (fun b o z => Heap.get?_push_of_some _ z) (Nat.le_refl _) (dt_empty sb.heap Ib.big)
  have up : ∀ b o, sb.heap.get? b = some o → sc.heap.get? b = some o := fun b o z => by
    rw [esc]
    exact Heap.get?_push_of_some _ z
  have below : ∀ b ∈ fp, b < sb.heap.objs.size := fun b hb => let ⟨_, z, _⟩ := Tn.obj _ _ tn0 b hb; Heap.lt_size z
  have fc : ∀ b ∈ fp, FpOk X pins Hc b ∧ b < sc.heap.objs.size := fun b hb => by
    obtain ⟨o, z, _⟩ := Tn.obj _ _ tn0 b hb
    refine ⟨⟨?_, (fb b hb).2⟩, Heap.lt_size (up b o z)⟩
    rw [eHc, upd_ne (Nat.ne_of_lt (below b hb))]
    exact (fb b hb).1
  have tnc : tn 0 sc.heap := Tn.keep _ _ _ tn0 fun b _ o z => up b o z
  have Ie := block_start Ic ok nd fc
  obtain ⟨cells, ecl⟩ : ∃ z, z = cellsFrom (sc.heap.objs.size + 1) scope.names (cloFrom X.env.cells scope.names []) := ⟨_, rfl⟩
  have pg := pgs sc Hc sc.heap.objs.size cells fp
  have pt := pts sc Hc sc.heap.objs.size cells fp
  have pk := pks sc Hc sc.heap.objs.size cells fp
  have pv := pvs sc Hc sc.heap.objs.size cells fp
  rw [← ecl] at Ie
  rw [← esc]
  show codeAny _ _ (.compStart _ 0 (.ref it) (.ref sb.heap.objs.size) (compEnvC scope (cellsFrom (sc.heap.objs.size + 1) scope.names (cloFrom X.env.cells scope.names [])) sc.heap.objs.size X.env)) (compPost _ _ X.xe use Qf (.ref sb.heap.objs.size) sc.heap.objs.size) _
  rw [← ecl]
  have loc : (compEnvC scope cells sc.heap.objs.size X.env).locals = sc.heap.objs.size := rfl
  rw [← eHc] at w0
  have empty : ∀ b ∈ fp, Hc b = none := fun b hb => (fc b hb).1.1
  obtain ⟨sd, esd⟩ : ∃ z : Shared, z = { sc with heap := pushCells (sc.heap.push { cls := .type "dict", data := .dict #[] }) scope.names } := ⟨_, rfl⟩
  have tnd : tn 0 sd.heap := Tn.keep _ _ _ tnc fun b _ o z => by
    rw [esd]
    exact pushCells_keeps _ _ _ _ (Heap.get?_push_of_some _ z)
  rw [← esd] at Ie ⊢
  generalize compEnvC scope cells sc.heap.objs.size X.env = ce at Ie pg pt pk pv loc ⊢
  -- the iterator's own objects in the block
  have own_ok : ∀ {ρ : L2.St} {G : Hp} {t : Shared}, Inv (X.blk sc Hc scope ce fp) [] ρ G t → (∀ b ∈ fp, G b = none) → ∀ b ∈ fp, FpOk (X.blk sc Hc scope ce fp) [] G b := fun {ρ G t} J hn b hb =>
    ⟨hn b hb, (J.ok.exf b hb).1, J.ok.exfs b hb, .inl hb, fun y c z => (J.ok.exf b hb).2 y c z, fun p hp => (nomatch hp)⟩
  have run : codeAny (model X.prog X.w) X.A (.compLoop (.DictComp kx vx [⟨tg, iter, ifs, 0⟩] scope pos) 0 (.ref it) (.ref sb.heap.objs.size) ce) (compPost (model X.prog X.w) X.A X.xe use Qf (.ref sb.heap.objs.size) sc.heap.objs.size) sd := by
    refine compLoop_anyD (fun m t => ∃ i G, Inv (X.blk sc Hc scope ce fp) [] (wipe σ (own.map (·.2))) G t ∧ tn i t.heap ∧ (∀ b ∈ fp, G b = none) ∧ W i m G) ?_ m0 ⟨0, Hc, Ie, tnd, empty, w0⟩
    rintro m t ⟨i, G, J, tni, none_, wi_⟩
    rcases turn i m G wi_ with ⟨stop, fin⟩ | ⟨go, Nx, less, step⟩
    · refine thnF (Tn.done (X.blk sc Hc scope ce fp) rfl rfl rfl calm i [] t _ G (fun _ _ => False) J (own_ok J none_) tni stop) fun r t2 ⟨er, J2⟩ => ?_
      subst er
      have back : Inv X pins σ G t2 := Ic.call' (ch := fp) J2.os J2.base J2.hok J2.bare fun b hb => ⟨(fc b hb).1.2.2.2.1, (fc b hb).1.2.1, (fc b hb).1.2.2.2.2.1, (fc b hb).1.2.2.2.2.2⟩
      have noC : G sc.heap.objs.size = none := by
        have z : G ce.locals = none := J2.free
        rwa [loc] at z
      obtain ⟨ns, isNs, _⟩ := J2.loc
      have isNs' : t2.heap.Ns ce.locals ns := isNs
      rw [loc] at isNs'
      exact post _ _ t2 ns G back fin isNs' (Ic.fpOk (Nat.le_refl _) noC)
    · refine thnF (Tn.item (X.blk sc Hc scope ce fp) rfl rfl rfl calm i [] t _ G (fun _ _ => False) J (own_ok J none_) tni go) fun r t2 ⟨u, er, h2⟩ => ?_
      subst er
      refine thnF h2 fun _ t3 ⟨x, G3, J3, r3, y3, tn3, none3⟩ => ?_
      have K3 := J3.pinned (own_ok J3 none3) (Tn.obj _ _ tn3)
      refine thnF (pg.run _ t3 _ G3 x u _ K3 r3 (step x G3 y3)) fun _ t4 ⟨ρ4, G4, J4, same4, q4⟩ => ?_
      refine thnF (pt.run _ t4 ρ4 G4 _ J4 q4) fun yes t5 ⟨G5, J5, q5⟩ => ?_
      have next : ∀ {t' : Shared} {G' : Hp}, Inv (X.blk sc Hc scope ce fp) ([] ++ pinsAt fp t3.heap) ρ4 G' t' → Nx G' → ∃ m', m' < m ∧ ∃ i G, Inv (X.blk sc Hc scope ce fp) [] (wipe σ (own.map (·.2))) G t' ∧ tn i t'.heap ∧ (∀ b ∈ fp, G b = none) ∧ W i m' G := fun {t' G'} J' nx => by
        obtain ⟨m', lt, w'⟩ := less G' nx
        have held : ∀ b ∈ fp, ∀ o, t3.heap.get? b = some o → t'.heap.get? b = some o ∧ G' b = none := fun b hb o z =>
          have p := J'.pin (b, o) (List.mem_append_right _ (List.mem_append_right _ (mem_pinsAt hb z)))
          ⟨p.1, p.2.1⟩
        have len : (wipe σ (own.map (·.2))).length = ρ4.length := by rw [← same4, wipe_length]
        refine ⟨m', lt, i + 1, G', (J'.unpinned (pins := [])).weak len (fun j v z => ?_), Tn.keep _ _ _ tn3 fun b hb o z => (held b hb o z).1, fun b hb => ?_, w'⟩
        · rw [← same4] at z
          exact (wipe_some z).1
        · obtain ⟨o, z, _⟩ := Tn.obj _ _ tn3 b hb
          exact (held b hb o z).2
      cases yes with
      | false =>
        simp only [Bool.false_eq_true, if_false] at q5 ⊢
        exact next J5 q5
      | true =>
        simp only [if_true] at q5 ⊢
        refine thnF (pk.run _ t5 ρ4 G5 _ J5 q5) fun ku t6 ⟨yk, G6, J6, r6, q6⟩ => thnF (pv.run _ t6 ρ4 G6 _ J6 q6) fun vu t7 ⟨yv, G7, J7, r7, b, kvs, k, ek, at_b, at_d, few, nx⟩ => ?_
        subst ek
        exact set_tup (X := X.blk sc Hc scope ce fp) (show X.A.units + 1 < cLine by omega) J7 at_d few at_b r6 r7 fun t8 J8 => next J8 nx
  exact codeAny_compStart_dict run (Tn.self X.A 0 _ _ _ tnd run)
/-- as a value -/
theorem pe_dcT {kx vx tg iter : Expr} {ifs : List Expr} {scope : Scope} {own : List (Str × Nat)} {pos : Pos} {wi : TI} {g : TG} {tt : TT} {tk tv : TE} (room : X.A.units + 64 < cLine) (calm : X.calm = true) (nd : X.N.Nodup) (pi : PI X tg iter wi) (ok : BlkOk X.N X.env.scope scope own)
    (pgs : ∀ (s : Shared) (H : Hp) (C : Addr) (cl : List (Str × Addr)) (fp : List Addr), PG (X.blk s H scope (compEnvC scope cl C X.env) fp) tg g) (pts : ∀ (s : Shared) (H : Hp) (C : Addr) (cl : List (Str × Addr)) (fp : List Addr), PTs (X.blk s H scope (compEnvC scope cl C X.env) fp) ifs tt)
    (pks : ∀ (s : Shared) (H : Hp) (C : Addr) (cl : List (Str × Addr)) (fp : List Addr), PE (X.blk s H scope (compEnvC scope cl C X.env) fp) kx tk) (pvs : ∀ (s : Shared) (H : Hp) (C : Addr) (cl : List (Str × Addr)) (fp : List Addr), PE (X.blk s H scope (compEnvC scope cl C X.env) fp) vx tv)
    (fold : ∀ x, foldedSetIterable iter X.env x = pure x := by intro _; rfl) : PE X (.DictComp kx vx [⟨tg, iter, ifs, 0⟩] scope pos) (tDcT wi g tt tk tv (own.map (·.2))) := by
  refine ⟨fun pins s0 σ H0 Q I0 rd => ?_⟩
  rw [arm_eval_DictComp]
  refine dcT_core room calm nd I0 pi ok pgs pts pks pvs fold rd fun D C t ns G J fin isNs ⟨f0, f1, f2, f3, f4, f5⟩ => ⟨ns, isNs, fun h2 sb2 => ⟨.ref D, G, J.turned (t' := t.toks) (fun b o ne z => (sb2.2 b ne).trans z) f0 f1 f3 f4 f5, rfl, fin⟩⟩
/-- name = {..} on one line, the name a local -/
theorem ps_setDcT {i : Nat} {y : Str} {py : Pos} {kx vx tg iter : Expr} {ifs : List Expr} {scope : Scope} {own : List (Str × Nat)} {pos spos : Pos} {wi : TI} {g : TG} {tt : TT} {tk tv : TE} (room : X.A.units + 64 < cLine) (calm : X.calm = true) (nd : X.N.Nodup) (at_y : X.N[i]? = some y) (loc : X.env.scope.names.lookup y = some .local)
    (sw : swapsWith (.DictComp kx vx [⟨tg, iter, ifs, 0⟩] scope pos) (some (.Name y py)) spos.line X.env = pure true) (pi : PI X tg iter wi) (ok : BlkOk X.N X.env.scope scope own)
    (pgs : ∀ (s : Shared) (H : Hp) (C : Addr) (cl : List (Str × Addr)) (fp : List Addr), PG (X.blk s H scope (compEnvC scope cl C X.env) fp) tg g) (pts : ∀ (s : Shared) (H : Hp) (C : Addr) (cl : List (Str × Addr)) (fp : List Addr), PTs (X.blk s H scope (compEnvC scope cl C X.env) fp) ifs tt)
    (pks : ∀ (s : Shared) (H : Hp) (C : Addr) (cl : List (Str × Addr)) (fp : List Addr), PE (X.blk s H scope (compEnvC scope cl C X.env) fp) kx tk) (pvs : ∀ (s : Shared) (H : Hp) (C : Addr) (cl : List (Str × Addr)) (fp : List Addr), PE (X.blk s H scope (compEnvC scope cl C X.env) fp) vx tv)
    (fold : ∀ x, foldedSetIterable iter X.env x = pure x := by intro _; rfl) : PS X (.Assign [.Name y py] (.DictComp kx vx [⟨tg, iter, ifs, 0⟩] scope pos) spos) (tAsg (tDcT wi g tt tk tv (own.map (·.2))) (gName i)) := by
  refine ⟨fun pins s0 σ H0 D I0 rd => ?_⟩
  rw [exec_Assign_Name_used _ _ _ _ sw]
  refine wpAny_bind (wpAny_standAt (wpAny_bind ?_))
  show wpAny _ X.A (do let _ ← comprehension (.DictComp kx vx [⟨tg, iter, ifs, 0⟩] scope pos) scope X.env (firstIterPos [⟨tg, iter, ifs, 0⟩] pos) newDict false (eval iter X.env) (some (assign (.Name y py) X.env))) _ _ s0
  have rd' : tDcT wi g tt tk tv (own.map (·.2)) σ H0 (fun x G => gName i x σ G D.nx) := rd
  refine wpAny_bind (thn (dcT_core (Qf := fun _ t => SP X pins D .next t) room calm nd I0 pi ok pgs pts pks pvs fold rd' fun L C t ns G J fin isNs fo => ?_) fun _ _ z => wpAny_pure (wpAny_pure z))
  obtain ⟨f0, f1, f2, f3, f4, f5⟩ := fo
  show wpAny _ _ (assign (.Name y py) X.env (.ref L)) _ _ _
  refine wpAny_assign_Name (store_ok2 (v := V.ref L) J nd at_y (.inl loc) rfl (fun t2 J2 ⟨c, sb, hc⟩ => ?_) (.inr loc))
  have ne : C ≠ c := hc.elim (fun z => z ▸ f1) fun z e => f4 y c z e.symm
  exact ⟨ns, isNs.sameBut sb ne, fun h3 sb3 => ⟨_, G, J2.turned (t' := t2.toks) (fun b o hb e => (sb3.2 b hb).trans e) f0 f1 f3 f4 f5, fin⟩⟩
theorem sw_dict {kx vx : Expr} {gs : List Comprehension} {scope : Scope} {pos py : Pos} {y : Str} {l : Nat} {env : Env} (fn : env.scope.kind = .function) (loc : env.scope.names.lookup y = some .local) (row : (py.line == pos.line) = true)
    (other : (scope.names.any fun (n, k) => n == y && (k == .local || k == .cell)) = false) : swapsWith (.DictComp kx vx gs scope pos) (some (.Name y py)) l env = pure true := by
  have k1 : env.kindOf y = some .local := loc
  have k2 : env.blockKind = .function := by
    unfold Env.blockKind
    rw [fn]
    rfl
  unfold swapsWith
  simp only [k1, k2, other, Expr.pos, row]
  rfl
end
end DcT

/-! sorted(d), the keys of d tuples of ints, of any number. -/
namespace SortR
open PySem PySem.Spec PyProof.Rows L2 PySem.W
theorem enc_alikeT (p q : Addr × List Int) : alike (PyData.tuple (p.2.map .int)) (PyData.tuple (q.2.map .int)) = true := by
  simp only [alike]
  exact alike_ints p.2 q.2
theorem le_tuples : dataLe false (fun b : Addr × List Int => PyData.tuple (b.2.map .int)) = rowLe := by
  have e : dataLe false (fun b : Addr × List Int => PyData.tuple (b.2.map .int)) = dataLe false (fun b : Addr × List Int => PyData.list (b.2.map .int)) := by
    funext p q
    simp only [dataLe_eq, dataLt_tuple, dataLt_list]
  rw [e]
  exact dataLe_rows (fun b : Addr × List Int => b.2)
/-- the keys' tuples, in the dict's sequence -/
theorem key_rows {H : Hp} : ∀ {kvs : List (List L2.Key × V)} {ks : List (List L2.Key × Addr × Value)} {bs : List (List Int)},
    Paired (fun (p : List L2.Key × V) (q : List L2.Key × Addr × Value) => p.1 = q.1 ∧ H q.2.1 = some (.tup (p.1.map kV)) ∧ RelV p.2 q.2.2) kvs ks → kvs.map (·.1) = bs.map (fun ns => ns.map Sum.inl) →
    ∃ as : List (Addr × List Int), as.map (·.1) = ks.map (·.2.1) ∧ as.map (·.2) = bs ∧ ∀ b ∈ as, H b.1 = some (.tup (b.2.map V.int))
  | _, _, [], .nil, _ => ⟨[], rfl, rfl, fun _ m => nomatch m⟩
  | _, _, n :: bs, .cons (a := p) (b := q) h t, e => by
    rw [List.map_cons, List.map_cons] at e
    obtain ⟨e1, e2⟩ := List.cons.inj e
    obtain ⟨as, f1, f2, f3⟩ := key_rows t e2
    refine ⟨(q.2.1, n) :: as, by rw [List.map_cons, List.map_cons, f1], by rw [List.map_cons, f2], fun b m => ?_⟩
    rcases List.mem_cons.mp m with z | z
    · rw [z]
      have g := h.2.1
      rw [e1, List.map_map] at g
      exact g
    · exact f3 b z
  | _, _, [], .cons _ _, e => by cases e
  | _, _, _ :: _, .nil, e => by cases e
section
variable {X : Cx}
theorem call_sortedDT (hu : X.A.units + 64 < cLine) (calm : X.calm = true) : CallR X (.builtin "sorted") (fun xs H Q => ∃ (d : Addr) (kvs : List (List L2.Key × V)) (bs : List (List Int)), xs = [V.ref d] ∧ H d = some (.dT kvs) ∧ kvs.map (·.1) = bs.map (fun ns => ns.map Sum.inl) ∧ (∀ k ∈ bs, k ≠ []) ∧
    ∀ as : List (Addr × List Int), as.map (·.2) = bs → (∀ b ∈ as, H b.1 = some (.tup (b.2.map V.int))) → ∀ p, H p = none → Q (.ref p) (upd H p (.lst ((as.mergeSort rowLe).map fun b => V.ref b.1)))) := by
  intro pins s σ H xs us Q I r h
  obtain ⟨d, kvs, bs, rfl, hd, hk, hne, q⟩ := h
  obtain ⟨u, rfl, ru⟩ := vals1 r
  obtain rfl : u = Value.ref d := ru
  obtain ⟨z, hs, ks, pr, o, es, ep, ho, hx, hdt, he, hn⟩ := (show ObjOk X.prog X.w H s.heap d (.dT kvs) from I.hok d _ hd)
  obtain ⟨as, a1, a2, a3⟩ := key_rows pr hk
  have l0 : es.size = ks.length := size_of_entries he
  have l1 : kvs.length = ks.length := Paired.length pr
  have l2 : as.length = ks.length := by rw [← List.length_map (f := (·.1)), a1, List.length_map]
  have fits : ks.length ≤ sizeLine := l1 ▸ z
  refine Calls.call_function_entry PyProof.Rows.kind_sorted PyProof.Rows.plain_sorted PyProof.Rows.entry_sorted (PyProof.Rows.args_sorted1 _) ?_
  unfold Builtin.«sorted»
  refine wpAny_bind (m := checkCount "sorted" 1 1 _) (wpAny_pure (wpAny_bind (kdu_collect (A := X.A.in1) (kdl_raw hs hx hdt) (I.ok.hd calm) ho (l0 ▸ fits) fun h1 tk acc keep it => ?_)))
  have ea : acc.toList = as.map fun b => Value.ref b.1 := by
    have e1 : acc.toList = ks.map fun x => Value.ref x.2.1 := by
      have len : acc.toList.length = ks.length := by rw [Array.length_toList, it.1, l0]
      refine List.ext_getElem (by rw [List.length_map, len]) fun j j1 j2 => ?_
      obtain ⟨en, hen, hv⟩ := it.2 j acc.toList[j] (by rw [← Array.getElem?_toList, List.getElem?_eq_getElem j1])
      have at_j := entry_at he j
      rw [hen, List.getElem?_eq_getElem (len ▸ j1)] at at_j
      have e2 : en = entryOfKey (tupleKind (mixKind X.prog X.w)) (ks[j]'(len ▸ j1)) := Option.some.inj at_j
      rw [hv, e2, List.getElem_map]
      rfl
    rw [e1]
    have e3 := congrArg (List.map Value.ref) a1
    rw [List.map_map, List.map_map] at e3
    exact e3.symm
  have len : acc.toList.length = as.length := by rw [ea, List.length_map]
  have I1 : Inv X pins σ H { s with heap := h1, toks := tk } := I.kept keep
  refine wpAny_bind (wpAny_newList ?_ (by rw [len, l2]; exact fits))
  have at_p : (h1.push (seqObj "list" acc.toList.toArray 0)).get? h1.objs.size = some (seqObj "list" acc.toList.toArray 0) := Heap.get?_push_size _ rfl
  have old : ∀ b u, h1.get? b = some u → b ≠ h1.objs.size ∧ (h1.push (seqObj "list" acc.toList.toArray 0)).get? b = some u := fun b u e => ⟨Nat.ne_of_lt (Heap.lt_size e), Heap.get?_push_of_some _ e⟩
  have each : EachIs (fun v (b : Addr × List Int) => v = Value.ref b.1 ∧ True) acc.toList as := by
    have vr : Vals (as.map fun b => V.ref b.1) acc.toList := by
      rw [ea]
      clear ea a1 a2 a3 l2 len q it
      induction as with
      | nil => exact .nil
      | cons b as ih => exact .cons rfl ih
    exact vals_each (h := s.heap) (K := X.K) (H := H) (P := fun _ => True) vr fun _ _ => trivial
  obtain ⟨hS, ehS⟩ : ∃ z, z = sortingHeap (h1.push (seqObj "list" acc.toList.toArray 0)) h1.objs.size acc.toList := ⟨_, rfl⟩
  have reads : EachIs (fun v (b : Addr × List Int) => ∃ rs, Reads hS v (PyData.tuple (b.2.map .int)) rs) acc.toList as := by
    have each2 : EachIs (fun v (b : Addr × List Int) => v = Value.ref b.1 ∧ H b.1 = some (.tup (b.2.map V.int))) acc.toList as := by
      have vr : Vals (as.map fun b => V.ref b.1) acc.toList := each_back each
      exact vals_each (h := s.heap) (K := X.K) (H := H) vr a3
    refine each_mono each2 fun v b ⟨ev, hb⟩ => ?_
    rw [ev]
    obtain ⟨rs, rr⟩ := Dp.reads I1 (PyData.tuple (b.2.map .int)) (.ref b.1) (.ref b.1) (.tup (SqT.of hb) (rows_dp b.2)) rfl
    refine ⟨rs, PyProof.Rows.Reads.keeps (fun c u e => ?_) rr⟩
    rw [ehS]
    obtain ⟨n1, n2⟩ := old c u e
    exact sortingHeap_old n1 n2
  have alikeAll_ : AllAlike (as.map fun b => PyData.tuple (b.2.map .int)) := AllAlike.of enc_alikeT
  have sortable : Sortable (as.map fun b => PyData.tuple (b.2.map .int)) := .inl fun dd hm => by
    obtain ⟨b, hb, rfl⟩ := List.mem_map.mp hm
    have mem : b.2 ∈ bs := a2 ▸ List.mem_map.mpr ⟨b, hb, rfl⟩
    cases e : b.2 with
    | nil => exact absurd e (hne _ mem)
    | cons x l => exact ⟨_, _, rfl⟩
  have shallow : ∀ dd ∈ as.map (fun b => PyData.tuple (b.2.map .int)), dd.depth = 1 := fun dd hm => by
    obtain ⟨b, _, rfl⟩ := List.mem_map.mp hm
    simp only [PyData.depth, depth_ints]
  show wpAny _ _ _ _ _ { s with heap := h1.push (seqObj "list" acc.toList.toArray 0), toks := tk }
  have sorts : ∀ Ar : Around, Ar.units ≤ X.A.units + 8 → SortsAt X.prog X.w Ar { s with heap := hS, toks := tk } (dataKind hS (as.map fun b => PyData.tuple (b.2.map .int))) acc.toList := fun Ar hA =>
    SortsAt.data (s := { s with heap := hS, toks := tk }) (each_map (R := fun v dd => ∃ rs, Reads hS v dd rs) (fun b : Addr × List Int => PyData.tuple (b.2.map .int)) reads) alikeAll_ sortable fun dd hm => by rw [shallow dd hm]; omega
  rw [ehS] at sorts reads
  have each3 := sortVals_data (R := fun v (b : Addr × List Int) => v = Value.ref b.1 ∧ True) (enc := fun b : Addr × List Int => PyData.tuple (b.2.map .int)) false each reads alikeAll_
  rw [le_tuples] at each3
  have back := each_back each3
  have short : ((as.mergeSort rowLe).map fun b => V.ref b.1).length ≤ sizeLine := by
    rw [List.length_map, List.length_mergeSort, l2]
    exact fits
  refine wpAny_bind (wpAny_holding (wpAny_call_entry PyProof.Rows.slot_list_sort ⟨_, at_p, rfl⟩ PyProof.Rows.entry_list_sort
    (list_sort_vals (s := { s with heap := h1.push (seqObj "list" acc.toList.toArray 0), toks := tk }) at_p (sorts _ (by show X.A.units + 1 + 1 ≤ X.A.units + 8; omega)) (by rw [len, l2]; exact fits) ⟨_, rfl, ?_⟩) (PyProof.Rows.args_list_sort _)))
  obtain ⟨n2, at2⟩ := PyProof.Rows.sortedHeap_at (vs := acc.toList) (out := (sortVals (dataKind (sortingHeap (h1.push (seqObj "list" acc.toList.toArray 0)) h1.objs.size acc.toList) (as.map fun b => PyData.tuple (b.2.map .int))) false acc.toList acc.toList).toArray) at_p
  refine wpAny_pure ⟨_, rfl, .ref h1.objs.size, upd H h1.objs.size (.lst ((as.mergeSort rowLe).map fun b => V.ref b.1)), I1.laid (t' := tk) (fun b u e => ?_) (Nat.le_refl _) ⟨short, _, n2, back, at2⟩, rfl, q as a2 a3 _ (I1.hok.fresh (Nat.le_refl _))⟩
  obtain ⟨n1, g⟩ := old b u e
  rw [PyProof.Rows.sortedHeap_old n1 (Heap.lt_size g)]
  exact g
end
end SortR

/-! Comprehensions with a test, and dict comprehensions, by the value of each turn. -/
namespace LcM
open PySem PySem.Spec PyProof.Rows L2
/-- what is kept -/
def kept (p : Nat → Bool) (F : Nat → V) (n : Nat) : List V := ((List.range n).filter p).map F
theorem kept_yes {p : Nat → Bool} {F : Nat → V} {n : Nat} (h : p n = true) : kept p F (n + 1) = kept p F n ++ [F n] := by
  unfold kept
  rw [List.range_succ, List.filter_append, List.map_append, List.filter_cons_of_pos h]
  rfl
theorem kept_no {p : Nat → Bool} {F : Nat → V} {n : Nat} (h : p n = false) : kept p F (n + 1) = kept p F n := by
  unfold kept
  rw [List.range_succ, List.filter_append, List.map_append, List.filter_cons_of_neg (by rw [h]; exact Bool.false_ne_true)]
  exact List.append_nil _
theorem kept_le (p : Nat → Bool) (F : Nat → V) (n : Nat) : (kept p F n).length ≤ n := by
  unfold kept
  rw [List.length_map]
  exact Nat.le_trans (List.length_filter_le _ _) (Nat.le_of_eq List.length_range)
section
variable {K : PySem.W.Frag} {a : Addr} {xs : List V} {g : TG} {tt : TT} {te tk tv : TE} {vs : List Nat} {σ : L2.St} {H0 : Hp} {D : Addr} {Qd : Hp → Prop}
theorem lc_listT (p : Nat → Bool) (F : Nat → V) (hD : H0 D = none) (hx : SqL K H0 a xs) (small : xs.length ≤ 1000000)
    (turn : ∀ (i : Nat) (x : V) (H : Hp) (Ry : V → Hp → Prop) (Rn : Hp → Prop), xs[i]? = some x → Grows H0 H → (p i = true → ∀ H4, Grows H H4 → Ry (F i) H4) → (p i = false → ∀ H4, Grows H H4 → Rn H4) →
      g x (wipe σ vs) H fun σ2 H2 => wipe σ2 vs = wipe σ vs ∧ tt σ2 H2 fun t H3 => if t = true then te σ2 H3 Ry else Rn H3)
    (done : ∀ H, Grows H0 H → H D = some (.lst (kept p F xs.length)) → Qd H) :
    ∃ W : Nat → Nat → Hp → Prop, (∃ m, W 0 m (upd H0 D (.lst []))) ∧ ∀ i m H, W i m H →
      ((Itl K a).stop i H ∧ Qd H) ∨ ((Itl K a).go i H ∧ ∃ Nx : Hp → Prop, (∀ H', Nx H' → ∃ m', m' < m ∧ W (i + 1) m' H') ∧ ∀ x H', (Itl K a).yld i H x H' → g x (wipe σ vs) H' fun σ2 H2 => wipe σ2 vs = wipe σ vs ∧ tt σ2 H2 fun b H3 =>
        if b = true then te σ2 H3 fun y H4 => ∃ acc, H4 D = some (.lst acc) ∧ acc.length < sizeLine ∧ Nx (upd H4 D (.lst (acc ++ [y]))) else Nx H3) := by
  refine lc_list (fun i H => Grows H0 H ∧ H D = some (.lst (kept p F i))) ⟨Grows.new hD, upd_same⟩ (fun i H _ m => m.1.seq hx) (fun i x H ex m => ?_) fun H m => done H m.1 m.2
  have il := Nat.lt_of_lt_of_le (List.getElem?_eq_some_iff.mp ex).1 small
  refine turn i x H _ _ ex m.1 (fun hp H4 s => ⟨_, s _ _ m.2, ?_, fun b o e => ?_, ?_⟩) fun hp H4 s => ⟨m.1.trans s, ?_⟩
  · exact Nat.lt_of_le_of_lt (kept_le p F i) (Nat.lt_trans il (by decide))
  · rw [upd_ne (ne_of_none e hD)]
    exact s _ _ (m.1 _ _ e)
  · rw [upd_same, kept_yes hp]
  · rw [kept_no hp]
    exact s _ _ m.2
/-- a dict's entries, laid one after another -/
def laid {κ : Type} [DecidableEq κ] (p : Nat → Bool) (G : Nat → κ) (F : Nat → V) : Nat → List (κ × V)
  | 0 => []
  | n + 1 => if p n = true then putK (laid p G F n) (G n) (F n) else laid p G F n
theorem laid_le {κ : Type} [DecidableEq κ] (p : Nat → Bool) (G : Nat → κ) (F : Nat → V) : ∀ n, (laid p G F n).length ≤ n
  | 0 => Nat.le_refl _
  | n + 1 => by
    have ih := laid_le p G F n
    unfold laid
    by_cases h : p n = true
    · rw [if_pos h]
      exact Nat.le_trans (length_putK _ _ _) (Nat.succ_le_succ ih)
    · rw [if_neg h]
      exact Nat.le_succ_of_le ih
/-- over enumerate, keys ints or texts, no test -/
theorem dc_enumM (G : Nat → L2.Key) (F : Nat → V) (hD : H0 D = none) (hx : SqL K H0 a xs) (small : xs.length ≤ 1000000)
    (turn : ∀ (i : Nat) (x : V) (T : Addr) (H : Hp) (R : V → Hp → V → Hp → Prop), xs[i]? = some x → Grows H0 H → H T = none → (∀ H4 H5, Grows (upd H T (.tup [.int (i : Nat), x])) H4 → Grows H4 H5 → R (kV (G i)) H4 (F i) H5) →
      g (.ref T) (wipe σ vs) (upd H T (.tup [.int (i : Nat), x])) fun σ2 H2 => wipe σ2 vs = wipe σ vs ∧ tk σ2 H2 fun y H4 => tv σ2 H4 fun z H5 => R y H4 z H5)
    (done : ∀ H, Grows H0 H → H D = some (.dK (laid (fun _ => true) G F xs.length)) → Qd H) :
    ∃ W : Nat → Nat → Hp → Prop, (∃ m, W 0 m (upd H0 D (.dK []))) ∧ ∀ i m H, W i m H →
      ((Ite K a).stop i H ∧ Qd H) ∨ ((Ite K a).go i H ∧ ∃ Nx : Hp → Prop, (∀ H', Nx H' → ∃ m', m' < m ∧ W (i + 1) m' H') ∧ ∀ x H', (Ite K a).yld i H x H' → g x (wipe σ vs) H' fun σ2 H2 => wipe σ2 vs = wipe σ vs ∧ tYes σ2 H2 fun b H3 =>
        if b = true then tk σ2 H3 fun y H4 => tv σ2 H4 fun z H5 => ∃ kvs k, y = kV k ∧ H5 D = some (.dK kvs) ∧ kvs.length < sizeLine ∧ Nx (upd H5 D (.dK (putK kvs k z))) else Nx H3) := by
  let inv : Nat → Hp → Prop := fun i H => Grows H0 H ∧ H D = some (.dK (laid (fun _ => true) G F i))
  refine ⟨fun i m H => m = xs.length - i ∧ i ≤ xs.length ∧ inv i H, ⟨_, rfl, Nat.zero_le _, Grows.new hD, upd_same⟩, ?_⟩
  rintro i m H ⟨rfl, hi, pv⟩
  rcases Nat.lt_or_ge i xs.length with lt | ge
  · have ex : xs[i]? = some xs[i] := List.getElem?_eq_getElem lt
    refine .inr ⟨⟨xs, _, pv.1.seq hx, ex⟩, inv (i + 1), fun H' p' => ⟨xs.length - (i + 1), by omega, rfl, lt, p'⟩, fun v H' y => ?_⟩
    obtain ⟨T, x, rfl, hT, rfl, f1⟩ := y
    have e0 : (fun (σ2 : L2.St) (H2 : Hp) => wipe σ2 vs = wipe σ vs ∧ tYes σ2 H2 fun b H3 => if b = true then tk σ2 H3 fun y H4 => tv σ2 H4 fun z H5 => ∃ kvs k, y = kV k ∧ H5 D = some (.dK kvs) ∧ kvs.length < sizeLine ∧ inv (i + 1) (upd H5 D (.dK (putK kvs k z))) else inv (i + 1) H3) =
        fun σ2 H2 => wipe σ2 vs = wipe σ vs ∧ tk σ2 H2 fun y H4 => tv σ2 H4 fun z H5 => ∃ kvs k, y = kV k ∧ H5 D = some (.dK kvs) ∧ kvs.length < sizeLine ∧ inv (i + 1) (upd H5 D (.dK (putK kvs k z))) := by
      funext σ2 H2
      unfold tYes
      dsimp only
      rw [if_pos rfl]
    rw [e0]
    refine turn i x T H (fun y _ z H5 => ∃ kvs k, y = kV k ∧ H5 D = some (.dK kvs) ∧ kvs.length < sizeLine ∧ inv (i + 1) (upd H5 D (.dK (putK kvs k z)))) (f1 xs (pv.1.seq hx)) pv.1 hT fun H4 H5 s4 s5 => ⟨_, G i, rfl, s5 _ _ (s4 _ _ (Grows.new hT _ _ pv.2)), ?_, fun b o e => ?_, ?_⟩
    · exact Nat.lt_of_le_of_lt (laid_le _ G F i) (Nat.lt_of_lt_of_le lt (Nat.le_trans small (by decide)))
    · rw [upd_ne (ne_of_none e hD)]
      exact s5 _ _ (s4 _ _ (Grows.new hT _ _ (pv.1 _ _ e)))
    · rw [upd_same]
      rfl
  · have e : i = xs.length := by omega
    subst e
    exact .inl ⟨⟨xs, pv.1.seq hx, Nat.le_refl _⟩, done H pv.1 pv.2⟩
/-- over a list, the keys tuples, with a test -/
theorem dc_listTT (p : Nat → Bool) (G : Nat → List L2.Key) (F : Nat → V) (hD : H0 D = none) (hx : SqL K H0 a xs) (small : xs.length ≤ 1000000)
    (turn : ∀ (i : Nat) (x : V) (H : Hp) (R : V → V → Hp → Prop) (Rn : Hp → Prop), xs[i]? = some x → Grows H0 H → (p i = true → ∀ b H5, Grows H H5 → H5 b = some (.tup ((G i).map kV)) → R (.ref b) (F i) H5) → (p i = false → ∀ H4, Grows H H4 → Rn H4) →
      g x (wipe σ vs) H fun σ2 H2 => wipe σ2 vs = wipe σ vs ∧ tt σ2 H2 fun t H3 => if t = true then tk σ2 H3 fun y H4 => tv σ2 H4 fun z H5 => R y z H5 else Rn H3)
    (done : ∀ H, Grows H0 H → H D = some (.dT (laid p G F xs.length)) → Qd H) :
    ∃ W : Nat → Nat → Hp → Prop, (∃ m, W 0 m (upd H0 D (.dT []))) ∧ ∀ i m H, W i m H →
      ((Itl K a).stop i H ∧ Qd H) ∨ ((Itl K a).go i H ∧ ∃ Nx : Hp → Prop, (∀ H', Nx H' → ∃ m', m' < m ∧ W (i + 1) m' H') ∧ ∀ x H', (Itl K a).yld i H x H' → g x (wipe σ vs) H' fun σ2 H2 => wipe σ2 vs = wipe σ vs ∧ tt σ2 H2 fun t H3 =>
        if t = true then tk σ2 H3 fun y H4 => tv σ2 H4 fun z H5 => ∃ b kvs k, y = .ref b ∧ H5 b = some (.tup (k.map kV)) ∧ H5 D = some (.dT kvs) ∧ kvs.length < sizeLine ∧ Nx (upd H5 D (.dT (putK kvs k z))) else Nx H3) := by
  let inv : Nat → Hp → Prop := fun i H => Grows H0 H ∧ H D = some (.dT (laid p G F i))
  refine ⟨fun i m H => m = xs.length - i ∧ i ≤ xs.length ∧ inv i H, ⟨_, rfl, Nat.zero_le _, Grows.new hD, upd_same⟩, ?_⟩
  rintro i m H ⟨rfl, hi, pv⟩
  rcases Nat.lt_or_ge i xs.length with lt | ge
  · have ex : xs[i]? = some xs[i] := List.getElem?_eq_getElem lt
    refine .inr ⟨⟨xs, _, pv.1.seq hx, ex⟩, inv (i + 1), fun H' p' => ⟨xs.length - (i + 1), by omega, rfl, lt, p'⟩, fun v H' y => ?_⟩
    obtain ⟨rfl, y⟩ := y
    refine turn i v _ (fun y z H5 => ∃ b kvs k, y = .ref b ∧ H5 b = some (.tup (k.map kV)) ∧ H5 D = some (.dT kvs) ∧ kvs.length < sizeLine ∧ inv (i + 1) (upd H5 D (.dT (putK kvs k z)))) (inv (i + 1)) (y xs (pv.1.seq hx)) pv.1 (fun hp b H5 s5 hb => ⟨b, _, G i, rfl, hb, s5 _ _ pv.2, ?_, fun c o e => ?_, ?_⟩) fun hp H4 s4 => ⟨pv.1.trans s4, ?_⟩
    · exact Nat.lt_of_le_of_lt (laid_le _ G F i) (Nat.lt_of_lt_of_le lt (Nat.le_trans small (by decide)))
    · rw [upd_ne (ne_of_none e hD)]
      exact s5 _ _ (pv.1 _ _ e)
    · rw [upd_same]
      show _ = some (HO.dT (if p i = true then _ else _))
      rw [if_pos hp]
    · rw [s4 _ _ pv.2]
      show _ = some (HO.dT (if p i = true then _ else _))
      rw [if_neg (by rw [hp]; exact Bool.false_ne_true)]
  · have e : i = xs.length := by omega
    subst e
    exact .inl ⟨⟨xs, pv.1.seq hx, Nat.le_refl _⟩, done H pv.1 pv.2⟩
end
end LcM

/-! A comprehension that makes new lists of ints. -/
namespace LcM
open PySem PySem.Spec PyProof.Rows L2
/-- new lists of ints -/
structure Nw (H0 H : Hp) (cs : List (Addr × List Int)) : Prop where
  lists : ∀ c ∈ cs, H c.1 = some (.lst (c.2.map V.int))
  new : ∀ c ∈ cs, H0 c.1 = none
  nodup : (cs.map (·.1)).Nodup
theorem Nw.keep {H0 H H' : Hp} {cs : List (Addr × List Int)} (n : Nw H0 H cs) (s : Grows H H') : Nw H0 H' cs := ⟨fun c m => s _ _ (n.lists c m), n.new, n.nodup⟩
section
variable {K : PySem.W.Frag} {a : Addr} {xs : List V} {g : TG} {te : TE} {vs : List Nat} {σ : L2.St} {H0 : Hp} {D : Addr} {Qd : Hp → Prop}
theorem lc_listR (R : Nat → List Int) (hD : H0 D = none) (hx : SqL K H0 a xs) (small : xs.length ≤ 1000000)
    (turn : ∀ (i : Nat) (x : V) (H : Hp) (Rk : V → Hp → Prop), xs[i]? = some x → Grows H0 H → (∀ q H4, Grows H H4 → H q = none → H4 q = some (.lst ((R i).map V.int)) → Rk (.ref q) H4) → g x (wipe σ vs) H fun σ2 H2 => wipe σ2 vs = wipe σ vs ∧ te σ2 H2 Rk)
    (done : ∀ H cs, Grows H0 H → cs.map (·.2) = (List.range xs.length).map R → Nw H0 H cs → (∀ c ∈ cs, c.1 ≠ D) → H D = some (.lst (cs.map fun c => V.ref c.1)) → Qd H) :
    ∃ W : Nat → Nat → Hp → Prop, (∃ m, W 0 m (upd H0 D (.lst []))) ∧ ∀ i m H, W i m H →
      ((Itl K a).stop i H ∧ Qd H) ∨ ((Itl K a).go i H ∧ ∃ Nx : Hp → Prop, (∀ H', Nx H' → ∃ m', m' < m ∧ W (i + 1) m' H') ∧ ∀ x H', (Itl K a).yld i H x H' → g x (wipe σ vs) H' fun σ2 H2 => wipe σ2 vs = wipe σ vs ∧ tYes σ2 H2 fun b H3 =>
        if b = true then te σ2 H3 fun y H4 => ∃ acc, H4 D = some (.lst acc) ∧ acc.length < sizeLine ∧ Nx (upd H4 D (.lst (acc ++ [y]))) else Nx H3) := by
  refine lc_list (fun i H => ∃ cs : List (Addr × List Int), Grows H0 H ∧ cs.map (·.2) = (List.range i).map R ∧ Nw H0 H cs ∧ (∀ c ∈ cs, c.1 ≠ D) ∧ H D = some (.lst (cs.map fun c => V.ref c.1)))
    ⟨[], Grows.new hD, rfl, ⟨(fun _ m => nomatch m), (fun _ m => nomatch m), List.Pairwise.nil⟩, (fun _ m => nomatch m), upd_same⟩ (fun i H _ ⟨_, s, _⟩ => s.seq hx) (fun i x H ex ⟨cs, s, e, n, apart, top⟩ => ?_) fun H ⟨cs, s, e, n, apart, top⟩ => done H cs s e n apart top
  rw [yes_eq (A := fun σ2 => wipe σ2 vs = wipe σ vs)]
  refine turn i x H _ ex s fun q H4 s4 hq at_q => ?_
  have il := Nat.lt_of_lt_of_le (List.getElem?_eq_some_iff.mp ex).1 small
  have len : cs.length = i := by
    have := congrArg List.length e
    rw [List.length_map, List.length_map, List.length_range] at this
    exact this
  have qD : q ≠ D := fun z => by
    rw [z, top] at hq
    cases hq
  have all : Grows H0 (upd H4 D (.lst (cs.map (fun c => V.ref c.1) ++ [.ref q]))) := fun b o eb => by
    rw [upd_ne (ne_of_none eb hD)]
    exact s4 _ _ (s _ _ eb)
  have q0 : H0 q = none := by
    rcases Option.eq_none_or_eq_some (H0 q) with z | ⟨o, z⟩
    · exact z
    · have := s _ _ z
      rw [hq] at this
      cases this
  refine ⟨_, s4 _ _ top, ?_, cs ++ [(q, R i)], all, ?_, ⟨?_, ?_, ?_⟩, ?_, ?_⟩
  · rw [List.length_map, len]
    exact Nat.lt_trans il (by decide)
  · rw [List.map_append, e, List.range_succ, List.map_append]
    rfl
  · intro c m
    rcases List.mem_append.mp m with m | m
    · rw [upd_ne (apart c m)]
      exact s4 _ _ (n.lists c m)
    · rw [List.mem_singleton.mp m, upd_ne qD]
      exact at_q
  · intro c m
    rcases List.mem_append.mp m with m | m
    · exact n.new c m
    · rw [List.mem_singleton.mp m]
      exact q0
  · rw [List.map_append, List.nodup_append]
    refine ⟨n.nodup, List.nodup_cons.mpr ⟨(fun z => nomatch z), List.Pairwise.nil⟩, fun b mb d md => ?_⟩
    obtain ⟨c, mc, rfl⟩ := List.mem_map.mp mb
    have ed : d = q := by simpa using md
    rw [ed]
    intro z
    have := n.lists c mc
    rw [z, hq] at this
    cases this
  · intro c m
    rcases List.mem_append.mp m with m | m
    · exact apart c m
    · rw [List.mem_singleton.mp m]
      exact qD
  · rw [upd_same, List.map_append]
    rfl
end
end LcM

/-! Rules with their readings named by K, for use within comprehensions. -/
namespace LcM
open PySem PySem.Spec PyProof.Rows L2
def rLenS (K : PySem.W.Frag) : List V → Hp → VK → Prop := fun xs H Q => ∃ p ys, xs = [.ref p] ∧ (SqL K H p ys ∨ SqT K H p ys) ∧ Q (.int ys.length) H
def rLst (K : PySem.W.Frag) : List V → Hp → VK → Prop := fun xs H Q => ∃ p ys, xs = [.ref p] ∧ (SqL K H p ys ∨ SqT K H p ys) ∧ ∀ l, H l = none → Q (.ref l) (upd H l (.lst ys))
def rTup (K : PySem.W.Frag) : List V → Hp → VK → Prop := fun xs H Q => ∃ p ys, xs = [.ref p] ∧ SqL K H p ys ∧ ∀ t, H t = none → Q (.ref t) (upd H t (.tup ys))
section
variable {X : Cx}
theorem call_lenK : CallR X (.builtin "len") (rLenS X.K) := fun pins s σ H xs us Q I r ⟨p, ys, e, h, q⟩ => call_len_seq pins s σ H xs us Q I r ⟨p, ys, e, h, q⟩
theorem call_lstK : CallR X (.type "list") (rLst X.K) := fun pins s σ H xs us Q I r ⟨p, ys, e, h, q⟩ => call_list_of pins s σ H xs us Q I r ⟨p, ys, e, h, q⟩
theorem call_tupK : CallR X (.type "tuple") (rTup X.K) := fun pins s σ H xs us Q I r ⟨p, ys, e, h, q⟩ => call_tuple_of pins s σ H xs us Q I r ⟨p, ys, e, .inl ⟨h, q⟩⟩
end
end LcM

/-! What cut gives, on lists of lists of ints. -/
namespace LcM
open PySem PySem.Spec PyProof.Rows L2 SortR
/-- the last place of x among the first n -/
def plcN (ns : List Int) (x : Int) : Nat → Option Nat
  | 0 => none
  | n + 1 => if ns.getD n 0 = x then some n else plcN ns x n
def plc (ns : List Int) (x : Int) : Option Nat := plcN ns x ns.length
theorem valV_laid (ns : List Int) (x : Int) : ∀ n, valV (laid (fun _ => true) (fun i => (Sum.inl (ns.getD i 0) : L2.Key)) (fun i => V.int (i : Nat)) n) (Sum.inl x) = (plcN ns x n).map fun j => V.int (j : Nat)
  | 0 => rfl
  | n + 1 => by
    have ih := valV_laid ns x n
    unfold laid plcN
    rw [if_pos rfl, valV_put]
    by_cases e : ns.getD n 0 = x
    · rw [if_pos e, if_pos (by rw [e])]
      rfl
    · rw [if_neg e, if_neg (fun z => e (Sum.inl.inj z).symm)]
      exact ih
/-- a group's persons who stay, by their places -/
def meet (ns r : List Int) : List Int := ((List.range r.length).filter fun i => (plc ns (r.getD i 0)).isSome).map fun i => (((plc ns (r.getD i 0)).getD 0 : Nat) : Int)
def two (m : List Int) : Bool := decide (2 ≤ (m.length : Int))
/-- unlike rows, in the sequence in which they come first -/
def firsts (p : Nat → Bool) (M : Nat → List Int) : Nat → List (List Int)
  | 0 => []
  | n + 1 => if p n = true then (if M n ∈ firsts p M n then firsts p M n else firsts p M n ++ [M n]) else firsts p M n
theorem put_keys {κ : Type} [DecidableEq κ] (kvs : List (κ × V)) (k : κ) (v : V) : (putK kvs k v).map (·.1) = if k ∈ kvs.map (·.1) then kvs.map (·.1) else kvs.map (·.1) ++ [k] := by
  unfold putK
  by_cases h : (kvs.any fun kv => decide (kv.1 = k)) = true
  · rw [if_pos h]
    obtain ⟨kv, hm, e⟩ := List.any_eq_true.mp h
    rw [if_pos (List.mem_map.mpr ⟨kv, hm, of_decide_eq_true e⟩), List.map_map]
    refine List.map_congr_left fun q _ => ?_
    show (if q.1 = k then (q.1, v) else q).1 = q.1
    split <;> rfl
  · rw [if_neg h, if_neg fun z => ?_, List.map_append]
    · rfl
    · obtain ⟨kv, hm, e⟩ := List.mem_map.mp z
      exact h (List.any_eq_true.mpr ⟨kv, hm, decide_eq_true e⟩)
theorem inl_inj {m n : List Int} (h : (m.map Sum.inl : List L2.Key) = n.map Sum.inl) : m = n := by
  induction m generalizing n with
  | nil =>
    cases n with
    | nil => rfl
    | cons _ _ => cases h
  | cons x m ih =>
    cases n with
    | nil => cases h
    | cons y n =>
      rw [List.map_cons, List.map_cons] at h
      obtain ⟨h1, h2⟩ := List.cons.inj h
      rw [Sum.inl.inj h1, ih h2]
theorem keys_laid (p : Nat → Bool) (M : Nat → List Int) (F : Nat → V) : ∀ n, (laid p (fun i => ((M i).map Sum.inl : List L2.Key)) F n).map (·.1) = (firsts p M n).map fun m => m.map Sum.inl
  | 0 => rfl
  | n + 1 => by
    have ih := keys_laid p M F n
    unfold laid firsts
    by_cases h : p n = true
    · rw [if_pos h, if_pos h, put_keys, ih]
      by_cases m : M n ∈ firsts p M n
      · rw [if_pos m, if_pos (List.mem_map.mpr ⟨_, m, rfl⟩)]
      · rw [if_neg m, if_neg fun z => ?_, List.map_append]
        · rfl
        · obtain ⟨r, hr, e⟩ := List.mem_map.mp z
          rw [inl_inj e] at hr
          exact m hr
    · rw [if_neg h, if_neg h]
      exact ih
theorem firsts_of (p : Nat → Bool) (M : Nat → List Int) : ∀ n, ∀ r ∈ firsts p M n, ∃ i, i < n ∧ p i = true ∧ r = M i
  | 0, _, h => nomatch h
  | n + 1, r, h => by
    have ih := firsts_of p M n r
    unfold firsts at h
    have old : r ∈ firsts p M n → ∃ i, i < n + 1 ∧ p i = true ∧ r = M i := fun z => let ⟨i, a, b, c⟩ := ih z; ⟨i, Nat.lt_succ_of_lt a, b, c⟩
    by_cases hp : p n = true
    · rw [if_pos hp] at h
      split at h
      · exact old h
      · rcases List.mem_append.mp h with z | z
        · exact old z
        · exact ⟨n, Nat.lt_succ_self n, hp, List.mem_singleton.mp z⟩
    · rw [if_neg hp] at h
      exact old h
theorem firsts_le (p : Nat → Bool) (M : Nat → List Int) : ∀ n, (firsts p M n).length ≤ n
  | 0 => Nat.le_refl _
  | n + 1 => by
    have ih := firsts_le p M n
    unfold firsts
    split
    · split
      · omega
      · rw [List.length_append, List.length_singleton]
        omega
    · omega
def cutR (rs : List (List Int)) (ns : List Int) : List (List Int) := (firsts (fun i => two (meet ns (rs.getD i []))) (fun i => meet ns (rs.getD i [])) rs.length).mergeSort fun p q => decide (p ≤ q)
theorem sort_rows (as : List (Addr × List Int)) : (as.mergeSort rowLe).map (·.2) = (as.map (·.2)).mergeSort fun p q => decide (p ≤ q) := List.map_mergeSort fun _ _ _ _ => rfl
end LcM

/-! Lists of ints and lists of such, as data. -/
namespace LcM
open PySem PySem.Spec PyProof.Rows L2 SortR
theorem eqvAll_ints : ∀ ns ms : List Int, PyData.eqvAll (ns.map .int) (ms.map .int) = decide (ns = ms)
  | [], [] => by
    simp only [List.map_nil, PyData.eqvAll]
    exact (decide_eq_true (rfl : ([] : List Int) = [])).symm
  | x :: ns, y :: ms => by
    rw [List.map_cons, List.map_cons, PyData.eqvAll, eqvAll_ints ns ms, PyData.eqv]
    by_cases e : x = y
    · rw [e, beq_self_eq_true, Bool.true_and]
      by_cases e2 : ns = ms
      · rw [decide_eq_true e2, decide_eq_true (by rw [e2])]
      · rw [decide_eq_false e2, decide_eq_false fun z => e2 (List.cons.inj z).2]
    · rw [beq_eq_false_iff_ne.mpr e, Bool.false_and, decide_eq_false fun z => e (List.cons.inj z).1]
  | [], _ :: _ => by
    rw [List.map_nil, List.map_cons, PyData.eqvAll]
    exact (decide_eq_false fun z => nomatch z).symm
  | _ :: _, [] => by
    rw [List.map_nil, List.map_cons, PyData.eqvAll]
    exact (decide_eq_false fun z => nomatch z).symm
theorem eqv_ints (ns ms : List Int) : PyData.eqv (PyData.list (ns.map .int)) (PyData.list (ms.map .int)) = decide (ns = ms) := by
  rw [PyData.eqv]
  exact eqvAll_ints ns ms
theorem eqvAll_rows : ∀ rs qs : List (List Int), PyData.eqvAll (rs.map fun r => .list (r.map .int)) (qs.map fun r => .list (r.map .int)) = decide (rs = qs)
  | [], [] => by
    simp only [List.map_nil, PyData.eqvAll]
    exact (decide_eq_true (rfl : ([] : List (List Int)) = [])).symm
  | x :: ns, y :: ms => by
    rw [List.map_cons, List.map_cons, PyData.eqvAll, eqvAll_rows ns ms, eqv_ints]
    by_cases e : x = y
    · rw [decide_eq_true e, Bool.true_and]
      by_cases e2 : ns = ms
      · rw [decide_eq_true e2, decide_eq_true (by rw [e, e2])]
      · rw [decide_eq_false e2, decide_eq_false fun z => e2 (List.cons.inj z).2]
    · rw [decide_eq_false e, Bool.false_and, decide_eq_false fun z => e (List.cons.inj z).1]
  | [], _ :: _ => by
    rw [List.map_nil, List.map_cons, PyData.eqvAll]
    exact (decide_eq_false fun z => nomatch z).symm
  | _ :: _, [] => by
    rw [List.map_nil, List.map_cons, PyData.eqvAll]
    exact (decide_eq_false fun z => nomatch z).symm
theorem eqv_rows (rs qs : List (List Int)) : PyData.eqv (PyData.list (rs.map fun r => .list (r.map .int))) (PyData.list (qs.map fun r => .list (r.map .int))) = decide (rs = qs) := by
  rw [PyData.eqv]
  exact eqvAll_rows rs qs
theorem lay_ints : ∀ ns : List Int, PyData.canLayAll0 (ns.map .int) = true
  | [] => by simp only [List.map_nil, PyData.canLayAll0]
  | n :: ns => by simp only [List.map_cons, PyData.canLayAll0, PyData.canLay0, lay_ints ns, Bool.and_self]
theorem lay_rows : ∀ rs : List (List Int), PyData.canLayAll0 (rs.map fun r => .list (r.map .int)) = true
  | [] => by simp only [List.map_nil, PyData.canLayAll0]
  | r :: rs => by simp only [List.map_cons, PyData.canLayAll0, PyData.canLay0, lay_ints r, lay_rows rs, Bool.and_self]
theorem depth_rows : ∀ rs : List (List Int), PyData.depthAll (rs.map fun r => .list (r.map .int)) ≤ 1
  | [] => by simp only [List.map_nil, PyData.depthAll]; omega
  | r :: rs => by
    have := depth_rows rs
    simp only [List.map_cons, PyData.depthAll, PyData.depth, PySem.W.depth_ints]
    omega
theorem shaped_ints (ns : List Int) : SeqAt.shaped (PyData.list (ns.map .int)) = true := by
  unfold SeqAt.shaped
  simp only [PyData.canLay0, lay_ints, PyData.depth, PySem.W.depth_ints]
  decide
theorem shaped_rows (rs : List (List Int)) : SeqAt.shaped (PyData.list (rs.map fun r => .list (r.map .int))) = true := by
  have d := depth_rows rs
  have e : (PyData.list (rs.map fun r => .list (r.map .int))).depth ≤ 64 := by
    simp only [PyData.depth]
    omega
  unfold SeqAt.shaped
  rw [decide_eq_true e, Bool.and_true]
  simp only [PyData.canLay0, lay_rows]
/-- lists of lists as data -/
theorem rows_data {K : PySem.W.Frag} {H : Hp} : ∀ {bs : List (Addr × List Int)}, (∀ b ∈ bs, SqL K H b.1 (b.2.map V.int)) → DpAll K H (bs.map fun b => V.ref b.1) ((bs.map (·.2)).map fun r => .list (r.map .int))
  | [], _ => .nil
  | b :: bs, h => .cons (.lst (h b List.mem_cons_self) (rows_dp b.2)) (rows_data fun c m => h c (List.mem_cons_of_mem _ m))
end LcM

/-! sorted(xs), xs ints, THE sorted list. -/
namespace SortR
open PySem PySem.Spec PyProof.Rows L2 PySem.W
def intLe (p q : Int) : Bool := decide (p ≤ q)
theorem ints_each {h : Heap} : ∀ {ns : List Int} {us : List Value}, Vals (ns.map V.int) us → EachIs (fun v (n : Int) => ∃ t, v = Value.int n t) us ns
  | [], _, .nil => .nil
  | _ :: _, _, .cons h1 h2 => .cons h1 (ints_each (h := h) h2)
theorem each_ints : ∀ {us : List Value} {ns : List Int}, EachIs (fun v (n : Int) => ∃ t, v = Value.int n t) us ns → Vals (ns.map V.int) us
  | _, _, .nil => .nil
  | _, _, .cons h t => .cons h (each_ints t)
section
variable {X : Cx}
theorem call_sortedInts (hu : X.A.units + 64 < cLine) : CallR X (.builtin "sorted") (fun xs H Q => ∃ (a : Addr) (ns : List Int), xs = [V.ref a] ∧ SqL X.K H a (ns.map V.int) ∧ ∀ p, H p = none → Q (.ref p) (upd H p (.lst ((ns.mergeSort intLe).map V.int)))) := by
  intro pins s σ H xs us Q I r h
  obtain ⟨a, ns, rfl, hs, q⟩ := h
  obtain ⟨u, rfl, ru⟩ := vals1 r
  obtain rfl : u = Value.ref a := ru
  obtain ⟨its, rv, hl, hz⟩ := I.list hs
  have each := ints_each (h := s.heap) rv
  have len : its.length = ns.length := by rw [← rv.length, List.length_map]
  have reads : EachIs (fun v (n : Int) => ∃ as, Reads s.heap v (PyData.int n) as) its ns := each_mono each fun v n ⟨t, e⟩ => by
    rw [e]
    exact ⟨_, Reads.int n t⟩
  have le : dataLe false (fun n : Int => PyData.int n) = intLe := dataLe_int fun n : Int => n
  refine sorted_data (enc := fun n : Int => PyData.int n) hl.isList each reads (AllAlike.of fun p q => by simp only [alike]) (Sortable.others fun b => ⟨(fun z => nomatch z), fun xs z => nomatch z⟩) (by rw [List.length_map] at hz; exact hz) (fun b _ => by
    have d : (PyData.int b).depth = 0 := by simp only [PyData.depth]
    rw [d]
    omega) fun out ho each3 => ?_
  rw [le] at each3
  have back := each_ints each3
  obtain ⟨n, hn⟩ := sortedAll_at s.heap its out.toArray
  refine ⟨.ref (s.heap.objs.size + 1), upd H (s.heap.objs.size + 1) (.lst ((ns.mergeSort intLe).map V.int)), I.laid (t' := s.toks) (fun b o e => sortedAll_old e) (Nat.le_succ _) ⟨?_, out, n, back, hn⟩, rfl, q _ (I.hok.fresh (Nat.le_succ _))⟩
  rw [List.length_map, List.length_mergeSort]
  rw [List.length_map] at hz
  exact hz
end
end SortR

/-! Comprehensions over a tuple or a list, each turn's value by a relation that lasts. -/
namespace LcM
open PySem PySem.Spec PyProof.Rows L2
/-- so far -/
structure Mx (H0 : Hp) (D : Addr) (Rel : Nat → V → Hp → Prop) (i : Nat) (H : Hp) (ys : List V) : Prop where
  grow : Grows H0 H
  top : H D = some (.lst ys)
  len : ys.length = i
  rel : ∀ j y, ys[j]? = some y → Rel j y H
theorem Mx.more {H0 H H4 : Hp} {D : Addr} {Rel : Nat → V → Hp → Prop} {i : Nat} {ys : List V} {y : V} (last : ∀ j y H H', Grows H H' → Rel j y H → Rel j y H') (free : ∀ j y H zs, Rel j y H → H D = some (.lst zs) → ∀ u, Rel j y (upd H D u)) (hD : H0 D = none) (m : Mx H0 D Rel i H ys) (s : Grows H H4) (r : Rel i y H4) (small : i < 1000000) :
    ∃ acc, H4 D = some (.lst acc) ∧ acc.length < sizeLine ∧ ∃ ys', Mx H0 D Rel (i + 1) (upd H4 D (.lst (acc ++ [y]))) ys' := by
  have at_D := s _ _ m.top
  refine ⟨ys, at_D, ?_, ys ++ [y], fun b o e => ?_, upd_same, ?_, fun j z e => ?_⟩
  · rw [m.len]
    exact Nat.lt_trans small (by decide)
  · rw [upd_ne (ne_of_none e hD)]
    exact s _ _ (m.grow _ _ e)
  · rw [List.length_append, m.len]
    rfl
  · rcases Nat.lt_or_ge j ys.length with l | g
    · rw [List.getElem?_append_left l] at e
      exact free j z H4 _ (last j z H H4 s (m.rel j z e)) at_D _
    · rw [List.getElem?_append_right g] at e
      have zero : j - ys.length = 0 := by
        rcases Nat.eq_zero_or_pos (j - ys.length) with q | q
        · exact q
        · rw [List.getElem?_eq_none (by show 1 ≤ j - ys.length; omega)] at e
          cases e
      rw [zero] at e
      obtain rfl : y = z := Option.some.inj e
      obtain rfl : j = i := by rw [← m.len]; omega
      exact free j y H4 _ r at_D _
section
variable {K : PySem.W.Frag} {a : Addr} {xs : List V} {g : TG} {te : TE} {vs : List Nat} {σ : L2.St} {H0 : Hp} {D : Addr} {Qd : Hp → Prop}
theorem lc_tupX (Rel : Nat → V → Hp → Prop) (last : ∀ j y H H', Grows H H' → Rel j y H → Rel j y H') (free : ∀ j y H zs, Rel j y H → H D = some (.lst zs) → ∀ u, Rel j y (upd H D u)) (hD : H0 D = none) (hx : SqT K H0 a xs) (small : xs.length ≤ 1000000)
    (turn : ∀ (i : Nat) (x : V) (H : Hp) (Rk : V → Hp → Prop), xs[i]? = some x → Grows H0 H → H D ≠ none → (∀ y H4, Grows H H4 → Rel i y H4 → Rk y H4) → g x (wipe σ vs) H fun σ2 H2 => wipe σ2 vs = wipe σ vs ∧ te σ2 H2 Rk)
    (done : ∀ H ys, Mx H0 D Rel xs.length H ys → Qd H) :
    ∃ W : Nat → Nat → Hp → Prop, (∃ m, W 0 m (upd H0 D (.lst []))) ∧ ∀ i m H, W i m H →
      ((Itt K a).stop i H ∧ Qd H) ∨ ((Itt K a).go i H ∧ ∃ Nx : Hp → Prop, (∀ H', Nx H' → ∃ m', m' < m ∧ W (i + 1) m' H') ∧ ∀ x H', (Itt K a).yld i H x H' → g x (wipe σ vs) H' fun σ2 H2 => wipe σ2 vs = wipe σ vs ∧ tYes σ2 H2 fun b H3 =>
        if b = true then te σ2 H3 fun y H4 => ∃ acc, H4 D = some (.lst acc) ∧ acc.length < sizeLine ∧ Nx (upd H4 D (.lst (acc ++ [y]))) else Nx H3) := by
  refine lc_tup (fun i H => ∃ ys, Mx H0 D Rel i H ys) ⟨[], Grows.new hD, upd_same, rfl, fun j y e => by rw [List.getElem?_nil] at e; cases e⟩ (fun i H _ ⟨_, m⟩ => m.grow.tup hx) (fun i x H ex ⟨ys, m⟩ => ?_) fun H ⟨ys, m⟩ => done H ys m
  rw [yes_eq (A := fun σ2 => wipe σ2 vs = wipe σ vs)]
  exact turn i x H _ ex m.grow (by rw [m.top]; exact fun z => nomatch z) fun y H4 s r => m.more last free hD s r (Nat.lt_of_lt_of_le (List.getElem?_eq_some_iff.mp ex).1 small)
theorem lc_listX (Rel : Nat → V → Hp → Prop) (last : ∀ j y H H', Grows H H' → Rel j y H → Rel j y H') (free : ∀ j y H zs, Rel j y H → H D = some (.lst zs) → ∀ u, Rel j y (upd H D u)) (hD : H0 D = none) (hx : SqL K H0 a xs) (small : xs.length ≤ 1000000)
    (turn : ∀ (i : Nat) (x : V) (H : Hp) (Rk : V → Hp → Prop), xs[i]? = some x → Grows H0 H → H D ≠ none → (∀ y H4, Grows H H4 → Rel i y H4 → Rk y H4) → g x (wipe σ vs) H fun σ2 H2 => wipe σ2 vs = wipe σ vs ∧ te σ2 H2 Rk)
    (done : ∀ H ys, Mx H0 D Rel xs.length H ys → Qd H) :
    ∃ W : Nat → Nat → Hp → Prop, (∃ m, W 0 m (upd H0 D (.lst []))) ∧ ∀ i m H, W i m H →
      ((Itl K a).stop i H ∧ Qd H) ∨ ((Itl K a).go i H ∧ ∃ Nx : Hp → Prop, (∀ H', Nx H' → ∃ m', m' < m ∧ W (i + 1) m' H') ∧ ∀ x H', (Itl K a).yld i H x H' → g x (wipe σ vs) H' fun σ2 H2 => wipe σ2 vs = wipe σ vs ∧ tYes σ2 H2 fun b H3 =>
        if b = true then te σ2 H3 fun y H4 => ∃ acc, H4 D = some (.lst acc) ∧ acc.length < sizeLine ∧ Nx (upd H4 D (.lst (acc ++ [y]))) else Nx H3) := by
  refine lc_list (fun i H => ∃ ys, Mx H0 D Rel i H ys) ⟨[], Grows.new hD, upd_same, rfl, fun j y e => by rw [List.getElem?_nil] at e; cases e⟩ (fun i H _ ⟨_, m⟩ => m.grow.seq hx) (fun i x H ex ⟨ys, m⟩ => ?_) fun H ⟨ys, m⟩ => done H ys m
  rw [yes_eq (A := fun σ2 => wipe σ2 vs = wipe σ vs)]
  exact turn i x H _ ex m.grow (by rw [m.top]; exact fun z => nomatch z) fun y H4 s r => m.more last free hD s r (Nat.lt_of_lt_of_le (List.getElem?_eq_some_iff.mp ex).1 small)
/-- a loop over enumerate of a list that stands still -/
theorem for_enumL {tb : TS} {Dn : Ends} (Pv : Nat → L2.St → Hp → Prop) (h0 : Pv 0 σ H0) (hl : ∀ i σ H, Pv i σ H → SqL K H a xs)
    (hs : ∀ (i : Nat) (x : V) (T : Addr) (σ : L2.St) (H : Hp), xs[i]? = some x → Pv i σ H → H T = none → g (.ref T) σ (upd H T (.tup [.int (i : Nat), x])) fun σ2 H2 => tb { Dn with nx := Pv (i + 1), ct := Pv (i + 1), bk := Dn.nx } σ2 H2) (hd : ∀ σ H, Pv xs.length σ H → Dn.nx σ H) :
    ∃ W : Nat → Nat → L2.St → Hp → Prop, (∃ m, W 0 m σ H0) ∧ ∀ i m σ H, W i m σ H →
      ((Ite K a).stop i H ∧ Dn.nx σ H) ∨ ((Ite K a).go i H ∧ ∃ N : L2.St → Hp → Prop, (∀ σ' H', N σ' H' → ∃ m', m' < m ∧ W (i + 1) m' σ' H') ∧ ∀ v H', (Ite K a).yld i H v H' → g v σ H' fun σ2 H2 => tb { Dn with nx := N, ct := N, bk := Dn.nx } σ2 H2) := by
  refine ⟨fun i m σ H => m = xs.length - i ∧ i ≤ xs.length ∧ Pv i σ H, ⟨_, rfl, Nat.zero_le _, h0⟩, ?_⟩
  rintro i m σ H ⟨rfl, hi, pv⟩
  have qx := hl i σ H pv
  rcases Nat.lt_or_ge i xs.length with lt | ge
  · have ex : xs[i]? = some xs[i] := List.getElem?_eq_getElem lt
    refine .inr ⟨⟨xs, _, qx, ex⟩, Pv (i + 1), fun σ' H' p' => ⟨xs.length - (i + 1), by omega, rfl, lt, p'⟩, fun v H' y => ?_⟩
    obtain ⟨T, x', rfl, hT, rfl, f1⟩ := y
    exact hs i x' T σ H (f1 xs qx) pv hT
  · have e : i = xs.length := by omega
    subst e
    exact .inl ⟨⟨xs, qx, Nat.le_refl _⟩, hd σ H pv⟩
end
end LcM

/-! Data whose text is short. -/
namespace LcM
open PySem PySem.Spec PyProof.Rows L2
structure Brief (n : Nat) (d : PyData) : Prop where
  sh : d.showable = true
  dp : d.depth ≤ 10
  lv : PyData.leavesShort 13 d = true
  wt : d.weight ≤ n
def Smalls (ns : List Int) : Prop := ∀ x ∈ ns, x.natAbs < 10 ^ 12
theorem small_bits {n : Int} (h : n.natAbs < 10 ^ 12) : n.natAbs.log2 < 40 := by
  by_cases z : n.natAbs = 0
  · rw [z]
    decide
  · exact (Nat.log2_lt z).mpr (Nat.lt_trans h (by decide))
theorem show_ints : ∀ ns : List Int, Smalls ns → PyData.showableAll (ns.map .int) = true
  | [], _ => by simp only [List.map_nil, PyData.showableAll]
  | n :: ns, h => by
    have b := small_bits (h n List.mem_cons_self)
    simp only [List.map_cons, PyData.showableAll, PyData.showable, show_ints ns fun x m => h x (List.mem_cons_of_mem _ m), Bool.and_true]
    exact decide_eq_true (by omega)
theorem weight_ints : ∀ ns : List Int, Smalls ns → PyData.weightAll (ns.map .int) ≤ ns.length * 42
  | [], _ => by simp only [List.map_nil, PyData.weightAll]; exact Nat.zero_le _
  | n :: ns, h => by
    have b := small_bits (h n List.mem_cons_self)
    have ih := weight_ints ns fun x m => h x (List.mem_cons_of_mem _ m)
    simp only [List.map_cons, PyData.weightAll, PyData.weight, List.length_cons]
    split <;> omega
theorem brief_ints {ns : List Int} (h : Smalls ns) : Brief (ns.length * 42) (PyData.list (ns.map .int)) := by
  refine ⟨?_, ?_, ?_, ?_⟩
  · simp only [PyData.showable, show_ints ns h]
  · simp only [PyData.depth, PySem.W.depth_ints]
    decide
  · refine PyData.leavesShort_of_canLay0 13 _ ?_ ?_
    · simp only [PyData.canLay0, lay_ints]
    · simp only [PyData.intsShort]
      exact PyData.intsShortAll_ints ns h
  · simp only [PyData.weight]
    exact weight_ints ns h
def rowD (rs : List (List Int)) : List PyData := rs.map fun r => .list (r.map .int)
theorem show_rows : ∀ rs : List (List Int), (∀ r ∈ rs, Smalls r) → PyData.showableAll (rowD rs) = true
  | [], _ => by simp only [rowD, List.map_nil, PyData.showableAll]
  | r :: rs, h => by
    have ih := show_rows rs fun q m => h q (List.mem_cons_of_mem _ m)
    unfold rowD at ih ⊢
    simp only [List.map_cons, PyData.showableAll, PyData.showable, show_ints r (h r List.mem_cons_self), ih, Bool.and_self]
theorem short_rows : ∀ rs : List (List Int), (∀ r ∈ rs, Smalls r) → PyData.intsShortAll 13 (rowD rs) = true
  | [], _ => by simp only [rowD, List.map_nil, PyData.intsShortAll]
  | r :: rs, h => by
    have ih := short_rows rs fun q m => h q (List.mem_cons_of_mem _ m)
    unfold rowD at ih ⊢
    simp only [List.map_cons, PyData.intsShortAll, PyData.intsShort, ih, PyData.intsShortAll_ints r (h r List.mem_cons_self), Bool.and_self]
theorem weight_rows {m : Nat} : ∀ rs : List (List Int), (∀ r ∈ rs, Smalls r ∧ r.length ≤ m) → PyData.weightAll (rowD rs) ≤ rs.length * (m * 42 + 1)
  | [], _ => by simp only [rowD, List.map_nil, PyData.weightAll]; exact Nat.zero_le _
  | r :: rs, h => by
    have ih := weight_rows rs fun q m => h q (List.mem_cons_of_mem _ m)
    have l := (h r List.mem_cons_self).2
    have w := weight_ints r (h r List.mem_cons_self).1
    unfold rowD at ih ⊢
    simp only [List.map_cons, PyData.weightAll, PyData.weight, List.length_cons]
    rw [Nat.add_mul]
    omega
theorem brief_rows {rs : List (List Int)} {m : Nat} (h : ∀ r ∈ rs, Smalls r ∧ r.length ≤ m) : Brief (rs.length * (m * 42 + 1)) (PyData.list (rowD rs)) := by
  refine ⟨?_, ?_, ?_, ?_⟩
  · simp only [PyData.showable, show_rows rs fun r m => (h r m).1]
  · have := depth_rows rs
    unfold rowD
    simp only [PyData.depth]
    omega
  · refine PyData.leavesShort_of_canLay0 13 _ ?_ ?_
    · have := lay_rows rs
      unfold rowD
      simp only [PyData.canLay0, this]
    · simp only [PyData.intsShort]
      exact short_rows rs fun r m => (h r m).1
  · simp only [PyData.weight]
    exact weight_rows rs h
theorem brief_two {a b : PyData} {m n : Nat} (x : Brief m a) (y : Brief n b) (l : m + n ≤ 100000) :
    PyData.showableAll [a, b] = true ∧ PyData.depthAll [a, b] ≤ 40 ∧ (listText (PyData.shownAll [a, b])).length ≤ sizeLine := by
  refine ⟨?_, ?_, ?_⟩
  · simp only [PyData.showableAll, x.sh, y.sh, Bool.and_self]
  · have := x.dp
    have := y.dp
    simp only [PyData.depthAll]
    omega
  · have e : (PyData.list [a, b]).shown = listText (PyData.shownAll [a, b]) := by simp only [PyData.shown]
    rw [← e]
    refine PyData.shown_fits (B := 13) (by decide) (by decide) ?_ ?_
    · simp only [PyData.leavesShort, PyData.leavesShortAll, x.lv, y.lv, Bool.and_self]
    · have := x.wt
      have := y.wt
      simp only [PyData.weight, PyData.weightAll]
      omega
end LcM

/-! min(list of lists of ints, key=len). -/
namespace LcM
open PySem PySem.Spec PyProof PyProof.Rows L2 SortR
def lenAt (bs : List (Addr × List Int)) (i : Nat) : Int := ((bs.getD i (0, [])).2.length : Nat)
def firstMin (bs : List (Addr × List Int)) (i : Nat) : Prop := ∀ j, j < bs.length → lenAt bs i ≤ lenAt bs j ∧ (j < i → lenAt bs i < lenAt bs j)
def rMinLen (K : PySem.W.Frag) (Q : VK) : List V → Hp → Prop := fun vs H1 => ∃ (a : Addr) (bs : List (Addr × List Int)), vs = [.ref a] ∧ SqL K H1 a (bs.map fun b => V.ref b.1) ∧ (∀ b ∈ bs, SqL K H1 b.1 (b.2.map V.int)) ∧ bs ≠ [] ∧
  ∀ i, i < bs.length → firstMin bs i → Q (.ref (bs.getD i (0, [])).1) H1
def tMinLen (K : PySem.W.Frag) (te : TE) : TE := fun σ H Q => tCons te tNil σ H (rMinLen K Q)
section
variable {X : Cx} {e : Expr} {te : TE} {p p2 pos kp : Pos}
theorem ns_one {h : Heap} {a : Addr} {m m' : Str → Option Value} (x : h.Ns a m) (y : h.Ns a m') : m = m' := x.eq_nsMap.trans y.eq_nsMap.symm
/-- what only lets the names stand elsewhere changes nothing -/
theorem inv_fr {pins : List (Addr × Obj)} {σ : L2.St} {H : Hp} {s : Shared} {h' : Heap} {tk : Nat} {m : Str → Option Value} (I : Inv X pins σ H s) (n0 : s.heap.Ns X.env.locals m) (n1 : h'.Ns X.env.locals m) (keep : ∀ b o, b ≠ X.env.locals → s.heap.get? b = some o → h'.get? b = some o) :
    Inv X pins σ H { s with heap := h', toks := tk } := by
  refine I.step (ch := []) (fun b hb => nomatch hb) (fun b o nl _ _ q _ => keep b o nl q) (fun b o nl _ _ q _ => ⟨o.slots, keep b o nl q⟩) (fun b o _ _ z => z) (fun b o _ q => ?_) (fun _ _ z => z) (fun _ _ _ z => z) (fun _ ps z => ⟨#[], by rw [Array.append_empty]; exact z⟩) (fun m' z => ns_one n0 z ▸ n1) ?_ I.bare
  · by_cases el : b = X.env.locals
    · obtain ⟨o', _, _, q', _⟩ := n1
      exact ⟨o', el ▸ q'⟩
    · exact ⟨o, keep b o el q⟩
  · intro a o h
    refine (I.hok a o h).stay (fun b u hb q => keep b u (fun z => ?_) q) (fun _ z => z) (fun _ _ z => z)
    have f := I.free
    rw [← z] at f
    rcases hb with hb | hb
    · rw [hb, h] at f
      cases f
    · rw [hb] at f
      cases f
theorem pe_minLen (calm : X.calm = true) (hg : Gl X "min") (hm : X.mg "min" = none) (hl : Gl X "len") (ml : X.mg "len" = none) (he : PE X e te)
    (h1 : starEach [e] X.env = (false, eval e X.env) :: starEach [] X.env := by rfl) (h2 : backTo pos (starEach [e] X.env) = (false, eval e X.env) :: backTo pos (starEach [] X.env) := by rfl) (h3 : ((backTo pos (starEach [e] X.env)).any fun x => x.1) = false := by rfl) : PE X (.Call (.Name "min" p) [e] [⟨some "key", .Name "len" p2, kp⟩] pos) (tMinLen X.K te) := by
  refine ⟨fun pins s σ H Q I rd => ?_⟩
  refine wpAny_Call_Name_kw (ld_blt (u := Value.builtin "min") I hg hm (by decide +kernel) ?_)
  refine Rows.callWith_kw (thn ((pa_cons he pa_nil (hs := h1)).run pos pins s σ H (rMinLen X.K Q) I rd) fun us s1 ⟨vs, H1, I1, rv, q⟩ => ?_) h2 h3
  obtain ⟨a, bs, rfl, hA, hB, hne, k⟩ := q
  obtain ⟨u, rfl, ru⟩ := vals1 rv
  obtain rfl : u = Value.ref a := ru
  refine Rows.evalAll_cons (wpAny_bind (ld_blt (u := Value.builtin "len") I1 hl ml (by decide +kernel) (wpAny_bind (wpAny_standAt (wpAny_pure (Rows.evalAll_nil ?_))))))
  obtain ⟨its, rvs, pl, hz⟩ := I1.list hA
  obtain ⟨m, ns, look⟩ := I1.loc
  obtain ⟨m', fr'⟩ := I1.fr
  have fr : Rows.Fr X.base X.env.locals s1.heap m := ⟨ns, fr'.keep, fr'.above⟩
  have kept : ∀ h, Rows.Fr X.base X.env.locals h m → Rows.News X.base X.env.locals h (allNews X.base s1.heap X.env.locals) → ∀ b o, b ≠ X.env.locals → s1.heap.get? b = some o → h.get? b = some o := fun h f n b o nl q => by
    rcases Option.eq_none_or_eq_some (X.base.get? b) with z | ⟨o', z⟩
    · exact (n (b, o) (mem_allNews nl z q)).1
    · have := fr.keep b o' z
      rw [q] at this
      cases this
      exact f.keep b o z
  have apart : ∀ {b : Addr} {xs : Array Value}, PlainL s1.heap b xs → b ≠ X.env.locals := fun {b xs} hb z => by
    obtain ⟨o, n, g, _, _, d⟩ := hb
    obtain ⟨o', es, ep, g', d', _⟩ := ns
    rw [z, g'] at g
    cases g
    rw [d'] at d
    cases d
  have len : its.length = bs.length := by
    rw [← rvs.length, List.length_map]
  have get : ∀ {i : Nat} {v : Value}, its[i]? = some v → i < bs.length ∧ v = Value.ref (bs.getD i (0, [])).1 := fun {i v} hv => by
    have il : i < bs.length := by
      rw [← len]
      exact (List.getElem?_eq_some_iff.mp hv).1
    refine ⟨il, ?_⟩
    have e1 : (bs.map fun b => V.ref b.1)[i]? = some (V.ref (bs.getD i (0, [])).1) := by
      rw [List.getElem?_map, List.getElem?_eq_getElem il, List.getD_eq_getElem?_getD, List.getElem?_eq_getElem il]
      rfl
    obtain ⟨u, hu, ru⟩ := rvs.get e1
    rw [hv] at hu
    cases hu
    exact ru
  refine Rows.kmb_min (kid := "len") (news := allNews X.base s1.heap X.env.locals) (vs := its) (lenAt bs) (I1.ok.hd calm) fr news_all (fun h f n => (pl.at fun o q => kept h f n a o (apart pl) q).isList) ?_ (fun i v hv h tk own f n => ?_) fun i v h' tk' hv hmin f n => ?_
  · rw [len]
    rcases Nat.eq_zero_or_pos bs.length with z | z
    · exact absurd (List.length_eq_zero_iff.mp z) hne
    · exact z
  · obtain ⟨il, rfl⟩ := get hv
    have n' : Rows.News X.base X.env.locals h (allNews X.base s1.heap X.env.locals) := fun p hp => n p (List.mem_append_left _ hp)
    have mem : bs.getD i (0, []) ∈ bs := by
      rw [List.getD_eq_getElem?_getD, List.getElem?_eq_getElem il]
      exact List.getElem_mem il
    obtain ⟨rs, rvr, plr, hzr⟩ := I1.list (hB _ mem)
    have lenr : rs.length = (bs.getD i (0, [])).2.length := by rw [← rvr.length, List.length_map]
    refine Calls.call_len_list ((plr.at fun o q => kept h f n' _ o (apart plr) q).isList) ?_ ⟨h, _, tk + 1, rfl, ?_, f, n⟩
    · rw [List.size_toArray, lenr]
      rw [List.length_map] at hzr
      have : sizeLine < 2 ^ 63 := by decide
      omega
    · unfold lenAt
      rw [List.size_toArray, lenr]
  · obtain ⟨il, rfl⟩ := get hv
    refine ⟨V.ref (bs.getD i (0, [])).1, H1, inv_fr I1 ns f.ns (kept h' f n), rfl, k i il fun j jl => ?_⟩
    exact hmin j (by rw [len]; exact jl)
end
end LcM

/-! for i, x in enumerate(list, start=k). -/
namespace LcM
open PySem PySem.Spec PyProof PyProof.Rows L2
def ItS (K : PySem.W.Frag) (a : Addr) (k : Int) : It where
  go := fun i H => ∃ xs x, SqL K H a xs ∧ xs[i]? = some x
  yld := fun i H v H' => ∃ T x, v = .ref T ∧ H T = none ∧ H' = upd H T (.tup [.int (k + (i : Nat)), x]) ∧ ∀ xs, SqL K H a xs → xs[i]? = some x
  stop := fun i H => ∃ xs, SqL K H a xs ∧ xs.length = i
theorem turn_enumS {P : Program} {w : World} {K : PySem.W.Frag} {elts : List Expr} {kk : Nat} {tpos : Pos} (a e it : Addr) (k : Int) :
    Turn P w K (.Tuple elts kk tpos) (ItS K a k) [e, it] e (fun i h => (∃ old, IsEnum h e it (k + (i : Nat)) old) ∧ h.IsListIter it a i ∧ e ≠ it) where
  mem := by simp
  obj := fun t h st b hb => by
    obtain ⟨⟨old, ie⟩, ⟨o, ho, _, hd⟩, _⟩ := st
    have q : b = e ∨ b = it := by simpa using hb
    rcases q with q | q
    · rw [q]
      exact ⟨_, ie, fun v z => nomatch z⟩
    · rw [q]
      exact ⟨o, ho, fun v z => by rw [hd] at z; cases z⟩
  keep := fun t h h' st kp => by
    obtain ⟨⟨old, ie⟩, ⟨o, ho, hc, hd⟩, ne⟩ := st
    exact ⟨⟨old, kp e (by simp) _ ie⟩, ⟨o, kp it (by simp) _ ho, hc, hd⟩, ne⟩
  item := by
    intro X hP hw hK hc i pins s σ H E I hf st hg
    subst hP hw hK
    obtain ⟨⟨old, ie⟩, li, ne⟩ := st
    obtain ⟨xs, x, hS, hx⟩ := hg
    obtain ⟨its, rv, pl, hz⟩ := I.list hS
    have hli := li
    obtain ⟨oi, hoi, hci, hdi⟩ := hli
    have ha_e : a ≠ e := fun z => by
      obtain ⟨o, ho, hcl, _⟩ := pl.isList
      rw [z, ie] at ho
      cases ho
      exact absurd (Value.type.inj hcl) (by decide)
    have ha_it : a ≠ it := fun z => by
      obtain ⟨o, ho, hcl, _⟩ := pl.isList
      rw [z, hoi] at ho
      cases ho
      rw [hci] at hcl
      exact absurd (Value.type.inj hcl) (by decide)
    have il : i < its.toArray.size := by
      rw [List.size_toArray, ← rv.length]
      exact (List.getElem?_eq_some_iff.mp hx).1
    obtain ⟨u, hu, ru⟩ := rv.get hx
    have W := WalksT.enumFrom (prog := X.prog) (w := X.w) (A := X.A) k (Draws.list (A := X.A.in1) (by exact I.ok.hd hc) it a ha_it its.toArray) e ne (fun z => by simp at z; exact z.elim ne ha_e.symm) (List.mem_cons_self)
    refine W.item i s _ E il ⟨⟨old, ie⟩, li, pl.isList⟩ fun T vals h' tk pt big isT mid keep => ⟨.ref T, rfl, W.go elts kk tpos i T { s with heap := h', toks := tk } _ E mid fun h2 st2 keep2 => ?_⟩
    obtain ⟨t, y, py, rfl⟩ := pt
    have ey : y = u := by
      have q : its.toArray[i]? = some y := py
      rw [List.getElem?_toArray, hu] at q
      cases q
      rfl
    subst ey
    have nT := W.apart i T h' mid
    obtain ⟨oT, gT, cT, n, dT⟩ := isT
    have gT2 := keep2 T oT nT gT
    have obj : ObjOk X.prog X.w (upd H T (.tup [.int (k + (i : Nat)), x])) h2 T (.tup [.int (k + (i : Nat)), x]) :=
      ⟨by show 2 ≤ sizeLine; decide, [_, y], .cons ⟨t, rfl⟩ (.cons ru .nil), ⟨oT, gT2, cT, n, dT⟩⟩
    have I1 : Inv X pins σ (upd H T (.tup [.int (k + (i : Nat)), x])) { s with heap := h2, toks := tk } :=
      I.turnedNew (t' := tk) (ch := [e, it]) (fun c o hb q => keep2 c o hb (keep c o hb q)) hf big obj
    refine ⟨.ref T, _, I1, rfl, ⟨T, x, rfl, I.hok.fresh big, rfl, fun xs' h' => ?_⟩, ⟨?_, st2.2.1, ne⟩, fun b hb => ?_⟩
    · rw [I.list_inj h' hS]
      exact hx
    · obtain ⟨⟨old', ie'⟩, _⟩ := st2
      exact ⟨old', ie'⟩
    · have low : b < s.heap.objs.size := by
        have q : b = e ∨ b = it := by simpa using hb
        rcases q with q | q
        · rw [q]; exact Heap.lt_size ie
        · rw [q]; exact Heap.lt_size hoi
      rw [upd_ne (Nat.ne_of_lt (Nat.lt_of_lt_of_le low big))]
      exact (hf b hb).1
  done := by
    intro X hP hw hK hc i pins s σ H E I hf st hg
    subst hP hw hK
    obtain ⟨⟨old, ie⟩, li, ne⟩ := st
    obtain ⟨xs, hS, rfl⟩ := hg
    obtain ⟨its, rv, pl, hz⟩ := I.list hS
    have hli := li
    obtain ⟨oi, hoi, hci, hdi⟩ := hli
    have ha_e : a ≠ e := fun z => by
      obtain ⟨o, ho, hcl, _⟩ := pl.isList
      rw [z, ie] at ho
      cases ho
      exact absurd (Value.type.inj hcl) (by decide)
    have ha_it : a ≠ it := fun z => by
      obtain ⟨o, ho, hcl, _⟩ := pl.isList
      rw [z, hoi] at ho
      cases ho
      rw [hci] at hcl
      exact absurd (Value.type.inj hcl) (by decide)
    have sz : its.toArray.size = xs.length := by rw [List.size_toArray, ← rv.length]
    have W := WalksT.enumFrom (prog := X.prog) (w := X.w) (A := X.A) k (Draws.list (A := X.A.in1) (by exact I.ok.hd hc) it a ha_it its.toArray) e ne (fun z => by simp at z; exact z.elim ne ha_e.symm) (List.mem_cons_self)
    refine W.done s _ E (by rw [sz]; exact ⟨⟨old, ie⟩, li, pl.isList⟩) fun h' tk keep => ⟨rfl, ?_⟩
    exact I.turnedL (t' := tk) (ch := [e, it]) keep hf
  self := fun A i s Q E st q => by
    obtain ⟨⟨old, ie⟩, _⟩ := st
    exact wpAny_pyIter_enum ie q
section
variable {X : Cx} {K : PySem.W.Frag} {a : Addr} {xs : List V} {g : TG} {tb : TS} {Dn : Ends} {σ : L2.St} {H0 : Hp}
def iEnumS (K : PySem.W.Frag) (k : Int) (ta : TA) : TI := fun σ H R => ta σ H fun vs H1 => ∃ a xs, vs = [.ref a] ∧ SqL K H1 a xs ∧ R (ItS K a k) H1
theorem pi_enumS {elts : List Expr} {kk : Nat} {tpos p p2 pos kp : Pos} {e : Expr} {ta : TA} {k : Int} {j : Nat} (hg : Gl X "enumerate") (hm : X.mg "enumerate" = none) (h0 : -2 ^ 63 ≤ k) (h1 : k < 2 ^ 63) (ha : PA X [e] ta) (calm : X.calm = true)
    (hs : starEach [e] X.env = (false, eval e X.env) :: starEach [] X.env := by rfl) (hb : backTo pos (starEach [e] X.env) = (false, eval e X.env) :: backTo pos (starEach [] X.env) := by rfl) (hpl : (backTo pos (starEach [e] X.env)).any (·.1) = false := by rfl) :
    PI X (.Tuple elts kk tpos) (.Call (.Name "enumerate" p) [e] [⟨some "start", .Constant (.int k) j p2, kp⟩] pos) (iEnumS X.K k ta) := by
  refine ⟨fun pins s σ H R I h => ?_⟩
  refine wpAny_Call_Name_kw (ld_blt (u := Value.type "enumerate") I hg hm (by decide +kernel) ?_)
  refine PySem.W.callWith_of (P := fun _ => True) (by rw [hpl]; rfl) (fun _ _ => ⟨.machine, .inr (.inl rfl), fun _ _ _ _ _ q => wpAny_pure q⟩) ?_
  refine Rows.evalArgs_kw2 (by rfl) (thn (ha.run pos pins s σ H _ I h) fun us s1 ⟨vs, H1, I1, r1, q1⟩ => ?_) hs
  obtain ⟨a, xs, rfl, hq, q⟩ := q1
  obtain ⟨u1, rfl, e1⟩ := vals1 r1
  obtain rfl : u1 = Value.ref a := e1
  refine thn ((pk_cons (nm := some "start") pe_int pk_nil).run pos pins s1 σ H1 (fun zs G => zs = [V.int k] ∧ G = H1) I1 ⟨rfl, rfl⟩) fun ks s2 ⟨zs, G, I2, r2, ez, eG⟩ => ⟨trivial, ?_⟩
  subst ez eG
  obtain ⟨u2, rfl, ⟨t, rfl⟩⟩ := vals1 r2
  obtain ⟨its, rv, pl, hz⟩ := I2.list hq
  refine enum_begins_start (begins_list a its.toArray) pl.isList h0 h1 fun h' ie git size keep => ?_
  have J : Inv X pins σ G { s2 with heap := h' } := I2.kept (t' := s2.toks) keep
  refine wpAny_pyIter_enum (s := { s2 with heap := h' }) ie ⟨s2.heap.objs.size + 1, [s2.heap.objs.size + 1, s2.heap.objs.size], _, _, G, rfl, J, turn_enumS a (s2.heap.objs.size + 1) s2.heap.objs.size k, ⟨⟨.none, ?_⟩, ⟨_, git, rfl, rfl⟩, Nat.succ_ne_self _⟩, fun b hb => ?_, q⟩
  · show IsEnum h' (s2.heap.objs.size + 1) s2.heap.objs.size (k + ((0 : Nat) : Int)) .none
    rw [Int.natCast_zero, Int.add_zero]
    exact ie
  · have low : s2.heap.objs.size ≤ b := by
      have e : b = s2.heap.objs.size + 1 ∨ b = s2.heap.objs.size := by simpa using hb
      rcases e with e | e
      · rw [e]; exact Nat.le_succ _
      · rw [e]; exact Nat.le_refl _
    have q' := I2.fpOk low (I2.hok.fresh low)
    exact q'
/-- for i, x in enumerate(list, start=k) -/
theorem for_enumS {k : Int} (Pv : Nat → L2.St → Hp → Prop) (h0 : Pv 0 σ H0) (hl : ∀ i σ H, Pv i σ H → SqL K H a xs)
    (hs : ∀ (i : Nat) (x : V) (T : Addr) (σ : L2.St) (H : Hp), xs[i]? = some x → Pv i σ H → H T = none → g (.ref T) σ (upd H T (.tup [.int (k + (i : Nat)), x])) fun σ2 H2 => tb { Dn with nx := Pv (i + 1), ct := Pv (i + 1), bk := Dn.nx } σ2 H2) (hd : ∀ σ H, Pv xs.length σ H → Dn.nx σ H) :
    ∃ W : Nat → Nat → L2.St → Hp → Prop, (∃ m, W 0 m σ H0) ∧ ∀ i m σ H, W i m σ H →
      ((ItS K a k).stop i H ∧ Dn.nx σ H) ∨ ((ItS K a k).go i H ∧ ∃ N : L2.St → Hp → Prop, (∀ σ' H', N σ' H' → ∃ m', m' < m ∧ W (i + 1) m' σ' H') ∧ ∀ v H', (ItS K a k).yld i H v H' → g v σ H' fun σ2 H2 => tb { Dn with nx := N, ct := N, bk := Dn.nx } σ2 H2) := by
  refine ⟨fun i m σ H => m = xs.length - i ∧ i ≤ xs.length ∧ Pv i σ H, ⟨_, rfl, Nat.zero_le _, h0⟩, ?_⟩
  rintro i m σ H ⟨rfl, hi, pv⟩
  have qx := hl i σ H pv
  rcases Nat.lt_or_ge i xs.length with lt | ge
  · have ex : xs[i]? = some xs[i] := List.getElem?_eq_getElem lt
    refine .inr ⟨⟨xs, _, qx, ex⟩, Pv (i + 1), fun σ' H' p' => ⟨xs.length - (i + 1), by omega, rfl, lt, p'⟩, fun v H' y => ?_⟩
    obtain ⟨T, x, rfl, hT, rfl, same⟩ := y
    exact hs i x T σ H (same xs qx) pv hT
  · have e : i = xs.length := by omega
    subst e
    exact .inl ⟨⟨xs, qx, rfl⟩, hd σ H pv⟩
end
end LcM

/-! xs[::-1] of a list. -/
namespace LcM
open PySem PySem.Spec PyProof PyProof.Rows L2
theorem vals_revE : ∀ {xs : List V} {us : List Value}, Vals xs us → Vals xs.reverse us.reverse
  | _, _, .nil => .nil
  | _, _, .cons r t => by
    rw [List.reverse_cons, List.reverse_cons]
    exact (vals_revE t).append (.cons r .nil)
def tRev (K : PySem.W.Frag) (te : TE) : TE := fun σ H Q => te σ H fun x H1 => ∃ (a : Addr) (xs : List V), x = .ref a ∧ SqL K H1 a xs ∧ ∀ D, H1 D = none → Q (.ref D) (upd H1 D (.lst xs.reverse))
section
variable {X : Cx} {te : TE} {x : Str} {p p2 p3 p4 pos : Pos} {j : Nat}
theorem pe_rev (he : PE X (.Name x p) te) : PE X (.Subscript (.Name x p) (.Slice none none (some (.UnaryOp .USub (.Constant (.int 1) j p2) p3)) p4) pos) (tRev X.K te) := by
  refine ⟨fun pins s σ H Q I rd => ?_⟩
  refine Rows.Subscript_ (thn (he.run pins s σ H _ I rd) fun v s1 ⟨y, H1, I1, rv, a, xs, ey, hS, k⟩ => ?_)
  subst ey
  obtain rfl : v = Value.ref a := rv
  refine wpAny_Slice (wpAny_pure (wpAny_pure (thn ((po_some (pe_un un_neg pe_int)).run pins s1 σ H1 (fun o G => o = some (-1) ∧ G = H1) I1 ?_) fun st s2 ⟨o, G, I2, ip, eo, eG⟩ => ?_)))
  · exact ⟨1, rfl, -1, rfl, rfl, rfl⟩
  · subst eo eG
    obtain ⟨its, rvs, pl, hz⟩ := I2.list hS
    have up : ∀ b o, s2.heap.get? b = some o → (s2.heap.push { cls := .type "slice", data := .fields #[.none, .none, st] }).get? b = some o := fun b o q => Heap.get?_push_of_some _ q
    have isl := (pl.keeps up).isList
    have gs : (s2.heap.push { cls := .type "slice", data := .fields #[.none, .none, st] }).get? s2.heap.objs.size = some { cls := .type "slice", data := .fields #[.none, .none, st] } := Heap.get?_push_size _ rfl
    refine Rows.subscriptTail_ops (T := "list") (id := "list.__getitem__") ?_ PySem.F.slot_list_getitem.lookup (wpAny_getItem_list_slice isl ⟨_, gs, rfl, rfl⟩ .none .none ip (by decide) ?_ (by rw [List.size_toArray, ← rvs.length]; exact hz)) rfl fun _ => rfl
    · exact isl.typeIs (s := { s2 with heap := s2.heap.push { cls := .type "slice", data := .fields #[.none, .none, st] } })
    · rw [PySem.W.krv_pick]
      have big : s2.heap.objs.size ≤ (s2.heap.push { cls := .type "slice", data := .fields #[.none, .none, st] }).objs.size := by
        rw [Heap.size_push]
        exact Nat.le_succ _
      refine ⟨.ref _, upd G _ (.lst xs.reverse), I2.laid (t' := s2.toks) (fun b o q => Heap.get?_push_of_some _ (up b o q)) big ⟨?_, its.reverse, 0, ?_, ?_⟩, rfl, k _ (I2.hok.fresh big)⟩
      · rw [List.length_reverse]
        exact hz
      · exact vals_revE rvs
      · exact Heap.get?_push_size _ rfl
end
end LcM

/-! for i, (a, b) in enumerate(zip(xs, ys)): a zip that an enumerate walks. -/
namespace EnZ
open PySem PySem.Spec PyProof PyProof.Rows L2 LcM
/-- a zip, whatever it says of the tuple that it gave out -/
abbrev ZAt (h : Heap) (z TI TO : Addr) (o : Value) (f : Bool) : Prop :=
  h.get? z = some { cls := .type "zip", dict := none, data := .fields #[o, .bool f, .bool false, .ref TI, .ref TO], slots := #[] }
section
variable {prog : Program} {w : World} {A : Around} {E : Value → Shared → Prop} {s : Shared}
def Free (prog : Program) (w : World) (z : Addr) (s : Shared) : Prop := ∀ (A : Around) (Q : Bool → Shared → Prop) (E : Value → Shared → Prop), Q true s → wpAny (model prog w) A (Builtin.SmallTypes.ownedTupleIsFree (.ref z)) Q E s
theorem free_none {z TI TO : Addr} {f : Bool} (az : ZAt s.heap z TI TO .none f) : Free prog w z s := fun A Q E q => by
  unfold Builtin.SmallTypes.ownedTupleIsFree
  exact wpAny_bind (wpAny_field az rfl (x := .none) rfl (wpAny_pure q))
theorem free_dead {z TI TO T : Addr} {f : Bool} (az : ZAt s.heap z TI TO (rawInt T) f) (gone : s.heap.get? T = none) : Free prog w z s := fun A Q E q => by
  unfold Builtin.SmallTypes.ownedTupleIsFree
  refine wpAny_bind (wpAny_field az rfl (x := rawInt T) rfl ?_)
  have look : wpAny (model prog w) A (loadIfAlive T) (fun r s' => r = none ∧ s' = s) E s := fun _ _ _ => ⟨gone, rfl⟩
  show wpAny _ _ (loadIfAlive ((T : Int).toNat) >>= fun r => _) _ _ _
  rw [Int.toNat_natCast]
  refine wpAny_bind (wpAny_mono look (fun r s' h => ?_) fun _ _ x => x)
  obtain ⟨rfl, rfl⟩ := h
  exact wpAny_pure q
/-- the next pair, where the own tuple is free -/
theorem item_free {z TI TO i1 i2 a b : Addr} {m n : Nat} {xs ys : Array Value} {x y p q o : Value} {f : Bool} {R : Value → Shared → Prop} (D : ZipApart z TI TO i1 i2 a b) (free : Free prog w z s) (az : ZAt s.heap z TI TO o f) (aI : IsPair s.heap TI (.ref i1) (.ref i2)) (aO : IsPair s.heap TO p q)
    (l1 : s.heap.IsListIter i1 a m) (l2 : s.heap.IsListIter i2 b n) (ls1 : s.heap.IsList a xs) (ls2 : s.heap.IsList b ys) (ex : xs[m]? = some x) (ey : ys[n]? = some y)
    (then_ : ∀ h', ZAt h' z TI TO (rawInt s.heap.objs.size) false → IsPair h' TO x y → h'.IsListIter i1 a (m + 1) → h'.IsListIter i2 b (n + 1) → IsPair h' s.heap.objs.size x y → h'.objs.size = s.heap.objs.size + 1 →
      (∀ c u, c ≠ z → c ≠ TO → c ≠ i1 → c ≠ i2 → s.heap.get? c = some u → h'.get? c = some u) → R (.ref s.heap.objs.size) { s with heap := h' }) :
    wpAny (model prog w) A (Builtin.«zip.__next__» ⟨[.ref z], []⟩) (fun fin s' => ∃ v, fin = .done (.ret v) ∧ R v s') E s := by
  show wpAny _ _ (field (.ref z) 2 >>= fun t => _) _ _ _
  refine wpAny_bind (wpAny_field az rfl (x := .bool false) rfl ?_)
  show wpAny _ _ (field (.ref z) 3 >>= fun t => _) _ _ _
  refine wpAny_bind (wpAny_field az rfl (x := .ref TI) rfl (wpAny_bind (wpAny_seqItems aI rfl ?_)))
  show wpAny _ _ (Builtin.SmallTypes.ownedTupleIsFree (.ref z) >>= fun t => _) _ _ _
  refine wpAny_bind (free _ _ _ ?_)
  simp only [if_true]
  refine wpAny_bind (wpAny_rule (wpAny_bind (wpAny_field az rfl (x := .ref TO) rfl (wpAny_bind (wpAny_setField_rec az (by simp) fun g1 z1 s1 => ?_)))))
  replace z1 : ZAt g1 z TI TO .ellipsis f := z1
  simp only [List.zipIdx_cons, List.zipIdx_nil, List.forIn_cons, List.forIn_nil]
  refine wpAny_bind (wpAny_bind (wpAny_bind (wpAny_onRaise ?_)))
  show wpAny _ _ (Builtin.SmallTypes.nextOf (.ref i1) >>= fun t => _) _ _ _
  refine wpAny_bind (wpAny_nextOf_list_item (l1.extBut s1.extBut D.i1z) (ls1.extBut s1.extBut D.l1z) ex fun g2 j1 s2 => wpAny_pure ?_)
  have o2 : IsPair g2 TO p q := s2.extBut _ _ D.TOi1 (s1.extBut _ _ D.TOz aO)
  refine wpAny_bind (wpAny_seqItems o2 rfl (wpAny_bind (wpAny_updateSeq_pair o2 fun g3 o3 s3 => ?_)))
  replace o3 : IsPair g3 TO x q := o3
  refine wpAny_bind (wpAny_letGo (wpAny_pure ?_))
  refine wpAny_bind (wpAny_bind (wpAny_onRaise ?_))
  show wpAny _ _ (Builtin.SmallTypes.nextOf (.ref i2) >>= fun t => _) _ _ _
  have l2' := ((l2.extBut s1.extBut D.i2z).extBut s2.extBut D.i12.symm).extBut s3.extBut D.TOi2.symm
  have ls2' := ((ls2.extBut s1.extBut D.l2z).extBut s2.extBut D.l2i1).extBut s3.extBut D.l2TO
  refine wpAny_bind (wpAny_nextOf_list_item l2' ls2' ey fun g4 j2 s4 => wpAny_pure ?_)
  have o4 : IsPair g4 TO x q := s4.extBut _ _ D.TOi2 o3
  refine wpAny_bind (wpAny_seqItems o4 rfl (wpAny_bind (wpAny_updateSeq_pair o4 fun g5 o5 s5 => ?_)))
  replace o5 : IsPair g5 TO x y := o5
  refine wpAny_bind (wpAny_letGo (wpAny_pure (wpAny_pure ?_)))
  refine wpAny_bind (wpAny_seqItems o5 rfl (wpAny_bind (wpAny_newTuple ?_)))
  have size : g5.objs.size = s.heap.objs.size := by rw [s5.1, s4.1, s3.1, s2.1, s1.1]
  have z5 : ZAt g5 z TI TO .ellipsis f := s5.extBut _ _ D.TOz.symm (s4.extBut _ _ D.i2z.symm (s3.extBut _ _ D.TOz.symm (s2.extBut _ _ D.i1z.symm z1)))
  have stays : ∀ c u, c ≠ z → c ≠ TO → c ≠ i1 → c ≠ i2 → s.heap.get? c = some u → g5.get? c = some u := fun c u n1 n2 n3 n4 e =>
    s5.extBut _ _ n2 (s4.extBut _ _ n4 (s3.extBut _ _ n2 (s2.extBut _ _ n3 (s1.extBut _ _ n1 e))))
  have m1 : g5.IsListIter i1 a (m + 1) := ((j1.extBut s3.extBut D.TOi1.symm).extBut s4.extBut D.i12).extBut s5.extBut D.TOi1.symm
  have m2 : g5.IsListIter i2 b (n + 1) := j2.extBut s5.extBut D.TOi2.symm
  have low : z < g5.objs.size := Heap.lt_size z5
  show wpAny _ _ (Builtin.SmallTypes.ownedTupleHandOut (.ref z) (.ref g5.objs.size) >>= fun t => _) _ _ _
  refine wpAny_bind ?_
  unfold Builtin.SmallTypes.ownedTupleHandOut
  have z6 : ZAt (g5.push { cls := .type "tuple", data := .seq #[x, y] }) z TI TO .ellipsis f := Heap.get?_push_of_some _ z5
  refine wpAny_bind (wpAny_setField_rec z6 (by simp) fun g7 z7 s7 => ?_)
  replace z7 : ZAt g7 z TI TO (rawInt g5.objs.size) f := z7
  refine wpAny_setField_rec z7 (by simp) fun g8 z8 s8 => ?_
  replace z8 : ZAt g8 z TI TO (rawInt g5.objs.size) false := z8
  have up : ∀ c u, c ≠ z → g5.get? c = some u → g8.get? c = some u := fun c u n1 e => s8.extBut _ _ n1 (s7.extBut _ _ n1 (Heap.get?_push_of_some _ e))
  have new : IsPair g8 g5.objs.size x y := s8.extBut _ _ (Nat.ne_of_gt low) (s7.extBut _ _ (Nat.ne_of_gt low) (Heap.get?_push_size _ rfl))
  have one : g8.objs.size = g5.objs.size + 1 := by rw [s8.1, s7.1, Heap.size_push]
  rw [size] at z8 new one
  refine wpAny_pure ⟨_, rfl, ?_⟩
  show R (.ref g5.objs.size) _
  rw [size]
  exact then_ g8 z8 (up _ _ D.TOz o5) (m1.at fun u e => up _ u D.i1z e) (m2.at fun u e => up _ u D.i2z e) new one fun c u n1 n2 n3 n4 e => up c u n1 (stays c u n1 n2 n3 n4 e)
/-- no more pairs, where the own tuple is free -/
theorem end_free {z TI TO i1 i2 a b : Addr} {m n : Nat} {xs ys : Array Value} {p q o : Value} {f : Bool} {R : Fin → Shared → Prop} (calm : A.handled = none) (D : ZipApart z TI TO i1 i2 a b) (free : Free prog w z s) (az : ZAt s.heap z TI TO o f) (aI : IsPair s.heap TI (.ref i1) (.ref i2)) (aO : IsPair s.heap TO p q)
    (l1 : s.heap.IsListIter i1 a m) (l2 : s.heap.IsListIter i2 b n) (ls1 : s.heap.IsList a xs) (ls2 : s.heap.IsList b ys) (no : xs[m]? = none ∨ ys[n]? = none)
    (out : ∀ h' e, (∀ c u, c ≠ z → c ≠ TO → c ≠ i1 → c ≠ i2 → s.heap.get? c = some u → h'.get? c = some u) → (∃ u, h'.get? e = some u ∧ u.cls = .type "StopIteration") → E (.ref e) { s with heap := h' }) :
    wpAny (model prog w) A (Builtin.«zip.__next__» ⟨[.ref z], []⟩) R E s := by
  show wpAny _ _ (field (.ref z) 2 >>= fun t => _) _ _ _
  refine wpAny_bind (wpAny_field az rfl (x := .bool false) rfl ?_)
  show wpAny _ _ (field (.ref z) 3 >>= fun t => _) _ _ _
  refine wpAny_bind (wpAny_field az rfl (x := .ref TI) rfl (wpAny_bind (wpAny_seqItems aI rfl ?_)))
  show wpAny _ _ (Builtin.SmallTypes.ownedTupleIsFree (.ref z) >>= fun t => _) _ _ _
  refine wpAny_bind (free _ _ _ ?_)
  simp only [if_true]
  refine wpAny_bind (wpAny_rule (wpAny_bind (wpAny_field az rfl (x := .ref TO) rfl (wpAny_bind (wpAny_setField_rec az (by simp) fun g1 z1 s1 => ?_)))))
  replace z1 : ZAt g1 z TI TO .ellipsis f := z1
  simp only [List.zipIdx_cons, List.zipIdx_nil, List.forIn_cons, List.forIn_nil]
  refine wpAny_bind (wpAny_bind (wpAny_bind (wpAny_onRaise ?_)))
  show wpAny _ _ (Builtin.SmallTypes.nextOf (.ref i1) >>= fun t => _) _ _ _
  rcases Option.eq_none_or_eq_some xs[m]? with hx | ⟨x, hx⟩
  · refine wpAny_bind (wpAny_nextOf_list_end calm (l1.extBut s1.extBut D.i1z) (ls1.extBut s1.extBut D.l1z) hx fun g2 e s2 he => ?_)
    obtain ⟨oe, ge, ce⟩ := he
    have z2 : ZAt g2 z TI TO .ellipsis f := s2 _ _ D.i1z.symm z1
    have ez : e ≠ z := fun t => by
      rw [t, z2] at ge
      cases ge
      simp at ce
    exact wpAny_setField_rec z2 (by simp) fun g3 _ s3 => out g3 e (fun c u n1 _ n3 _ t => s3.extBut _ _ n1 (s2 _ _ n3 (s1.extBut _ _ n1 t))) ⟨oe, s3.extBut _ _ ez ge, ce⟩
  · have hy : ys[n]? = none := no.resolve_left fun t => by
      rw [hx] at t
      cases t
    refine wpAny_bind (wpAny_nextOf_list_item (l1.extBut s1.extBut D.i1z) (ls1.extBut s1.extBut D.l1z) hx fun g2 j1 s2 => wpAny_pure ?_)
    have o2 : IsPair g2 TO p q := s2.extBut _ _ D.TOi1 (s1.extBut _ _ D.TOz aO)
    refine wpAny_bind (wpAny_seqItems o2 rfl (wpAny_bind (wpAny_updateSeq_pair o2 fun g3 o3 s3 => ?_)))
    refine wpAny_bind (wpAny_letGo (wpAny_pure ?_))
    refine wpAny_bind (wpAny_bind (wpAny_onRaise ?_))
    show wpAny _ _ (Builtin.SmallTypes.nextOf (.ref i2) >>= fun t => _) _ _ _
    have l2' := ((l2.extBut s1.extBut D.i2z).extBut s2.extBut D.i12.symm).extBut s3.extBut D.TOi2.symm
    have ls2' := ((ls2.extBut s1.extBut D.l2z).extBut s2.extBut D.l2i1).extBut s3.extBut D.l2TO
    refine wpAny_bind (wpAny_nextOf_list_end calm l2' ls2' hy fun g4 e s4 he => ?_)
    obtain ⟨oe, ge, ce⟩ := he
    have z4 : ZAt g4 z TI TO .ellipsis f := s4 _ _ D.i2z.symm (s3.extBut _ _ D.TOz.symm (s2.extBut _ _ D.i1z.symm z1))
    have ez : e ≠ z := fun t => by
      rw [t, z4] at ge
      cases ge
      simp at ce
    exact wpAny_setField_rec z4 (by simp) fun g5 _ s5 => out g5 e (fun c u n1 n2 n3 n4 t => s5.extBut _ _ n1 (s4 _ _ n4 (s3.extBut _ _ n2 (s2.extBut _ _ n3 (s1.extBut _ _ n1 t))))) ⟨oe, s5.extBut _ _ ez ge, ce⟩
/-- a zip between two pairs -/
def ZSt (h : Heap) (z TI TO i1 i2 a b : Addr) (k : Nat) : Prop :=
  (∃ o f, ZAt h z TI TO o f ∧ (o = .none ∨ ∃ T : Addr, o = rawInt T)) ∧ IsPair h TI (.ref i1) (.ref i2) ∧ (∃ x y, IsPair h TO x y) ∧ h.IsListIter i1 a k ∧ h.IsListIter i2 b k
theorem next_item {z TI TO i1 i2 a b : Addr} {k : Nat} {xs ys : Array Value} {x y : Value} {R : Value → Shared → Prop} (D : ZipApart z TI TO i1 i2 a b) (st : ZSt s.heap z TI TO i1 i2 a b k) (ls1 : s.heap.IsList a xs) (ls2 : s.heap.IsList b ys) (ex : xs[k]? = some x) (ey : ys[k]? = some y)
    (then_ : ∀ h', ZSt h' z TI TO i1 i2 a b (k + 1) → IsPair h' s.heap.objs.size x y → h'.objs.size = s.heap.objs.size + 1 →
      (∀ c u, c ≠ z → c ≠ TO → c ≠ i1 → c ≠ i2 → s.heap.get? c = some u → h'.get? c = some u) → R (.ref s.heap.objs.size) { s with heap := h' }) :
    wpAny (model prog w) A (Builtin.SmallTypes.nextOf (.ref z)) R E s := by
  obtain ⟨⟨o, f, az, ho⟩, aI, ⟨p, q, aO⟩, l1, l2⟩ := st
  have ty : s.TypeIs (.ref z) "zip" := ⟨_, az, rfl⟩
  unfold Builtin.SmallTypes.nextOf
  refine wpAny_bind (wpAny_callSpecial?_slot (name := Str.ofString "__next__") ty F.slot_zip_next (wpAny_call_entry F.slot_zip_next ty F.entry_zip_next ?_ (F.args_zip_next_1 _)))
  have byFree : Free prog w z s → wpAny (model prog w) A.in1 (Builtin.«zip.__next__» ⟨[.ref z], []⟩) (fun fin s' => ∃ v, fin = .done (.ret v) ∧ wpAny (model prog w) A (pure v) R E s') E s := fun fr =>
    item_free D fr az aI aO l1 l2 ls1 ls2 ex ey fun h' b1 b2 b3 b4 b5 b6 b7 => wpAny_pure (then_ h' ⟨⟨_, _, b1, .inr ⟨_, rfl⟩⟩, b7 _ _ D.TIz D.TITO D.TIi1 D.TIi2 aI, ⟨_, _, b2⟩, b3, b4⟩ b5 b6 b7)
  rcases ho with rfl | ⟨T, rfl⟩
  · exact byFree (free_none az)
  · rcases Option.eq_none_or_eq_some (s.heap.get? T) with gone | ⟨oT, here⟩
    · exact byFree (free_dead az gone)
    · exact zip_next_item_held D az here aI l1 l2 ls1 ls2 ex ey fun h' b1 b3 b4 b5 b6 b7 => wpAny_pure (then_ h' ⟨⟨_, _, b1, .inr ⟨_, rfl⟩⟩, b7 _ _ D.TIz D.TIi1 D.TIi2 aI, ⟨p, q, b7 _ _ D.TOz D.TOi1 D.TOi2 aO⟩, b3, b4⟩ b5 b6 fun c u n1 _ n3 n4 e => b7 c u n1 n3 n4 e)
theorem next_end {z TI TO i1 i2 a b : Addr} {k : Nat} {xs ys : Array Value} {R : Value → Shared → Prop} (calm : A.handled = none) (D : ZipApart z TI TO i1 i2 a b) (st : ZSt s.heap z TI TO i1 i2 a b k) (ls1 : s.heap.IsList a xs) (ls2 : s.heap.IsList b ys) (no : xs[k]? = none ∨ ys[k]? = none)
    (out : ∀ h' e, (∀ c u, c ≠ z → c ≠ TO → c ≠ i1 → c ≠ i2 → s.heap.get? c = some u → h'.get? c = some u) → (∃ u, h'.get? e = some u ∧ u.cls = .type "StopIteration") → E (.ref e) { s with heap := h' }) :
    wpAny (model prog w) A (Builtin.SmallTypes.nextOf (.ref z)) R E s := by
  obtain ⟨⟨o, f, az, ho⟩, aI, ⟨p, q, aO⟩, l1, l2⟩ := st
  have ty : s.TypeIs (.ref z) "zip" := ⟨_, az, rfl⟩
  unfold Builtin.SmallTypes.nextOf
  refine wpAny_bind (wpAny_callSpecial?_slot (name := Str.ofString "__next__") ty F.slot_zip_next (wpAny_call_entry F.slot_zip_next ty F.entry_zip_next ?_ (F.args_zip_next_1 _)))
  rcases ho with rfl | ⟨T, rfl⟩
  · exact end_free calm D (free_none az) az aI aO l1 l2 ls1 ls2 no out
  · rcases Option.eq_none_or_eq_some (s.heap.get? T) with gone | ⟨oT, here⟩
    · exact end_free calm D (free_dead az gone) az aI aO l1 l2 ls1 ls2 no out
    · exact zip_next_end_held calm D az here aI l1 l2 ls1 ls2 no fun h' e kp he => out h' e (fun c u n1 _ n3 n4 t => kp c u n1 n3 n4 t) he
end
end EnZ

namespace EnZ
open PySem PySem.Spec PyProof PyProof.Rows L2 LcM
section
variable {prog : Program} {w : World} {A : Around} {E : Value → Shared → Prop} {s : Shared}
/-- enumerate's next, over an iterator that makes an object at each turn -/
theorem enum_next {e it : Addr} {c : Int} {old : Value} {P : Value → Heap → Prop} {R : Value → Shared → Prop} (ae : IsEnum s.heap e it c old)
    (inner : ∀ F : Value → Shared → Prop, (∀ x h', P x h' → s.heap.objs.size ≤ h'.objs.size → h'.get? e = s.heap.get? e → F x { s with heap := h' }) → wpAny (model prog w) A (Builtin.SmallTypes.nextOf (.ref it)) F E s)
    (then_ : ∀ x g1 h', P x g1 → s.heap.objs.size ≤ g1.objs.size → IsEnumOut h' e it (c + 1) x g1.objs.size → h'.get? g1.objs.size = some { cls := .type "tuple", data := .seq #[.int c s.toks, x] } →
      h'.objs.size = g1.objs.size + 1 → (∀ b u, b ≠ e → g1.get? b = some u → h'.get? b = some u) → R (.ref g1.objs.size) { s with heap := h', toks := s.toks + 1 }) :
    wpAny (model prog w) A (Builtin.«enumerate.__next__» ⟨[.ref e], []⟩) (fun fin s' => ∃ v, fin = .done (.ret v) ∧ R v s') E s := by
  obtain ⟨hp, g, d, t0, os⟩ := s
  show wpAny _ _ (field (.ref e) 2 >>= fun t => _) _ _ _
  refine wpAny_bind (wpAny_field ae rfl (x := .ref it) rfl (wpAny_bind (inner _ fun x g1 px le same => ?_)))
  have e1 : IsEnum g1 e it c old := same.trans ae
  replace le : hp.objs.size ≤ g1.objs.size := le
  have low : e < g1.objs.size := Heap.lt_size e1
  show wpAny _ _ (field (.ref e) 3 >>= fun t => _) _ _ ⟨g1, g, d, t0, os⟩
  refine wpAny_bind (wpAny_field e1 rfl (x := rawInt c) rfl ?_)
  show wpAny _ _ (field (.ref e) 4 >>= fun t => _) _ _ ⟨g1, g, d, t0, os⟩
  refine wpAny_bind (wpAny_field e1 rfl (x := .none) rfl ?_)
  show wpAny _ _ (mkInt c >>= fun t => _) _ _ ⟨g1, g, d, t0, os⟩
  refine wpAny_bind (wpAny_mkInt ?_)
  show wpAny _ _ (setField (.ref e) 3 (rawInt (c + 1)) >>= fun t => _) _ _ ⟨g1, g, d, t0 + 1, os⟩
  refine wpAny_bind (wpAny_setField_rec e1 (by simp) fun g2 e2 s2 => ?_)
  replace s2 : Heap.SameBut e g1 g2 := s2
  replace e2 : IsEnum g2 e it (c + 1) old := e2
  show wpAny _ _ (setField (.ref e) 4 .none >>= fun t => _) _ _ ⟨g2, g, d, t0 + 1, os⟩
  refine wpAny_bind (wpAny_setField_rec e2 (by simp) fun g3 e3 s3 => ?_)
  replace s3 : Heap.SameBut e g2 g3 := s3
  replace e3 : IsEnum g3 e it (c + 1) old := e3
  show wpAny _ _ (newTuple [.int c t0, x] >>= fun t => _) _ _ ⟨g3, g, d, t0 + 1, os⟩
  refine wpAny_bind (wpAny_newTuple ?_)
  have size : g3.objs.size = g1.objs.size := by rw [s3.1, s2.1]
  obtain ⟨g4, h4⟩ : ∃ g4, g4 = g3.push { cls := .type "tuple", data := .seq #[.int c t0, x] } := ⟨_, rfl⟩
  have e4 : IsEnum g4 e it (c + 1) old := by
    rw [h4]
    exact Heap.get?_push_of_some _ e3
  have t4 : g4.get? g1.objs.size = some { cls := .type "tuple", data := .seq #[.int c t0, x] } := by
    rw [h4, ← size]
    exact Heap.get?_push_size _ rfl
  have n4 : g4.objs.size = g1.objs.size + 1 := by rw [h4, Heap.size_push, size]
  have k4 : ∀ b u, b ≠ e → g1.get? b = some u → g4.get? b = some u := fun b u n q => by
    rw [h4]
    exact Heap.get?_push_of_some _ (s3.extBut b u n (s2.extBut b u n q))
  show wpAny _ _ (Builtin.SmallTypes.ownedTupleIsFree (.ref e) >>= fun t => _) _ _ ⟨g3.push { cls := .type "tuple", data := .seq #[.int c t0, x] }, g, d, t0 + 1, os⟩
  rw [size, ← h4]
  refine wpAny_bind ?_
  unfold Builtin.SmallTypes.ownedTupleIsFree
  refine wpAny_bind (wpAny_field e4 rfl (x := .none) rfl (wpAny_pure ?_))
  simp only [if_true]
  refine wpAny_bind (wpAny_rule (wpAny_bind (wpAny_field e4 rfl (x := old) rfl (wpAny_bind (wpAny_setField_rec e4 (by simp) fun g5 e5 s5 => ?_)))))
  replace s5 : Heap.SameBut e g4 g5 := s5
  replace e5 : IsEnum g5 e it (c + 1) x := e5
  show wpAny _ _ (Builtin.SmallTypes.ownedTupleHandOut (.ref e) (.ref g1.objs.size) >>= fun t => _) _ _ ⟨g5, g, d, t0 + 1, os⟩
  refine wpAny_bind ?_
  unfold Builtin.SmallTypes.ownedTupleHandOut
  refine wpAny_bind (wpAny_setField_rec e5 (by simp) fun g6 e6 s6 => ?_)
  replace s6 : Heap.SameBut e g5 g6 := s6
  replace e6 : IsEnumOut g6 e it (c + 1) x g1.objs.size := e6
  refine wpAny_setField_rec e6 (by simp) fun g7 e7 s7 => ?_
  replace s7 : Heap.SameBut e g6 g7 := s7
  replace e7 : IsEnumOut g7 e it (c + 1) x g1.objs.size := e7
  have up : ∀ b u, b ≠ e → g4.get? b = some u → g7.get? b = some u := fun b u n q => s7.extBut b u n (s6.extBut b u n (s5.extBut b u n q))
  refine wpAny_bind (wpAny_letGo (wpAny_pure ⟨_, rfl, then_ x g1 g7 px le e7 (up _ _ (Nat.ne_of_gt low) t4) ?_ fun b u n q => up b u n (k4 b u n q)⟩))
  rw [s7.1, s6.1, s5.1, n4]
theorem py_next {e it : Addr} {c : Int} {old : Value} {P : Value → Heap → Prop} {R : Option Value → Shared → Prop} (ae : IsEnum s.heap e it c old)
    (inner : ∀ F : Value → Shared → Prop, ∀ E' : Value → Shared → Prop, (∀ x h', P x h' → s.heap.objs.size ≤ h'.objs.size → h'.get? e = s.heap.get? e → F x { s with heap := h' }) → wpAny (model prog w) A.in1 (Builtin.SmallTypes.nextOf (.ref it)) F E' s)
    (then_ : ∀ x g1 h', P x g1 → s.heap.objs.size ≤ g1.objs.size → IsEnumOut h' e it (c + 1) x g1.objs.size → h'.get? g1.objs.size = some { cls := .type "tuple", data := .seq #[.int c s.toks, x] } →
      h'.objs.size = g1.objs.size + 1 → (∀ b u, b ≠ e → g1.get? b = some u → h'.get? b = some u) → R (some (.ref g1.objs.size)) { s with heap := h', toks := s.toks + 1 }) :
    wpAny (model prog w) A (pyNext (.ref e)) R E s := by
  have ty : s.TypeIs (.ref e) "enumerate" := ⟨_, ae, rfl⟩
  unfold pyNext
  refine wpAny_bind (wpAny_attempt (wpAny_callSpecial?_slot (name := Str.ofString "__next__") ty F.slot_enumerate_next (wpAny_call_entry F.slot_enumerate_next ty F.entry_enumerate_next ?_ (F.args_enumerate_next_1 _))))
  exact enum_next ae (fun F => inner F _) fun x g1 h' a1 a2 a3 a4 a5 a6 => wpAny_pure (then_ x g1 h' a1 a2 a3 a4 a5 a6)
theorem py_end {e it : Addr} {c : Int} {old : Value} {P : Heap → Prop} {R : Option Value → Shared → Prop} (ae : IsEnum s.heap e it c old)
    (inner : ∀ F E' : Value → Shared → Prop, (∀ h' x, P h' → (∃ u, h'.get? x = some u ∧ u.cls = .type "StopIteration") → E' (.ref x) { s with heap := h' }) → wpAny (model prog w) A.in1 (Builtin.SmallTypes.nextOf (.ref it)) F E' s)
    (then_ : ∀ h', P h' → R none { s with heap := h' }) : wpAny (model prog w) A (pyNext (.ref e)) R E s := by
  have ty : s.TypeIs (.ref e) "enumerate" := ⟨_, ae, rfl⟩
  unfold pyNext
  refine wpAny_bind (wpAny_attempt (wpAny_callSpecial?_slot (name := Str.ofString "__next__") ty F.slot_enumerate_next (wpAny_call_entry F.slot_enumerate_next ty F.entry_enumerate_next ?_ (F.args_enumerate_next_1 _))))
  show wpAny _ _ (field (.ref e) 2 >>= fun t => _) _ _ _
  refine wpAny_bind (wpAny_field ae rfl (x := .ref it) rfl (wpAny_bind (inner _ _ fun h' x ph hx => ?_)))
  obtain ⟨u, gu, cu⟩ := hx
  exact wpAny_bind (wpAny_isInstance (T := "StopIteration") (b := true) ⟨u, gu, cu⟩ isSubtype_stop (wpAny_pure (then_ _ ph)))
/-- enumerate(z), z a zip: one new cell -/
theorem new_over {z TI TO : Addr} {o : Value} (az : IsZip s.heap z TI TO o) {R : Value → Shared → Prop}
    (then_ : ∀ h', IsEnum h' s.heap.objs.size z 0 .none → h'.objs.size = s.heap.objs.size + 1 → (∀ b u, s.heap.get? b = some u → h'.get? b = some u) → R (.ref s.heap.objs.size) { s with heap := h' }) :
    wpAny (model prog w) A (call (.type "enumerate") [.ref z]) R E s := by
  have M : Meets (Builtin.«enumerate.__new__» ⟨[.type "enumerate", .ref z], []⟩) (fun _ R s => IsZip s.heap z TI TO o ∧ R (.ok (.ret (.ref s.heap.objs.size))) { s with heap := s.heap.push { cls := .type "enumerate", data := .fields #[.none, .bool false, .ref z, rawInt 0, .none, .none] } }) :=
    .of_wp fun prog w A R s h => by
      obtain ⟨hp, g, d, tk, os⟩ := s
      obtain ⟨h1, h⟩ := h
      have hsub := sub_enumerate
      have q1 : ∀ {A' : Around} {E : Value → Shared → Prop} {Q : Value → Shared → Prop}, Q (.ref z) ⟨hp, g, d, tk, os⟩ → wpAny (model prog w) A' (pyIter (.ref z)) Q E ⟨hp, g, d, tk, os⟩ := fun q => wpAny_pyIter_zip (s := ⟨hp, g, d, tk, os⟩) h1 q
      wp_walk using q1
      refine wpAny_stack_any fun top => wpAny_pure ?_
      split <;> first
        | (wp_walk using q1; exact ⟨_, rfl, h⟩)
        | (rename_i own _ _ _ _ _
           cases (own == Value.type "enumerate") <;> (wp_walk using q1; exact ⟨_, rfl, h⟩))
  refine callType_new F.called_enumerate (by decide) (F.typeCall_enumerate_1 _) (F.newCall_enumerate_1 _) (fun obj => F.args_object_init_2 obj _) F.entry_enumerate_new M ⟨az, ?_⟩
  have he : IsEnum (s.heap.push { cls := .type "enumerate", data := .fields #[.none, .bool false, .ref z, rawInt 0, .none, .none] }) s.heap.objs.size z 0 .none := Heap.get?_push_size _ rfl
  refine ⟨⟨_, he, rfl⟩, then_ _ he (Heap.size_push ..) fun b u q => Heap.get?_push_of_some _ q⟩
end
end EnZ

namespace EnZ
open PySem PySem.Spec PyProof PyProof.Rows L2 LcM
/-- enumerate(zip(a, b)): each pair new, and the place and the pair in a new tuple -/
def ItZ (K : PySem.W.Frag) (a b : Addr) : It where
  go := fun i H => ∃ (xs ys : List V) (x y : V), SqL K H a xs ∧ SqL K H b ys ∧ xs[i]? = some x ∧ ys[i]? = some y
  yld := fun i H v H' => ∃ S T x y, v = .ref T ∧ H S = none ∧ H T = none ∧ S ≠ T ∧ H' = upd (upd H S (.tup [x, y])) T (.tup [.int (i : Nat), .ref S]) ∧ (∀ xs, SqL K H a xs → xs[i]? = some x) ∧ ∀ ys, SqL K H b ys → ys[i]? = some y
  stop := fun i H => ∃ xs ys : List V, SqL K H a xs ∧ SqL K H b ys ∧ (xs.length ≤ i ∨ ys.length ≤ i)
theorem turn_enZ {P : Program} {w : World} {K : PySem.W.Frag} {elts : List Expr} {kk : Nat} {tpos : Pos} {a b e z TI TO i1 i2 : Addr} (D : ZipApart z TI TO i1 i2 a b) (ez : e ≠ z) (eI : e ≠ TI) (eO : e ≠ TO) (e1 : e ≠ i1) (e2 : e ≠ i2) :
    Turn P w K (.Tuple elts kk tpos) (ItZ K a b) [e, z, TI, TO, i1, i2] e (fun i h => (∃ old, IsEnum h e z (i : Nat) old) ∧ ZSt h z TI TO i1 i2 a b i) where
  mem := by simp
  obj := fun i h st c hc => by
    obtain ⟨⟨old, ie⟩, ⟨o, f, az, _⟩, aI, ⟨x, y, aO⟩, ⟨o1, g1, _, d1⟩, ⟨o2, g2, _, d2⟩⟩ := st
    have q : c = e ∨ c = z ∨ c = TI ∨ c = TO ∨ c = i1 ∨ c = i2 := by simpa using hc
    rcases q with q | q | q | q | q | q <;> rw [q]
    · exact ⟨_, ie, fun v t => nomatch t⟩
    · exact ⟨_, az, fun v t => nomatch t⟩
    · exact ⟨_, aI, fun v t => nomatch t⟩
    · exact ⟨_, aO, fun v t => nomatch t⟩
    · exact ⟨o1, g1, fun v t => by rw [d1] at t; cases t⟩
    · exact ⟨o2, g2, fun v t => by rw [d2] at t; cases t⟩
  keep := fun i h h' st k => by
    obtain ⟨⟨old, ie⟩, ⟨o, f, az, ho⟩, aI, ⟨x, y, aO⟩, l1, l2⟩ := st
    exact ⟨⟨old, k e (by simp) _ ie⟩, ⟨o, f, k z (by simp) _ az, ho⟩, k TI (by simp) _ aI, ⟨x, y, k TO (by simp) _ aO⟩, l1.at fun u q => k i1 (by simp) u q, l2.at fun u q => k i2 (by simp) u q⟩
  item := by
    intro X hP hw hK hc i pins s σ H E I hf st hg
    subst hP hw hK
    obtain ⟨⟨old, ie⟩, zs⟩ := st
    obtain ⟨xs, ys, x, y, qx, qy, hx, hy⟩ := hg
    obtain ⟨its, rv, p1, _⟩ := I.list qx
    obtain ⟨its2, rv2, p2, _⟩ := I.list qy
    obtain ⟨u, hu, ru⟩ := rv.get hx
    obtain ⟨u2, hu2, ru2⟩ := rv2.get hy
    have lowE : e < s.heap.objs.size := Heap.lt_size ie
    have lowAll : ∀ c ∈ [e, z, TI, TO, i1, i2], c < s.heap.objs.size := fun c hc => by
      obtain ⟨⟨o, f, az, _⟩, aI, ⟨x0, y0, aO⟩, ⟨o1, g1, _, d1⟩, ⟨o2, g2, _, d2⟩⟩ := zs
      have q : c = e ∨ c = z ∨ c = TI ∨ c = TO ∨ c = i1 ∨ c = i2 := by simpa using hc
      rcases q with q | q | q | q | q | q <;> rw [q]
      · exact lowE
      · exact Heap.lt_size az
      · exact Heap.lt_size aI
      · exact Heap.lt_size aO
      · exact Heap.lt_size g1
      · exact Heap.lt_size g2
    refine py_next (P := fun v g1 => v = .ref s.heap.objs.size ∧ ZSt g1 z TI TO i1 i2 a b (i + 1) ∧ IsPair g1 s.heap.objs.size u u2 ∧ g1.objs.size = s.heap.objs.size + 1 ∧ ∀ c o, c ≠ z → c ≠ TO → c ≠ i1 → c ≠ i2 → s.heap.get? c = some o → g1.get? c = some o) ie
      (fun F E' k => next_item D zs p1.isList p2.isList (by simpa using hu) (by simpa using hu2) fun h' b1 b2 b3 b4 => k _ h' ⟨rfl, b1, b2, b3, b4⟩ (by omega) ((b4 e _ ez eO e1 e2 ie).trans ie.symm)) fun v g1 h' pv le eo tup sz up => ?_
    obtain ⟨rfl, zs1, pair, size, kp⟩ := pv
    refine ⟨_, rfl, wpAny_letOwnedTupleGo_enum (s := { s with heap := h', toks := s.toks + 1 }) eo fun h2 ie2 sb => ?_⟩
    replace sb : Heap.SameBut e h' h2 := sb
    have nS : s.heap.objs.size ≠ g1.objs.size := by omega
    have hS : H s.heap.objs.size = none := I.hok.fresh (Nat.le_refl _)
    have hT : H g1.objs.size = none := I.hok.fresh le
    have up2 : ∀ c o, c ≠ e → g1.get? c = some o → h2.get? c = some o := fun c o n q => (sb.2 c n).trans (up c o n q)
    have I1 : Inv X pins σ (upd H s.heap.objs.size (.tup [x, y])) { s with heap := g1 } :=
      I.turnedNew (t' := s.toks) (ch := [z, TO, i1, i2]) (fun c o hb q => kp c o (fun t => hb (by simp [t])) (fun t => hb (by simp [t])) (fun t => hb (by simp [t])) (fun t => hb (by simp [t])) q) (fun c hc => hf c (by
        have q : c = z ∨ c = TO ∨ c = i1 ∨ c = i2 := by simpa using hc
        rcases q with q | q | q | q <;> rw [q] <;> simp)) (Nat.le_refl _) ⟨by show 2 ≤ sizeLine; decide, [u, u2], .cons ru (.cons ru2 .nil), ⟨_, pair, rfl, _, rfl⟩⟩
    have tup2 : h2.get? g1.objs.size = some { cls := .type "tuple", data := .seq #[.int (i : Nat) s.toks, .ref s.heap.objs.size] } := (sb.2 _ (Nat.ne_of_gt (Nat.lt_of_lt_of_le lowE le))).trans tup
    have fe := hf e (by simp)
    have I2 : Inv X pins σ (upd (upd H s.heap.objs.size (.tup [x, y])) g1.objs.size (.tup [.int (i : Nat), .ref s.heap.objs.size])) { s with heap := h2, toks := s.toks + 1 } :=
      I1.turnedNew (t' := s.toks + 1) (ch := [e]) (fun c o hb q => up2 c o (fun t => hb (by simp [t])) q) (fun c hc => by
        have q : c = e := by simpa using hc
        rw [q]
        exact ⟨by rw [upd_ne (Nat.ne_of_lt lowE)]; exact fe.1, fe.2⟩) (Nat.le_refl _) ⟨by show 2 ≤ sizeLine; decide, [.int (i : Nat) s.toks, .ref s.heap.objs.size], .cons ⟨_, rfl⟩ (.cons rfl .nil), ⟨_, tup2, rfl, _, rfl⟩⟩
    refine ⟨.ref g1.objs.size, _, I2, rfl, ⟨_, _, x, y, rfl, hS, hT, nS, rfl, fun l hl => by rw [I.list_inj hl qx]; exact hx, fun l hl => by rw [I.list_inj hl qy]; exact hy⟩, ⟨⟨_, ie2⟩, ?_⟩, fun c hc => ?_⟩
    · obtain ⟨⟨o, f, az, ho⟩, aI, ⟨x0, y0, aO⟩, l1, l2⟩ := zs1
      exact ⟨⟨o, f, up2 _ _ ez.symm az, ho⟩, up2 _ _ eI.symm aI, ⟨x0, y0, up2 _ _ eO.symm aO⟩, l1.at fun u q => up2 _ u e1.symm q, l2.at fun u q => up2 _ u e2.symm q⟩
    · have low := lowAll c hc
      rw [upd_ne (Nat.ne_of_lt (Nat.lt_of_lt_of_le low le)), upd_ne (Nat.ne_of_lt low)]
      exact (hf c hc).1
  done := by
    intro X hP hw hK hc i pins s σ H E I hf st hg
    subst hP hw hK
    obtain ⟨⟨old, ie⟩, zs⟩ := st
    obtain ⟨xs, ys, qx, qy, no⟩ := hg
    obtain ⟨its, rv, p1, _⟩ := I.list qx
    obtain ⟨its2, rv2, p2, _⟩ := I.list qy
    have l1 := rv.length
    have l2 := rv2.length
    have he : its.toArray[i]? = none ∨ its2.toArray[i]? = none := no.imp (fun q => by simp; omega) fun q => by simp; omega
    exact py_end (P := fun h' => ∀ c o, c ≠ z → c ≠ TO → c ≠ i1 → c ≠ i2 → s.heap.get? c = some o → h'.get? c = some o) ie (fun F E' k => next_end (by exact I.ok.hd hc) D zs p1.isList p2.isList he fun h' x kp hx => k h' x kp hx) fun h' kp =>
      ⟨rfl, I.turnedL (t' := s.toks) (ch := [z, TO, i1, i2]) (fun c o hb q => kp c o (fun t => hb (by simp [t])) (fun t => hb (by simp [t])) (fun t => hb (by simp [t])) (fun t => hb (by simp [t])) q) fun c hc => hf c (by
        have q : c = z ∨ c = TO ∨ c = i1 ∨ c = i2 := by simpa using hc
        rcases q with q | q | q | q <;> rw [q] <;> simp)⟩
  self := fun A i s Q E st q => by
    obtain ⟨⟨old, ie⟩, _⟩ := st
    exact wpAny_pyIter_enum ie q
def iEnZ (K : PySem.W.Frag) (ta : TA) : TI := fun σ H R => ta σ H fun vs H1 => ∃ a b xs ys, vs = [.ref a, .ref b] ∧ SqL K H1 a xs ∧ SqL K H1 b ys ∧ R (ItZ K a b) H1
/-- an expression that gives a new zip of two lists -/
def EvZ (X : Cx) (ze : Expr) (ta : TA) : Prop := ∀ (pins : List (Addr × Obj)) (s : Shared) (σ : L2.St) (H : Hp) (R : It → Hp → Prop), Inv X pins σ H s → iEnZ X.K ta σ H R → wpAny (model X.prog X.w) X.A (eval ze X.env) (fun v s1 => ∃ (n a b : Nat) (H1 : Hp), v = .ref (n + 4) ∧ Inv X pins σ H1 s1 ∧ s1.heap.objs.size = n + 5 ∧ a < n ∧ b < n ∧
  IsZip s1.heap (n + 4) (n + 2) (n + 3) .none ∧ IsPair s1.heap (n + 2) (.ref n) (.ref (n + 1)) ∧ (∃ x y, IsPair s1.heap (n + 3) x y) ∧ s1.heap.IsListIter n a 0 ∧ s1.heap.IsListIter (n + 1) b 0 ∧ (∀ c : Nat, n ≤ c → FpOk X pins H1 c) ∧ R (ItZ X.K a b) H1) X.xe s
theorem ev_zip {X : Cx} {e e2 : Expr} {ta : TA} {zp zpos : Pos} (gz : Gl X "zip") (mz : X.mg "zip" = none) (ha : PA X [e, e2] ta)
    (hs : starEach [e, e2] X.env = (false, eval e X.env) :: starEach [e2] X.env := by rfl) (hpl : (backTo zpos (starEach [e2] X.env)).any (·.1) = false := by rfl) : EvZ X (.Call (.Name "zip" zp) [e, e2] [] zpos) ta := by
  intro pins s σ H R I h
  refine Call_ (ld_blt I gz mz PyProof.Rows.boot_zip (PyProof.Rows.callWith_type1 (thn (ha.run zpos pins s σ H _ I h) fun us s1 ⟨vs, H1, I1, r1, q1⟩ => ?_) hs hpl))
  obtain ⟨a, b, xs, ys, rfl, hqx, hqy, q⟩ := q1
  cases r1 with
  | cons ra rr =>
  cases rr with
  | cons rb rr =>
    cases rr
    cases ra
    cases rb
    obtain ⟨its, rv, p1, _⟩ := I1.list hqx
    obtain ⟨its2, rv2, p2, _⟩ := I1.list hqy
    refine call_zip_2 p1.isList p2.isList fun h' hz hI hO h1 h2 size kp => ?_
    exact ⟨s1.heap.objs.size, a, b, H1, rfl, I1.kept (t' := s1.toks) kp, size, p1.lt, p2.lt, hz, hI, ⟨_, _, hO⟩, h1, h2, fun c low => I1.fpOk low (I1.hok.fresh low), q⟩
theorem pi_enZ {X : Cx} {ze : Expr} {ta : TA} {p pos tpos : Pos} {elts : List Expr} {kk : Nat} (ge : Gl X "enumerate") (me : X.mg "enumerate" = none) (hz : EvZ X ze ta)
    (hs : starEach [ze] X.env = (false, eval ze X.env) :: starEach [] X.env := by rfl) : PI X (.Tuple elts kk tpos) (.Call (.Name "enumerate" p) [ze] [] pos) (iEnZ X.K ta) := by
  refine ⟨fun pins s σ H R I h => ?_⟩
  refine Call_ (ld_blt (u := Value.type "enumerate") I ge me (by decide +kernel) (PyProof.Rows.callWith_type1 ?_ hs rfl))
  rw [hs]
  show wpAny _ _ (spliced ((false, eval ze X.env) :: backTo pos (starEach [] X.env))) _ _ s
  refine Calls.spliced_cons (thn (hz pins s σ H R I h) fun v s1 hv => ?_)
  obtain ⟨n, a, b, H1, rfl, I1, size, la, lb, az, aI, aO, h1, h2, fp, q⟩ := hv
  refine Calls.spliced_nil ?_
  refine new_over az fun h2' he size2 kp2 => ?_
  have I2 : Inv X pins σ H1 { s1 with heap := h2' } := I1.kept (t' := s1.toks) kp2
  refine wpAny_pyIter_enum (s := { s1 with heap := h2' }) he ?_
  obtain ⟨x0, y0, aO⟩ := aO
  have ne : ∀ j : Nat, j < 5 → s1.heap.objs.size ≠ n + j := fun j hj t => by
    rw [size] at t
    omega
  refine ⟨s1.heap.objs.size, [s1.heap.objs.size, n + 4, n + 2, n + 3, n, n + 1], _, _, H1, rfl, I2,
    turn_enZ (PySem.W.ktu_apart n a b la lb) (ne 4 (by decide)) (ne 2 (by decide)) (ne 3 (by decide)) (ne 0 (by decide)) (ne 1 (by decide)), ⟨⟨_, he⟩, ⟨_, _, kp2 _ _ az, .inl rfl⟩, kp2 _ _ aI, ⟨x0, y0, kp2 _ _ aO⟩, h1.at fun u t => kp2 _ u t, h2.at fun u t => kp2 _ u t⟩, fun c hc => ?_, q⟩
  have z : c = s1.heap.objs.size ∨ c = n + 4 ∨ c = n + 2 ∨ c = n + 3 ∨ c = n ∨ c = n + 1 := by simpa using hc
  have low : n ≤ c := by
    rcases z with z | z | z | z | z | z <;> rw [z]
    · rw [size]
      exact Nat.le_add_right _ _
    · exact Nat.le_add_right _ _
    · exact Nat.le_add_right _ _
    · exact Nat.le_add_right _ _
    · exact Nat.le_refl _
    · exact Nat.le_add_right _ _
  exact fp c low
end EnZ

namespace EnZ
open PySem PySem.Spec PyProof PyProof.Rows L2 LcM
section
variable {K : PySem.W.Frag} {a b : Addr} {xs ys : List V} {g : TG} {te : TE} {vs : List Nat} {σ : L2.St} {H0 : Hp} {D : Addr} {Qd : Hp → Prop}
/-- [e for i, (x, y) in enumerate(zip(xs, ys))], by the value of each turn -/
theorem lc_enZM (F : Nat → V) (hD : H0 D = none) (hx : SqL K H0 a xs) (hy : SqL K H0 b ys) (small : xs.length ≤ 1000000)
    (turn : ∀ (i : Nat) (x y : V) (S T : Addr) (H : Hp) (R : V → Hp → Prop), xs[i]? = some x → ys[i]? = some y → Grows H0 H → H S = none → H T = none → S ≠ T → (∀ H4, Grows (upd (upd H S (.tup [x, y])) T (.tup [.int (i : Nat), .ref S])) H4 → R (F i) H4) →
      g (.ref T) (wipe σ vs) (upd (upd H S (.tup [x, y])) T (.tup [.int (i : Nat), .ref S])) fun σ2 H2 => wipe σ2 vs = wipe σ vs ∧ te σ2 H2 R)
    (done : ∀ H, Grows H0 H → H D = some (.lst ((List.range (min xs.length ys.length)).map F)) → Qd H) :
    ∃ W : Nat → Nat → Hp → Prop, (∃ m, W 0 m (upd H0 D (.lst []))) ∧ ∀ i m H, W i m H →
      ((ItZ K a b).stop i H ∧ Qd H) ∨ ((ItZ K a b).go i H ∧ ∃ Nx : Hp → Prop, (∀ H', Nx H' → ∃ m', m' < m ∧ W (i + 1) m' H') ∧ ∀ x H', (ItZ K a b).yld i H x H' → g x (wipe σ vs) H' fun σ2 H2 => wipe σ2 vs = wipe σ vs ∧ tYes σ2 H2 fun b H3 =>
        if b = true then te σ2 H3 fun y H4 => ∃ acc, H4 D = some (.lst acc) ∧ acc.length < sizeLine ∧ Nx (upd H4 D (.lst (acc ++ [y]))) else Nx H3) := by
  refine ⟨fun i m H => m = min xs.length ys.length - i ∧ i ≤ min xs.length ys.length ∧ Ma H0 D F i H, ⟨_, rfl, Nat.zero_le _, Ma.start hD⟩, ?_⟩
  rintro i m H ⟨rfl, hi, ma⟩
  have qx : SqL K H a xs := ma.1.seq hx
  have qy : SqL K H b ys := ma.1.seq hy
  rcases Nat.lt_or_ge i (min xs.length ys.length) with lt | ge
  · have l1 : i < xs.length := Nat.lt_of_lt_of_le lt (Nat.min_le_left _ _)
    have l2 : i < ys.length := Nat.lt_of_lt_of_le lt (Nat.min_le_right _ _)
    refine .inr ⟨⟨xs, ys, _, _, qx, qy, List.getElem?_eq_getElem l1, List.getElem?_eq_getElem l2⟩, Ma H0 D F (i + 1), fun H' p => ⟨min xs.length ys.length - (i + 1), by omega, rfl, lt, p⟩, fun v H' yy => ?_⟩
    obtain ⟨S, T, x, y, rfl, hS, hT, ne, rfl, sx, sy⟩ := yy
    rw [yes_eq (A := fun σ2 => wipe σ2 vs = wipe σ vs)]
    have gr : Grows H (upd (upd H S (.tup [x, y])) T (.tup [.int (i : Nat), .ref S])) := (Grows.new hS).trans (Grows.new (by rw [upd_ne ne.symm]; exact hT))
    exact turn i x y S T H _ (sx xs qx) (sy ys qy) ma.1 hS hT ne fun H4 s => ma.more hD (gr.trans s) (Nat.lt_of_lt_of_le l1 small)
  · have e : i = min xs.length ys.length := by omega
    subst e
    refine .inl ⟨⟨xs, ys, qx, qy, ?_⟩, done H ma.1 ma.2⟩
    rcases Nat.le_total xs.length ys.length with q | q
    · exact .inl (by rw [Nat.min_eq_left q]; exact Nat.le_refl _)
    · exact .inr (by rw [Nat.min_eq_right q]; exact Nat.le_refl _)
end
end EnZ

/-! comprehensions over a range with a test; dict comprehensions over a list. -/
namespace LcM
open PySem PySem.Spec PyProof PyProof.Rows L2 SortR
section
variable {K : PySem.W.Frag} {a : Addr} {xs : List V} {g : TG} {tt : TT} {te tk tv : TE} {vs : List Nat} {σ : L2.St} {H0 : Hp} {D : Addr} {Qd : Hp → Prop}
/-- [e for i in range(lo, lo + n) if t] -/
theorem lc_rangeT {lo : Int} {n : Nat} (p : Nat → Bool) (F : Nat → V) (hD : H0 D = none) (small : n ≤ 1000000)
    (turn : ∀ (i : Nat) (H : Hp) (Ry : V → Hp → Prop) (Rn : Hp → Prop), i < n → Grows H0 H → (p i = true → ∀ H4, Grows H H4 → Ry (F i) H4) → (p i = false → ∀ H4, Grows H H4 → Rn H4) →
      g (.int (lo + i)) (wipe σ vs) H fun σ2 H2 => wipe σ2 vs = wipe σ vs ∧ tt σ2 H2 fun t H3 => if t = true then te σ2 H3 Ry else Rn H3)
    (done : ∀ H, Grows H0 H → H D = some (.lst (kept p F n)) → Qd H) :
    ∃ W : Nat → Nat → Hp → Prop, (∃ m, W 0 m (upd H0 D (.lst []))) ∧ ∀ i m H, W i m H →
      ((Itr lo n).stop i H ∧ Qd H) ∨ ((Itr lo n).go i H ∧ ∃ Nx : Hp → Prop, (∀ H', Nx H' → ∃ m', m' < m ∧ W (i + 1) m' H') ∧ ∀ x H', (Itr lo n).yld i H x H' → g x (wipe σ vs) H' fun σ2 H2 => wipe σ2 vs = wipe σ vs ∧ tt σ2 H2 fun b H3 =>
        if b = true then te σ2 H3 fun y H4 => ∃ acc, H4 D = some (.lst acc) ∧ acc.length < sizeLine ∧ Nx (upd H4 D (.lst (acc ++ [y]))) else Nx H3) := by
  refine lc_range (fun i H => Grows H0 H ∧ H D = some (.lst (kept p F i))) ⟨Grows.new hD, upd_same⟩ (fun i H il m => ?_) fun H m => done H m.1 m.2
  refine turn i H _ _ il m.1 (fun hp H4 s => ⟨_, s _ _ m.2, ?_, fun b o e => ?_, ?_⟩) fun hp H4 s => ⟨m.1.trans s, ?_⟩
  · exact Nat.lt_of_le_of_lt (kept_le p F i) (Nat.lt_of_lt_of_le il (Nat.le_trans small (by decide)))
  · rw [upd_ne (ne_of_none e hD)]
    exact s _ _ (m.1 _ _ e)
  · rw [upd_same, kept_yes hp]
  · rw [kept_no hp]
    exact s _ _ m.2
/-- {k: v for x in xs}, keys ints or texts -/
theorem dc_listM (G : Nat → L2.Key) (F : Nat → V) (hD : H0 D = none) (hx : SqL K H0 a xs) (small : xs.length ≤ 1000000)
    (turn : ∀ (i : Nat) (x : V) (H : Hp) (R : V → Hp → V → Hp → Prop), xs[i]? = some x → Grows H0 H → (∀ H4 H5, Grows H H4 → Grows H4 H5 → R (kV (G i)) H4 (F i) H5) →
      g x (wipe σ vs) H fun σ2 H2 => wipe σ2 vs = wipe σ vs ∧ tk σ2 H2 fun y H4 => tv σ2 H4 fun z H5 => R y H4 z H5)
    (done : ∀ H, Grows H0 H → H D = some (.dK (laid (fun _ => true) G F xs.length)) → Qd H) :
    ∃ W : Nat → Nat → Hp → Prop, (∃ m, W 0 m (upd H0 D (.dK []))) ∧ ∀ i m H, W i m H →
      ((Itl K a).stop i H ∧ Qd H) ∨ ((Itl K a).go i H ∧ ∃ Nx : Hp → Prop, (∀ H', Nx H' → ∃ m', m' < m ∧ W (i + 1) m' H') ∧ ∀ x H', (Itl K a).yld i H x H' → g x (wipe σ vs) H' fun σ2 H2 => wipe σ2 vs = wipe σ vs ∧ tYes σ2 H2 fun b H3 =>
        if b = true then tk σ2 H3 fun y H4 => tv σ2 H4 fun z H5 => ∃ kvs k, y = kV k ∧ H5 D = some (.dK kvs) ∧ kvs.length < sizeLine ∧ Nx (upd H5 D (.dK (putK kvs k z))) else Nx H3) := by
  let inv : Nat → Hp → Prop := fun i H => Grows H0 H ∧ H D = some (.dK (laid (fun _ => true) G F i))
  refine ⟨fun i m H => m = xs.length - i ∧ i ≤ xs.length ∧ inv i H, ⟨_, rfl, Nat.zero_le _, Grows.new hD, upd_same⟩, ?_⟩
  rintro i m H ⟨rfl, hi, pv⟩
  rcases Nat.lt_or_ge i xs.length with lt | ge
  · have ex : xs[i]? = some xs[i] := List.getElem?_eq_getElem lt
    refine .inr ⟨⟨xs, _, pv.1.seq hx, ex⟩, inv (i + 1), fun H' p' => ⟨xs.length - (i + 1), by omega, rfl, lt, p'⟩, fun v H' y => ?_⟩
    obtain ⟨rfl, f1⟩ := y
    have e0 : (fun (σ2 : L2.St) (H2 : Hp) => wipe σ2 vs = wipe σ vs ∧ tYes σ2 H2 fun b H3 => if b = true then tk σ2 H3 fun y H4 => tv σ2 H4 fun z H5 => ∃ kvs k, y = kV k ∧ H5 D = some (.dK kvs) ∧ kvs.length < sizeLine ∧ inv (i + 1) (upd H5 D (.dK (putK kvs k z))) else inv (i + 1) H3) =
        fun σ2 H2 => wipe σ2 vs = wipe σ vs ∧ tk σ2 H2 fun y H4 => tv σ2 H4 fun z H5 => ∃ kvs k, y = kV k ∧ H5 D = some (.dK kvs) ∧ kvs.length < sizeLine ∧ inv (i + 1) (upd H5 D (.dK (putK kvs k z))) := by
      funext σ2 H2
      unfold tYes
      dsimp only
      rw [if_pos rfl]
    rw [e0]
    refine turn i v _ (fun y _ z H5 => ∃ kvs k, y = kV k ∧ H5 D = some (.dK kvs) ∧ kvs.length < sizeLine ∧ inv (i + 1) (upd H5 D (.dK (putK kvs k z)))) (f1 xs (pv.1.seq hx)) pv.1 fun H4 H5 s4 s5 => ⟨_, G i, rfl, s5 _ _ (s4 _ _ pv.2), ?_, fun b o e => ?_, ?_⟩
    · exact Nat.lt_of_le_of_lt (laid_le _ G F i) (Nat.lt_of_lt_of_le lt (Nat.le_trans small (by decide)))
    · rw [upd_ne (ne_of_none e hD)]
      exact s5 _ _ (s4 _ _ (pv.1 _ _ e))
    · rw [upd_same]
      rfl
  · have e : i = xs.length := by omega
    subst e
    exact .inl ⟨⟨xs, pv.1.seq hx, Nat.le_refl _⟩, done H pv.1 pv.2⟩
end
end LcM

/-! ### a def that is called, amid an except suite, with the exception that is handled -/
namespace Held
open PySem PySem.Spec PyProof.Rows L2 L2H
structure FnP (P : Program) (w : World) (K : PySem.W.Frag) (mg : Str → Option Value) (base : Heap) (lv : Nat) (g : Addr) (fd : FuncData) (ps : List Str) (pin : Addr × Obj) (sp : Sp) : Prop where
  arity : ∀ vs H Q, sp vs H Q L2.E0 → vs.length = ps.length
  go : ∀ (A : Around) (outer : List Env) (s : Shared) (H : Hp) (zs : Args) (us : List Value) (vs : List V) (Q : VK), RoomH lv A → PinOk outer H s pin → Env0 P w K mg base A outer s H → BindsTo s fd zs (ps.zip us) → Vals vs us →
    sp vs H Q L2.E0 → codeAny (model P w) A (.call (.ref g) zs) (CR L2.CX0 outer P w H s Q L2.E0) s
theorem fnP_of {P : Program} {w : World} {K : PySem.W.Frag} {mg : Str → Option Value} {base : Heap} {x qual : Str} {st : Stmt} {g : Addr} {fd : FuncData} {N ps : List Str} {lv : Nat} {sp : Sp} {pin : Addr × Obj} (F : L2.Fun K x qual st g fd) (S : FnScope N ps (defScope st))
    (arity : ∀ vs H Q, sp vs H Q L2.E0 → vs.length = ps.length)
    (body : ∀ (cdv : Value) (A : Around) (outer : List Env) (s : Shared) (H : Hp) (vs : List V) (Q : VK), RoomH lv (A.deeper (envOfC qual (defScope st) s.heap.objs.size g cdv)) → sp vs H Q L2.E0 →
      ∃ t, PSs (cxH L2.CX0 P w K mg base N qual (defScope st) g cdv A outer s H L2.E0 pin) (defBody st) t ∧ t { nx := fun _ H' => Q .non H', rt := Q } (L2.start N vs) H) : FnP P w K mg base (lv + 1) g fd ps pin sp := by
  obtain ⟨oc, od, kV, doc, pm, an, cdv, ct, osl, rfl, at_, code⟩ := F.ex
  refine ⟨arity, fun A outer s H zs us vs Q room hp e0 binds rel now => ?_⟩
  have stays : ∀ b o, base.get? b = some o → s.heap.get? b = some o := fun b o e => (e0.bs b o e).1
  have KX : K.In s.heap := e0.mod.kin.keeps stays
  have places : ∀ y ∈ ps.zip us, (defScope st).names.lookup y.1 = some .local ∨ ((defScope st).names.lookup y.1 = some .cell ∧ ((cellsFrom (s.heap.objs.size + 1) (defScope st).names []).lookup y.1).isSome = true) := by
    rintro ⟨n, v⟩ hy
    have hn := (List.of_mem_zip hy).1
    rcases S.par n hn with q | q
    · exact Or.inl q
    · exact Or.inr ⟨q, PySem.W.cellsFrom_some _ _ _ (Or.inl q)⟩
  apply codeAny_call_function room.depth (KX _ _ at_) rfl S.co S.gen rfl (PySem.W.codeRec_of KX code)
  apply binds
  apply wpAny_newFunctionEnv_cells S.kind places
  intro env he s1 x
  subst he
  refine ⟨(e0.mod.nolimit.keeps stays).keeps x.toInCall.keep, codeAny_func ?_⟩
  obtain ⟨t, ht, hq⟩ := body cdv A outer s H vs Q (room.deeper _) now
  have I := inv_startH (CX := L2.CX0) (P := P) (w := w) (K := K) (mg := mg) (base := base) (E := L2.E0) S hp e0 (arity _ _ _ now) rel x
  refine wpAny_mono (ht.run [] s1 (L2.start N vs) H _ I hq) (fun fl s' hs => ?_) (fun e s' hs => hs)
  cases fl with
  | brk =>
    obtain ⟨_, _, _, no⟩ := hs
    exact no.elim
  | cont =>
    obtain ⟨_, _, _, no⟩ := hs
    exact no.elim
  | next =>
    obtain ⟨σ', H', J, q⟩ := hs
    exact ⟨V.non, H', J.os, J.bare, J.base, J.hok, rfl, q⟩
  | ret u =>
    obtain ⟨v, σ', H', J, rv, q⟩ := hs
    exact ⟨v, H', J.os, J.bare, J.base, J.hok, rv, q⟩
def tCallP (sp : Sp) (t : TA) : TE := fun σ H Q => t σ H fun vs H1 => sp vs H1 Q L2.E0
section
variable {X : Cx} {lv : Nat} {g : Addr} {fd : FuncData} {ps : List Str} {sp : Sp} {pin : Addr × Obj} {x : Str} {q pos : Pos} {e : Expr} {es : List Expr} {t : TA}
theorem pe_callP (F : FnP X.prog X.w X.K X.mg X.base lv g fd ps pin sp) (room : RoomH lv X.A) (there : pin ∈ X.pn) (hg : Gl X x) (hm : X.mg x = some (.ref g)) (hk : PySem.W.keepIn X.K (.ref g) = true) (hb : Binds X.K fd ps [])
    (ha : PA X (e :: es) t) (nd : (x == ("__debug__" : Str)) = false := by decide) (st : starEach (e :: es) X.env = (false, eval e X.env) :: starEach es X.env := by rfl) (np : (backTo pos (starEach es X.env)).any (·.1) = false := by rfl) :
    PE X (.Call (.Name x q) (e :: es) [] pos) (tCallP sp t) := by
  constructor
  intro pins s σ H Q I h
  apply wpAny_Call_Name_kw (ld_glob I hg hm _ nd)
  refine PySem.W.callWith_K (h₀ := X.base) I.ok.mod.kin hk (thn (ha.run pos pins s σ H _ I h) ?_) st np
  rintro us s1 ⟨vs, H1, J, rel, now⟩
  refine ⟨J.kIn, ?_⟩
  have P1 := J.pin pin (List.mem_append_left _ there)
  have ok : PinOk X.stack H1 s1 pin := ⟨P1.1, P1.2.1, fun m => by
    rcases List.mem_cons.mp (J.stkSub pin.1 m) with z | z
    · exact P1.2.2.1 z
    · exact P1.2.2.2.1 z, P1.2.2.2.2⟩
  have hl : (us ++ []).length = ps.length := by
    rw [List.append_nil, ← rel.length]
    exact F.arity _ _ _ now
  have b := hb s1 us J.kIn hl
  rw [List.append_nil] at b
  refine wpAny_call (codeAny_mono (F.go X.A X.stack s1 H1 ⟨us, []⟩ us vs Q room ok J.env0 b rel now) ?_)
  intro r s' hr
  match r, hr with
  | .error e, hr => exact hr.elim
  | .ok (.ret u), hr => exact J.after hr
  | .ok .next, hr => exact hr.elim
  | .ok .brk, hr => exact hr.elim
  | .ok .cont, hr => exact hr.elim
/-- isinstance of what is pinned: an exception without a dict -/
def rIsP (K : PySem.W.Frag) (a D : Addr) : List V → Hp → VK → Prop := fun xs H Q => ∃ (c : V) (cv : Value) (b : Bool), xs = [.ref a, c] ∧ (∀ u, RelV c u → u = cv) ∧ PySem.W.kitOne K (.ref D) cv = some b ∧ Q (.bl b) H
theorem call_isP {D a : Addr} {oe : Obj} (C : ExcC X.K D) (there : (a, oe) ∈ X.pn) (z : Zc (.ref D) none oe) (hf : ∃ vs, oe.data = .fields vs) : CallR X (.builtin "isinstance") (rIsP X.K a D) := by
  intro pins s σ H xs us Q I r h
  obtain ⟨c, cv, b, rfl, hcv, e, q⟩ := h
  match us, r with
  | [_, _], .cons rx (.cons rt .nil) =>
    cases rx
    cases hcv _ rt
    have at_ := (I.pin (a, oe) (List.mem_append_left _ there)).1
    have J : PySem.W.InstAt s.heap a oe D none := by
      obtain ⟨vs, ev⟩ := hf
      obtain ⟨z1, z2⟩ := z
      cases oe
      simp only at z1 z2 ev
      cases z1
      cases z2
      cases ev
      exact ⟨at_, rfl, rfl, trivial⟩
    exact PySem.W.kia_one (PySem.W.handS_kitx_exc C.hg C.hk C.hs C.hd C.ha C.hn C.ht C.hm) I.kIn J e (fun z => nomatch z) fun tk => ⟨.bl b, H, I.kept (t' := tk) fun _ _ z => z, rfl, q⟩
end
/-! ### f(e, ..), f an expression that gives one of some defs -/
def tCallF (K : PySem.W.Frag) (D : Addr → Sp) (E : L2.St → XK) (tf : TE) (t : TA) : TE := fun σ H Q => tf σ H fun y H1 => ∃ g, y = V.ref g ∧ PySem.W.keepIn K (.ref g) = true ∧ t σ H1 fun vs H2 => D g vs H2 Q (E σ)
section
variable {X : Cx} {CX : CXT} {lv : Nat} {D : Addr → Sp} {E : L2.St → XK} {pos : Pos} {fe e : Expr} {es : List Expr} {tf : TE} {t : TA}
theorem pe_callF (hf : PE X fe tf) (F : ∀ g vs H Q E', D g vs H Q E' → ∃ fd ps sp, FnOk X.prog X.w X.K X.mg X.base CX lv g fd ps sp ∧ Binds X.K fd ps [] ∧ sp vs H Q E') (room : Room lv X.A) (hx : ∀ σ, PassesAt CX X σ (E σ))
    (ha : PA X (e :: es) t)
    (ht : eval (.Call fe (e :: es) [] pos) X.env = (do callWith pos (← eval fe X.env) [] (backTo pos (starEach (e :: es) X.env)) (backToKw pos (keywordEach [] X.env))) := by rfl)
    (st : starEach (e :: es) X.env = (false, eval e X.env) :: starEach es X.env := by rfl) (np : (backTo pos (starEach es X.env)).any (·.1) = false := by rfl) : PE X (.Call fe (e :: es) [] pos) (tCallF X.K D E tf t) := by
  constructor
  intro pins s σ H Q I h
  refine Call_ (thn (hf.run pins s σ H _ I h) ?_) ht
  rintro u s1 ⟨y, H1, J, ry, g, ey, kg, now⟩
  subst ey
  obtain rfl : u = Value.ref g := ry
  refine PySem.W.callWith_K (h₀ := X.base) I.ok.mod.kin kg (thn (ha.run pos pins s1 σ H1 _ J now) ?_) st np
  rintro us s2 ⟨vs, H2, J2, rel, due⟩
  obtain ⟨fd, ps, sp, G, hb, ok⟩ := F _ _ _ _ _ due
  exact ⟨J2.kIn, run_fnS G room hb (hx σ) J2 rel ok⟩
end
end Held

namespace K47
open PySem PySem.Spec PyProof.Rows L2 LcM
def top (i : Nat) : Stmt := PySem.Challenge.pw_twopartings_k47_errors_of_leaving.main.body.getD i (.Pass ⟨0, 0, 0, 0⟩)
abbrev sBag : Stmt := top 51
abbrev sStir : Stmt := top 52
abbrev sDraw : Stmt := top 53
abbrev sAlike : Stmt := top 54
def CPowW (i j : Int) : Prop := 0 ≤ j ∧ (Builtin.Int.intBits i : Int) * j ≤ 2 ^ 27
section
variable {X : Cx}
theorem op_powW : OpR X (binaryOp .Pow) (rI CPowW fun i j => .int (i ^ j.toNat)) := opI fun _ _ _ _ _ _ _ hc q => pow_int hc.1 hc.2 q
end
theorem bits_of {i : Int} {n : Nat} (h : i.natAbs < 2 ^ n) (h0 : 0 < n) : Builtin.Int.intBits i ≤ n := by
  unfold Builtin.Int.intBits
  split
  · omega
  · have := PySem.Flt.log2_lt_of h0 h
    omega
theorem pow3' {i : Int} {n : Nat} (h : i.natAbs < 2 ^ 64) (hn : n ≤ 1000) : CPowW i n := ⟨by omega, by
  have := bits_of h (by decide)
  have z : (Builtin.Int.intBits i : Int) * (n : Int) ≤ 64 * 1000 := Int.mul_le_mul (by omega) (by omega) (by omega) (by decide)
  omega⟩
theorem pow3 {i : Int} (h : i.natAbs < 2 ^ 300) : CPowW i 3 := ⟨by decide, by have := bits_of h (by decide); omega⟩

/-! ### the heap grows: all of it stays but at one place -/
def Gr (p : Addr) (H H' : Hp) : Prop := ∀ b o, b ≠ p → H b = some o → H' b = some o
theorem Gr.refl {p : Addr} {H : Hp} : Gr p H H := fun _ _ _ e => e
theorem Gr.trans {p : Addr} {H H1 H2 : Hp} (x : Gr p H H1) (y : Gr p H1 H2) : Gr p H H2 := fun b o n e => y b o n (x b o n e)
theorem Gr.new {p a : Addr} {H : Hp} {o : HO} (h : H a = none) : Gr p H (upd H a o) := fun b u n e => by
  rw [upd_ne (ne_of_none e h)]
  exact e
theorem Gr.at {p : Addr} {H : Hp} {o : HO} : Gr p H (upd H p o) := fun b u n e => by
  rw [upd_ne n]
  exact e
theorem _root_.LcM.Grows.gr {p : Addr} {H H' : Hp} (x : Grows H H') : Gr p H H' := fun b o _ e => x b o e
/-! ### the pouch -/
/-! ### the bag -/
def bagL (b : Addr) (i t s k : Int) : HO := .lst [.ref b, .int i, .int t, .int s, .int k]
def big : Int := 10 ^ 600
structure Bag (H : Hp) (a : Addr) : Prop where
  ex : ∃ (b : Addr) (i : Nat) (t s k : Int) (cs : List Int), H a = some (bagL b i t s k) ∧ H b = some (.lst (cs.map V.int)) ∧ b ≠ a ∧ i ≤ cs.length ∧ cs.length ≤ 63 ∧ 0 ≤ t ∧ 0 ≤ s ∧ s < 2147483647 ∧ ∀ c ∈ cs, 0 ≤ c
/-- all but the bag as it was -/
def But (a : Addr) (H H' : Hp) : Prop := ∀ b, b ≠ a → H' b = H b
theorem But.refl {a : Addr} {H : Hp} : But a H H := fun _ _ => rfl
theorem But.trans {a : Addr} {H H1 H2 : Hp} (x : But a H H1) (y : But a H1 H2) : But a H H2 := fun b h => (y b h).trans (x b h)
theorem But.upd {a : Addr} {H : Hp} {o : HO} : But a H (upd H a o) := fun b h => upd_ne h

structure Txt0 (mg : Str → Option Value) : Prop where
  int : mg "int" = none
  range : mg "range" = none
  len : mg "len" = none
  abs : mg "abs" = none
  max : mg "max" = none
  min : mg "min" = none
def spStir : Sp := fun vs H Q _ => ∃ (a : Addr) (w : Int), vs = [.ref a, .int w] ∧ Bag H a ∧ 0 < w ∧ w.natAbs.log2 < 200 ∧
  ∀ (v : Int) (H' : Hp), 0 ≤ v → v < w → Bag H' a → But a H H' → Q (.int v) H'

section
variable {P : Program} {w : World} {K : PySem.W.Frag} {mg : Str → Option Value} {base : Heap}
theorem scStir : FnScope ["bag", "wide", "found", "k", "mixed"] ["bag", "wide"] (defScope sStir) := ⟨rfl, rfl, rfl, by decide +kernel, rfl, by decide +kernel, by decide +kernel⟩
theorem ok_stir {f : Addr} {fd : FuncData} (F : Fun K "_law_stirred" "_law_stirred" sStir f fd) (T : Txt0 mg) : FnOk P w K mg base CX0 1 f fd ["bag", "wide"] spStir := by
  refine F.ok scStir (fun vs H Q E h => ?_) (fun cdv A outer s H vs Q E hr h => ?_)
  · obtain ⟨a, w, rfl, _⟩ := h
    rfl
  · obtain ⟨a, w, rfl, hB, hw, hw2, k⟩ := h
    refine ⟨_, pss_cons (ps_set (i := 2) scStir.nd rfl (.inl rfl) pe_int)
      (pss_cons (ps_for PassesOwn.never rfl (pi_range1 (by rfl) T.range (pa_cons (pe_op op_add pe_int (pe_op op_fdiv (pe_bits (pv 1)) pe_int)) pa_nil))
          (pg_name (i := 3) scStir.nd rfl (.inl rfl))
        (pss_cons (ps_asg (pe_op op_add (pe_ix ix_list (pv 0) pe_int (fun _ _ => rfl)) pe_int) (pg_sub (pv 0) pe_int set_list))
        (pss_cons (ps_set (i := 4) scStir.nd rfl (.inl rfl)
          (pe_op op_add (pe_op op_add (pe_op op_add (pe_op op_powW (pe_ix ix_list (pv 0) pe_int (fun _ _ => rfl)) pe_int) (pe_op op_mul pe_int (pe_ix ix_list (pv 0) pe_int (fun _ _ => rfl)))) (pe_op op_mul pe_int (pe_ix ix_list (pv 0) pe_int (fun _ _ => rfl)))) pe_int))
        (pss_cons (ps_asg (pe_op op_mod (pe_callTy call_int1 (by rfl) T.int boot_int (pa_cons (pv 4) pa_nil)) pe_int) (pg_sub (pv 0) pe_int set_list))
        (pss_one (ps_set (i := 2) scStir.nd rfl (.inl rfl) (pe_op op_add (pe_op op_mul (pv 2) pe_int) (pe_op op_fdiv (pe_ix ix_list (pv 0) pe_int (fun _ _ => rfl)) pe_int))))))))
      (pss_one (ps_ret (pe_op op_mod (pe_callTy call_int1 (by rfl) T.int boot_int (pa_cons (pv 2) pa_nil)) (pv 1))))), ?_⟩
    have hbw : Builtin.Int.intBits w ≤ 200 := by
      unfold Builtin.Int.intBits
      split <;> omega
    refine ⟨_, rfl, w, rfl, _, _, rfl, rfl, ⟨by decide, by decide⟩, _, _, rfl, rfl, _, rfl, by omega, by omega,
      for_range (fun i σ H' => ∃ (fnd : Int) (kk mm : Option V), σ = [some (.ref a), some (.int w), some (.int fnd), kk, mm] ∧ 0 ≤ fnd ∧ Bag H' a ∧ But a H H')
      ⟨0, none, none, rfl, Int.le_refl _, hB, .refl⟩ ?_ ?_⟩
    · rintro i σ H' _ ⟨fnd, kk, mm, rfl, hf, ⟨b, ix, t, sd, kn, cs, h1, h2, nb, hi, hc, ht, hs, hs2, hcs⟩, hbut⟩
      have sz : (Builtin.Int.intBits sd : Int) * 3 ≤ 2 ^ 27 := by
        have := intBits_le_64 (k := sd) (by omega) (by omega)
        omega
      -- bag[4] = bag[4] + 1
      refine ⟨_, rfl, a, _, _, _, rfl, rfl, SqL.of h1, rfl, _, _, rfl, rfl, _, rfl, a, _, _, 4, rfl, rfl, h1, rfl, ?_⟩
      -- mixed
      refine ⟨_, rfl, a, _, _, _, rfl, rfl, SqL.of upd_same, rfl, _, _, rfl, rfl, ⟨by decide, sz⟩, ?_⟩
      refine ⟨_, rfl, a, _, _, _, rfl, rfl, SqL.of upd_same, rfl, _, _, rfl, rfl, .inl ⟨by decide, by decide⟩, _, _, rfl, rfl, ?_⟩
      refine ⟨_, rfl, a, _, _, _, rfl, rfl, SqL.of upd_same, rfl, _, _, rfl, rfl, .inl ⟨by decide, by decide⟩, _, _, rfl, rfl, _, _, rfl, rfl, ?_⟩
      obtain ⟨m, hm⟩ : ∃ m : Int, m = sd ^ (3 : Int).toNat + 69621 * sd + 1031 * (kn + 1) + 1 := ⟨_, rfl⟩
      -- bag[3] = int(mixed) % 2147483647
      refine ⟨_, rfl, .inl ⟨_, rfl, _, _, rfl, rfl, (by decide : (0 : Int) < 2147483647), _, rfl, a, _, _, 3, rfl, rfl, upd_same, rfl, ?_⟩⟩
      -- found
      refine ⟨_, rfl, _, _, rfl, rfl, .inr ⟨by decide, by decide⟩, _, rfl, a, _, _, _, rfl, rfl, SqL.of upd_same, rfl, _, _, rfl, rfl, ⟨by decide, by decide⟩, _, _, rfl, rfl, ?_⟩
      have g0 : 0 ≤ m % 2147483647 := Int.emod_nonneg _ (by decide)
      have g1 : m % 2147483647 < 2147483647 := Int.emod_lt_of_pos _ (by decide)
      refine ⟨fnd * 134217728 + m % 2147483647 / 16, _, _, (by rw [hm]; rfl), by omega, ⟨b, ix, t, m % 2147483647, kn + 1, cs, (by rw [hm]; exact upd_same), ?_, nb, hi, hc, ht, g0, g1, hcs⟩, hbut.trans (But.upd.trans But.upd)⟩
      rw [upd_ne nb, upd_ne nb]
      exact h2
    · rintro σ H' ⟨fnd, kk, mm, rfl, hf, hB', hbut⟩
      refine ⟨_, rfl, .inl ⟨_, rfl, _, rfl, _, _, rfl, rfl, hw, ?_⟩⟩
      exact k _ _ (Int.emod_nonneg _ (by omega)) (Int.emod_lt_of_pos _ hw) hB' hbut
end
end K47

namespace K47
open PySem PySem.Spec PyProof.Rows L2 LcM
structure Txt1 (K : PySem.W.Frag) (mg : Str → Option Value) (fS : Addr) : Prop extends Txt0 mg where
  gS : mg "_law_stirred" = some (.ref fS)
section
variable {P : Program} {w : World} {K : PySem.W.Frag} {mg : Str → Option Value} {base : Heap}
theorem scDraw : FnScope ["bag", "wide", "found"] ["bag", "wide"] (defScope sDraw) := ⟨rfl, rfl, rfl, by decide +kernel, rfl, by decide +kernel, by decide +kernel⟩
theorem dec_of {t u : Int} (e : decide (V.int t = V.int u) = true) : t = u := by simpa using e
theorem ok_draw {f fS : Addr} {fd fdS : FuncData} (F : Fun K "_law_draw" "_law_draw" sDraw f fd) (T : Txt1 K mg fS) (FS : Fun K "_law_stirred" "_law_stirred" sStir fS fdS) (bS : Binds K fdS ["bag", "wide"] []) : FnOk P w K mg base CX0 2 f fd ["bag", "wide"] spStir := by
  have GS : FnOk P w K mg base CX0 1 fS fdS ["bag", "wide"] spStir := ok_stir FS T.toTxt0
  refine F.ok scDraw (fun vs H Q E h => ?_) (fun cdv A outer s H vs Q E hr h => ?_)
  · obtain ⟨a, w, rfl, _⟩ := h
    rfl
  · obtain ⟨a, w, rfl, hB, hw, hw2, k⟩ := h
    refine ⟨_, pss_cons (ps_if (PW.pt (pw_and (pt_cmpR op_eq (pe_ix ix_list (pv 0) pe_int (fun _ _ => rfl)) pe_int (nomark _)) (pw_and1 (pt_cmpR op_lt (pe_ix ix_list (pv 0) pe_int (fun _ _ => rfl)) (pe_callB call_len_seq (by rfl) T.len boot_len (pa_cons (pe_ix ix_list (pv 0) pe_int (fun _ _ => rfl)) pa_nil)) (nomark _)))))
        (pss_cons (ps_asg (pe_ix ix_list (pe_ix ix_list (pv 0) pe_int (fun _ _ => rfl)) (pe_ix ix_list (pv 0) pe_int (fun _ _ => rfl)) (fun _ _ => rfl)) (pg_sub (pv 0) pe_int set_list))
          (pss_one (ps_asg (pe_op op_add (pe_ix ix_list (pv 0) pe_int (fun _ _ => rfl)) pe_int) (pg_sub (pv 0) pe_int set_list))))
        (pss_one (ps_if (pt_cmpR op_eq (pe_ix ix_list (pv 0) pe_int (fun _ _ => rfl)) pe_int (nomark _))
          (pss_one (ps_ret (pe_call GS hr rfl T.gS FS.kp bS .nil pass0 (pa_cons (pv 0) (pa_cons (pv 1) pa_nil)))))
          pss_nil)))
      (pss_cons (ps_set (i := 2) scDraw.nd rfl (.inl rfl) (pe_op op_mod (pe_callTy call_int1 (by rfl) T.int boot_int (pa_cons (pe_ix ix_list (pv 0) pe_int (fun _ _ => rfl)) pa_nil)) (pv 1)))
      (pss_cons (ps_asg (pe_op op_fdivW (pe_ix ix_list (pv 0) pe_int (fun _ _ => rfl)) (pv 1)) (pg_sub (pv 0) pe_int set_list))
      (pss_one (ps_ret (pv 2))))), ?_⟩
    obtain ⟨b, ix, t, sd, kn, cs, h1, h2, nb, hi, hc, ht, hs, hs2, hcs⟩ := id hB
    -- the last three statements, from any bag
    have last : ∀ (H' : Hp) (ix : Nat) (t kn : Int), H' a = some (bagL b ix t sd kn) → H' b = some (.lst (cs.map V.int)) → ix ≤ cs.length → 0 ≤ t → But a H H' →
        ∃ v : Int, ∃ H2 : Hp, v = t % w ∧ H2 = upd H' a (bagL b ix (t / w) sd kn) ∧ Q (.int v) H2 := fun H' ix t kn g1 g2 hi ht hb =>
      ⟨_, _, rfl, rfl, k _ _ (Int.emod_nonneg _ (by omega)) (Int.emod_lt_of_pos _ hw)
        ⟨b, ix, t / w, sd, kn, cs, upd_same, (by rw [upd_ne nb]; exact g2), nb, hi, hc, Int.ediv_nonneg ht (by omega), hs, hs2, hcs⟩ (hb.trans But.upd)⟩
    have fin : ∀ (H' : Hp) (ix : Nat) (t kn : Int), H' a = some (bagL b ix t sd kn) → H' b = some (.lst (cs.map V.int)) → ix ≤ cs.length → 0 ≤ t → But a H H' →
        tSeq (tAsg (tOp (rI (fun _ j => 0 < j) fun i j => V.int (i % j)) (tCB (fun xs H Q => (∃ i, xs = [V.int i] ∧ Q (.int i) H) ∨ ∃ k, xs = [V.bl k] ∧ Q (.int (if k then 1 else 0)) H) (tCons (tOp (rIxL K) (tVar 0) (tC (.int 2))) tNil)) (tVar 1)) (gName 2))
          (tSeq (tAsg (tOp (rI CDivW fun i j => V.int (i / j)) (tOp (rIxL K) (tVar 0) (tC (.int 2))) (tVar 1)) (gSub (tVar 0) (tC (.int 2)) rSetL)) (tRet (tVar 2)))
          { nx := fun _ H' => Q .non H', rt := Q } [some (.ref a), some (.int w), none] H' := fun H' ix t kn g1 g2 hi ht hb => by
      refine ⟨_, rfl, a, _, _, _, rfl, rfl, SqL.of g1, rfl, .inl ⟨_, rfl, _, rfl, _, _, rfl, rfl, hw, ?_⟩⟩
      refine ⟨_, rfl, a, _, _, _, rfl, rfl, SqL.of g1, rfl, _, rfl, _, _, rfl, rfl, ⟨hw, by omega⟩, _, rfl, a, _, _, 2, rfl, rfl, g1, rfl, _, rfl, ?_⟩
      obtain ⟨v, H2, rfl, rfl, q⟩ := last H' ix t kn g1 g2 hi ht hb
      exact q
    refine ⟨_, rfl, a, _, _, _, rfl, rfl, SqL.of h1, rfl, rfl, _, rfl, ?_⟩
    refine ite2 (fun e0 => ?_) (fun e0 => ?_)
    · obtain rfl := dec_of e0
      refine ⟨_, rfl, a, _, _, _, rfl, rfl, SqL.of h1, rfl, _, rfl, a, _, _, _, rfl, rfl, SqL.of h1, rfl, b, _, rfl, .inl (SqL.of h2), _, _, rfl, rfl, _, rfl, ?_⟩
      refine ite2 (fun e1 => ?_) (fun e1 => ?_)
      · have lt : ix < cs.length := by
          have := of_decide_eq_true e1
          rw [List.length_map] at this
          omega
        have g : (cs.map V.int)[ix]? = some (.int cs[ix]) := by
          rw [List.getElem?_map, List.getElem?_eq_getElem lt]
          rfl
        refine ⟨_, rfl, a, _, _, _, rfl, rfl, SqL.of h1, rfl, _, rfl, a, _, _, _, rfl, rfl, SqL.of h1, rfl, b, _, _, _, rfl, rfl, SqL.of h2, atI_nat g, _, rfl, a, _, _, 2, rfl, rfl, h1, rfl, ?_⟩
        refine ⟨_, rfl, a, _, _, _, rfl, rfl, SqL.of upd_same, rfl, _, _, rfl, rfl, _, rfl, a, _, _, 1, rfl, rfl, upd_same, rfl, ?_⟩
        refine fin _ (ix + 1) cs[ix] kn upd_same (by rw [upd_ne nb, upd_ne nb]; exact h2) (by omega) (hcs _ (List.getElem_mem lt)) (But.upd.trans But.upd)
      · refine ⟨_, rfl, a, _, _, _, rfl, rfl, SqL.of h1, rfl, rfl, _, rfl, iteT ?_⟩
        exact ⟨_, rfl, _, rfl, a, w, rfl, hB, hw, hw2, k⟩
    · refine iteF ?_
      refine ⟨_, rfl, a, _, _, _, rfl, rfl, SqL.of h1, rfl, rfl, _, rfl, ?_⟩
      refine ite2 (fun e1 => absurd e1 e0) (fun _ => ?_)
      exact fin H ix t kn h1 h2 hi ht .refl
theorem same_upd {H : Hp} {p : Addr} {o : HO} (h : H p = none) : Same H (upd H p o) := fun b x e => by
  rw [upd_ne (ne_of_none e h)]
  exact e
theorem cut_ints (ns : List Int) (lo hi : Option Int) : ∃ ms : List Int, cutV (ns.map V.int) lo hi = ms.map V.int ∧ ms.length ≤ ns.length :=
  ⟨(ns.drop (HT.sIx (ns.map V.int).length 0 lo)).take (HT.sIx (ns.map V.int).length (ns.map V.int).length hi - HT.sIx (ns.map V.int).length 0 lo), by unfold cutV; rw [List.map_take, List.map_drop], by
    rw [List.length_take, List.length_drop]
    omega⟩
theorem int_at {ms : List Int} {i : Nat} {y : V} (h : (ms.map V.int)[i]? = some y) : ∃ z, y = V.int z := by
  rw [List.getElem?_map] at h
  cases e : ms[i]? with
  | none =>
    rw [e] at h
    cases h
  | some u =>
    rw [e] at h
    exact ⟨u, (Option.some.inj h).symm⟩
/-- a bag, new -/
def spBag (K : PySem.W.Frag) : Sp := fun vs H Q _ => ∃ (a : Addr) (ns : List Int), vs = [.ref a] ∧ SqL K H a (ns.map V.int) ∧ ns.length ≤ 63 ∧ ∀ (H' : Hp) (p : Addr), Same H H' → H p = none → Bag H' p → Q (.ref p) H'
theorem scBag : FnScope ["script", "stir", "cell"] ["script"] (defScope sBag) := ⟨rfl, rfl, rfl, by decide +kernel, rfl, by decide +kernel, by decide +kernel⟩
theorem ok_bag {f : Addr} {fd : FuncData} (F : Fun K "_law_bag" "_law_bag" sBag f fd) (T : Txt0 mg) : FnOk P w K mg base CX0 1 f fd ["script"] (spBag K) := by
  refine F.ok scBag (fun vs H Q E h => ?_) (fun cdv A outer s H vs Q E hr h => ?_)
  · obtain ⟨a, ns, rfl, _⟩ := h
    rfl
  · obtain ⟨a, ns, rfl, hS, hlen, k⟩ := h
    refine ⟨_, pss_cons (ps_set (i := 1) scBag.nd rfl (.inl rfl) pe_int)
      (pss_cons (ps_for PassesOwn.never rfl (pi_list (pe_slice sl_list (pv 0) po_none (po_some pe_int))) (pg_name (i := 2) scBag.nd rfl (.inl rfl))
        (pss_one (ps_set (i := 1) scBag.nd rfl (.inl rfl) (pe_op op_mod (pe_callTy call_int1 (by rfl) T.int boot_int (pa_cons (pe_op op_add (pe_op op_add (pe_op op_mul (pv 1) pe_int) (pe_op op_mod (pe_callTy call_int1 (by rfl) T.int boot_int (pa_cons (pv 2) pa_nil)) pe_int)) pe_int) pa_nil)) pe_int))))
      (pss_one (ps_ret (pe_lst (pa_cons
        (pe_lc (own := [("cell", 2)]) (g := gName 2) (tt := tYes) rfl scBag.nd (pi_list (pe_slice sl_list (pv 0) po_none (po_some pe_int))) (blkOk_by (N := ["script", "stir", "cell"]) (sc := defScope sBag) (by decide +kernel))
          (fun _ _ _ _ _ => pg_name (i := 2) scBag.nd rfl (Or.inl rfl)) (fun _ _ _ _ _ => pts_nil)
          (fun _ _ _ _ _ => pe_op op_mod (pe_callTy call_int1 (by rfl) T.int boot_int (pa_cons (pe_callB call_abs (by rfl) T.abs (by decide +kernel) (pa_cons (pv 2) pa_nil)) pa_nil)) (pe_op op_powW (pe_op op_pow pe_int pe_int) pe_int)))
        (pa_cons pe_int (pa_cons pe_int (pa_cons (pv 1) (pa_cons pe_int pa_nil))))))))), ?_⟩
    obtain ⟨ms, hms, hml⟩ := cut_ints ns none (some 63)
    refine ⟨_, rfl, 63, rfl, a, _, rfl, hS, fun c nc => ⟨c, rfl, ⟨_, SqL.of upd_same⟩, for_list (K := K) (a := c) (xs := ms.map V.int)
      (fun i σ H' => ∃ (st : Int) (v : Option V), σ = [some (.ref a), some (.int st), v] ∧ 0 ≤ st ∧ st < 2147483647 ∧ Same H H' ∧ H' c = some (.lst (ms.map V.int)))
      ⟨251, none, rfl, by decide, by decide, same_upd nc, by rw [upd_same, hms]⟩ (fun i σ H' _ ⟨_, _, _, _, _, _, e⟩ => SqL.of e) ?_ ?_⟩⟩
    · rintro i y σ H' hi' ⟨st, v, rfl, h0, h1, sm, hc⟩
      obtain ⟨z, rfl⟩ := int_at hi'
      refine ⟨_, rfl, _, _, rfl, rfl, .inr ⟨by decide, by decide⟩, _, rfl, .inl ⟨_, rfl, _, _, rfl, rfl, (by show (0 : Int) < 2147483629; decide), _, _, rfl, rfl, _, _, rfl, rfl, .inl ⟨_, rfl, _, _, rfl, rfl, (by show (0 : Int) < 2147483647; decide), ?_⟩⟩⟩
      exact ⟨_, _, rfl, Int.emod_nonneg _ (by decide), Int.emod_lt_of_pos _ (by decide), sm, hc⟩
    · rintro σ H' ⟨st, v, rfl, h0, h1, sm, hc⟩
      have hS' : SqL K H' a (ns.map V.int) := sm.seq hS
      refine ⟨_, rfl, 63, rfl, a, _, rfl, hS', fun d nd => ⟨d, rfl, ⟨_, SqL.of upd_same⟩, fun D hD => ?_⟩⟩
      have hdD : d ≠ D := fun e => by
        rw [← e, upd_same] at hD
        cases hD
      refine lc_list (K := K) (a := d) (xs := ms.map V.int) (fun i H2 => ∃ cs : List Int, Same H' H2 ∧ H2 d = some (.lst (ms.map V.int)) ∧ H2 D = some (.lst (cs.map V.int)) ∧ H' D = none ∧ cs.length = i ∧ ∀ x ∈ cs, 0 ≤ x)
        ⟨[], (same_upd nd).trans (same_upd hD), by rw [upd_ne hdD, upd_same, hms], upd_same, (by rw [upd_ne hdD.symm] at hD; exact hD), rfl, fun x hx => nomatch hx⟩ (fun i H2 _ ⟨_, _, e, _⟩ => SqL.of e) ?_ ?_
      · rintro i y H2 hi' ⟨cs, sm2, e1, e2, nD, el, pos⟩
        obtain ⟨z, rfl⟩ := int_at hi'
        have hil : i < ms.length := by
          have := (List.getElem?_eq_some_iff.mp hi').1
          rw [List.length_map] at this
          exact this
        refine ⟨rfl, ?_⟩
        unfold tYes
        dsimp only
        rw [if_pos rfl]
        refine ⟨_, rfl, _, rfl, .inl ⟨_, rfl, _, _, rfl, rfl, ⟨by decide, by decide, by decide⟩, _, _, rfl, rfl, ⟨by decide, by decide +kernel⟩, _, _, rfl, rfl, Int.pow_pos (Int.pow_pos (by decide)), ?_⟩⟩
        refine ⟨_, e2, ?_, cs ++ [(if z < 0 then -z else z) % ((10 ^ (60 : Int).toNat) ^ (10 : Int).toNat)], fun b o e => ?_, ?_, ?_, nD, ?_, ?_⟩
        · rw [List.length_map]
          exact small1000 (by omega)
        · rw [upd_ne (ne_of_none e nD)]
          exact sm2 _ _ e
        · rw [upd_ne hdD]
          exact e1
        · rw [upd_same, List.map_append]
          rfl
        · rw [List.length_append, List.length_singleton, el]
        · intro x hx
          rcases List.mem_append.mp hx with hx | hx
          · exact pos x hx
          · rw [List.mem_singleton.mp hx]
            exact Int.emod_nonneg _ (Int.ne_of_gt (Int.pow_pos (Int.pow_pos (by decide))))
      · rintro H2 ⟨cs, sm2, e1, e2, nD, el, pos⟩
        rw [List.length_map] at el
        refine ⟨_, rfl, (by show 5 ≤ sizeLine; decide), fun p hp => ?_⟩
        have nDp : D ≠ p := ne_of_none e2 hp
        refine k _ p ((sm.trans sm2).trans (same_upd hp)) ((sm.trans sm2).free hp) ⟨D, 0, 0, st, 0, cs, upd_same, ?_, nDp, Nat.zero_le _, by omega, Int.le_refl _, h0, h1, pos⟩
        rw [upd_ne nDp]
        exact e2
end
end K47

namespace K47
open PySem PySem.Spec PyProof.Rows L2 LcM
theorem at_in {xs : List V} {v : Int} (h0 : 0 ≤ v) (h1 : v < xs.length) : ∃ z ∈ xs, atI xs v = some z := by
  have lt : v.toNat < xs.length := by omega
  have q := atI_nat (List.getElem?_eq_getElem lt)
  rw [Int.toNat_of_nonneg h0] at q
  exact ⟨_, List.getElem_mem lt, q⟩
end K47

namespace K47
open PySem PySem.Spec PyProof.Rows L2 SortR LcM
abbrev sNumber : Stmt := top 15
abbrev sPerson : Stmt := top 16
abbrev sAsc : Stmt := top 17
abbrev sPList : Stmt := top 18
abbrev sGroup : Stmt := top 19
abbrev sMask : Stmt := top 22
abbrev sCross : Stmt := top 23
abbrev sAny : Stmt := top 24
abbrev sParting : Stmt := top 27
abbrev sPersons : Stmt := top 28
/-- the program's defs, where they stand -/
structure ProgF (K : PySem.W.Frag) (mg : Str → Option Value) where
  (fNum fPer fAsc fPL fGr fMask fCross fAny fIs fPs : Addr)
  (dNum dPer dAsc dPL dGr dMask dCross dAny dIs dPs : FuncData)
  FNum : Fun K "is_number" "is_number" sNumber fNum dNum
  FPer : Fun K "is_person" "is_person" sPerson fPer dPer
  FAsc : Fun K "is_ascending" "is_ascending" sAsc fAsc dAsc
  FPL : Fun K "is_person_list" "is_person_list" sPList fPL dPL
  FGr : Fun K "is_group" "is_group" sGroup fGr dGr
  FMask : Fun K "mask_of" "mask_of" sMask fMask dMask
  FCross : Fun K "masks_cross" "masks_cross" sCross fCross dCross
  FAny : Fun K "any_cross" "any_cross" sAny fAny dAny
  FIs : Fun K "is_parting" "is_parting" sParting fIs dIs
  FPs : Fun K "persons_of" "persons_of" sPersons fPs dPs
  gNum : mg "is_number" = some (.ref fNum)
  gPer : mg "is_person" = some (.ref fPer)
  gAsc : mg "is_ascending" = some (.ref fAsc)
  gPL : mg "is_person_list" = some (.ref fPL)
  gGr : mg "is_group" = some (.ref fGr)
  gMask : mg "mask_of" = some (.ref fMask)
  gCross : mg "masks_cross" = some (.ref fCross)
  gAny : mg "any_cross" = some (.ref fAny)
  gIs : mg "is_parting" = some (.ref fIs)
  gPs : mg "persons_of" = some (.ref fPs)
  bNum : Binds K dNum ["thing"] []
  bPer : Binds K dPer ["thing", "persons"] []
  bAsc : Binds K dAsc ["items"] []
  bPL : Binds K dPL ["thing", "persons"] []
  bGr : Binds K dGr ["thing", "persons"] []
  bMask : Binds K dMask ["group"] []
  bCross : Binds K dCross ["one", "other"] []
  bAny : Binds K dAny ["groups"] []
  bIs : Binds K dIs ["thing"] []
  bPs : Binds K dPs ["parting"] []
  gComb : mg "combinations" = some (.type "itertools.combinations")
  mostT : Tok
  gMost : mg "MOST_PERSONS" = some (.int 20 mostT)
/-- the built-in kinds that may come -/
def kinds : List String := ["int", "bool", "str", "NoneType", "list", "tuple", "dict"]
structure TxtP (mg : Str → Option Value) : Prop where
  isi : mg "isinstance" = none
  int : mg "int" = none
  bool : mg "bool" = none
  list : mg "list" = none
  len : mg "len" = none
  all : mg "all" = none
  any : mg "any" = none
  sum : mg "sum" = none
  zip : mg "zip" = none
  sorted : mg "sorted" = none
  tuple : mg "tuple" = none
  range : mg "range" = none
  enumerate : mg "enumerate" = none
def spNumber (K : PySem.W.Frag) : Sp := fun vs H Q _ => ∃ (x : V) (t : String), vs = [x] ∧ TyX K H x (.type t) ∧ t ∈ kinds ∧ Q (.bl (decide (t = "int"))) H
def spPerson (K : PySem.W.Frag) : Sp := fun vs H Q _ => ∃ (x : V) (t : String) (n : Int), vs = [x, .int n] ∧ TyX K H x (.type t) ∧ t ∈ kinds ∧ (t = "int" → ∃ i, x = .int i ∧ Q (.bl (decide (0 ≤ i) && decide (i < n))) H) ∧ (t ≠ "int" → Q (.bl false) H)
/-- each below the one behind it -/
def ascI (ns : List Int) : Bool := (List.range (ns.length - 1)).all fun i => decide (ns.getD i 0 < ns.getD (i + 1) 0)
def ascR (rs : List (List Int)) : Bool := (List.range (rs.length - 1)).all fun i => decide (rs.getD i [] < rs.getD (i + 1) [])
def spAscI (K : PySem.W.Frag) : Sp := fun vs H Q _ => ∃ (a : Addr) (ns : List Int), vs = [.ref a] ∧ SqL K H a (ns.map V.int) ∧ ns.length ≤ 1000 ∧ ∀ H', Grows H H' → Q (.bl (ascI ns)) H'
def spAscR (K : PySem.W.Frag) : Sp := fun vs H Q _ => ∃ (a : Addr) (bs : List (Addr × List Int)), vs = [.ref a] ∧ SqL K H a (bs.map fun b => V.ref b.1) ∧ (∀ b ∈ bs, SqL K H b.1 (b.2.map V.int)) ∧ bs.length ≤ 1000 ∧ ∀ H', Grows H H' → Q (.bl (ascR (bs.map (·.2)))) H'
section
variable {P : Program} {w : World} {K : PySem.W.Frag} {mg : Str → Option Value} {base : Heap}
theorem scNumber : FnScope ["thing"] ["thing"] (defScope sNumber) := ⟨rfl, rfl, rfl, by decide +kernel, rfl, by decide +kernel, by decide +kernel⟩
theorem scPerson : FnScope ["thing", "persons"] ["thing", "persons"] (defScope sPerson) := ⟨rfl, rfl, rfl, by decide +kernel, rfl, by decide +kernel, by decide +kernel⟩
theorem scAsc : FnScope ["items", "low", "high"] ["items"] (defScope sAsc) := ⟨rfl, rfl, rfl, by decide +kernel, rfl, by decide +kernel, by decide +kernel⟩
theorem ok_number {f : Addr} {fd : FuncData} (F : Fun K "is_number" "is_number" sNumber f fd) (T : TxtP mg) : FnOk P w K mg base CX0 1 f fd ["thing"] (spNumber K) := by
  refine F.ok scNumber (fun vs H Q E h => ?_) (fun cdv A outer s H vs Q E hr h => ?_)
  · obtain ⟨x, t, rfl, _⟩ := h
    rfl
  · obtain ⟨x, t, rfl, ty, hk, k⟩ := h
    refine ⟨_, (pss_one (ps_ret (pe_and (pe_callB call_isi (by rfl) T.isi (by decide +kernel) (pa_cons (pv 0) (pa_cons (pe_bltn (v := .ty "int") (u := .type "int") (by rfl) T.int (by decide +kernel) rfl) pa_nil))) (pe_one (pe_not (pe_callB call_isi (by rfl) T.isi (by decide +kernel) (pa_cons (pv 0) (pa_cons (pe_bltn (v := .ty "bool") (u := .type "bool") (by rfl) T.bool (by decide +kernel) rfl) pa_nil)))))))), ?_⟩
    simp only [kinds, List.mem_cons, List.not_mem_nil, or_false] at hk
    rcases hk with rfl | rfl | rfl | rfl | rfl | rfl | rfl
    · exact ⟨_, rfl, _, _, _, _, true, rfl, .ty "int", ty, kit_ty (by decide +kernel), true, rfl, _, rfl, _, _, _, _, false, rfl, .ty "bool", ty, kit_ty (by decide +kernel), false, rfl, k⟩
    · exact ⟨_, rfl, _, _, _, _, true, rfl, .ty "int", ty, kit_ty (by decide +kernel), true, rfl, _, rfl, _, _, _, _, true, rfl, .ty "bool", ty, kit_ty (by decide +kernel), true, rfl, k⟩
    all_goals exact ⟨_, rfl, _, _, _, _, false, rfl, .ty "int", ty, kit_ty (by decide +kernel), false, rfl, k⟩
theorem ok_person (Z : ProgF K mg) (T : TxtP mg) : FnOk P w K mg base CX0 2 Z.fPer Z.dPer ["thing", "persons"] (spPerson K) := by
  have GNum : FnOk P w K mg base CX0 1 Z.fNum Z.dNum ["thing"] (spNumber K) := ok_number Z.FNum T
  refine Z.FPer.ok scPerson (fun vs H Q E h => ?_) (fun cdv A outer s H vs Q E hr h => ?_)
  · obtain ⟨x, t, n, rfl, _⟩ := h
    rfl
  · obtain ⟨x, t, n, rfl, ty, hk, k1, k2⟩ := h
    refine ⟨_, (pss_one (ps_ret (pe_and (pe_call GNum (hr.mono (by decide)) rfl Z.gNum Z.FNum.kp Z.bNum .nil pass0 (pa_cons (pv 0) pa_nil)) (pe_one (pe_chain op_le op_lt pe_int (pv 0) (pv 1)))))), ?_⟩
    refine ⟨_, rfl, x, t, rfl, ty, hk, ?_⟩
    by_cases e : t = "int"
    · obtain ⟨i, rfl, q⟩ := k1 e
      refine ⟨_, rfl, ?_⟩
      rw [if_pos (decide_eq_true e)]
      refine ⟨_, rfl, _, _, rfl, rfl, _, rfl, ?_⟩
      by_cases l : 0 ≤ i
      · rw [if_pos (decide_eq_true l)]
        refine ⟨_, rfl, _, _, rfl, rfl, ?_⟩
        rw [decide_eq_true l, Bool.true_and] at q
        exact q
      · rw [if_neg (by rw [decide_eq_false l]; exact Bool.false_ne_true)]
        rw [decide_eq_false l, Bool.false_and] at q
        exact q
    · refine ⟨_, rfl, ?_⟩
      rw [if_neg (by rw [decide_eq_false e]; exact Bool.false_ne_true)]
      exact k2 e
theorem at_map {α : Type} {f : α → V} {ns : List α} {i : Nat} {x : V} {d : α} (h : (ns.map f)[i]? = some x) : x = f (ns.getD i d) := by
  rw [List.getElem?_map] at h
  obtain ⟨z, hz, e⟩ := Option.map_eq_some_iff.mp h
  rw [← e, List.getD_eq_getElem?_getD, hz]
  rfl
theorem at_tail {α : Type} {f : α → V} {ns : List α} {i : Nat} {x : V} {d : α} (h : (ns.map f).tail[i]? = some x) : x = f (ns.getD (i + 1) d) := by
  rw [List.getElem?_tail] at h
  exact at_map h
theorem all_rng (n : Nat) (p : Nat → Bool) : ((List.range n).map p).all id = (List.range n).all p := by
  rw [List.all_map]
  rfl
theorem ok_ascI {f : Addr} {fd : FuncData} (F : Fun K "is_ascending" "is_ascending" sAsc f fd) (T : TxtP mg) : FnOk P w K mg base CX0 1 f fd ["items"] (spAscI K) := by
  refine F.ok scAsc (fun vs H Q E h => ?_) (fun cdv A outer s H vs Q E hr h => ?_)
  · obtain ⟨a, ns, rfl, _⟩ := h
    rfl
  · obtain ⟨a, ns, rfl, hS, hn, k⟩ := h
    refine ⟨_, (pss_one (ps_ret (pe_callB (cr_all rfl) (by rfl) T.all (by decide +kernel) (pa_cons (pe_lc (own := [("low", 1), ("high", 2)]) (g := gTup K 2 (gCons (gName 1) (gCons (gName 2) gNil))) (tt := tYes) rfl scAsc.nd (pi_zip (by rfl) T.zip (pa_cons (pv 0) (pa_cons (pe_slice sl_list (pv 0) (po_some pe_int) po_none) pa_nil))) (blkOk_by (own := [("low", 1), ("high", 2)]) (N := ["items", "low", "high"]) (sc := defScope sAsc) (by decide +kernel)) (fun _ _ _ _ _ => pg_tup rfl (pgs_cons (pg_name (i := 1) scAsc.nd rfl (Or.inl rfl)) (pgs_cons (pg_name (i := 2) scAsc.nd rfl (Or.inl rfl)) pgs_nil))) (fun _ _ _ _ _ => pts_nil) (fun _ _ _ _ _ => (pe_cmpR op_lt (pv 1) (pv 2) (nomark _)))) pa_nil)))), ?_⟩
    refine ⟨_, rfl, _, rfl, 1, rfl, a, _, rfl, hS, fun c nc => ?_⟩
    rw [cut_tail]
    refine ⟨a, c, _, _, rfl, (Grows.new nc).seq hS, SqL.of upd_same, fun D hD => lc_zipM (K := K) (fun i => V.bl (decide (ns.getD i 0 < ns.getD (i + 1) 0))) hD ((Grows.new nc).seq hS) (SqL.of upd_same) (by rw [List.length_map]; omega) (fun i x y T H' R hx hy sm hT kR => ?_) fun H' sm eD => ?_⟩
    · refine ⟨T, _, rfl, SqT.of upd_same, rfl, _, _, rfl, _, _, rfl, rfl, ?_⟩
      obtain rfl := at_map (d := 0) hx
      obtain rfl := at_tail (d := 0) hy
      exact ⟨rfl, _, rfl, _, rfl, _, _, rfl, rfl, kR _ .refl⟩
    · have e : min (ns.map V.int).length (ns.map V.int).tail.length = ns.length - 1 := by
        rw [List.length_tail, List.length_map]
        omega
      rw [e] at eD
      refine ⟨D, (List.range (ns.length - 1)).map fun i => decide (ns.getD i 0 < ns.getD (i + 1) 0), rfl, SqL.of (by rw [eD, List.map_map]; rfl), ?_⟩
      rw [all_rng]
      exact k H' ((Grows.new nc).trans sm)
theorem ok_ascR {f : Addr} {fd : FuncData} (F : Fun K "is_ascending" "is_ascending" sAsc f fd) (T : TxtP mg) : FnOk P w K mg base CX0 1 f fd ["items"] (spAscR K) := by
  refine F.ok scAsc (fun vs H Q E h => ?_) (fun cdv A outer s H vs Q E hr h => ?_)
  · obtain ⟨a, bs, rfl, _⟩ := h
    rfl
  · obtain ⟨a, bs, rfl, hS, hb, hn, k⟩ := h
    refine ⟨_, (pss_one (ps_ret (pe_callB (cr_all rfl) (by rfl) T.all (by decide +kernel) (pa_cons (pe_lc (own := [("low", 1), ("high", 2)]) (g := gTup K 2 (gCons (gName 1) (gCons (gName 2) gNil))) (tt := tYes) rfl scAsc.nd (pi_zip (by rfl) T.zip (pa_cons (pv 0) (pa_cons (pe_slice sl_list (pv 0) (po_some pe_int) po_none) pa_nil))) (blkOk_by (own := [("low", 1), ("high", 2)]) (N := ["items", "low", "high"]) (sc := defScope sAsc) (by decide +kernel)) (fun _ _ _ _ _ => pg_tup rfl (pgs_cons (pg_name (i := 1) scAsc.nd rfl (Or.inl rfl)) (pgs_cons (pg_name (i := 2) scAsc.nd rfl (Or.inl rfl)) pgs_nil))) (fun _ _ _ _ _ => pts_nil) (fun _ _ _ _ _ => (pe_cmpR (r := rLtR K) (op_ltR (by exact hr.units)) (pv 1) (pv 2) (nomark _)))) pa_nil)))), ?_⟩
    refine ⟨_, rfl, _, rfl, 1, rfl, a, _, rfl, hS, fun c nc => ?_⟩
    rw [cut_tail]
    have hbD : ∀ i : Nat, i < bs.length → SqL K H (bs.getD i (0, [])).1 ((bs.getD i (0, [])).2.map V.int) := fun i hi => by
      rw [List.getD_eq_getElem?_getD, List.getElem?_eq_getElem hi]
      exact hb _ (List.getElem_mem hi)
    refine ⟨a, c, _, _, rfl, (Grows.new nc).seq hS, SqL.of upd_same, fun D hD => lc_zipM (K := K) (fun i => V.bl (decide ((bs.getD i (0, [])).2 < (bs.getD (i + 1) (0, [])).2))) hD ((Grows.new nc).seq hS) (SqL.of upd_same) (by rw [List.length_map]; omega) (fun i x y T H' R hx hy sm hT kR => ?_) fun H' sm eD => ?_⟩
    · have i1 := (List.getElem?_eq_some_iff.mp hx).1
      have i2 := (List.getElem?_eq_some_iff.mp hy).1
      rw [List.length_map] at i1
      rw [List.length_tail, List.length_map] at i2
      refine ⟨T, _, rfl, SqT.of upd_same, rfl, _, _, rfl, _, _, rfl, rfl, ?_⟩
      obtain rfl := at_map (d := (0, [])) hx
      obtain rfl := at_tail (d := (0, [])) hy
      have st : Grows H (upd H' T (.tup [V.ref (bs.getD i (0, [])).1, V.ref (bs.getD (i + 1) (0, [])).1])) := ((Grows.new nc).trans sm).trans (Grows.new hT)
      exact ⟨rfl, _, rfl, _, rfl, _, _, _, _, rfl, rfl, st.seq (hbD i i1), st.seq (hbD (i + 1) (by omega)), kR _ .refl⟩
    · have e : min (bs.map fun b => V.ref b.1).length (bs.map fun b => V.ref b.1).tail.length = bs.length - 1 := by
        rw [List.length_tail, List.length_map]
        omega
      rw [e] at eD
      refine ⟨D, (List.range (bs.length - 1)).map fun i => decide ((bs.getD i (0, [])).2 < (bs.getD (i + 1) (0, [])).2), rfl, SqL.of (by rw [eD, List.map_map]; rfl), ?_⟩
      rw [all_rng]
      have q := k H' ((Grows.new nc).trans sm)
      unfold ascR at q
      rw [List.length_map] at q
      have fe : ∀ i, (bs.map (·.2)).getD i [] = (bs.getD i (0, [])).2 := fun i => by
        rw [List.getD_eq_getElem?_getD, List.getD_eq_getElem?_getD, List.getElem?_map]
        cases bs[i]? <;> rfl
      simp only [fe] at q
      exact q
end
end K47

namespace K47
open PySem PySem.Spec PyProof.Rows L2 SortR LcM
theorem ty_list {K : PySem.W.Frag} {H : Hp} {a : Addr} {xs : List V} (h : SqL K H a xs) : TyX K H (.ref a) (.type "list") := by
  rcases h with (h | ⟨o, h⟩) | ⟨o, its, n, h, hc, _⟩
  · exact .base (.lst h)
  · exact .base (.frz h)
  · exact .kList h hc
def inR (n : Int) (ns : List Int) : Bool := (List.range ns.length).all fun i => decide (0 ≤ ns.getD i 0) && decide (ns.getD i 0 < n)
def plist (n : Int) (ns : List Int) : Bool := inR n ns && ascI ns
def group (n : Int) (ns : List Int) : Bool := plist n ns && decide (2 ≤ (ns.length : Int))
def maskI (ns : List Int) : Int := ((List.range ns.length).map fun i => 1 * 2 ^ (ns.getD i 0).toNat).sum
def crossI (i j : Int) : Bool := !inV (.int (Builtin.bitAnd i j)) [.int 0, .int i, .int j]
def anyX (rs : List (List Int)) : Bool := (List.range (Comb.prs rs.length).length).any fun t => crossI (maskI (rs.getD ((Comb.prs rs.length).getD t (0, 0)).1 [])) (maskI (rs.getD ((Comb.prs rs.length).getD t (0, 0)).2 []))
def isP (rs : List (List Int)) : Bool := decide ((rs.length : Int) < 20) && ((List.range rs.length).all fun i => group (rs.length + 1) (rs.getD i [])) && ascR rs && !anyX rs
def spPL (K : PySem.W.Frag) (m : Int → List Int → Bool) : Sp := fun vs H Q _ => ∃ (a : Addr) (n : Int) (ns : List Int), vs = [.ref a, .int n] ∧ SqL K H a (ns.map V.int) ∧ ns.length ≤ 1000 ∧ ∀ H', Grows H H' → Q (.bl (m n ns)) H'
def spMask (K : PySem.W.Frag) : Sp := fun vs H Q _ => ∃ (a : Addr) (ns : List Int), vs = [.ref a] ∧ SqL K H a (ns.map V.int) ∧ ns.length ≤ 1000 ∧ (∀ x ∈ ns, 0 ≤ x ∧ x ≤ 1000) ∧ ∀ H', Grows H H' → Q (.int (maskI ns)) H'
def spCross : Sp := fun vs H Q _ => ∃ (i j : Int), vs = [.int i, .int j] ∧ ∀ H', Grows H H' → Q (.bl (crossI i j)) H'
section
variable {P : Program} {w : World} {K : PySem.W.Frag} {mg : Str → Option Value} {base : Heap}
theorem scPList : FnScope ["thing", "persons", "item"] ["thing", "persons"] (defScope sPList) := ⟨rfl, rfl, rfl, by decide +kernel, rfl, by decide +kernel, by decide +kernel⟩
theorem scGroup : FnScope ["thing", "persons"] ["thing", "persons"] (defScope sGroup) := ⟨rfl, rfl, rfl, by decide +kernel, rfl, by decide +kernel, by decide +kernel⟩
theorem scMask : FnScope ["group", "person"] ["group"] (defScope sMask) := ⟨rfl, rfl, rfl, by decide +kernel, rfl, by decide +kernel, by decide +kernel⟩
theorem scCross : FnScope ["one", "other"] ["one", "other"] (defScope sCross) := ⟨rfl, rfl, rfl, by decide +kernel, rfl, by decide +kernel, by decide +kernel⟩
theorem ok_plist (Z : ProgF K mg) (T : TxtP mg) : FnOk P w K mg base CX0 3 Z.fPL Z.dPL ["thing", "persons"] (spPL K plist) := by
  have GPer : FnOk P w K mg base CX0 2 Z.fPer Z.dPer ["thing", "persons"] (spPerson K) := ok_person Z T
  have GAsc : FnOk P w K mg base CX0 1 Z.fAsc Z.dAsc ["items"] (spAscI K) := ok_ascI Z.FAsc T
  refine Z.FPL.ok scPList (fun vs H Q E h => ?_) (fun cdv A outer s H vs Q E hr h => ?_)
  · obtain ⟨a, n, ns, rfl, _⟩ := h
    rfl
  · obtain ⟨a, n, ns, rfl, hS, hn, k⟩ := h
    refine ⟨_, (pss_cons (ps_if (pt_not (pt_val (pe_callB call_isi (by rfl) T.isi (by decide +kernel) (pa_cons (pv 0) (pa_cons (pe_bltn (v := .ty "list") (u := .type "list") (by rfl) T.list (by decide +kernel) rfl) pa_nil))))) (pss_one (ps_ret pe_bl)) pss_nil)
      (pss_one (ps_ret (pe_and (pe_callB (cr_all rfl) (by rfl) T.all (by decide +kernel) (pa_cons (pe_lc (own := [("item", 2)]) (g := gName 2) (tt := tYes) rfl scPList.nd (pi_list (pv 0)) (blkOk_by (own := [("item", 2)]) (N := ["thing", "persons", "item"]) (sc := defScope sPList) (by decide +kernel)) (fun _ _ _ _ _ => pg_name (i := 2) scPList.nd rfl (Or.inl rfl)) (fun _ _ _ _ _ => pts_nil) (fun _ _ _ _ _ => (pe_call GPer (hr.mono (by decide)) rfl Z.gPer Z.FPer.kp Z.bPer .nil pass0 (pa_cons (pv 2) (pa_cons (pv 1) pa_nil))))) pa_nil)) (pe_one (pe_call GAsc (hr.mono (by decide)) rfl Z.gAsc Z.FAsc.kp Z.bAsc .nil pass0 (pa_cons (pv 0) pa_nil))))))), ?_⟩
    refine ⟨_, rfl, _, _, _, _, true, rfl, .ty "list", ty_list hS, kit_ty (by decide +kernel), true, rfl, ?_⟩
    refine iteF ⟨_, rfl, a, rfl, ⟨_, hS⟩, fun D hD => lc_listM (K := K) (fun i => V.bl (decide (0 ≤ ns.getD i 0) && decide (ns.getD i 0 < n))) hD hS (by rw [List.length_map]; omega) (fun i x H' R hx sm kR => ?_) fun H' sm eD => ?_⟩
    · obtain rfl := at_map (d := 0) hx
      refine ⟨rfl, _, rfl, _, rfl, _, "int", n, rfl, .base (.int _), by decide, fun _ => ⟨_, rfl, kR _ .refl⟩, fun z => absurd rfl z⟩
    · rw [List.length_map] at eD
      refine ⟨D, (List.range ns.length).map fun i => decide (0 ≤ ns.getD i 0) && decide (ns.getD i 0 < n), rfl, SqL.of (by rw [eD, List.map_map]; rfl), _, rfl, ?_⟩
      rw [all_rng]
      show if inR n ns = true then _ else _
      by_cases hi : inR n ns = true
      · rw [if_pos hi]
        refine ⟨_, rfl, a, ns, rfl, sm.seq hS, hn, fun H2 s2 => ?_⟩
        have q := k H2 (sm.trans s2)
        unfold plist at q
        rw [hi, Bool.true_and] at q
        exact q
      · rw [if_neg hi]
        have q := k H' sm
        unfold plist at q
        rw [Bool.eq_false_iff.mpr hi, Bool.false_and] at q
        exact q
theorem ok_group (Z : ProgF K mg) (T : TxtP mg) : FnOk P w K mg base CX0 4 Z.fGr Z.dGr ["thing", "persons"] (spPL K group) := by
  have GPL : FnOk P w K mg base CX0 3 Z.fPL Z.dPL ["thing", "persons"] (spPL K plist) := ok_plist Z T
  refine Z.FGr.ok scGroup (fun vs H Q E h => ?_) (fun cdv A outer s H vs Q E hr h => ?_)
  · obtain ⟨a, n, ns, rfl, _⟩ := h
    rfl
  · obtain ⟨a, n, ns, rfl, hS, hn, k⟩ := h
    refine ⟨_, (pss_one (ps_ret (pe_and (pe_call GPL (hr.mono (by decide)) rfl Z.gPL Z.FPL.kp Z.bPL .nil pass0 (pa_cons (pv 0) (pa_cons (pv 1) pa_nil))) (pe_one (pe_cmpR op_ge (pe_callB call_len_seq (by rfl) T.len (by decide +kernel) (pa_cons (pv 0) pa_nil)) pe_int (nomark _)))))), ?_⟩
    refine ⟨_, rfl, _, rfl, a, n, ns, rfl, hS, hn, fun H2 s2 => ⟨_, rfl, ?_⟩⟩
    have q := k H2 s2
    unfold group at q
    by_cases hi : plist n ns = true
    · rw [if_pos hi]
      rw [hi, Bool.true_and] at q
      refine ⟨_, rfl, a, _, rfl, .inl (s2.seq hS), _, _, rfl, rfl, ?_⟩
      rw [List.length_map]
      exact q
    · rw [if_neg hi]
      rw [Bool.eq_false_iff.mpr hi, Bool.false_and] at q
      exact q
theorem ok_mask (Z : ProgF K mg) (T : TxtP mg) : FnOk P w K mg base CX0 1 Z.fMask Z.dMask ["group"] (spMask K) := by
  refine Z.FMask.ok scMask (fun vs H Q E h => ?_) (fun cdv A outer s H vs Q E hr h => ?_)
  · obtain ⟨a, ns, rfl, _⟩ := h
    rfl
  · obtain ⟨a, ns, rfl, hS, hn, hr0, k⟩ := h
    refine ⟨_, (pss_one (ps_ret (pe_callB (cr_sum rfl) (by rfl) T.sum (by decide +kernel) (pa_cons (pe_lc (own := [("person", 1)]) (g := gName 1) (tt := tYes) rfl scMask.nd (pi_list (pv 0)) (blkOk_by (own := [("person", 1)]) (N := ["group", "person"]) (sc := defScope sMask) (by decide +kernel)) (fun _ _ _ _ _ => pg_name (i := 1) scMask.nd rfl (Or.inl rfl)) (fun _ _ _ _ _ => pts_nil) (fun _ _ _ _ _ => (pe_op op_shl pe_int (pv 1)))) pa_nil)))), ?_⟩
    refine ⟨_, rfl, a, rfl, ⟨_, hS⟩, fun D hD => lc_listM (K := K) (fun i => V.int (1 * 2 ^ (ns.getD i 0).toNat)) hD hS (by rw [List.length_map]; omega) (fun i x H' R hx sm kR => ?_) fun H' sm eD => ?_⟩
    · have il := (List.getElem?_eq_some_iff.mp hx).1
      rw [List.length_map] at il
      obtain rfl := at_map (d := 0) hx
      have mem : ns.getD i 0 ∈ ns := by
        rw [List.getD_eq_getElem?_getD, List.getElem?_eq_getElem il]
        exact List.getElem_mem il
      obtain ⟨m0, m1⟩ := hr0 _ mem
      exact ⟨rfl, _, rfl, _, _, rfl, rfl, ⟨m0, by omega, by decide⟩, kR _ .refl⟩
    · rw [List.length_map] at eD
      refine ⟨D, (List.range ns.length).map fun i => 1 * 2 ^ (ns.getD i 0).toNat, rfl, SqL.of (by rw [eD, List.map_map]; rfl), ?_⟩
      exact k H' sm
theorem ok_cross (Z : ProgF K mg) : FnOk P w K mg base CX0 1 Z.fCross Z.dCross ["one", "other"] spCross := by
  refine Z.FCross.ok scCross (fun vs H Q E h => ?_) (fun cdv A outer s H vs Q E hr h => ?_)
  · obtain ⟨i, j, rfl, _⟩ := h
    rfl
  · obtain ⟨i, j, rfl, k⟩ := h
    refine ⟨_, (pss_one (ps_ret (pe_cmpR op_notIn_seq (pe_op op_and (pv 0) (pv 1)) (pe_tup (pa_cons pe_int (pa_cons (pv 0) (pa_cons (pv 1) pa_nil)))) (by rfl)))), ?_⟩
    refine ⟨_, rfl, _, rfl, _, _, rfl, rfl, _, rfl, _, rfl, (by show 3 ≤ sizeLine; decide), fun t ht => ⟨t, _, rfl, .inr (SqT.of upd_same), rfl, rfl, ?_⟩⟩
    exact k _ (Grows.new ht)
end
end K47

namespace K47
open PySem PySem.Spec PyProof.Rows L2 SortR LcM
/-- a list of lists of ints, as it stands -/
structure Rw (K : PySem.W.Frag) (H : Hp) (a : Addr) (bs : List (Addr × List Int)) : Prop where
  top : SqL K H a (bs.map fun b => V.ref b.1)
  each : ∀ b ∈ bs, SqL K H b.1 (b.2.map V.int)
theorem Rw.keep {K : PySem.W.Frag} {H H' : Hp} {a : Addr} {bs : List (Addr × List Int)} (r : Rw K H a bs) (s : Grows H H') : Rw K H' a bs := ⟨s.seq r.top, fun b m => s.seq (r.each b m)⟩
theorem Rw.at {K : PySem.W.Frag} {H : Hp} {a : Addr} {bs : List (Addr × List Int)} (r : Rw K H a bs) {i : Nat} (hi : i < bs.length) : SqL K H (bs.getD i (0, [])).1 ((bs.getD i (0, [])).2.map V.int) := by
  rw [List.getD_eq_getElem?_getD, List.getElem?_eq_getElem hi]
  exact r.each _ (List.getElem_mem hi)
theorem snd_at (bs : List (Addr × List Int)) (i : Nat) : (bs.map (·.2)).getD i [] = (bs.getD i (0, [])).2 := by
  rw [List.getD_eq_getElem?_getD, List.getD_eq_getElem?_getD, List.getElem?_map]
  cases bs[i]? <;> rfl
theorem mem_at {bs : List (Addr × List Int)} {i : Nat} (hi : i < bs.length) : (bs.getD i (0, [])).2 ∈ bs.map (·.2) := by
  rw [List.getD_eq_getElem?_getD, List.getElem?_eq_getElem hi]
  exact List.mem_map.mpr ⟨_, List.getElem_mem hi, rfl⟩
theorem none_back {H H' : Hp} {a : Addr} (s : Grows H H') (h : H' a = none) : H a = none := by
  rcases Option.eq_none_or_eq_some (H a) with z | ⟨o, z⟩
  · exact z
  · rw [s _ _ z] at h
    cases h
theorem nw_back {H0 H1 H : Hp} {cs : List (Addr × List Int)} (n : Nw H1 H cs) (s : Grows H0 H1) : Nw H0 H cs := ⟨n.lists, fun c m => none_back s (n.new c m), n.nodup⟩
theorem snd_of {cs : List (Addr × List Int)} {R : Nat → List Int} {n i : Nat} (e : cs.map (·.2) = (List.range n).map R) (hi : i < n) : (cs.getD i (0, [])).2 = R i := by
  rw [← snd_at, e, List.getD_eq_getElem?_getD, List.getElem?_map, List.getElem?_range hi]
  rfl
theorem any_rng (n : Nat) (p : Nat → Bool) : ((List.range n).map p).any id = (List.range n).any p := by
  rw [List.any_map]
  rfl
/-- of the size that may come -/
def Sz (rs : List (List Int)) : Prop := rs.length ≤ 1000 ∧ ∀ r ∈ rs, r.length ≤ 1000
def spAny (K : PySem.W.Frag) : Sp := fun vs H Q _ => ∃ (a : Addr) (bs : List (Addr × List Int)), vs = [.ref a] ∧ Rw K H a bs ∧ Sz (bs.map (·.2)) ∧ (∀ r ∈ bs.map (·.2), ∀ x ∈ r, 0 ≤ x ∧ x ≤ 1000) ∧ ∀ H', Grows H H' → Q (.bl (anyX (bs.map (·.2)))) H'
def spIs (K : PySem.W.Frag) : Sp := fun vs H Q _ => ∃ (a : Addr) (bs : List (Addr × List Int)), vs = [.ref a] ∧ Rw K H a bs ∧ Sz (bs.map (·.2)) ∧ ∀ H', Grows H H' → Q (.bl (isP (bs.map (·.2)))) H'
def spPs (K : PySem.W.Frag) : Sp := fun vs H Q _ => ∃ (a : Addr) (bs : List (Addr × List Int)), vs = [.ref a] ∧ Rw K H a bs ∧ Sz (bs.map (·.2)) ∧ isP (bs.map (·.2)) = true ∧ ∀ H', Grows H H' → Q (.int (bs.length + 1)) H'
section
variable {P : Program} {w : World} {K : PySem.W.Frag} {mg : Str → Option Value} {base : Heap}
theorem scAny : FnScope ["groups", "masks", "group", "one", "other"] ["groups"] (defScope sAny) := ⟨rfl, rfl, rfl, by decide +kernel, rfl, by decide +kernel, by decide +kernel⟩
theorem scParting : FnScope ["thing", "persons", "group"] ["thing"] (defScope sParting) := ⟨rfl, rfl, rfl, by decide +kernel, rfl, by decide +kernel, by decide +kernel⟩
theorem scPersons : FnScope ["parting"] ["parting"] (defScope sPersons) := ⟨rfl, rfl, rfl, by decide +kernel, rfl, by decide +kernel, by decide +kernel⟩
theorem ok_any (Z : ProgF K mg) (T : TxtP mg) : FnOk P w K mg base CX0 2 Z.fAny Z.dAny ["groups"] (spAny K) := by
  have GMask : FnOk P w K mg base CX0 1 Z.fMask Z.dMask ["group"] (spMask K) := ok_mask Z T
  have GCross : FnOk P w K mg base CX0 1 Z.fCross Z.dCross ["one", "other"] spCross := ok_cross Z
  refine Z.FAny.ok scAny (fun vs H Q E h => ?_) (fun cdv A outer s H vs Q E hr h => ?_)
  · obtain ⟨a, bs, rfl, _⟩ := h
    rfl
  · obtain ⟨a, bs, rfl, hB, ⟨hz1, hz2⟩, hx, k⟩ := h
    refine ⟨_, (pss_cons (ps_setLc (i := 1) (own := [("group", 2)]) (g := gName 2) (tt := tYes) rfl scAny.nd rfl rfl (sw_true rfl rfl rfl (by decide +kernel)) (pi_list (pv 0)) (blkOk_by (own := [("group", 2)]) (N := ["groups", "masks", "group", "one", "other"]) (sc := defScope sAny) (by decide +kernel)) (fun _ _ _ _ _ => pg_name (i := 2) scAny.nd rfl (Or.inl rfl)) (fun _ _ _ _ _ => pts_nil) (fun _ _ _ _ _ => (pe_call GMask (hr.mono (by decide)) rfl Z.gMask Z.FMask.kp Z.bMask .nil pass0 (pa_cons (pv 2) pa_nil))))
      (pss_one (ps_ret (pe_callB (cr_any rfl) (by rfl) T.any (by decide +kernel) (pa_cons (pe_lc (own := [("one", 3), ("other", 4)]) (g := gTup K 2 (gCons (gName 3) (gCons (gName 4) gNil))) (tt := tYes) rfl scAny.nd (Comb.pi_comb (by rfl) Z.gComb (pa_cons (pv 1) (pa_cons pe_int pa_nil))) (blkOk_by (own := [("one", 3), ("other", 4)]) (N := ["groups", "masks", "group", "one", "other"]) (sc := defScope sAny) (by decide +kernel)) (fun _ _ _ _ _ => pg_tup rfl (pgs_cons (pg_name (i := 3) scAny.nd rfl (Or.inl rfl)) (pgs_cons (pg_name (i := 4) scAny.nd rfl (Or.inl rfl)) pgs_nil))) (fun _ _ _ _ _ => pts_nil) (fun _ _ _ _ _ => (pe_call GCross (hr.mono (by decide)) rfl Z.gCross Z.FCross.kp Z.bCross .nil pass0 (pa_cons (pv 3) (pa_cons (pv 4) pa_nil))))) pa_nil))))), ?_⟩
    rw [List.length_map] at hz1
    refine ⟨_, rfl, a, rfl, ⟨_, hB.top⟩, fun D hD => lc_listM (K := K) (fun i => V.int (maskI (bs.getD i (0, [])).2)) hD hB.top (by rw [List.length_map]; omega) (fun i x H' R hx' sm kR => ?_) fun H' sm eD => ?_⟩
    · have il := (List.getElem?_eq_some_iff.mp hx').1
      rw [List.length_map] at il
      obtain rfl := at_map (d := (0, [])) hx'
      exact ⟨rfl, _, rfl, _, _, rfl, sm.seq (hB.at il), hz2 _ (mem_at il), hx _ (mem_at il), fun H2 s2 => kR _ s2⟩
    · rw [List.length_map] at eD
      refine ⟨_, rfl, D, _, rfl, SqL.of eD, fun D2 hD2 => lc_combM (xs := (List.range bs.length).map fun i => V.int (maskI (bs.getD i (0, [])).2)) (fun t => V.bl (crossI (maskI (bs.getD ((Comb.prs bs.length).getD t (0, 0)).1 (0, [])).2) (maskI (bs.getD ((Comb.prs bs.length).getD t (0, 0)).2 (0, [])).2))) hD2 (by rw [List.length_map, List.length_range]; exact hz1) (fun t i j x y T H' R ht ex ey sm2 hT kR => ?_) fun H2 sm2 eD2 => ?_⟩
      · rw [List.length_map, List.length_range] at ht
        rw [List.getElem?_map] at ex ey
        have gx : x = .int (maskI (bs.getD i (0, [])).2) := by
          obtain ⟨z, hz, e⟩ := Option.map_eq_some_iff.mp ex
          have e2 := (List.getElem?_eq_some_iff.mp hz)
          obtain ⟨l2, e3⟩ := e2
          rw [List.getElem_range] at e3
          rw [← e, ← e3]
        have gy : y = .int (maskI (bs.getD j (0, [])).2) := by
          obtain ⟨z, hz, e⟩ := Option.map_eq_some_iff.mp ey
          have e2 := (List.getElem?_eq_some_iff.mp hz)
          obtain ⟨l2, e3⟩ := e2
          rw [List.getElem_range] at e3
          rw [← e, ← e3]
        subst gx gy
        have et : (Comb.prs bs.length).getD t (0, 0) = (i, j) := by
          rw [List.getD_eq_getElem?_getD, ht]
          rfl
        rw [et] at kR
        exact ⟨T, _, rfl, SqT.of upd_same, rfl, _, _, rfl, _, _, rfl, rfl, rfl, _, rfl, _, rfl, _, _, rfl, fun H3 s3 => kR _ s3⟩
      · rw [List.length_map, List.length_range] at eD2
        refine ⟨D2, (List.range (Comb.prs bs.length).length).map fun t => crossI (maskI (bs.getD ((Comb.prs bs.length).getD t (0, 0)).1 (0, [])).2) (maskI (bs.getD ((Comb.prs bs.length).getD t (0, 0)).2 (0, [])).2), rfl, SqL.of (by rw [eD2, List.map_map]; rfl), ?_⟩
        rw [any_rng]
        have q := k H2 (sm.trans sm2)
        unfold anyX at q
        simp only [List.length_map, snd_at] at q
        exact q
theorem rows_in {n : Int} {ns : List Int} (h : group n ns = true) (hn : n ≤ 1000) : ∀ x ∈ ns, 0 ≤ x ∧ x ≤ 1000 := by
  unfold group plist at h
  simp only [Bool.and_eq_true] at h
  obtain ⟨⟨h1, _⟩, _⟩ := h
  intro x hx
  obtain ⟨i, hi, e⟩ := List.getElem_of_mem hx
  have q := List.all_eq_true.mp h1 i (List.mem_range.mpr hi)
  simp only [Bool.and_eq_true, decide_eq_true_eq] at q
  rw [List.getD_eq_getElem?_getD, List.getElem?_eq_getElem hi] at q
  have q' : 0 ≤ ns[i] ∧ ns[i] < n := q
  rw [e] at q'
  omega
theorem ok_is (Z : ProgF K mg) (T : TxtP mg) : FnOk P w K mg base CX0 5 Z.fIs Z.dIs ["thing"] (spIs K) := by
  have GGr : FnOk P w K mg base CX0 4 Z.fGr Z.dGr ["thing", "persons"] (spPL K group) := ok_group Z T
  have GAsc : FnOk P w K mg base CX0 1 Z.fAsc Z.dAsc ["items"] (spAscR K) := ok_ascR Z.FAsc T
  have GAny : FnOk P w K mg base CX0 2 Z.fAny Z.dAny ["groups"] (spAny K) := ok_any Z T
  refine Z.FIs.ok scParting (fun vs H Q E h => ?_) (fun cdv A outer s H vs Q E hr h => ?_)
  · obtain ⟨a, bs, rfl, _⟩ := h
    rfl
  · obtain ⟨a, bs, rfl, hB, hz, k⟩ := h
    refine ⟨_, (pss_cons (ps_if (PW.pt (pw_or (pt_not (pt_val (pe_callB call_isi (by rfl) T.isi (by decide +kernel) (pa_cons (pv 0) (pa_cons (pe_bltn (v := .ty "list") (u := .type "list") (by rfl) T.list (by decide +kernel) rfl) pa_nil))))) (pw_or1 (pt_cmpR op_ge (pe_callB call_len_seq (by rfl) T.len (by decide +kernel) (pa_cons (pv 0) pa_nil)) (pe_glob (v := .int 20) rfl Z.gMost ⟨_, rfl⟩) (nomark _))))) (pss_one (ps_ret pe_bl)) pss_nil)
      (pss_cons (ps_set (i := 1) scParting.nd rfl (.inr rfl) (pe_op op_add (pe_callB call_len_seq (by rfl) T.len (by decide +kernel) (pa_cons (pv 0) pa_nil)) pe_int))
      (pss_cons (ps_if (pt_not (pt_val (pe_callB (cr_all rfl) (by rfl) T.all (by decide +kernel) (pa_cons (pe_lc (own := [("group", 2)]) (g := gName 2) (tt := tYes) rfl scParting.nd (pi_list (pv 0)) (blkOk_by (own := [("group", 2)]) (N := ["thing", "persons", "group"]) (sc := defScope sParting) (by decide +kernel)) (fun _ _ _ _ _ => pg_name (i := 2) scParting.nd rfl (Or.inl rfl)) (fun _ _ _ _ _ => pts_nil) (fun _ _ _ _ _ => (pe_call GGr (hr.mono (by decide)) rfl Z.gGr Z.FGr.kp Z.bGr .nil pass0 (pa_cons (pv 2) (pa_cons (pv 1) pa_nil))))) pa_nil)))) (pss_one (ps_ret pe_bl)) pss_nil)
      (pss_one (ps_ret (pe_and (pe_call GAsc (hr.mono (by decide)) rfl Z.gAsc Z.FAsc.kp Z.bAsc .nil pass0 (pa_cons (pv 0) pa_nil)) (pe_one (pe_not (pe_call GAny (hr.mono (by decide)) rfl Z.gAny Z.FAny.kp Z.bAny .nil pass0 (pa_cons (pv 0) pa_nil)))))))))), ?_⟩
    have hz' := hz
    obtain ⟨hz1, hz2⟩ := hz
    rw [List.length_map] at hz1
    refine ⟨_, rfl, _, _, _, _, true, rfl, .ty "list", ty_list hB.top, kit_ty (by decide +kernel), true, rfl, iteF ⟨_, rfl, a, _, rfl, .inl hB.top, _, _, rfl, rfl, _, rfl, ?_⟩⟩
    rw [List.length_map]
    refine ite2 (fun e => ?_) (fun e => ?_)
    · have ge := of_decide_eq_true e
      have q := k H .refl
      unfold isP at q
      rw [List.length_map, decide_eq_false (by omega), Bool.false_and, Bool.false_and, Bool.false_and] at q
      exact q
    · have lt : (bs.length : Int) < 20 := by
        rcases Int.lt_or_le (bs.length : Int) 20 with z | z
        · exact z
        · exact absurd (decide_eq_true z) e
      refine ⟨_, rfl, a, _, rfl, .inl hB.top, _, _, rfl, rfl, ?_⟩
      rw [List.length_map]
      refine ⟨_, rfl, a, rfl, ⟨_, hB.top⟩, fun D hD => lc_listM (K := K) (fun i => V.bl (group (bs.length + 1) (bs.getD i (0, [])).2)) hD hB.top (by rw [List.length_map]; omega) (fun i x H' R hx' sm kR => ?_) fun H' sm eD => ?_⟩
      · have il := (List.getElem?_eq_some_iff.mp hx').1
        rw [List.length_map] at il
        obtain rfl := at_map (d := (0, [])) hx'
        exact ⟨rfl, _, rfl, _, rfl, _, _, _, rfl, sm.seq (hB.at il), hz2 _ (mem_at il), fun H2 s2 => kR _ s2⟩
      · rw [List.length_map] at eD
        refine ⟨D, (List.range bs.length).map fun i => group (bs.length + 1) (bs.getD i (0, [])).2, rfl, SqL.of (by rw [eD, List.map_map]; rfl), ?_⟩
        rw [all_rng]
        refine ⟨_, rfl, ?_⟩
        have val : ∀ H2, Grows H H2 → Q (.bl (((List.range bs.length).all fun i => group (bs.length + 1) (bs.getD i (0, [])).2) && ascR (bs.map (·.2)) && !anyX (bs.map (·.2)))) H2 := fun H2 s2 => by
          have q := k H2 s2
          unfold isP at q
          simp only [List.length_map, snd_at] at q
          rw [decide_eq_true lt, Bool.true_and] at q
          exact q
        by_cases hg : ((List.range bs.length).all fun i => group (bs.length + 1) (bs.getD i (0, [])).2) = true
        · rw [hg] at val ⊢
          refine iteF ⟨_, rfl, a, bs, rfl, (hB.keep sm).top, (hB.keep sm).each, hz1, fun H2 s2 => ⟨_, rfl, ?_⟩⟩
          by_cases ha : ascR (bs.map (·.2)) = true
          · rw [if_pos ha]
            have hx : ∀ r ∈ bs.map (·.2), ∀ x ∈ r, 0 ≤ x ∧ x ≤ 1000 := fun r hr x hx => by
              obtain ⟨i, hi, e⟩ := List.getElem_of_mem hr
              rw [List.length_map] at hi
              have g := List.all_eq_true.mp hg i (List.mem_range.mpr hi)
              have e2 : (bs.getD i (0, [])).2 = r := by
                rw [← snd_at, List.getD_eq_getElem?_getD, List.getElem?_eq_getElem (by rw [List.length_map]; exact hi), e]
                rfl
              rw [e2] at g
              exact rows_in g (by omega) x hx
            refine ⟨_, rfl, a, bs, rfl, (hB.keep sm).keep s2, hz', hx, fun H3 s3 => ⟨_, rfl, ?_⟩⟩
            have q := val H3 ((sm.trans s2).trans s3)
            rw [ha, Bool.true_and, Bool.true_and] at q
            exact q
          · rw [if_neg ha]
            have q := val H2 (sm.trans s2)
            rw [Bool.eq_false_iff.mpr ha, Bool.true_and, Bool.false_and] at q
            exact q
        · have q := val H' sm
          rw [Bool.eq_false_iff.mpr hg] at q ⊢
          rw [Bool.false_and, Bool.false_and] at q
          exact iteT q
theorem ok_persons (Z : ProgF K mg) (T : TxtP mg) : FnOk P w K mg base CX0 6 Z.fPs Z.dPs ["parting"] (spPs K) := by
  have GIs : FnOk P w K mg base CX0 5 Z.fIs Z.dIs ["thing"] (spIs K) := ok_is Z T
  refine Z.FPs.ok scPersons (fun vs H Q E h => ?_) (fun cdv A outer s H vs Q E hr h => ?_)
  · obtain ⟨a, bs, rfl, _⟩ := h
    rfl
  · obtain ⟨a, bs, rfl, hB, hz, hp, k⟩ := h
    refine ⟨_, (pss_cons (ps_if (pt_not (pt_val (pe_call GIs (hr.mono (by decide)) rfl Z.gIs Z.FIs.kp Z.bIs .nil pass0 (pa_cons (pv 0) pa_nil)))) (pss_one ps_never) pss_nil)
      (pss_one (ps_ret (pe_op op_add (pe_callB call_len_seq (by rfl) T.len (by decide +kernel) (pa_cons (pv 0) pa_nil)) pe_int)))), ?_⟩
    refine ⟨_, rfl, a, bs, rfl, hB, hz, fun H2 s2 => ?_⟩
    rw [hp]
    refine ⟨_, rfl, iteF ⟨_, rfl, a, _, rfl, .inl (s2.seq hB.top), _, _, rfl, rfl, ?_⟩⟩
    rw [List.length_map]
    exact k H2 s2
end
end K47

namespace K47
open PySem PySem.Spec PyProof.Rows L2 SortR LcM
abbrev sCut : Stmt := top 30
def valOf : Stmt → Expr
  | .Assign _ v _ => v
  | _ => .Constant .none 0 ⟨0, 0, 0, 0⟩
def lcScope : Expr → Scope
  | .ListComp _ _ s _ => s
  | _ => defScope sCut
abbrev scMeet : Scope := lcScope (valOf ((defBody sCut).getD 2 (.Pass ⟨0, 0, 0, 0⟩)))
section
variable {P : Program} {w : World} {K : PySem.W.Frag} {mg : Str → Option Value} {base : Heap}
theorem scCut : FnScope ["parting", "some", "places", "place", "person", "meetings", "group", "kept", "meeting"] ["parting", "some"] (defScope sCut) := ⟨rfl, rfl, rfl, by decide +kernel, rfl, by decide +kernel, by decide +kernel⟩
def spCut (K : PySem.W.Frag) : Sp := fun vs H Q _ => ∃ (a b : Addr) (bs : List (Addr × List Int)) (ns : List Int), vs = [.ref a, .ref b] ∧ Rw K H a bs ∧ Sz (bs.map (·.2)) ∧ SqL K H b (ns.map V.int) ∧ ns.length ≤ 1000 ∧
  ∀ (p : Addr) (cs : List (Addr × List Int)) (H' : Hp), cs.map (·.2) = cutR (bs.map (·.2)) ns → Grows H H' → H p = none → Nw H H' cs → (∀ c ∈ cs, c.1 ≠ p) → H' p = some (.lst (cs.map fun c => V.ref c.1)) → Q (.ref p) H'
theorem ok_cut {f : Addr} {fd : FuncData} (F : Fun K "cut" "cut" sCut f fd) (T : TxtP mg) : FnOk P w K mg base CX0 1 f fd ["parting", "some"] (spCut K) := by
  refine F.ok scCut (fun vs H Q E h => ?_) (fun cdv A outer s H vs Q E hr h => ?_)
  · obtain ⟨a, b, bs, ns, rfl, _⟩ := h
    rfl
  · obtain ⟨a, b, bs, ns, rfl, hB, ⟨hz1, hz2⟩, hS, hn, k⟩ := h
    have hu := hu_of hr
    rw [List.length_map] at hz1
    refine ⟨_, (pss_cons (ps_set (i := 2) scCut.nd rfl (.inr rfl) (pe_dc (own := [("place", 3), ("person", 4)]) (g := gTup K 2 (gCons (gName 3) (gCons (gName 4) gNil))) (tt := tYes) rfl scCut.nd (pi_enum (by rfl) T.enumerate (pa_cons (pv 1) pa_nil)) (blkOk_by (own := [("place", 3), ("person", 4)]) (N := ["parting", "some", "places", "place", "person", "meetings", "group", "kept", "meeting"]) (sc := defScope sCut) (by decide +kernel)) (fun _ _ _ _ _ => pg_tup rfl (pgs_cons (pg_name (i := 3) scCut.nd rfl (Or.inl rfl)) (pgs_cons (pg_name (i := 4) scCut.nd rfl (Or.inl rfl)) pgs_nil))) (fun _ _ _ _ _ => pts_nil) (fun _ _ _ _ _ => pv 4) (fun _ _ _ _ _ => pv 3)))
      (pss_cons (ps_setLc (i := 5) (own := [("group", 6)]) (g := gName 6) (tt := tYes) rfl scCut.nd rfl rfl (sw_true rfl rfl rfl (by decide +kernel)) (pi_list (pv 0)) (blkOk_by (own := [("group", 6)]) (N := ["parting", "some", "places", "place", "person", "meetings", "group", "kept", "meeting"]) (sc := defScope sCut) (by decide +kernel)) (fun _ _ _ _ _ => pg_name (i := 6) scCut.nd rfl (Or.inl rfl)) (fun _ _ _ _ _ => pts_nil) (fun _ _ _ _ _ => (pe_lc (wi := iList K (tVar 6)) (own := [("person", 4)]) (g := gName 4) rfl scCut.nd (pi_list (pv 6)) (blkOk_by (own := [("person", 4)]) (N := ["parting", "some", "places", "place", "person", "meetings", "group", "kept", "meeting"]) (sc := { kind := .function, names := [(".0", .local), ("group", .local), ("places", .cell)], isGenerator := false, isCoroutine := false }) (by decide +kernel)) (fun _ _ _ _ _ => pg_name (i := 4) scCut.nd rfl (Or.inl rfl)) (fun _ _ _ _ _ => pts_one (pt_cmp (pc_din hu (pv 4) (pv 2)))) (fun _ _ _ _ _ => pe_dget hu (pv 2) (pv 4) (fun _ _ => rfl)))))
      (pss_cons (DcT.ps_setDcT (i := 7) (own := [("meeting", 8)]) (g := gName 8) (by exact hr.units) rfl scCut.nd rfl rfl (DcT.sw_dict rfl rfl rfl (by decide +kernel)) (pi_list (pv 5)) (blkOk_by (own := [("meeting", 8)]) (N := ["parting", "some", "places", "place", "person", "meetings", "group", "kept", "meeting"]) (sc := defScope sCut) (by decide +kernel)) (fun _ _ _ _ _ => pg_name (i := 8) scCut.nd rfl (Or.inl rfl)) (fun _ _ _ _ _ => pts_one (pt_cmpR op_ge (pe_callB (id := "len") (r := rLenS K) (by exact call_lenK) (by rfl) T.len (by decide +kernel) (pa_cons (pv 8) pa_nil)) pe_int (nomark _))) (fun _ _ _ _ _ => pe_callTy (T := "tuple") (r := rTup K) (by exact call_tupK) (by rfl) T.tuple (by decide +kernel) (pa_cons (pv 8) pa_nil)) (fun _ _ _ _ _ => pe_bl))
      (pss_one (ps_ret (pe_lc (own := [("meeting", 8)]) (g := gName 8) (tt := tYes) rfl scCut.nd (pi_list (pe_callB (call_sortedDT hr.units rfl) (by rfl) T.sorted (by decide +kernel) (pa_cons (pv 7) pa_nil))) (blkOk_by (own := [("meeting", 8)]) (N := ["parting", "some", "places", "place", "person", "meetings", "group", "kept", "meeting"]) (sc := defScope sCut) (by decide +kernel)) (fun _ _ _ _ _ => pg_name (i := 8) scCut.nd rfl (Or.inl rfl)) (fun _ _ _ _ _ => pts_nil) (fun _ _ _ _ _ => pe_callTy (T := "list") (r := rLst K) (by exact call_lstK) (by rfl) T.list (by decide +kernel) (pa_cons (pv 8) pa_nil)))))))), ?_⟩
    refine ⟨_, rfl, b, _, rfl, hS, fun D1 hD1 => dc_enumM (K := K) (fun i => Sum.inl (ns.getD i 0)) (fun i => V.int (i : Nat)) hD1 hS (by rw [List.length_map]; omega) (fun i x Tp H' R hx sm hT kR => ?_) fun H1 sm1 eP => ?_⟩
    · obtain rfl := at_map (d := 0) hx
      exact ⟨Tp, _, rfl, SqT.of upd_same, rfl, _, _, rfl, _, _, rfl, rfl, rfl, _, rfl, _, rfl, kR _ _ .refl .refl⟩
    rw [List.length_map] at eP
    have hB1 := hB.keep sm1
    refine ⟨_, rfl, a, rfl, ⟨_, hB1.top⟩, fun D2 hD2 => lc_listR (K := K) (fun i => meet ns (bs.getD i (0, [])).2) hD2 hB1.top (by rw [List.length_map]; omega) (fun i x H' Rk hx sm kR => ?_) fun H2 cs sm2 e2 nw2 apart2 top2 => ?_⟩
    · have il := (List.getElem?_eq_some_iff.mp hx).1
      rw [List.length_map] at il
      obtain rfl := at_map (d := (0, [])) hx
      have hr1 := (hB1.keep sm).at il
      have hrl := hz2 _ (mem_at il)
      generalize (bs.getD i (0, [])).2 = r at hr1 kR hrl
      refine ⟨rfl, _, rfl, _, rfl, ⟨_, hr1⟩, fun D3 hD3 => lc_listT (K := K) (fun j => (plc ns (r.getD j 0)).isSome) (fun j => V.int (((plc ns (r.getD j 0)).getD 0 : Nat) : Int)) hD3 hr1 ?_ (fun j y H2 Ry Rn hy sm2 ky kn => ?_) fun H3 sm3 eD3 => ?_⟩
      · rw [List.length_map]
        omega
      · obtain rfl := at_map (d := 0) hy
        have eP2 := sm2 _ _ (sm _ _ eP)
        have val : valV (laid (fun _ => true) (fun i => (Sum.inl (ns.getD i 0) : L2.Key)) (fun i => V.int (i : Nat)) ns.length) (Sum.inl (r.getD j 0)) = (plc ns (r.getD j 0)).map fun j => V.int (j : Nat) := valV_laid ns (r.getD j 0) ns.length
        refine ⟨rfl, _, rfl, _, rfl, D1, _, rfl, DGet.k (k := Sum.inl (r.getD j 0)) eP2, _, rfl, ?_⟩
        rw [val]
        cases e : plc ns (r.getD j 0) with
        | none =>
          rw [e] at kn
          exact iteF (kn rfl _ .refl)
        | some q =>
          rw [e] at ky
          rw [e] at val
          refine iteT ⟨_, rfl, _, rfl, D1, V.int (q : Nat), rfl, ?_, ky rfl _ .refl⟩
          have g := DGet.k (k := Sum.inl (r.getD j 0)) eP2
          rw [val] at g
          exact g
      · rw [List.length_map] at eD3
        refine kR D3 H3 sm3 hD3 ?_
        rw [eD3]
        unfold kept meet
        rw [List.map_map]
        rfl
    rw [List.length_map] at e2
    have csl : cs.length = bs.length := by
      have z := congrArg List.length e2
      rw [List.length_map, List.length_map, List.length_range] at z
      exact z
    refine ⟨_, rfl, D2, rfl, ⟨_, SqL.of top2⟩, fun D4 hD4 => dc_listTT (K := K) (fun i => two (meet ns (bs.getD i (0, [])).2)) (fun i => (meet ns (bs.getD i (0, [])).2).map Sum.inl) (fun _ => V.bl true) hD4 (SqL.of top2) (by rw [List.length_map]; omega) (fun i x H' R Rn hx sm kR kn => ?_) fun H3 sm3 eK => ?_⟩
    · have il := (List.getElem?_eq_some_iff.mp hx).1
      rw [List.length_map, csl] at il
      obtain rfl := at_map (d := (0, [])) hx
      have mem : cs.getD i (0, []) ∈ cs := by
        rw [List.getD_eq_getElem?_getD, List.getElem?_eq_getElem (by rw [csl]; exact il)]
        exact List.getElem_mem _
      have at_c := sm _ _ (nw2.lists _ mem)
      rw [snd_of e2 il] at at_c
      refine ⟨rfl, _, rfl, _, _, rfl, .inl (SqL.of at_c), _, _, rfl, rfl, _, rfl, ?_⟩
      rw [List.length_map]
      show if two (meet ns (bs.getD i (0, [])).2) = true then _ else _
      by_cases h2 : two (meet ns (bs.getD i (0, [])).2) = true
      · rw [if_pos h2]
        refine ⟨_, rfl, _, _, rfl, SqL.of at_c, fun t ht => kR h2 t _ (Grows.new ht) ?_⟩
        rw [upd_same, List.map_map]
        rfl
      · rw [if_neg h2]
        exact kn (Bool.eq_false_iff.mpr h2) _ .refl
    rw [List.length_map, csl] at eK
    refine ⟨_, rfl, D4, _, firsts (fun i => two (meet ns (bs.getD i (0, [])).2)) (fun i => meet ns (bs.getD i (0, [])).2) bs.length, rfl, eK, keys_laid _ _ _ _, fun q hq => ?_, fun as eas has q hq => ?_⟩
    · obtain ⟨i, _, h2, rfl⟩ := firsts_of _ _ _ q hq
      intro z
      unfold two at h2
      rw [z] at h2
      cases h2
    refine ⟨q, rfl, ⟨_, SqL.of upd_same⟩, fun D5 hD5 => lc_listR (K := K) (fun i => ((as.mergeSort rowLe).getD i (0, [])).2) hD5 (SqL.of upd_same) ?_ (fun i x H' Rk hx sm kR => ?_) fun H5 cs5 sm5 e5 nw5 apart5 top5 => ?_⟩
    · rw [List.length_map, List.length_mergeSort]
      have z := congrArg List.length eas
      rw [List.length_map] at z
      rw [z]
      have := firsts_le (fun i => two (meet ns (bs.getD i (0, [])).2)) (fun i => meet ns (bs.getD i (0, [])).2) bs.length
      omega
    · have il := (List.getElem?_eq_some_iff.mp hx).1
      rw [List.length_map] at il
      obtain rfl := at_map (d := (0, [])) hx
      have mem : (as.mergeSort rowLe).getD i (0, []) ∈ as := by
        rw [List.getD_eq_getElem?_getD, List.getElem?_eq_getElem il]
        exact List.mem_mergeSort.mp (List.getElem_mem il)
      have at_t := sm _ _ (Grows.new hq _ _ (has _ mem))
      exact ⟨rfl, _, rfl, _, _, rfl, .inr (SqT.of at_t), fun l hl => kR l _ (Grows.new hl) hl upd_same⟩
    · have g2 : Grows H H2 := sm1.trans sm2
      have g3 : Grows H H3 := g2.trans sm3
      have g4 : Grows H (upd H3 q (.lst ((as.mergeSort rowLe).map fun b => V.ref b.1))) := g3.trans (Grows.new hq)
      refine k D5 cs5 H5 ?_ (g4.trans sm5) (none_back g4 hD5) (nw_back nw5 g4) apart5 top5
      rw [e5, List.length_map]
      have er : (List.range (as.mergeSort rowLe).length).map (fun i => ((as.mergeSort rowLe).getD i (0, [])).2) = (as.mergeSort rowLe).map (·.2) := by
        refine List.ext_getElem (by rw [List.length_map, List.length_map, List.length_range]) fun j j1 j2 => ?_
        rw [List.length_map] at j2
        rw [List.getElem_map, List.getElem_map, List.getElem_range, List.getD_eq_getElem?_getD, List.getElem?_eq_getElem j2]
        rfl
      rw [er, sort_rows, eas]
      unfold cutR
      simp only [List.length_map, snd_at]
end
end K47

namespace K47
open PySem PySem.Spec PyProof.Rows L2 SortR LcM
theorem plist_of {n : Int} {ks : List Int} (up : ks.Pairwise (· < ·)) (rng : ∀ x ∈ ks, 0 ≤ x ∧ x < n) : plist n ks = true := by
  unfold plist inR ascI
  rw [Bool.and_eq_true]
  refine ⟨List.all_eq_true.mpr fun i hi => ?_, List.all_eq_true.mpr fun i hi => ?_⟩
  · have il := List.mem_range.mp hi
    have e : ks.getD i 0 = ks[i] := by rw [List.getD_eq_getElem?_getD, List.getElem?_eq_getElem il]; rfl
    have := rng _ (List.getElem_mem il)
    rw [e, decide_eq_true this.1, decide_eq_true this.2]
    rfl
  · have il := List.mem_range.mp hi
    have l1 : i < ks.length := by omega
    have l2 : i + 1 < ks.length := by omega
    have e1 : ks.getD i 0 = ks[i] := by rw [List.getD_eq_getElem?_getD, List.getElem?_eq_getElem l1]; rfl
    have e2 : ks.getD (i + 1) 0 = ks[i + 1] := by rw [List.getD_eq_getElem?_getD, List.getElem?_eq_getElem l2]; rfl
    rw [e1, e2]
    exact decide_eq_true (List.pairwise_iff_getElem.mp up i (i + 1) l1 l2 (Nat.lt_succ_self i))
theorem gr_none {p a : Addr} {H H' : Hp} (g : Gr p H H') (h : H' a = none) (n : a ≠ p) : H a = none := by
  rcases Option.eq_none_or_eq_some (H a) with z | ⟨o, z⟩
  · exact z
  · rw [g a o n z] at h
    cases h
theorem rg_ints (n : Int) : rgV 0 n = ((List.range n.toNat).map fun i => (0 + (i : Nat) : Int)).map V.int := by
  unfold rgV
  rw [List.map_map, Int.sub_zero]
  rfl
theorem rg_up (n : Nat) : ((List.range n).map fun i => (0 + (i : Nat) : Int)).Pairwise (· < ·) := by
  rw [List.pairwise_map]
  exact List.pairwise_lt_range.imp fun {a b} h => by omega
theorem rg_in (n : Nat) : ∀ x ∈ (List.range n).map fun i => (0 + (i : Nat) : Int), 0 ≤ x ∧ x < n := fun x hx => by
  obtain ⟨i, hi, e⟩ := List.mem_map.mp hx
  have := List.mem_range.mp hi
  omega
theorem inV_ints (i : Int) (ns : List Int) : inV (.int i) (ns.map V.int) = decide (i ∈ ns) := by
  unfold inV
  induction ns with
  | nil => rfl
  | cons x ns ih =>
    rw [List.map_cons, List.any_cons, ih]
    show ((x == i) || decide (i ∈ ns)) = decide (i ∈ x :: ns)
    by_cases e : x = i
    · rw [e, beq_self_eq_true, Bool.true_or, decide_eq_true List.mem_cons_self]
    · rw [beq_eq_false_iff_ne.mpr e, Bool.false_or]
      by_cases m : i ∈ ns
      · rw [decide_eq_true m, decide_eq_true (List.mem_cons_of_mem _ m)]
      · rw [decide_eq_false m, decide_eq_false fun z => (List.mem_cons.mp z).elim (fun q => e q.symm) m]
theorem flat_ints (ns : List Int) : (ns.map V.int).all flatV = true := by
  rw [List.all_map]
  exact List.all_eq_true.mpr fun _ _ => rfl
end K47

namespace K47
open PySem PySem.Spec PyProof.Rows L2 SortR LcM RepA
/-! ### data that lasts -/
theorem grows_seqT {K : PySem.W.Frag} {H H' : Hp} (s : Grows H H') {a : Addr} {xs : List V} (h : SqT K H a xs) : SqT K H' a xs := by
  rcases h with (h | ⟨o, h⟩) | h
  · exact .inl (.inl (s _ _ h))
  · exact .inl (.inr ⟨o, s _ _ h⟩)
  · exact .inr h
theorem Dp.grow {K : PySem.W.Frag} {H H' : Hp} (s : Grows H H') {x : V} {d : PyData} (h : Dp K H x d) : Dp K H' x d := by
  refine Dp.rec (motive_1 := fun x d _ => Dp K H' x d) (motive_2 := fun xs ds _ => DpAll K H' xs ds) ?_ ?_ ?_ ?_ ?_ ?_ ?_ ?_ h
  · exact .non
  · exact fun b => .bl b
  · exact fun i => .int i
  · exact fun x => .str x
  · exact fun q _ ih => .lst (s.seq q) ih
  · exact fun q _ ih => .tup (grows_seqT s q) ih
  · exact .nil
  · exact fun _ _ a b => .cons a b
theorem DpAll.grow {K : PySem.W.Frag} {H H' : Hp} (s : Grows H H') : ∀ {xs : List V} {ds : List PyData}, DpAll K H xs ds → DpAll K H' xs ds
  | _, _, .nil => .nil
  | _, _, .cons a b => .cons (Dp.grow s a) (DpAll.grow s b)
theorem Dd.grow {K : PySem.W.Frag} {H H' : Hp} (s : Grows H H') {x : V} {d : PyData} (h : Dd K H x d) : Dd K H' x d := by
  rcases h with h | ⟨a, e, q, ed⟩
  · exact .inl (Dp.grow s h)
  · exact .inr ⟨a, e, s _ _ q, ed⟩
theorem DpAll.len {K : PySem.W.Frag} {H : Hp} : ∀ {xs : List V} {ds : List PyData}, DpAll K H xs ds → xs.length = ds.length
  | _, _, .nil => rfl
  | _, _, .cons _ b => congrArg (· + 1) (DpAll.len b)
theorem DpAll.at {K : PySem.W.Frag} {H : Hp} : ∀ {ds : List PyData} {xs : List V} {i : Nat} {x : V}, DpAll K H xs ds → xs[i]? = some x → ∃ d, ds[i]? = some d ∧ Dp K H x d
  | [], _, _, _, .nil, h => nomatch h
  | d :: ds, _, i, x, .cons (vs := vs) a b, h => by
    cases i with
    | zero =>
      cases h
      exact ⟨_, rfl, a⟩
    | succ i =>
      have h' : vs[i]? = some x := h
      obtain ⟨e, he, q⟩ := DpAll.at b h'
      exact ⟨e, he, q⟩
def tyName : PyData → String
  | .none => "NoneType"
  | .bool _ => "bool"
  | .int _ => "int"
  | .str _ => "str"
  | .list _ => "list"
  | .tuple _ => "tuple"
  | .dict _ => "dict"
theorem dd_ty {K : PySem.W.Frag} {H : Hp} {x : V} {d : PyData} (h : Dd K H x d) : TyX K H x (.type (tyName d)) := by
  rcases h with h | ⟨a, rfl, q, rfl⟩
  · cases h with
    | non => exact .base .non
    | bl b => exact .base (.bl b)
    | int i => exact .base (.int i)
    | str s => exact .base (.str s)
    | lst q _ => exact ty_list q
    | tup q _ =>
      rcases q with (q | ⟨o, q⟩) | ⟨o, its, n, q, hc, _⟩
      · exact .base (.tup q)
      · exact .fTuple q
      · exact .kTuple q hc
  · exact .base (.dK q)
theorem ty_kinds (d : PyData) : tyName d ∈ kinds := by
  cases d <;> simp [tyName, kinds]
/-- is_coming, on data -/
def itemOk (i : Nat) : PyData → Bool
  | .int v => decide (-(i : Int) ≤ v) && decide (v ≤ (i : Int))
  | _ => false
def isC : PyData → Bool
  | .list ds => decide ((ds.length : Int) < 20) && (List.range ds.length).all fun i => itemOk i (ds.getD i .none)
  | _ => false
theorem isC_list (ds : List PyData) : isC (.list ds) = (decide ((ds.length : Int) < 20) && (List.range ds.length).all fun i => itemOk i (ds.getD i .none)) := rfl
abbrev sComing : Stmt := top 32
abbrev sBoth : Stmt := top 29
abbrev sItem : Stmt := top 33
abbrev sComOf : Stmt := top 34
abbrev sGrown : Stmt := top 35
abbrev sPlace : Stmt := top 36
abbrev sCome : Stmt := top 37
abbrev sPB : Stmt := top 38
structure ComF (K : PySem.W.Frag) (mg : Str → Option Value) where
  (fCut fComing fBoth fItem fComOf fGrown fPlace fCome fPB : Addr)
  (dCut dComing dBoth dItem dComOf dGrown dPlace dCome dPB : FuncData)
  FCut : Fun K "cut" "cut" sCut fCut dCut
  FComing : Fun K "is_coming" "is_coming" sComing fComing dComing
  FBoth : Fun K "both_parts" "both_parts" sBoth fBoth dBoth
  FItem : Fun K "item_of" "item_of" sItem fItem dItem
  FComOf : Fun K "coming_of" "coming_of" sComOf fComOf dComOf
  FGrown : Fun K "grown" "grown" sGrown fGrown dGrown
  FPlace : Fun K "place_of" "place_of" sPlace fPlace dPlace
  FCome : Fun K "come_into" "come_into" sCome fCome dCome
  FPB : Fun K "parting_by" "parting_by" sPB fPB dPB
  gCut : mg "cut" = some (.ref fCut)
  gComing : mg "is_coming" = some (.ref fComing)
  gBoth : mg "both_parts" = some (.ref fBoth)
  gItem : mg "item_of" = some (.ref fItem)
  gComOf : mg "coming_of" = some (.ref fComOf)
  gGrown : mg "grown" = some (.ref fGrown)
  gPlace : mg "place_of" = some (.ref fPlace)
  gCome : mg "come_into" = some (.ref fCome)
  gPB : mg "parting_by" = some (.ref fPB)
  bCut : Binds K dCut ["parting", "some"] []
  bComing : Binds K dComing ["thing"] []
  bBoth : Binds K dBoth ["parting", "group"] []
  bItem : Binds K dItem ["parting", "person"] []
  bComOf : Binds K dComOf ["parting"] []
  bGrown : Binds K dGrown ["group", "place", "person"] []
  bPlace : Binds K dPlace ["made", "item"] []
  bCome : Binds K dCome ["made", "item", "person"] []
  bPB : Binds K dPB ["coming"] []
/-- rows, as plain lists -/
structure Rl (H : Hp) (a : Addr) (cs : List (Addr × List Int)) : Prop where
  top : H a = some (.lst (cs.map fun c => V.ref c.1))
  each : ∀ c ∈ cs, H c.1 = some (.lst (c.2.map V.int))
theorem Rl.keep {H H' : Hp} {a : Addr} {cs : List (Addr × List Int)} (r : Rl H a cs) (g : Grows H H') : Rl H' a cs := ⟨g _ _ r.top, fun c m => g _ _ (r.each c m)⟩
theorem Rl.rw {K : PySem.W.Frag} {H : Hp} {a : Addr} {cs : List (Addr × List Int)} (r : Rl H a cs) : Rw K H a cs := ⟨SqL.of r.top, fun c m => SqL.of (r.each c m)⟩
theorem Rl.at {H : Hp} {a : Addr} {cs : List (Addr × List Int)} (r : Rl H a cs) {i : Nat} (hi : i < cs.length) : H (cs.getD i (0, [])).1 = some (.lst ((cs.getD i (0, [])).2.map V.int)) := by
  rw [List.getD_eq_getElem?_getD, List.getElem?_eq_getElem hi]
  exact r.each _ (List.getElem_mem hi)
def spComing (K : PySem.W.Frag) : Sp := fun vs H Q _ => ∃ (x : V) (d : PyData), vs = [x] ∧ Dd K H x d ∧ ∀ H', Grows H H' → Q (.bl (isC d)) H'
def growR (pl : List Int) (q : Int) (r : List Int) : List Int := if pl.length < r.length ∧ pl.getD 0 0 ∈ r then r ++ [q] else r
def spGrown : Sp := fun vs H Q _ => ∃ (a b : Addr) (r pl : List Int) (q : Int), vs = [.ref a, .ref b, .int q] ∧ H a = some (.lst (r.map V.int)) ∧ H b = some (.lst (pl.map V.int)) ∧ pl ≠ [] ∧ r.length ≤ 1000 ∧
  (growR pl q r = r → Q (.ref a) H) ∧ ∀ p H', Grows H H' → H p = none → H' p = some (.lst ((growR pl q r).map V.int)) → Q (.ref p) H'
def placeR (ms : List (List Int)) (i : Int) : List Int := if 0 ≤ i then [i] else ms.getD (-i - 1).toNat []
def spPlace : Sp := fun vs H Q _ => ∃ (a : Addr) (bs : List (Addr × List Int)) (i : Int), vs = [.ref a, .int i] ∧ Rl H a bs ∧ -(bs.length : Int) ≤ i ∧ bs.length ≤ 1000 ∧
  ∀ (p : Addr) (H' : Hp), Grows H H' → H' p = some (.lst ((placeR (bs.map (·.2)) i).map V.int)) → Q (.ref p) H'
section
variable {P : Program} {w : World} {K : PySem.W.Frag} {mg : Str → Option Value} {base : Heap}
theorem scComing : FnScope ["thing", "at", "item"] ["thing"] (defScope sComing) := ⟨rfl, rfl, rfl, by decide +kernel, rfl, by decide +kernel, by decide +kernel⟩
theorem scGrown : FnScope ["group", "place", "person"] ["group", "place", "person"] (defScope sGrown) := ⟨rfl, rfl, rfl, by decide +kernel, rfl, by decide +kernel, by decide +kernel⟩
theorem scPlace : FnScope ["made", "item"] ["made", "item"] (defScope sPlace) := ⟨rfl, rfl, rfl, by decide +kernel, rfl, by decide +kernel, by decide +kernel⟩
theorem ok_coming (Z : ProgF K mg) (T : TxtP mg) (Y : ComF K mg) : FnOk P w K mg base CX0 2 Y.fComing Y.dComing ["thing"] (spComing K) := by
  have GNum : FnOk P w K mg base CX0 1 Z.fNum Z.dNum ["thing"] (spNumber K) := ok_number Z.FNum T
  refine Y.FComing.ok scComing (fun vs H Q E h => ?_) (fun cdv A outer s H vs Q E hr h => ?_)
  · obtain ⟨x, d, rfl, _⟩ := h
    rfl
  · obtain ⟨x, d, rfl, hd, k⟩ := h
    refine ⟨_, (pss_cons (ps_if (PW.pt (pw_or (pt_not (pt_val (pe_callB call_isi (by rfl) T.isi (by decide +kernel) (pa_cons (pv 0) (pa_cons (pe_bltn (v := .ty "list") (u := .type "list") (by rfl) T.list (by decide +kernel) rfl) pa_nil))))) (pw_or1 (pt_cmpR op_ge (pe_callB call_len_seq (by rfl) T.len (by decide +kernel) (pa_cons (pv 0) pa_nil)) (pe_glob (v := .int 20) rfl Z.gMost ⟨_, rfl⟩) (nomark _))))) (pss_one (ps_ret pe_bl)) pss_nil)
      (pss_one (ps_ret (pe_callB (cr_all rfl) (by rfl) T.all (by decide +kernel) (pa_cons (pe_lc (own := [("at", 1), ("item", 2)]) (g := gTup K 2 (gCons (gName 1) (gCons (gName 2) gNil))) (tt := tYes) rfl scComing.nd (pi_enum (by rfl) T.enumerate (pa_cons (pv 0) pa_nil)) (blkOk_by (own := [("at", 1), ("item", 2)]) (N := ["thing", "at", "item"]) (sc := defScope sComing) (by decide +kernel)) (fun _ _ _ _ _ => pg_tup rfl (pgs_cons (pg_name (i := 1) scComing.nd rfl (Or.inl rfl)) (pgs_cons (pg_name (i := 2) scComing.nd rfl (Or.inl rfl)) pgs_nil))) (fun _ _ _ _ _ => pts_nil) (fun _ _ _ _ _ => (pe_and (pe_call GNum (hr.mono (by decide)) rfl Z.gNum Z.FNum.kp Z.bNum .nil pass0 (pa_cons (pv 2) pa_nil)) (pe_one (pe_chain op_le op_le (pe_un un_neg (pv 1)) (pv 2) (pv 1)))))) pa_nil))))), ?_⟩
    have ty := dd_ty hd
    by_cases isl : ∃ ds, d = .list ds
    · obtain ⟨ds, rfl⟩ := isl
      obtain ⟨a, xs, rfl, hS, hA⟩ : ∃ a xs, x = .ref a ∧ SqL K H a xs ∧ DpAll K H xs ds := by
        rcases hd with hd | ⟨_, _, _, z⟩
        · cases hd with | lst q r => exact ⟨_, _, rfl, q, r⟩
        · cases z
      have len := DpAll.len hA
      have tyl : TyX K H (.ref a) (.type "list") := ty_list hS
      refine ⟨_, rfl, _, _, _, _, true, rfl, .ty "list", tyl, kit_ty (by decide +kernel), true, rfl, ?_⟩
      refine iteF ⟨_, rfl, a, _, rfl, .inl hS, _, _, rfl, rfl, _, rfl, ?_⟩
      by_cases big : (ds.length : Int) < 20
      · rw [decide_eq_false (by rw [len]; omega)]
        refine iteF ⟨_, rfl, a, _, rfl, hS, fun D hD => lc_enumM (K := K) (fun i => V.bl (itemOk i (ds.getD i .none))) hD hS (by omega) (fun i x T' H' R hx sm hT kR => ?_) fun H' sm eD => ?_⟩
        · obtain ⟨d, ed, hdx⟩ := DpAll.at hA hx
          have eg : ds.getD i .none = d := by rw [List.getD_eq_getElem?_getD, ed]; rfl
          refine ⟨T', _, rfl, SqT.of upd_same, rfl, _, _, rfl, _, _, rfl, rfl, ?_⟩
          have dx' := Dp.grow (sm.trans (Grows.new (o := .tup [V.int (i : Nat), x]) hT)) hdx
          refine ⟨rfl, _, rfl, _, tyName d, rfl, dd_ty (.inl dx'), ty_kinds d, ?_⟩
          rw [eg] at kR
          cases hdx with
          | int v =>
            refine ⟨_, rfl, _, rfl, _, rfl, _, rfl, _, _, rfl, rfl, _, rfl, ?_⟩
            have kv : R (V.bl (decide (-(i : Int) ≤ v) && decide (v ≤ (i : Int)))) (upd H' T' (.tup [V.int (i : Nat), V.int v])) := kR _ .refl
            by_cases l : -(i : Int) ≤ v
            · rw [if_pos (decide_eq_true l)]
              rw [decide_eq_true l, Bool.true_and] at kv
              exact ⟨_, rfl, _, _, rfl, rfl, kv⟩
            · rw [if_neg (by rw [decide_eq_false l]; exact Bool.false_ne_true)]
              rw [decide_eq_false l, Bool.false_and] at kv
              exact kv
          | non => exact ⟨_, rfl, kR _ .refl⟩
          | bl b => exact ⟨_, rfl, kR _ .refl⟩
          | str b => exact ⟨_, rfl, kR _ .refl⟩
          | lst _ _ => exact ⟨_, rfl, kR _ .refl⟩
          | tup _ _ => exact ⟨_, rfl, kR _ .refl⟩
        · refine ⟨D, (List.range xs.length).map fun i => itemOk i (ds.getD i .none), rfl, SqL.of (by rw [eD, List.map_map]; rfl), ?_⟩
          rw [all_rng, len]
          have q := k H' sm
          rw [isC_list, decide_eq_true big, Bool.true_and] at q
          exact q
      · rw [decide_eq_true (by rw [len]; omega)]
        have q := k H .refl
        rw [isC_list, decide_eq_false big, Bool.false_and] at q
        exact iteT q
    · have no : isC d = false := by
        cases d <;> first | rfl | exact absurd ⟨_, rfl⟩ isl
      have q := k H .refl
      rw [no] at q
      refine ⟨_, rfl, _, _, _, _, false, rfl, .ty "list", ty, kit_ty ?_, false, rfl, iteT q⟩
      cases d <;> first | exact absurd ⟨_, rfl⟩ isl | (simp only [tyName]; decide +kernel)
theorem ok_grown (T : TxtP mg) (Y : ComF K mg) : FnOk P w K mg base CX0 1 Y.fGrown Y.dGrown ["group", "place", "person"] spGrown := by
  refine Y.FGrown.ok scGrown (fun vs H Q E h => ?_) (fun cdv A outer s H vs Q E hr h => ?_)
  · obtain ⟨a, b, r, pl, q, rfl, _⟩ := h
    rfl
  · obtain ⟨a, b, r, pl, q, rfl, hA, hB, hne, hl, k1, k2⟩ := h
    refine ⟨_, (pss_cons (ps_if (PW.pt (pw_and (pt_cmpR op_gt (pe_callB call_len_seq (by rfl) T.len (by decide +kernel) (pa_cons (pv 0) pa_nil)) (pe_callB call_len_seq (by rfl) T.len (by decide +kernel) (pa_cons (pv 1) pa_nil)) (nomark _)) (pw_and1 (pt_cmpR op_in_seq (pe_ix (r := rIxL K) ix_list (pv 1) pe_int (fun _ _ => rfl)) (pv 0) (by rfl))))) (pss_one (ps_ret (pe_op op_cat (pv 0) (pe_lst (pa_cons (pv 2) pa_nil))))) pss_nil)
      (pss_one (ps_ret (pv 0)))), ?_⟩
    refine ⟨_, rfl, a, _, rfl, .inl (SqL.of hA), _, rfl, b, _, rfl, .inl (SqL.of hB), _, _, rfl, rfl, _, rfl, ?_⟩
    rw [List.length_map, List.length_map]
    have pz : 0 < pl.length := List.length_pos_iff.mpr hne
    by_cases l : pl.length < r.length
    · rw [decide_eq_true (show ((pl.length : Nat) : Int) < (r.length : Nat) by omega)]
      have at0 : atI (pl.map V.int) 0 = some (V.int (pl.getD 0 0)) := by
        refine atI_nat (j := 0) ?_
        rw [List.getElem?_map, List.getD_eq_getElem?_getD, List.getElem?_eq_getElem pz]
        rfl
      refine iteT ⟨_, rfl, b, _, 0, _, rfl, rfl, SqL.of hB, at0, _, rfl, a, _, rfl, .inl (SqL.of hA), rfl, flat_ints r, _, rfl, ?_⟩
      show if (inV (V.int (pl.getD 0 0)) (r.map V.int)) = true then _ else _
      rw [inV_ints]
      by_cases m : pl.getD 0 0 ∈ r
      · have e : growR pl q r = r ++ [q] := if_pos ⟨l, m⟩
        rw [if_pos (decide_eq_true m)]
        refine ⟨_, rfl, _, rfl, (by show 1 ≤ sizeLine; decide), fun z hz => ⟨a, z, _, _, rfl, rfl, Grows.new hz _ _ hA, upd_same, ?_, fun p hp => ?_⟩⟩
        · rw [List.length_map]
          show r.length + 1 ≤ sizeLine
          exact Nat.le_trans (Nat.succ_le_succ hl) (by decide)
        · have g1 : Grows H (upd H z (.lst [V.int q])) := Grows.new hz
          refine k2 p _ (g1.trans (Grows.new hp)) (none_back g1 hp) ?_
          rw [upd_same, e, List.map_append]
          rfl
      · have e : growR pl q r = r := if_neg fun z => m z.2
        rw [if_neg (by rw [decide_eq_false m]; exact Bool.false_ne_true)]
        exact ⟨_, rfl, k1 e⟩
    · have e : growR pl q r = r := if_neg fun z => l z.1
      rw [decide_eq_false (show ¬ ((pl.length : Nat) : Int) < (r.length : Nat) by omega)]
      exact iteF (iteF ⟨_, rfl, k1 e⟩)
theorem ok_place (Y : ComF K mg) : FnOk P w K mg base CX0 1 Y.fPlace Y.dPlace ["made", "item"] spPlace := by
  refine Y.FPlace.ok scPlace (fun vs H Q E h => ?_) (fun cdv A outer s H vs Q E hr h => ?_)
  · obtain ⟨a, bs, i, rfl, _⟩ := h
    rfl
  · obtain ⟨a, bs, i, rfl, hB, hi, hl, k⟩ := h
    refine ⟨_, (pss_one (ps_ret (pe_ifExp (pt_cmpR op_ge (pv 1) pe_int (nomark _)) (pe_lst (pa_cons (pv 1) pa_nil)) (pe_ix (r := rIxL K) ix_list (pv 0) (pe_op op_sub (pe_un un_neg (pv 1)) pe_int) (fun _ _ => rfl))))), ?_⟩
    refine ⟨_, rfl, _, _, rfl, rfl, _, rfl, ?_⟩
    by_cases h0 : 0 ≤ i
    · have k' := k
      rw [show placeR (bs.map (·.2)) i = [i] from if_pos h0] at k'
      rw [decide_eq_true h0]
      refine iteT ⟨_, rfl, (by show 1 ≤ sizeLine; decide), fun p hp => k' p _ (Grows.new hp) upd_same⟩
    · have e : placeR (bs.map (·.2)) i = (bs.map (·.2)).getD (-i - 1).toNat [] := if_neg h0
      rw [decide_eq_false h0]
      have jl : (-i - 1).toNat < bs.length := by omega
      obtain ⟨z, _, ez⟩ := at_in (xs := bs.map fun b => V.ref b.1) (v := -i - 1) (by omega) (by rw [List.length_map]; omega)
      refine iteF ⟨_, rfl, _, rfl, _, rfl, _, _, rfl, rfl, a, _, _, V.ref (bs.getD (-i - 1).toNat (0, [])).1, rfl, rfl, SqL.of hB.top, ?_, k _ H .refl ?_⟩
      · have q : (bs.map fun b => V.ref b.1)[(-i - 1).toNat]? = some (V.ref (bs.getD (-i - 1).toNat (0, [])).1) := by
          rw [List.getElem?_map, List.getElem?_eq_getElem jl, List.getD_eq_getElem?_getD, List.getElem?_eq_getElem jl]
          rfl
        have q2 := atI_nat q
        rw [Int.toNat_of_nonneg (by omega)] at q2
        exact q2
      · rw [e, snd_at]
        exact hB.at jl
end
end K47

namespace K47
open PySem PySem.Spec PyProof.Rows L2 SortR LcM RepA
def comeR (ms : List (List Int)) (i q : Int) : List (List Int) := ms.map (growR (placeR ms i) q) ++ [placeR ms i ++ [q]]
def madeR (is : List Int) : Nat → List (List Int)
  | 0 => []
  | n + 1 => comeR (madeR is n) (is.getD n 0) (1 + (n : Nat))
def pbR (is : List Int) : List (List Int) := (madeR is is.length).mergeSort fun p q => decide (p ≤ q)
theorem madeR_len (is : List Int) : ∀ n, (madeR is n).length = n
  | 0 => rfl
  | n + 1 => by
    show (comeR (madeR is n) _ _).length = n + 1
    unfold comeR
    rw [List.length_append, List.length_map, madeR_len is n]
    rfl
theorem rngm {α β : Type} (ns : List α) (d : α) (f : α → β) : (List.range ns.length).map (fun i => f (ns.getD i d)) = ns.map f := by
  refine List.ext_getElem (by rw [List.length_map, List.length_map, List.length_range]) fun j j1 j2 => ?_
  rw [List.length_map] at j2
  rw [List.getElem_map, List.getElem_map, List.getElem_range, List.getD_eq_getElem?_getD, List.getElem?_eq_getElem j2]
  rfl
theorem growR_ok (pl : List Int) (q : Int) (r : List Int) : (growR pl q r).length ≤ r.length + 1 ∧ (r ≠ [] → growR pl q r ≠ []) := by
  unfold growR
  split
  · exact ⟨by rw [List.length_append]; exact Nat.le_refl _, fun _ z => by simp at z⟩
  · exact ⟨Nat.le_succ _, id⟩
theorem placeR_ok {ms : List (List Int)} {i : Int} {n : Nat} (h : ∀ r ∈ ms, r ≠ [] ∧ r.length ≤ n + 1) (hi : -(ms.length : Int) ≤ i) : placeR ms i ≠ [] ∧ (placeR ms i).length ≤ n + 1 := by
  unfold placeR
  split
  · exact ⟨(fun z => nomatch z), Nat.succ_le_succ (Nat.zero_le _)⟩
  · have jl : (-i - 1).toNat < ms.length := by omega
    rw [List.getD_eq_getElem?_getD, List.getElem?_eq_getElem jl]
    exact h _ (List.getElem_mem jl)
/-- a coming list -/
def Bd (is : List Int) : Prop := ∀ n, n < is.length → -(n : Int) ≤ is.getD n 0
theorem madeR_ok {is : List Int} (h : Bd is) : ∀ n, n ≤ is.length → ∀ r ∈ madeR is n, r ≠ [] ∧ r.length ≤ n + 1
  | 0, _, r, hr => nomatch hr
  | n + 1, hn, r, hr => by
    have ih := madeR_ok h n (Nat.le_of_succ_le hn)
    have p := placeR_ok (i := is.getD n 0) ih (by rw [madeR_len]; exact h n hn)
    have hr' : r ∈ comeR (madeR is n) (is.getD n 0) (1 + (n : Nat)) := hr
    unfold comeR at hr'
    rcases List.mem_append.mp hr' with m | m
    · obtain ⟨s, hs, rfl⟩ := List.mem_map.mp m
      obtain ⟨a, b⟩ := ih s hs
      have g := growR_ok (placeR (madeR is n) (is.getD n 0)) (1 + (n : Nat)) s
      exact ⟨g.2 a, by omega⟩
    · rw [List.mem_singleton.mp m]
      exact ⟨fun z => by simp at z, by rw [List.length_append]; exact Nat.succ_le_succ p.2⟩
theorem bd_of {is : List Int} (h : isC (.list (is.map .int)) = true) : Bd is ∧ is.length < 20 := by
  rw [isC_list, Bool.and_eq_true, List.length_map] at h
  have l := of_decide_eq_true h.1
  refine ⟨fun n hn => ?_, by omega⟩
  have q := List.all_eq_true.mp h.2 n (List.mem_range.mpr hn)
  have e : (is.map PyData.int).getD n .none = .int (is.getD n 0) := by
    rw [List.getD_eq_getElem?_getD, List.getD_eq_getElem?_getD, List.getElem?_map, List.getElem?_eq_getElem hn]
    rfl
  rw [e] at q
  unfold itemOk at q
  rw [Bool.and_eq_true] at q
  exact of_decide_eq_true q.1
theorem pick_rows {H : Hp} {R : Nat → List Int} {Pp : Addr → Prop} : ∀ (ys : List V) (k : Nat), (∀ j y, ys[j]? = some y → ∃ p, y = .ref p ∧ H p = some (.lst ((R (k + j)).map V.int)) ∧ Pp p) →
    ∃ cs : List (Addr × List Int), ys = cs.map (fun c => V.ref c.1) ∧ cs.map (·.2) = (List.range ys.length).map (fun j => R (k + j)) ∧ ∀ c ∈ cs, H c.1 = some (.lst (c.2.map V.int)) ∧ Pp c.1
  | [], k, _ => ⟨[], rfl, rfl, fun _ h => nomatch h⟩
  | y :: ys, k, h => by
    obtain ⟨p, rfl, e, pp⟩ := h 0 y rfl
    obtain ⟨cs, e1, e2, e3⟩ := pick_rows (R := R) (Pp := Pp) ys (k + 1) fun j z hz => by
      obtain ⟨q, a, b, c⟩ := h (j + 1) z hz
      refine ⟨q, a, ?_, c⟩
      rw [show k + 1 + j = k + (j + 1) by omega]
      exact b
    refine ⟨(p, R (k + 0)) :: cs, by rw [List.map_cons, ← e1], ?_, fun c hc => ?_⟩
    · rw [List.map_cons, e2, List.length_cons, List.range_succ_eq_map, List.map_cons, List.map_map]
      refine congrArg _ (List.map_congr_left fun j _ => ?_)
      show R (k + 1 + j) = R (k + (j + 1))
      rw [show k + 1 + j = k + (j + 1) by omega]
    · rcases List.mem_cons.mp hc with q | q
      · rw [q]
        exact ⟨e, pp⟩
      · exact e3 c q
def spCome : Sp := fun vs H Q _ => ∃ (a : Addr) (bs : List (Addr × List Int)) (i q : Int), vs = [.ref a, .int i, .int q] ∧ Rl H a bs ∧ -(bs.length : Int) ≤ i ∧ bs.length ≤ 900 ∧ (∀ r ∈ bs.map (·.2), r ≠ [] ∧ r.length ≤ 900 + 1) ∧
  ∀ (p : Addr) (cs : List (Addr × List Int)) (H' : Hp), cs.map (·.2) = comeR (bs.map (·.2)) i q → Grows H H' → H p = none → Rl H' p cs → (∀ c ∈ cs, (∃ b ∈ bs, c.1 = b.1) ∨ H c.1 = none) → Q (.ref p) H'
def spPB (K : PySem.W.Frag) : Sp := fun vs H Q _ => ∃ (a : Addr) (is : List Int), vs = [.ref a] ∧ SqL K H a (is.map V.int) ∧ isC (.list (is.map .int)) = true ∧
  ∀ (p : Addr) (cs : List (Addr × List Int)) (H' : Hp), cs.map (·.2) = pbR is → Grows H H' → H p = none → Rl H' p cs → (∀ c ∈ cs, c.1 ≠ p ∧ H c.1 = none) → Q (.ref p) H'
section
variable {P : Program} {w : World} {K : PySem.W.Frag} {mg : Str → Option Value} {base : Heap}
theorem scCome : FnScope ["made", "item", "person", "place", "group"] ["made", "item", "person"] (defScope sCome) := ⟨rfl, rfl, rfl, by decide +kernel, rfl, by decide +kernel, by decide +kernel⟩
theorem scPB : FnScope ["coming", "made", "person", "item"] ["coming"] (defScope sPB) := ⟨rfl, rfl, rfl, by decide +kernel, rfl, by decide +kernel, by decide +kernel⟩
theorem ok_come (T : TxtP mg) (Y : ComF K mg) : FnOk P w K mg base CX0 2 Y.fCome Y.dCome ["made", "item", "person"] spCome := by
  have GPlace : FnOk P w K mg base CX0 1 Y.fPlace Y.dPlace ["made", "item"] spPlace := ok_place Y
  have GGrown : FnOk P w K mg base CX0 1 Y.fGrown Y.dGrown ["group", "place", "person"] spGrown := ok_grown T Y
  refine Y.FCome.ok scCome (fun vs H Q E h => ?_) (fun cdv A outer s H vs Q E hr h => ?_)
  · obtain ⟨a, bs, i, q, rfl, _⟩ := h
    rfl
  · obtain ⟨a, bs, i, q, rfl, hB, hi, hl, hr1, k⟩ := h
    refine ⟨_, (pss_cons (ps_set (i := 3) scCome.nd rfl (.inr rfl) (pe_call GPlace (hr.mono (by decide)) rfl Y.gPlace Y.FPlace.kp Y.bPlace .nil pass0 (pa_cons (pv 0) (pa_cons (pv 1) pa_nil))))
      (pss_one (ps_ret (pe_op op_cat (pe_lc (own := [("group", 4)]) (g := gName 4) (tt := tYes) rfl scCome.nd (pi_list (pv 0)) (blkOk_by (own := [("group", 4)]) (N := ["made", "item", "person", "place", "group"]) (sc := defScope sCome) (by decide +kernel)) (fun _ _ _ _ _ => pg_name (i := 4) scCome.nd rfl (Or.inl rfl)) (fun _ _ _ _ _ => pts_nil) (fun _ _ _ _ _ => (pe_call GGrown (hr.mono (by decide)) rfl Y.gGrown Y.FGrown.kp Y.bGrown .nil pass0 (pa_cons (pv 4) (pa_cons (pv 3) (pa_cons (pv 2) pa_nil)))))) (pe_lst (pa_cons (pe_op op_cat (pv 3) (pe_lst (pa_cons (pv 2) pa_nil))) pa_nil)))))), ?_⟩
    refine ⟨_, rfl, _, rfl, a, bs, i, rfl, hB, hi, by omega, fun b H1 s1 eb => ?_⟩
    have pk := placeR_ok (n := 900) hr1 (by rw [List.length_map]; exact hi)
    generalize epl : placeR (bs.map (·.2)) i = pl at eb pk
    have B1 := hB.keep s1
    refine ⟨_, rfl, a, rfl, ⟨_, SqL.of B1.top⟩, fun D hD => lc_listX (K := K) (fun j v G => ∃ p, p ≠ D ∧ v = .ref p ∧ G p = some (.lst ((growR pl q ((bs.map (·.2)).getD j [])).map V.int)) ∧ ((∃ b ∈ bs, p = b.1) ∨ H p = none)) (fun j y G G' g ⟨p, np, e, ep, r⟩ => ⟨p, np, e, g _ _ ep, r⟩) (fun j y G zs ⟨p, np, e, ep, r⟩ _ u => ⟨p, np, e, (upd_ne np).trans ep, r⟩) hD (SqL.of B1.top) (by rw [List.length_map]; omega) (fun j x G Rk hx sm nD kR => ?_) fun G ys mx => ?_⟩
    · have jl := (List.getElem?_eq_some_iff.mp hx).1
      rw [List.length_map] at jl
      obtain rfl := at_map (d := (0, [])) hx
      have mem : bs.getD j (0, []) ∈ bs := by
        rw [List.getD_eq_getElem?_getD, List.getElem?_eq_getElem jl]
        exact List.getElem_mem jl
      have er : (bs.map (·.2)).getD j [] = (bs.getD j (0, [])).2 := snd_at bs j
      have eg := (B1.keep sm).at jl
      have nd : (bs.getD j (0, [])).1 ≠ D := fun z => by
        have := B1.at jl
        rw [z, hD] at this
        cases this
      refine ⟨rfl, _, rfl, _, rfl, _, rfl, _, b, _, pl, q, rfl, eg, sm _ _ eb, pk.1, ?_, fun e => ?_, fun p G' g' np' ep' => ?_⟩
      · have := (hr1 _ (mem_at jl)).2
        omega
      · exact kR _ G .refl ⟨_, nd, rfl, by rw [er, e]; exact eg, .inl ⟨_, mem, rfl⟩⟩
      · exact kR _ G' g' ⟨p, fun z => nD (z ▸ np'), rfl, by rw [er]; exact ep', .inr (none_back (s1.trans sm) np')⟩
    · obtain ⟨cs, e1, e2, e3⟩ := pick_rows (H := G) (R := fun j => growR pl q ((bs.map (·.2)).getD j [])) (Pp := fun p => p ≠ D ∧ ((∃ b ∈ bs, p = b.1) ∨ H p = none)) ys 0 fun j y hy => by
        obtain ⟨p, np, e, ep, r⟩ := mx.rel j y hy
        rw [Nat.zero_add]
        exact ⟨p, e, ep, np, r⟩
      have yl : ys.length = bs.length := by rw [mx.len, List.length_map]
      have e2' : cs.map (·.2) = (bs.map (·.2)).map (growR pl q) := by
        rw [e2, yl, ← List.length_map (f := (·.2)) (as := bs)]
        refine Eq.trans (List.map_congr_left fun j _ => ?_) (rngm (bs.map (·.2)) [] (growR pl q))
        rw [Nat.zero_add]
      have g1 := mx.grow
      have ebG := g1 _ _ eb
      refine ⟨_, rfl, _, rfl, (by show 1 ≤ sizeLine; decide), fun z hz => ⟨b, z, _, _, rfl, rfl, Grows.new hz _ _ ebG, upd_same, ?_, fun z2 hz2 => ⟨(by show 1 ≤ sizeLine; decide), fun z3 hz3 => ⟨D, z3, ys, _, rfl, rfl, ?_, upd_same, ?_, fun z4 hz4 => ?_⟩⟩⟩⟩
      · rw [List.length_map]
        show pl.length + 1 ≤ sizeLine
        exact Nat.le_trans (Nat.succ_le_succ pk.2) (by decide)
      · exact (((Grows.new (o := .lst [V.int q]) hz).trans (Grows.new hz2)).trans (Grows.new hz3)) _ _ mx.top
      · rw [yl]
        show bs.length + 1 ≤ sizeLine
        exact Nat.le_trans (Nat.succ_le_succ hl) (by decide)
      · have t3 : Grows (upd (upd G z (.lst [V.int q])) z2 (.lst (pl.map V.int ++ [V.int q]))) (upd (upd (upd (upd G z (.lst [V.int q])) z2 (.lst (pl.map V.int ++ [V.int q]))) z3 (.lst [V.ref z2])) z4 (.lst (ys ++ [V.ref z2]))) := (Grows.new hz3).trans (Grows.new hz4)
        have t2 := ((Grows.new (o := .lst [V.int q]) hz).trans (Grows.new (o := .lst (pl.map V.int ++ [V.int q])) hz2)).trans t3
        have gH : Grows H G := s1.trans g1
        refine k z4 (cs ++ [(z2, pl ++ [q])]) _ ?_ (gH.trans t2) (none_back (gH.trans ((Grows.new (o := .lst [V.int q]) hz).trans ((Grows.new (o := .lst (pl.map V.int ++ [V.int q])) hz2).trans (Grows.new (o := .lst [V.ref z2]) hz3)))) hz4) ⟨?_, fun c hc => ?_⟩ fun c hc => ?_
        · rw [List.map_append, e2']
          unfold comeR
          rw [epl]
          rfl
        · rw [upd_same, List.map_append, e1]
          rfl
        · rcases List.mem_append.mp hc with m | m
          · exact t2 _ _ (e3 c m).1
          · rw [List.mem_singleton.mp m]
            refine t3 _ _ ?_
            rw [upd_same, List.map_append]
            rfl
        · rcases List.mem_append.mp hc with m | m
          · exact (e3 c m).2.2
          · rw [List.mem_singleton.mp m]
            exact .inr (none_back (gH.trans (Grows.new (o := .lst [V.int q]) hz)) hz2)
theorem ok_pb (Z : ProgF K mg) (T : TxtP mg) (Y : ComF K mg) : FnOk P w K mg base CX0 3 Y.fPB Y.dPB ["coming"] (spPB K) := by
  have GComing : FnOk P w K mg base CX0 2 Y.fComing Y.dComing ["thing"] (spComing K) := ok_coming Z T Y
  have GCome : FnOk P w K mg base CX0 2 Y.fCome Y.dCome ["made", "item", "person"] spCome := ok_come T Y
  refine Y.FPB.ok scPB (fun vs H Q E h => ?_) (fun cdv A outer s H vs Q E hr h => ?_)
  · obtain ⟨a, is, rfl, _⟩ := h
    rfl
  · obtain ⟨a, is, rfl, hS, hC, k⟩ := h
    obtain ⟨bd, l20⟩ := bd_of hC
    refine ⟨_, (pss_cons (ps_if (pt_not (pt_val (pe_call GComing (hr.mono (by decide)) rfl Y.gComing Y.FComing.kp Y.bComing .nil pass0 (pa_cons (pv 0) pa_nil)))) (pss_one ps_never) pss_nil)
      (pss_cons (ps_set (i := 1) scPB.nd rfl (.inl rfl) (pe_lst pa_nil))
      (pss_cons (ps_for PassesOwn.never rfl (pi_enumS (by rfl) T.enumerate (by decide) (by decide) (pa_cons (pv 0) pa_nil) rfl) (pg_tup (by rfl) (pgs_cons (pg_name (i := 2) scPB.nd rfl (.inl rfl)) (pgs_cons (pg_name (i := 3) scPB.nd rfl (.inl rfl)) pgs_nil)))
      (pss_one (ps_set (i := 1) scPB.nd rfl (.inl rfl) (pe_call GCome (hr.mono (by decide)) rfl Y.gCome Y.FCome.kp Y.bCome .nil pass0 (pa_cons (pv 1) (pa_cons (pv 3) (pa_cons (pv 2) pa_nil)))))))
      (pss_one (ps_ret (pe_callB (call_sortedR hr.units) (by rfl) T.sorted (by decide +kernel) (pa_cons (pv 1) pa_nil))))))), ?_⟩
    refine ⟨_, rfl, _, _, rfl, .inl (.lst hS (rows_dp is)), fun H1 s1 => ?_⟩
    rw [hC]
    refine ⟨_, rfl, iteF ⟨(by show 0 ≤ sizeLine; decide), fun m0 hm0 => ?_⟩⟩
    have g0 : Grows H (upd H1 m0 (.lst [])) := s1.trans (Grows.new hm0)
    refine ⟨_, rfl, a, _, rfl, g0.seq hS, for_enumS (K := K) (xs := is.map V.int) (k := 1) (fun i σ G => ∃ m cs o2 o3, σ = [some (.ref a), some (.ref m), o2, o3] ∧ Grows H G ∧ Rl G m cs ∧ cs.map (·.2) = madeR is i ∧ ∀ c ∈ cs, H c.1 = none)
      ⟨m0, [], none, none, rfl, g0, ⟨upd_same, fun _ h => nomatch h⟩, rfl, fun _ h => nomatch h⟩ (fun i σ G ⟨_, _, _, _, _, g, _⟩ => g.seq hS) (fun i x T' σ G hx ⟨m, cs, o2, o3, e, g, rl, ec, nw⟩ hT => ?_) fun σ G ⟨m, cs, o2, o3, e, g, rl, ec, nw⟩ => ?_⟩
    · subst e
      have il := (List.getElem?_eq_some_iff.mp hx).1
      rw [List.length_map] at il
      obtain rfl := at_map (d := 0) hx
      have cl : cs.length = i := by
        have := congrArg List.length ec
        rw [List.length_map, madeR_len] at this
        exact this
      have gT : Grows G (upd G T' (.tup [V.int (1 + (i : Nat)), V.int (is.getD i 0)])) := Grows.new hT
      refine ⟨T', _, rfl, SqT.of upd_same, rfl, _, _, rfl, _, _, rfl, rfl, _, rfl, _, rfl, _, rfl, m, cs, is.getD i 0, 1 + (i : Nat), rfl, rl.keep gT, by rw [cl]; exact bd i il, by omega, fun r hr2 => ?_, fun p cs' G' ec' g' np rl' own => ?_⟩
      · rw [ec] at hr2
        have q := madeR_ok bd i (Nat.le_of_lt il) r hr2
        exact ⟨q.1, by omega⟩
      · refine ⟨p, cs', _, _, rfl, (g.trans gT).trans g', rl', ?_, fun c hc => ?_⟩
        · rw [ec', ec]
          rfl
        · rcases own c hc with ⟨b, hb, z⟩ | z
          · rw [z]
            exact nw b hb
          · exact none_back (g.trans gT) z
    · subst e
      rw [List.length_map] at ec
      refine ⟨_, rfl, m, cs, rfl, SqL.of rl.top, fun b hb => SqL.of (rl.each b hb), fun p hp => ?_⟩
      refine k p (cs.mergeSort rowLe) _ ?_ (g.trans (Grows.new hp)) (none_back g hp) ⟨upd_same, fun c hc => Grows.new hp _ _ (rl.each c (List.mem_mergeSort.mp hc))⟩ fun c hc => ⟨fun z => ?_, nw c (List.mem_mergeSort.mp hc)⟩
      · rw [sort_rows, ec]
        rfl
      · have q := rl.each c (List.mem_mergeSort.mp hc)
        rw [z, hp] at q
        cases q
end
end K47

namespace K47
open PySem PySem.Spec PyProof.Rows L2 SortR LcM RepA
/-- the part with the least person: the greatest one that begins alike -/
def firstN (rs : List (List Int)) (g : List Int) : Nat → List Int
  | 0 => [g.getD 0 0]
  | n + 1 => let f := firstN rs g n; let r := rs.getD n []
    if r.getD 0 0 = g.getD 0 0 ∧ f.length < r.length ∧ r.length < g.length then r else f
def secR (rs : List (List Int)) (g : List Int) : List Int := g.filter fun x => decide (x ∉ firstN rs g rs.length)
def spBoth : Sp := fun vs H Q _ => ∃ (a b : Addr) (bs : List (Addr × List Int)) (g : List Int), vs = [.ref a, .ref b] ∧ Rl H a bs ∧ H b = some (.lst (g.map V.int)) ∧ g ≠ [] ∧ (∀ r ∈ bs.map (·.2), r ≠ []) ∧ g.length ≤ 1000 ∧ bs.length ≤ 1000 ∧
  ∀ (p q1 q2 : Addr) (H' : Hp), Grows H H' → H' p = some (.lst [.ref q1, .ref q2]) → H' q2 = some (.lst ((secR (bs.map (·.2)) g).map V.int)) → Q (.ref p) H'
section
variable {P : Program} {w : World} {K : PySem.W.Frag} {mg : Str → Option Value} {base : Heap}
theorem scBoth : FnScope ["parting", "group", "first", "inner", "person"] ["parting", "group"] (defScope sBoth) := ⟨rfl, rfl, rfl, by decide +kernel, rfl, by decide +kernel, by decide +kernel⟩
theorem at_head {r : List Int} (h : r ≠ []) : atI (r.map V.int) 0 = some (V.int (r.getD 0 0)) := by
  have pz : 0 < r.length := List.length_pos_iff.mpr h
  refine atI_nat (j := 0) ?_
  rw [List.getElem?_map, List.getD_eq_getElem?_getD, List.getElem?_eq_getElem pz]
  rfl
theorem ok_both (T : TxtP mg) (Y : ComF K mg) : FnOk P w K mg base CX0 1 Y.fBoth Y.dBoth ["parting", "group"] spBoth := by
  refine Y.FBoth.ok scBoth (fun vs H Q E h => ?_) (fun cdv A outer s H vs Q E hr h => ?_)
  · obtain ⟨a, b, bs, g, rfl, _⟩ := h
    rfl
  · obtain ⟨a, b, bs, g, rfl, hB, hb, hne, hrs, hgl, hbl, k⟩ := h
    refine ⟨_, (pss_cons (ps_set (i := 2) scBoth.nd rfl (.inr rfl) (pe_lst (pa_cons (pe_ix (r := rIxL K) ix_list (pv 1) pe_int (fun _ _ => rfl)) pa_nil)))
      (pss_cons (ps_for PassesOwn.never rfl (pi_list (pv 0)) (pg_name (i := 3) scBoth.nd rfl (.inl rfl))
      (pss_one (ps_if (PW.pt (pw_and (pt_cmpR op_eq (pe_ix (r := rIxL K) ix_list (pv 3) pe_int (fun _ _ => rfl)) (pe_ix (r := rIxL K) ix_list (pv 1) pe_int (fun _ _ => rfl)) (nomark _)) (pw_and1 (pt_chain op_lt op_lt (pe_callB call_len_seq (by rfl) T.len (by decide +kernel) (pa_cons (pv 2) pa_nil)) (pe_callB call_len_seq (by rfl) T.len (by decide +kernel) (pa_cons (pv 3) pa_nil)) (pe_callB call_len_seq (by rfl) T.len (by decide +kernel) (pa_cons (pv 1) pa_nil)))))) (pss_one (ps_set (i := 2) scBoth.nd rfl (.inr rfl) (pv 3))) pss_nil)))
      (pss_one (ps_ret (pe_lst (pa_cons (pe_callTy call_list_of (by rfl) T.list (by decide +kernel) (pa_cons (pv 2) pa_nil)) (pa_cons (pe_lc (own := [("person", 4)]) (g := gName 4)  rfl scBoth.nd (pi_list (pv 1)) (blkOk_by (own := [("person", 4)]) (N := ["parting", "group", "first", "inner", "person"]) (sc := defScope sBoth) (by decide +kernel)) (fun _ _ _ _ _ => pg_name (i := 4) scBoth.nd rfl (Or.inl rfl)) (fun _ _ _ _ _ => (pts_one (pt_cmpR (r := rIn K true) (by exact op_notIn_seq) (pv 4) (pv 2) (by rfl)))) (fun _ _ _ _ _ => (pv 4))) pa_nil))))))), ?_⟩
    refine ⟨_, rfl, b, _, 0, _, rfl, rfl, SqL.of hb, at_head hne, (by show 1 ≤ sizeLine; decide), fun f0 hf0 => ?_⟩
    have g0 : Grows H (upd H f0 (.lst [V.int (g.getD 0 0)])) := Grows.new hf0
    refine ⟨_, rfl, a, rfl, ⟨_, SqL.of (hB.keep g0).top⟩, for_list (K := K) (a := a) (xs := bs.map fun b => V.ref b.1) (fun i σ G => ∃ f o, σ = [some (.ref a), some (.ref b), some (.ref f), o, none] ∧ Grows H G ∧ G f = some (.lst ((firstN (bs.map (·.2)) g i).map V.int)))
      ⟨f0, none, rfl, g0, upd_same⟩ (fun i σ G _ ⟨_, _, _, g', _⟩ => SqL.of (g' _ _ hB.top)) (fun i x σ G hx ⟨f, o, e, g', ef⟩ => ?_) fun σ G ⟨f, o, e, g', ef⟩ => ?_⟩
    · subst e
      have il := (List.getElem?_eq_some_iff.mp hx).1
      rw [List.length_map] at il
      obtain rfl := at_map (d := (0, [])) hx
      have ei := (hB.keep g').at il
      have ne := hrs _ (mem_at il)
      have eb := g' _ _ hb
      refine ⟨_, rfl, _, _, 0, _, rfl, rfl, SqL.of ei, at_head ne, _, rfl, b, _, 0, _, rfl, rfl, SqL.of eb, at_head hne, rfl, _, rfl, ?_⟩
      have same : ¬ ((bs.getD i (0, [])).2.getD 0 0 = g.getD 0 0 ∧ (firstN (bs.map (·.2)) g i).length < (bs.getD i (0, [])).2.length ∧ (bs.getD i (0, [])).2.length < g.length) → firstN (bs.map (·.2)) g (i + 1) = firstN (bs.map (·.2)) g i := fun z => by
        show (if _ then _ else _) = _
        rw [snd_at]
        exact if_neg z
      by_cases h1 : (bs.getD i (0, [])).2.getD 0 0 = g.getD 0 0
      · rw [decide_eq_true (congrArg V.int h1)]
        refine iteT ⟨_, rfl, f, _, rfl, .inl (SqL.of ef), _, rfl, _, _, rfl, .inl (SqL.of ei), _, _, rfl, rfl, _, rfl, ?_⟩
        rw [List.length_map, List.length_map]
        by_cases h2 : (firstN (bs.map (·.2)) g i).length < (bs.getD i (0, [])).2.length
        · rw [if_pos (decide_eq_true (show (((firstN (bs.map (·.2)) g i).length : Nat) : Int) < ((bs.getD i (0, [])).2.length : Nat) by omega))]
          refine ⟨_, rfl, b, _, rfl, .inl (SqL.of eb), _, _, rfl, rfl, _, rfl, ?_⟩
          rw [List.length_map]
          by_cases h3 : (bs.getD i (0, [])).2.length < g.length
          · rw [decide_eq_true (show (((bs.getD i (0, [])).2.length : Nat) : Int) < (g.length : Nat) by omega)]
            refine iteT ⟨_, rfl, _, _, rfl, g', ?_⟩
            have e : firstN (bs.map (·.2)) g (i + 1) = (bs.getD i (0, [])).2 := by
              show (if _ then _ else _) = _
              rw [snd_at]
              exact if_pos ⟨h1, h2, h3⟩
            rw [e]
            exact ei
          · rw [decide_eq_false (show ¬ (((bs.getD i (0, [])).2.length : Nat) : Int) < (g.length : Nat) by omega)]
            exact iteF ⟨f, _, rfl, g', by rw [same fun z => h3 z.2.2]; exact ef⟩
        · rw [if_neg (by rw [decide_eq_false (show ¬ (((firstN (bs.map (·.2)) g i).length : Nat) : Int) < ((bs.getD i (0, [])).2.length : Nat) by omega)]; exact Bool.false_ne_true)]
          refine ⟨_, rfl, iteF ⟨f, _, rfl, g', by rw [same fun z => h2 z.2.1]; exact ef⟩⟩
      · rw [decide_eq_false fun z => h1 (V.int.inj z)]
        exact iteF (iteF ⟨f, _, rfl, g', by rw [same fun z => h1 z.1]; exact ef⟩)
    · subst e
      rw [List.length_map] at ef
      have eb := g' _ _ hb
      refine ⟨_, rfl, f, _, rfl, .inl (SqL.of ef), fun q1 hq1 => ?_⟩
      have g1 : Grows G (upd G q1 (.lst ((firstN (bs.map (·.2)) g bs.length).map V.int))) := Grows.new hq1
      refine ⟨_, rfl, b, rfl, ⟨_, SqL.of (g1 _ _ eb)⟩, fun D hD => lc_listT (K := K) (fun i => decide (g.getD i 0 ∉ firstN (bs.map (·.2)) g bs.length)) (fun i => V.int (g.getD i 0)) hD (SqL.of (g1 _ _ eb)) (by rw [List.length_map]; omega) (fun i x G2 Ry Rn hx sm ky kn => ?_) fun G2 sm eD => ?_⟩
      · obtain rfl := at_map (d := 0) hx
        refine ⟨rfl, _, rfl, _, rfl, f, _, rfl, .inl (SqL.of (sm _ _ (g1 _ _ ef))), rfl, flat_ints _, _, rfl, ?_⟩
        show if (!inV (V.int (g.getD i 0)) ((firstN (bs.map (·.2)) g bs.length).map V.int)) = true then _ else _
        rw [inV_ints]
        by_cases m : g.getD i 0 ∈ firstN (bs.map (·.2)) g bs.length
        · rw [decide_eq_true m]
          exact iteF (kn (decide_eq_false fun z => z m) _ .refl)
        · rw [decide_eq_false m]
          exact iteT ⟨_, rfl, ky (decide_eq_true m) _ .refl⟩
      · rw [List.length_map] at eD
        have ek : kept (fun i => decide (g.getD i 0 ∉ firstN (bs.map (·.2)) g bs.length)) (fun i => V.int (g.getD i 0)) g.length = (secR (bs.map (·.2)) g).map V.int := by
          unfold kept secR
          rw [List.length_map]
          have e := (rngm g 0 id).trans (List.map_id g)
          have e2 : g.filter (fun x => decide (x ∉ firstN (bs.map (·.2)) g bs.length)) = ((List.range g.length).map fun i => g.getD i 0).filter fun x => decide (x ∉ firstN (bs.map (·.2)) g bs.length) := by
            rw [show ((List.range g.length).map fun i => g.getD i 0) = g from e]
          rw [e2, List.filter_map, List.map_map]
          rfl
        rw [ek] at eD
        refine ⟨(by show 2 ≤ sizeLine; decide), fun p hp => k p q1 D _ ((g'.trans g1).trans (sm.trans (Grows.new hp))) upd_same (Grows.new hp _ _ eD)⟩
end
end K47

namespace K47
open PySem PySem.Spec PyProof.Rows L2 SortR LcM RepA
def upto (n : Nat) : List Int := (List.range n).map fun i => (0 + (i : Nat) : Int)
def isMinB (js : List (List Int)) (i : Nat) : Bool := (List.range js.length).all fun j => decide ((js.getD i []).length ≤ (js.getD j []).length) && (!decide (j < i) || decide ((js.getD i []).length < (js.getD j []).length))
def itemAt (come : List (List Int)) (r : List Int) : Option Int :=
  if r.dropLast.length = 1 then some (r.dropLast.getD 0 0) else if r.dropLast = [] then none else (secR come r.dropLast).head?.map fun x => -x
def itemC (come : List (List Int)) (p : Int) (v : Int) : Bool :=
  let js := come.filter fun r => decide (p ∈ r)
  !js.isEmpty && (List.range js.length).all fun i => !isMinB js i || decide (itemAt come (js.getD i []) = some v)
def itemB (rs : List (List Int)) (p : Nat) (v : Int) : Bool := itemC (cutR rs (upto (p + 1))) p v
theorem cutR_row {rs : List (List Int)} {ns q : List Int} (h : q ∈ cutR rs ns) : 2 ≤ q.length ∧ ∃ r ∈ rs, q = meet ns r := by
  unfold cutR at h
  rw [List.mem_mergeSort] at h
  obtain ⟨i, il, hp, rfl⟩ := firsts_of _ _ _ _ h
  unfold two at hp
  have := of_decide_eq_true hp
  refine ⟨by omega, rs.getD i [], ?_, rfl⟩
  rw [List.getD_eq_getElem?_getD, List.getElem?_eq_getElem il]
  exact List.getElem_mem il
theorem meet_le (ns r : List Int) : (meet ns r).length ≤ r.length := by
  unfold meet
  rw [List.length_map]
  exact Nat.le_trans (List.length_filter_le _ _) (Nat.le_of_eq (List.length_range))
theorem cutR_len (rs : List (List Int)) (ns : List Int) : (cutR rs ns).length ≤ rs.length := by
  unfold cutR
  rw [List.length_mergeSort]
  exact firsts_le _ _ _
theorem upto_V (n : Nat) : rgV 0 ((0 : Int) + (n : Nat)) = (upto n).map V.int := by
  unfold rgV upto
  rw [List.map_map]
  have e : (0 + (n : Nat) - 0 : Int).toNat = n := by omega
  rw [e]
  rfl
theorem filt {α : Type} (d : α) (p : α → Bool) (cs : List α) : ((List.range cs.length).filter fun i => p (cs.getD i d)).map (fun i => cs.getD i d) = cs.filter p := by
  have e := (rngm cs d id).trans (List.map_id cs)
  have e2 : cs.filter p = ((List.range cs.length).map fun i => cs.getD i d).filter p := by
    rw [show ((List.range cs.length).map fun i => cs.getD i d) = cs from e]
  rw [e2, List.filter_map]
  rfl
theorem cut_last {r : List Int} (h : r ≠ []) : cutV (r.map V.int) none (some (-1)) = r.dropLast.map V.int := by
  have pz : 0 < r.length := List.length_pos_iff.mpr h
  unfold cutV HT.sIx
  rw [List.length_map]
  show List.take ((if (-1 : Int) < 0 then ((-1 : Int) + (r.length : Nat)).toNat else _) - 0) (List.drop 0 (r.map V.int)) = _
  rw [if_pos (by decide), List.drop_zero, Nat.sub_zero, show ((-1 : Int) + (r.length : Nat)).toNat = r.length - 1 by omega, ← List.map_take, List.dropLast_eq_take]
def spItem (K : PySem.W.Frag) : Sp := fun vs H Q _ => ∃ (a : Addr) (bs : List (Addr × List Int)) (p : Nat) (v : Int), vs = [.ref a, .int (p : Nat)] ∧ Rw K H a bs ∧ Sz (bs.map (·.2)) ∧ p ≤ 100 ∧ itemB (bs.map (·.2)) p v = true ∧ ∀ H', Grows H H' → Q (.int v) H'
def spComOf (K : PySem.W.Frag) : Sp := fun vs H Q _ => ∃ (a : Addr) (bs : List (Addr × List Int)) (is : List Int), vs = [.ref a] ∧ Rw K H a bs ∧ Sz (bs.map (·.2)) ∧ isP (bs.map (·.2)) = true ∧ is.length = bs.length ∧ (∀ j, j < is.length → itemB (bs.map (·.2)) (j + 1) (is.getD j 0) = true) ∧
  ∀ (p : Addr) (H' : Hp), Grows H H' → H p = none → H' p = some (.lst (is.map V.int)) → Q (.ref p) H'
section
variable {P : Program} {w : World} {K : PySem.W.Frag} {mg : Str → Option Value} {base : Heap}
theorem scItem : FnScope ["parting", "person", "come", "joined", "place", "group"] ["parting", "person"] (defScope sItem) := ⟨rfl, rfl, rfl, by decide +kernel, rfl, by decide +kernel, by decide +kernel⟩
theorem ok_item (T : TxtP mg) (TC : Txt0 mg) (Y : ComF K mg) : FnOk P w K mg base CX0 2 Y.fItem Y.dItem ["parting", "person"] (spItem K) := by
  have GCut : FnOk P w K mg base CX0 1 Y.fCut Y.dCut ["parting", "some"] (spCut K) := ok_cut Y.FCut T
  have GBoth : FnOk P w K mg base CX0 1 Y.fBoth Y.dBoth ["parting", "group"] spBoth := ok_both T Y
  refine Y.FItem.ok scItem (fun vs H Q E h => ?_) (fun cdv A outer s H vs Q E hr h => ?_)
  · obtain ⟨a, bs, p, v, rfl, _⟩ := h
    rfl
  · obtain ⟨a, bs, p, v, rfl, hB, hz, hp, hi, k⟩ := h
    refine ⟨_, (pss_cons (ps_set (i := 2) scItem.nd rfl (.inl rfl) (pe_call GCut (hr.mono (by decide)) rfl Y.gCut Y.FCut.kp Y.bCut .nil pass0 (pa_cons (pv 0) (pa_cons (pe_listRg rfl (by rfl) T.list (prg_1 (by rfl) T.range (pe_op op_add (pv 1) pe_int))) pa_nil))))
      (pss_cons (ps_set (i := 3) scItem.nd rfl (.inl rfl) (pe_minLen rfl (by rfl) TC.min (by rfl) T.len (pe_lc (own := [("group", 5)]) (g := gName 5)  rfl scItem.nd (pi_list (pv 2)) (blkOk_by (own := [("group", 5)]) (N := ["parting", "person", "come", "joined", "place", "group"]) (sc := defScope sItem) (by decide +kernel)) (fun _ _ _ _ _ => pg_name (i := 5) scItem.nd rfl (Or.inl rfl)) (fun _ _ _ _ _ => (pts_one (pt_cmpR (r := rIn K false) (by exact op_in_seq) (pv 1) (pv 5) (by rfl)))) (fun _ _ _ _ _ => (pv 5)))))
      (pss_cons (ps_set (i := 4) scItem.nd rfl (.inl rfl) (pe_slice sl_list (pv 3) po_none (po_some (pe_un un_neg pe_int))))
      (pss_cons (ps_if (pt_cmpR op_eq (pe_callB call_len_seq (by rfl) T.len (by decide +kernel) (pa_cons (pv 4) pa_nil)) pe_int (nomark _)) (pss_one (ps_ret (pe_ix (r := rIxL K) ix_list (pv 4) pe_int (fun _ _ => rfl)))) pss_nil)
      (pss_one (ps_ret (pe_un un_neg (pe_ix (r := rIxL K) ix_list (pe_ix (r := rIxL K) ix_list (pe_call GBoth (hr.mono (by decide)) rfl Y.gBoth Y.FBoth.kp Y.bBoth .nil pass0 (pa_cons (pv 2) (pa_cons (pv 4) pa_nil))) pe_int (fun _ _ => rfl)) pe_int (fun _ _ => rfl))))))))), ?_⟩
    refine ⟨_, rfl, _, rfl, _, _, rfl, rfl, _, rfl, .of_le (by decide) (by omega) (by decide) (by omega), fun q1 hq1 => ?_⟩
    rw [show ((p : Nat) : Int) + 1 = 0 + ((p + 1 : Nat) : Int) by omega, upto_V]
    have g1 : Grows H (upd H q1 (.lst ((upto (p + 1)).map V.int))) := Grows.new hq1
    refine ⟨a, q1, bs, _, rfl, hB.keep g1, hz, SqL.of upd_same, ?_, fun c cs H2 ecs g2 nc nw ap top => ?_⟩
    · unfold upto
      rw [List.length_map, List.length_range]
      omega
    have ci : itemC (cs.map (·.2)) p v = true := by
      rw [ecs]
      exact hi
    have csl : cs.length ≤ 1000 := by
      have e := congrArg List.length ecs
      rw [List.length_map] at e
      rw [e]
      exact Nat.le_trans (cutR_len _ _) hz.1
    have row : ∀ r ∈ cs.map (·.2), 2 ≤ r.length ∧ r.length ≤ 1000 := fun r hr2 => by
      rw [ecs] at hr2
      obtain ⟨a1, s1, hs, e⟩ := cutR_row hr2
      refine ⟨a1, ?_⟩
      rw [e]
      exact Nat.le_trans (meet_le _ _) (hz.2 _ hs)
    have rl : Rl H2 c cs := ⟨top, nw.lists⟩
    refine ⟨_, rfl, c, rfl, ⟨_, SqL.of top⟩, fun D hD => lc_listT (K := K) (fun i => decide ((p : Int) ∈ (cs.getD i (0, [])).2)) (fun i => V.ref (cs.getD i (0, [])).1) hD (SqL.of top) (by rw [List.length_map]; omega) (fun i x G Ry Rn hx sm ky kn => ?_) fun G sm eD => ?_⟩
    · have il := (List.getElem?_eq_some_iff.mp hx).1
      rw [List.length_map] at il
      obtain rfl := at_map (d := (0, [])) hx
      refine ⟨rfl, _, rfl, _, rfl, _, _, rfl, .inl (SqL.of ((rl.keep sm).at il)), rfl, flat_ints _, _, rfl, ?_⟩
      show if (inV (V.int p) ((cs.getD i (0, [])).2.map V.int)) = true then _ else _
      rw [inV_ints]
      by_cases m : (p : Int) ∈ (cs.getD i (0, [])).2
      · rw [decide_eq_true m]
        exact iteT ⟨_, rfl, ky (decide_eq_true m) _ .refl⟩
      · rw [decide_eq_false m]
        exact iteF (kn (decide_eq_false m) _ .refl)
    · rw [List.length_map] at eD
      have ek : kept (fun i => decide ((p : Int) ∈ (cs.getD i (0, [])).2)) (fun i => V.ref (cs.getD i (0, [])).1) cs.length = (cs.filter fun c => decide ((p : Int) ∈ c.2)).map fun c => V.ref c.1 := by
        rw [← filt (0, []) (fun c => decide ((p : Int) ∈ c.2)) cs, List.map_map]
        rfl
      rw [ek] at eD
      generalize ejs : (cs.filter fun c => decide ((p : Int) ∈ c.2)) = js at eD
      have ejs2 : (cs.map (·.2)).filter (fun r => decide ((p : Int) ∈ r)) = js.map (·.2) := by
        rw [List.filter_map, ← ejs]
        rfl
      have mem : ∀ j ∈ js, j ∈ cs := fun j hj => by
        rw [← ejs] at hj
        exact (List.mem_filter.mp hj).1
      unfold itemC at ci
      rw [ejs2, Bool.and_eq_true] at ci
      obtain ⟨c1, c2⟩ := ci
      have jne : js ≠ [] := fun z => by
        rw [z] at c1
        cases c1
      refine ⟨D, js, rfl, SqL.of eD, fun b hb => SqL.of (sm _ _ (nw.lists b (mem b hb))), jne, fun i il fm => ?_⟩
      have hmin : isMinB (js.map (·.2)) i = true := by
        unfold isMinB
        refine List.all_eq_true.mpr fun j hj => ?_
        have jl := List.mem_range.mp hj
        rw [List.length_map] at jl
        have q := fm j jl
        unfold lenAt at q
        rw [snd_at, snd_at, Bool.and_eq_true]
        refine ⟨decide_eq_true (by omega), ?_⟩
        by_cases l : j < i
        · have := q.2 l
          rw [decide_eq_true l, decide_eq_true (show (js.getD i (0, [])).2.length < (js.getD j (0, [])).2.length by omega)]
          rfl
        · rw [decide_eq_false l]
          rfl
      have at_i := List.all_eq_true.mp c2 i (List.mem_range.mpr (by rw [List.length_map]; exact il))
      rw [hmin, Bool.not_true, Bool.false_or, snd_at] at at_i
      have at_i := of_decide_eq_true at_i
      have memi : js.getD i (0, []) ∈ js := by
        rw [List.getD_eq_getElem?_getD, List.getElem?_eq_getElem il]
        exact List.getElem_mem il
      have rowi := row _ (List.mem_map.mpr ⟨_, mem _ memi, rfl⟩)
      have lists := sm _ _ (nw.lists _ (mem _ memi))
      generalize hJ : js.getD i (0, []) = J at at_i memi rowi lists
      have ne2 : J.2 ≠ [] := fun z => by rw [z] at rowi; exact absurd rowi.1 (by decide)
      have dl : J.2.dropLast.length = J.2.length - 1 := List.length_dropLast
      refine ⟨_, rfl, 1, rfl, -1, rfl, J.1, _, rfl, SqL.of lists, fun pl hpl => ?_⟩
      rw [cut_last ne2]
      have gpl : Grows G (upd G pl (.lst (J.2.dropLast.map V.int))) := Grows.new hpl
      have gH := g1.trans (g2.trans sm)
      refine ⟨_, rfl, pl, _, rfl, .inl (SqL.of upd_same), rfl, _, rfl, ?_⟩
      rw [List.length_map]
      have plne : J.2.dropLast ≠ [] := fun z => by
        have := congrArg List.length z
        rw [dl] at this
        have := rowi.1
        simp at *
        omega
      by_cases h1 : J.2.dropLast.length = 1
      · rw [decide_eq_true (show V.int ((J.2.dropLast.length : Nat) : Int) = V.int 1 by rw [h1]; rfl)]
        unfold itemAt at at_i
        rw [if_pos h1] at at_i
        have ev := Option.some.inj at_i
        refine iteT ⟨_, rfl, pl, _, 0, _, rfl, rfl, SqL.of upd_same, at_head plne, ?_⟩
        rw [ev]
        exact k _ (gH.trans gpl)
      · rw [decide_eq_false fun z => h1 (by have := V.int.inj z; omega)]
        unfold itemAt at at_i
        rw [if_neg h1, if_neg plne] at at_i
        refine iteF ⟨_, rfl, _, rfl, c, pl, cs, J.2.dropLast, rfl, rl.keep (sm.trans gpl), upd_same, plne, fun r hr2 z => ?_, by have := rowi.2; omega, csl, fun r1 r2 r3 G3 g3 e1 e2 => ⟨_, _, 1, V.ref r3, rfl, rfl, SqL.of e1, rfl, ?_⟩⟩
        · have := (row r hr2).1
          rw [z] at this
          exact absurd this (by decide)
        · generalize secR (cs.map (·.2)) J.2.dropLast = sec at e2 at_i
          cases sec with
          | nil => cases at_i
          | cons x xs =>
            have ev : -x = v := Option.some.inj at_i
            refine ⟨_, _, 0, V.int x, rfl, rfl, SqL.of e2, at_head (r := x :: xs) (fun z => nomatch z), _, rfl, ?_⟩
            have kk := k _ (gH.trans (gpl.trans g3))
            rw [← ev] at kk
            exact kk
theorem scComOf : FnScope ["parting", "person"] ["parting"] (defScope sComOf) := ⟨rfl, rfl, rfl, by decide +kernel, rfl, by decide +kernel, by decide +kernel⟩
theorem ok_comOf (Z : ProgF K mg) (T : TxtP mg) (TC : Txt0 mg) (Y : ComF K mg) : FnOk P w K mg base CX0 7 Y.fComOf Y.dComOf ["parting"] (spComOf K) := by
  have GPs : FnOk P w K mg base CX0 6 Z.fPs Z.dPs ["parting"] (spPs K) := ok_persons Z T
  have GItem : FnOk P w K mg base CX0 2 Y.fItem Y.dItem ["parting", "person"] (spItem K) := ok_item T TC Y
  refine Y.FComOf.ok scComOf (fun vs H Q E h => ?_) (fun cdv A outer s H vs Q E hr h => ?_)
  · obtain ⟨a, bs, is, rfl, _⟩ := h
    rfl
  · obtain ⟨a, bs, is, rfl, hB, hz, hP, hl, hi, k⟩ := h
    refine ⟨_, (pss_one (ps_ret (pe_lc (own := [("person", 1)]) (g := gName 1) (tt := tYes) rfl scComOf.nd (pi_range2 (by rfl) T.range (pa_cons pe_int (pa_cons (pe_call GPs (hr.mono (by decide)) rfl Z.gPs Z.FPs.kp Z.bPs .nil pass0 (pa_cons (pv 0) pa_nil)) pa_nil))) (blkOk_by (own := [("person", 1)]) (N := ["parting", "person"]) (sc := defScope sComOf) (by decide +kernel)) (fun _ _ _ _ _ => pg_name (i := 1) scComOf.nd rfl (Or.inl rfl)) (fun _ _ _ _ _ => pts_nil) (fun _ _ _ _ _ => (pe_call GItem (hr.mono (by decide)) rfl Y.gItem Y.FItem.kp Y.bItem .nil pass0 (pa_cons (pv 0) (pa_cons (pv 1) pa_nil))))))), ?_⟩
    have l20 : bs.length < 20 := by
      have q := hP
      unfold isP at q
      simp only [Bool.and_eq_true, decide_eq_true_eq] at q
      have := q.1.1.1
      rw [List.length_map] at this
      omega
    refine ⟨_, rfl, a, bs, rfl, hB, hz, hP, fun H1 s1 => ?_⟩
    have en : ((bs.length : Int) + 1 - 1).toNat = is.length := by omega
    refine ⟨1, _, rfl, by omega, fun D hD => lc_range (lo := 1) (n := ((bs.length : Int) + 1 - 1).toNat) (fun i G => Grows H1 G ∧ G D = some (.lst ((is.take i).map V.int))) ⟨Grows.new hD, upd_same⟩ (fun i G il ⟨g, e⟩ => ?_) fun G ⟨g, e⟩ => ?_⟩
    · rw [en] at il
      refine ⟨rfl, _, rfl, _, rfl, a, bs, i + 1, is.getD i 0, ?_, (hB.keep s1).keep g, hz, by omega, hi i il, fun G2 g2 => ⟨_, g2 _ _ e, ?_, fun c o q => ?_, ?_⟩⟩
      · show [V.ref a, V.int (1 + (i : Nat))] = [V.ref a, V.int ((i + 1 : Nat) : Int)]
        rw [show (1 + (i : Nat) : Int) = ((i + 1 : Nat) : Int) by omega]
      · rw [List.length_map, List.length_take]
        exact small1000 (by omega)
      · rw [upd_ne (ne_of_none q hD)]
        exact g2 _ _ (g c o q)
      · rw [upd_same, List.take_succ, List.map_append, List.getD_eq_getElem?_getD, List.getElem?_eq_getElem il]
        rfl
    · rw [en, List.take_length] at e
      exact k D G (s1.trans g) (none_back s1 hD) e
end
end K47

namespace K47
open PySem PySem.Spec PyProof.Rows L2 SortR LcM RepA
/-! ### the program's tests, on any data -/
def persD (n : Int) : PyData → Bool
  | .int i => decide (0 ≤ i) && decide (i < n)
  | _ => false
def toI : PyData → Int
  | .int i => i
  | _ => 0
def plistD (n : Int) : PyData → Bool
  | .list ds => ds.all (persD n) && ascI (ds.map toI)
  | _ => false
def grpD (n : Int) : PyData → Bool
  | .list ds => plistD n (.list ds) && decide (2 ≤ (ds.length : Int))
  | _ => false
def toR : PyData → List Int
  | .list ds => ds.map toI
  | _ => []
def isPD : PyData → Bool
  | .list ds => decide ((ds.length : Int) < 20) && ds.all (grpD (ds.length + 1)) && ascR (ds.map toR) && !anyX (ds.map toR)
  | _ => false
theorem plistD_list (n : Int) (ds : List PyData) : plistD n (.list ds) = (ds.all (persD n) && ascI (ds.map toI)) := rfl
theorem grpD_list (n : Int) (ds : List PyData) : grpD n (.list ds) = (plistD n (.list ds) && decide (2 ≤ (ds.length : Int))) := rfl
theorem isPD_list (ds : List PyData) : isPD (.list ds) = (decide ((ds.length : Int) < 20) && ds.all (grpD (ds.length + 1)) && ascR (ds.map toR) && !anyX (ds.map toR)) := rfl
/-- lists within are not too long -/
def Lim (d : PyData) : Prop := ∀ ds, d = .list ds → ds.length ≤ 1000
def Lim2 (d : PyData) : Prop := ∀ ds, d = .list ds → ds.length ≤ 1000 ∧ ∀ e ∈ ds, Lim e
theorem all_at {α : Type} (d : α) (f : α → Bool) (ds : List α) : ((List.range ds.length).all fun i => f (ds.getD i d)) = ds.all f := by
  rw [Bool.eq_iff_iff, List.all_eq_true, List.all_eq_true]
  refine ⟨fun h x hx => ?_, fun h i hi => ?_⟩
  · obtain ⟨i, hi, e⟩ := List.getElem_of_mem hx
    have := h i (List.mem_range.mpr hi)
    rw [List.getD_eq_getElem?_getD, List.getElem?_eq_getElem hi] at this
    rw [← e]
    exact this
  · have il := List.mem_range.mp hi
    rw [List.getD_eq_getElem?_getD, List.getElem?_eq_getElem il]
    exact h _ (List.getElem_mem il)
theorem pers_int {n : Int} {d : PyData} (h : persD n d = true) : d = .int (toI d) := by
  cases d with
  | int i => rfl
  | _ => cases h
/-- data that are ints stand as ints -/
theorem ints_of {K : PySem.W.Frag} {H : Hp} : ∀ {xs : List V} {ds : List PyData}, DpAll K H xs ds → (∀ d ∈ ds, d = .int (toI d)) → xs = (ds.map toI).map V.int
  | _, _, .nil, _ => rfl
  | _, _, .cons (v := v) (d := d) a b, h => by
    have e := h d List.mem_cons_self
    rw [List.map_cons, List.map_cons, ← ints_of b fun x hx => h x (List.mem_cons_of_mem _ hx)]
    rw [e] at a
    cases a
    rw [e]
theorem grp_list {n : Int} {d : PyData} (h : grpD n d = true) : ∃ ds, d = .list ds ∧ (∀ e ∈ ds, e = .int (toI e)) := by
  cases d with
  | list ds =>
    refine ⟨ds, rfl, fun e he => ?_⟩
    rw [grpD_list, plistD_list] at h
    simp only [Bool.and_eq_true] at h
    exact pers_int (List.all_eq_true.mp h.1.1 e he)
  | _ => cases h
/-- data that are groups stand as rows -/
theorem rows_of {K : PySem.W.Frag} {H : Hp} {n : Int} : ∀ {xs : List V} {ds : List PyData}, DpAll K H xs ds → (∀ d ∈ ds, grpD n d = true) → ∃ bs : List (Addr × List Int), xs = bs.map (fun b => V.ref b.1) ∧ bs.map (·.2) = ds.map toR ∧ ∀ b ∈ bs, SqL K H b.1 (b.2.map V.int)
  | _, _, .nil, _ => ⟨[], rfl, rfl, fun _ h => nomatch h⟩
  | _, _, .cons (v := v) (d := d) a b, h => by
    obtain ⟨bs, e1, e2, e3⟩ := rows_of b fun x hx => h x (List.mem_cons_of_mem _ hx)
    obtain ⟨es, rfl, hi⟩ := grp_list (h d List.mem_cons_self)
    cases a with
    | @lst r xs _ q all =>
      have e := ints_of all hi
      refine ⟨(r, es.map toI) :: bs, by rw [List.map_cons, ← e1], by rw [List.map_cons, List.map_cons, e2]; rfl, fun c hc => ?_⟩
      rcases List.mem_cons.mp hc with z | z
      · rw [z, ← e]
        exact q
      · exact e3 c z
def spPLD (K : PySem.W.Frag) (m : Int → PyData → Bool) : Sp := fun vs H Q _ => ∃ (x : V) (d : PyData) (n : Int), vs = [x, .int n] ∧ Dd K H x d ∧ Lim d ∧ ∀ H', Grows H H' → Q (.bl (m n d)) H'
def spIsD (K : PySem.W.Frag) : Sp := fun vs H Q _ => ∃ (x : V) (d : PyData), vs = [x] ∧ Dd K H x d ∧ Lim2 d ∧ ∀ H', Grows H H' → Q (.bl (isPD d)) H'
theorem dd_list {K : PySem.W.Frag} {H : Hp} {x : V} {ds : List PyData} (h : Dd K H x (.list ds)) : ∃ a xs, x = .ref a ∧ SqL K H a xs ∧ DpAll K H xs ds := by
  rcases h with h | ⟨a, e, q, ed⟩
  · cases h with
    | lst q all => exact ⟨_, _, rfl, q, all⟩
  · cases ed
theorem not_list {d : PyData} (h : ¬ ∃ ds, d = .list ds) : decide (tyName d = "list") = false := by
  cases d with
  | list ds => exact absurd ⟨ds, rfl⟩ h
  | _ => rfl
section
variable {P : Program} {w : World} {K : PySem.W.Frag} {mg : Str → Option Value} {base : Heap}
theorem ok_plistD (Z : ProgF K mg) (T : TxtP mg) : FnOk P w K mg base CX0 3 Z.fPL Z.dPL ["thing", "persons"] (spPLD K plistD) := by
  have GPer : FnOk P w K mg base CX0 2 Z.fPer Z.dPer ["thing", "persons"] (spPerson K) := ok_person Z T
  have GAsc : FnOk P w K mg base CX0 1 Z.fAsc Z.dAsc ["items"] (spAscI K) := ok_ascI Z.FAsc T
  refine Z.FPL.ok scPList (fun vs H Q E h => ?_) (fun cdv A outer s H vs Q E hr h => ?_)
  · obtain ⟨x, d, n, rfl, _⟩ := h
    rfl
  · obtain ⟨x, d, n, rfl, hd, lim, k⟩ := h
    refine ⟨_, (pss_cons (ps_if (pt_not (pt_val (pe_callB call_isi (by rfl) T.isi (by decide +kernel) (pa_cons (pv 0) (pa_cons (pe_bltn (v := .ty "list") (u := .type "list") (by rfl) T.list (by decide +kernel) rfl) pa_nil))))) (pss_one (ps_ret pe_bl)) pss_nil)
      (pss_one (ps_ret (pe_and (pe_callB (cr_all rfl) (by rfl) T.all (by decide +kernel) (pa_cons (pe_lc (own := [("item", 2)]) (g := gName 2) (tt := tYes) rfl scPList.nd (pi_list (pv 0)) (blkOk_by (own := [("item", 2)]) (N := ["thing", "persons", "item"]) (sc := defScope sPList) (by decide +kernel)) (fun _ _ _ _ _ => pg_name (i := 2) scPList.nd rfl (Or.inl rfl)) (fun _ _ _ _ _ => pts_nil) (fun _ _ _ _ _ => (pe_call GPer (hr.mono (by decide)) rfl Z.gPer Z.FPer.kp Z.bPer .nil pass0 (pa_cons (pv 2) (pa_cons (pv 1) pa_nil))))) pa_nil)) (pe_one (pe_call GAsc (hr.mono (by decide)) rfl Z.gAsc Z.FAsc.kp Z.bAsc .nil pass0 (pa_cons (pv 0) pa_nil))))))), ?_⟩
    have ty := dd_ty hd
    by_cases isl : ∃ ds, d = .list ds
    · obtain ⟨ds, rfl⟩ := isl
      obtain ⟨a, xs, rfl, hS, all⟩ := dd_list hd
      have hn := lim ds rfl
      have xl := DpAll.len all
      refine ⟨_, rfl, _, _, _, _, true, rfl, .ty "list", ty_list hS, kit_ty (by decide +kernel), true, rfl, ?_⟩
      refine iteF ⟨_, rfl, a, rfl, ⟨_, hS⟩, fun D hD => lc_listM (K := K) (fun i => V.bl (persD n (ds.getD i .none))) hD hS (by rw [xl]; omega) (fun i x H' R hx sm kR => ?_) fun H' sm eD => ?_⟩
      · obtain ⟨e, he, de⟩ := DpAll.at all hx
        have eg : ds.getD i .none = e := by rw [List.getD_eq_getElem?_getD, he]; rfl
        rw [eg] at kR
        refine ⟨rfl, _, rfl, _, rfl, x, tyName e, n, rfl, dd_ty (.inl (Dp.grow sm de)), ty_kinds e, fun z => ?_, fun z => ?_⟩
        · cases de with
          | int i => exact ⟨i, rfl, kR _ .refl⟩
          | _ => exact absurd z (by simp only [tyName]; decide)
        · have ef : persD n e = false := by
            cases e with
            | int i => exact absurd rfl z
            | _ => rfl
          have q := kR H' .refl
          rw [ef] at q
          exact q
      · rw [xl] at eD
        refine ⟨D, (List.range ds.length).map fun i => persD n (ds.getD i .none), rfl, SqL.of (by rw [eD, List.map_map]; rfl), _, rfl, ?_⟩
        rw [all_rng, all_at PyData.none (persD n) ds]
        by_cases hi : ds.all (persD n) = true
        · rw [if_pos hi]
          have ei := ints_of all fun d hd => pers_int (List.all_eq_true.mp hi d hd)
          rw [ei] at hS
          refine ⟨_, rfl, a, ds.map toI, rfl, sm.seq hS, by rw [List.length_map]; exact hn, fun H2 s2 => ?_⟩
          have q := k H2 (sm.trans s2)
          rw [plistD_list, hi, Bool.true_and] at q
          exact q
        · rw [if_neg hi]
          have q := k H' sm
          rw [plistD_list, Bool.eq_false_iff.mpr hi, Bool.false_and] at q
          exact q
    · have ef : plistD n d = false := by
        cases d <;> first | rfl | exact absurd ⟨_, rfl⟩ isl
      have q := k H .refl
      rw [ef] at q
      refine ⟨_, rfl, _, _, _, _, false, rfl, .ty "list", ty, kit_ty ?_, false, rfl, iteT q⟩
      cases d <;> first | exact absurd ⟨_, rfl⟩ isl | (simp only [tyName]; decide +kernel)
theorem ok_grpD (Z : ProgF K mg) (T : TxtP mg) : FnOk P w K mg base CX0 4 Z.fGr Z.dGr ["thing", "persons"] (spPLD K grpD) := by
  have GPL : FnOk P w K mg base CX0 3 Z.fPL Z.dPL ["thing", "persons"] (spPLD K plistD) := ok_plistD Z T
  refine Z.FGr.ok scGroup (fun vs H Q E h => ?_) (fun cdv A outer s H vs Q E hr h => ?_)
  · obtain ⟨x, d, n, rfl, _⟩ := h
    rfl
  · obtain ⟨x, d, n, rfl, hd, lim, k⟩ := h
    refine ⟨_, (pss_one (ps_ret (pe_and (pe_call GPL (hr.mono (by decide)) rfl Z.gPL Z.FPL.kp Z.bPL .nil pass0 (pa_cons (pv 0) (pa_cons (pv 1) pa_nil))) (pe_one (pe_cmpR op_ge (pe_callB call_len_seq (by rfl) T.len (by decide +kernel) (pa_cons (pv 0) pa_nil)) pe_int (nomark _)))))), ?_⟩
    refine ⟨_, rfl, _, rfl, x, d, n, rfl, hd, lim, fun H2 s2 => ⟨_, rfl, ?_⟩⟩
    have q := k H2 s2
    by_cases hi : plistD n d = true
    · rw [if_pos hi]
      cases d with
      | list ds =>
        obtain ⟨a, xs, rfl, hS, all⟩ := dd_list hd
        rw [grpD_list, hi, Bool.true_and] at q
        refine ⟨_, rfl, a, _, rfl, .inl (s2.seq hS), _, _, rfl, rfl, ?_⟩
        rw [DpAll.len all]
        exact q
      | _ => cases hi
    · rw [if_neg hi]
      have ef : grpD n d = false := by
        cases d with
        | list ds =>
          rw [grpD_list, Bool.eq_false_iff.mpr hi, Bool.false_and]
        | _ => rfl
      rw [ef] at q
      exact q
theorem ok_isD (Z : ProgF K mg) (T : TxtP mg) : FnOk P w K mg base CX0 5 Z.fIs Z.dIs ["thing"] (spIsD K) := by
  have GGr : FnOk P w K mg base CX0 4 Z.fGr Z.dGr ["thing", "persons"] (spPLD K grpD) := ok_grpD Z T
  have GAsc : FnOk P w K mg base CX0 1 Z.fAsc Z.dAsc ["items"] (spAscR K) := ok_ascR Z.FAsc T
  have GAny : FnOk P w K mg base CX0 2 Z.fAny Z.dAny ["groups"] (spAny K) := ok_any Z T
  refine Z.FIs.ok scParting (fun vs H Q E h => ?_) (fun cdv A outer s H vs Q E hr h => ?_)
  · obtain ⟨x, d, rfl, _⟩ := h
    rfl
  · obtain ⟨x, d, rfl, hd, lim, k⟩ := h
    refine ⟨_, (pss_cons (ps_if (PW.pt (pw_or (pt_not (pt_val (pe_callB call_isi (by rfl) T.isi (by decide +kernel) (pa_cons (pv 0) (pa_cons (pe_bltn (v := .ty "list") (u := .type "list") (by rfl) T.list (by decide +kernel) rfl) pa_nil))))) (pw_or1 (pt_cmpR op_ge (pe_callB call_len_seq (by rfl) T.len (by decide +kernel) (pa_cons (pv 0) pa_nil)) (pe_glob (v := .int 20) rfl Z.gMost ⟨_, rfl⟩) (nomark _))))) (pss_one (ps_ret pe_bl)) pss_nil)
      (pss_cons (ps_set (i := 1) scParting.nd rfl (.inr rfl) (pe_op op_add (pe_callB call_len_seq (by rfl) T.len (by decide +kernel) (pa_cons (pv 0) pa_nil)) pe_int))
      (pss_cons (ps_if (pt_not (pt_val (pe_callB (cr_all rfl) (by rfl) T.all (by decide +kernel) (pa_cons (pe_lc (own := [("group", 2)]) (g := gName 2) (tt := tYes) rfl scParting.nd (pi_list (pv 0)) (blkOk_by (own := [("group", 2)]) (N := ["thing", "persons", "group"]) (sc := defScope sParting) (by decide +kernel)) (fun _ _ _ _ _ => pg_name (i := 2) scParting.nd rfl (Or.inl rfl)) (fun _ _ _ _ _ => pts_nil) (fun _ _ _ _ _ => (pe_call GGr (hr.mono (by decide)) rfl Z.gGr Z.FGr.kp Z.bGr .nil pass0 (pa_cons (pv 2) (pa_cons (pv 1) pa_nil))))) pa_nil)))) (pss_one (ps_ret pe_bl)) pss_nil)
      (pss_one (ps_ret (pe_and (pe_call GAsc (hr.mono (by decide)) rfl Z.gAsc Z.FAsc.kp Z.bAsc .nil pass0 (pa_cons (pv 0) pa_nil)) (pe_one (pe_not (pe_call GAny (hr.mono (by decide)) rfl Z.gAny Z.FAny.kp Z.bAny .nil pass0 (pa_cons (pv 0) pa_nil)))))))))), ?_⟩
    have ty := dd_ty hd
    by_cases isl : ∃ ds, d = .list ds
    · obtain ⟨ds, rfl⟩ := isl
      obtain ⟨a, xs, rfl, hS, all⟩ := dd_list hd
      obtain ⟨hn, lims⟩ := lim ds rfl
      have xl := DpAll.len all
      refine ⟨_, rfl, _, _, _, _, true, rfl, .ty "list", ty_list hS, kit_ty (by decide +kernel), true, rfl, iteF ⟨_, rfl, a, _, rfl, .inl hS, _, _, rfl, rfl, _, rfl, ?_⟩⟩
      rw [xl]
      refine ite2 (fun e => ?_) (fun e => ?_)
      · have ge := of_decide_eq_true e
        have q := k H .refl
        rw [isPD_list, decide_eq_false (by omega), Bool.false_and, Bool.false_and, Bool.false_and] at q
        exact q
      · have lt : (ds.length : Int) < 20 := by
          rcases Int.lt_or_le (ds.length : Int) 20 with z | z
          · exact z
          · exact absurd (decide_eq_true z) e
        refine ⟨_, rfl, a, _, rfl, .inl hS, _, _, rfl, rfl, ?_⟩
        rw [xl]
        refine ⟨_, rfl, a, rfl, ⟨_, hS⟩, fun D hD => lc_listM (K := K) (fun i => V.bl (grpD (ds.length + 1) (ds.getD i .none))) hD hS (by rw [xl]; omega) (fun i x H' R hx' sm kR => ?_) fun H' sm eD => ?_⟩
        · obtain ⟨e, he, de⟩ := DpAll.at all hx'
          have eg : ds.getD i .none = e := by rw [List.getD_eq_getElem?_getD, he]; rfl
          have em : e ∈ ds := List.mem_of_getElem? he
          rw [eg] at kR
          exact ⟨rfl, _, rfl, _, rfl, x, e, _, rfl, .inl (Dp.grow sm de), lims e em, fun H2 s2 => kR _ s2⟩
        · rw [xl] at eD
          refine ⟨D, (List.range ds.length).map fun i => grpD (ds.length + 1) (ds.getD i .none), rfl, SqL.of (by rw [eD, List.map_map]; rfl), ?_⟩
          rw [all_rng, all_at PyData.none (grpD (ds.length + 1)) ds]
          refine ⟨_, rfl, ?_⟩
          have val : ∀ H2, Grows H H2 → Q (.bl (ds.all (grpD (ds.length + 1)) && ascR (ds.map toR) && !anyX (ds.map toR))) H2 := fun H2 s2 => by
            have q := k H2 s2
            rw [isPD_list, decide_eq_true lt, Bool.true_and] at q
            exact q
          by_cases hg : ds.all (grpD (ds.length + 1)) = true
          · rw [hg] at val ⊢
            have hga := List.all_eq_true.mp hg
            obtain ⟨bs, e1, e2, e3⟩ := rows_of all hga
            have hB : Rw K H a bs := ⟨by rw [← e1]; exact hS, e3⟩
            have bl : bs.length = ds.length := by
              have := congrArg List.length e2
              rwa [List.length_map, List.length_map] at this
            rw [← e2] at val
            have rin : ∀ r ∈ bs.map (·.2), r.length ≤ 1000 ∧ ∀ x ∈ r, 0 ≤ x ∧ x ≤ 1000 := fun r hr => by
              rw [e2] at hr
              obtain ⟨d, hd, rfl⟩ := List.mem_map.mp hr
              have g := hga d hd
              obtain ⟨es, rfl, hi⟩ := grp_list g
              refine ⟨?_, fun x hx => ?_⟩
              · show (es.map toI).length ≤ 1000
                rw [List.length_map]
                exact lims _ hd es rfl
              · obtain ⟨e, he, rfl⟩ := List.mem_map.mp hx
                rw [grpD_list, plistD_list] at g
                simp only [Bool.and_eq_true] at g
                have pe := List.all_eq_true.mp g.1.1 e he
                rw [hi e he] at pe
                unfold persD at pe
                simp only [Bool.and_eq_true, decide_eq_true_eq] at pe
                omega
            have hz' : Sz (bs.map (·.2)) := ⟨by rw [List.length_map]; omega, fun r hr => (rin r hr).1⟩
            refine iteF ⟨_, rfl, a, bs, rfl, (hB.keep sm).top, (hB.keep sm).each, by omega, fun H2 s2 => ⟨_, rfl, ?_⟩⟩
            by_cases ha : ascR (bs.map (·.2)) = true
            · rw [if_pos ha]
              refine ⟨_, rfl, a, bs, rfl, (hB.keep sm).keep s2, hz', fun r hr => (rin r hr).2, fun H3 s3 => ⟨_, rfl, ?_⟩⟩
              have q := val H3 ((sm.trans s2).trans s3)
              rw [ha, Bool.true_and, Bool.true_and] at q
              exact q
            · rw [if_neg ha]
              have q := val H2 (sm.trans s2)
              rw [Bool.eq_false_iff.mpr ha, Bool.true_and, Bool.false_and] at q
              exact q
          · have q := val H' sm
            rw [Bool.eq_false_iff.mpr hg] at q ⊢
            rw [Bool.false_and, Bool.false_and] at q
            exact iteT q
    · have ef : isPD d = false := by
        cases d <;> first | rfl | exact absurd ⟨_, rfl⟩ isl
      have q := k H .refl
      rw [ef] at q
      refine ⟨_, rfl, _, _, _, _, false, rfl, .ty "list", ty, kit_ty ?_, false, rfl, iteT q⟩
      cases d <;> first | exact absurd ⟨_, rfl⟩ isl | (simp only [tyName]; decide +kernel)
end
end K47

namespace K47
open PySem PySem.Spec PyProof.Rows L2 SortR LcM RepA Held
abbrev sNeedP : Stmt := top 21
abbrev sNeedPs : Stmt := top 20
abbrev sNeedN : Stmt := top 42
abbrev sFrac : Stmt := top 25
abbrev sWith : Stmt := top 40
abbrev sCW : Stmt := top 41
abbrev sEnt : Stmt := top 43
abbrev sTrc : Stmt := top 44
abbrev sIsT : Stmt := top 45
abbrev sTSh : Stmt := top 46
abbrev sTCo : Stmt := top 47
/-- the defs of leaving, where they stand -/
structure LeaF (K : PySem.W.Frag) (mg : Str → Option Value) where
  (fNP fNPs fNN fFrac fWith fCW fEnt fTrc fIsT fTSh fTCo : Addr)
  (dNP dNPs dNN dFrac dWith dCW dEnt dTrc dIsT dTSh dTCo : FuncData)
  FNP : Fun K "need_person" "need_person" sNeedP fNP dNP
  FNPs : Fun K "need_persons" "need_persons" sNeedPs fNPs dNPs
  FNN : Fun K "need_node" "need_node" sNeedN fNN dNN
  FFrac : Fun K "fraction" "fraction" sFrac fFrac dFrac
  FWith : Fun K "without" "without" sWith fWith dWith
  FCW : Fun K "coming_without" "coming_without" sCW fCW dCW
  FEnt : Fun K "entered" "entered" sEnt fEnt dEnt
  FTrc : Fun K "traceless" "traceless" sTrc fTrc dTrc
  FIsT : Fun K "is_traceless" "is_traceless" sIsT fIsT dIsT
  FTSh : Fun K "traceless_share" "traceless_share" sTSh fTSh dTSh
  FTCo : Fun K "traceless_counts" "traceless_counts" sTCo fTCo dTCo
  gNP : mg "need_person" = some (.ref fNP)
  gNPs : mg "need_persons" = some (.ref fNPs)
  gNN : mg "need_node" = some (.ref fNN)
  gFrac : mg "fraction" = some (.ref fFrac)
  gWith : mg "without" = some (.ref fWith)
  gCW : mg "coming_without" = some (.ref fCW)
  gEnt : mg "entered" = some (.ref fEnt)
  gTrc : mg "traceless" = some (.ref fTrc)
  gIsT : mg "is_traceless" = some (.ref fIsT)
  gTSh : mg "traceless_share" = some (.ref fTSh)
  gTCo : mg "traceless_counts" = some (.ref fTCo)
  bNP : Binds K dNP ["person", "persons"] []
  bNPs : Binds K dNPs ["persons"] []
  bNN : Binds K dNN ["node", "persons"] []
  bFrac : Binds K dFrac ["top", "bottom"] []
  bWith : Binds K dWith ["parting", "person"] []
  bCW : Binds K dCW ["coming", "person"] []
  bEnt : Binds K dEnt ["parting", "node"] []
  bTrc : Binds K dTrc ["parting"] []
  bIsT : Binds K dIsT ["parting", "person"] []
  bTSh : Binds K dTSh ["persons", "person"] []
  bTCo : Binds K dTCo ["persons"] []
  gGcd : mg "gcd" = some (.builtin "math.gcd")
/-! ### the classes of errors -/
abbrev nmL : List Str := ["InvalidParting", "InvalidComing", "InvalidPersons", "InvalidPerson", "InvalidNode", "NoPerson"]
abbrev nmX (i : Nat) : Str := nmL.getD i ""
abbrev ca (c : List Addr) (i : Nat) : Addr := c.getD i 0
structure TxtE (K : PySem.W.Frag) (mg : Str → Option Value) (c : List Addr) (pe : Addr) : Prop where
  g : ∀ i, i < 6 → mg (nmX i) = some (.ref (ca c i))
  gp : mg "PartError" = some (.ref pe)
  ex : ∀ i, i < 6 → ExcC K (ca c i)
  kd : ∀ i, i < 6 → ∀ j, j < 6 → PySem.W.kitOne K (.ref (ca c i)) (.ref (ca c j)) = some (decide (i = j))
  exc : ∀ i, i < 6 → PySem.W.excIn K (ca c i) PySem.HandSPX.veTail "ValueError.__new__" = true
  kc : ∀ i, i < 6 → PySem.W.keepIn K (.ref (ca c i)) = true
  ty : ∀ i, i < 6 → PySem.W.typeIn K (.ref (ca c i)) = some (.type "type")
  te : ∀ i, i < 6 → PySem.W.exmOne K (.ref (ca c i)) (.ref pe) = some true
/-- the i-th error is let out, all that stood stands -/
def Rz (c : List Addr) (H : Hp) (E : XK) (i : Nat) : Prop := ∀ H', Grows H H' → E (.ref (ca c i)) none H'
theorem Rz.keep {c : List Addr} {H H' : Hp} {E : XK} {i : Nat} (r : Rz c H E i) (g : Grows H H') : Rz c H' E i := fun H2 g2 => r H2 (g.trans g2)
theorem Rz.now {c : List Addr} {H : Hp} {E : XK} {i : Nat} (r : Rz c H E i) : E (.ref (ca c i)) none H := r H .refl
/-! ### promises put together -/
section
variable {P : Program} {w : World} {K : PySem.W.Frag} {mg : Str → Option Value} {base : Heap}
theorem fn_or {X : CXT} {k : Nat} {f : Addr} {fd : FuncData} {ps : List Str} {s1 s2 : Sp} (A : FnOk P w K mg base X k f fd ps s1) (B : FnOk P w K mg base X k f fd ps s2) : FnOk P w K mg base X k f fd ps (fun vs H Q E => s1 vs H Q E ∨ s2 vs H Q E) :=
  ⟨fun vs H Q E h => h.elim (A.len vs H Q E) (B.len vs H Q E), fun Ar o s H zs us vs Q E r e b v h => h.elim (A.run Ar o s H zs us vs Q E r e b v) (B.run Ar o s H zs us vs Q E r e b v)⟩
theorem fn_up {X : CXT} {k : Nat} {f : Addr} {fd : FuncData} {ps : List Str} {sp : Sp} (A : FnOk P w K mg base CX0 k f fd ps sp) : FnOk P w K mg base X k f fd ps sp :=
  ⟨A.len, fun Ar o s H zs us vs Q E r e b v h => codeAny_mono (A.run Ar o s H zs us vs Q E r e b v h) fun rr ss z => by
    cases rr with
    | error _ => exact False.elim z
    | ok fl => cases fl <;> exact z⟩
end
/-! ### what is no parting -/
def NoP (K : PySem.W.Frag) (H : Hp) (x : V) : Prop := (∃ d, Dd K H x d ∧ Lim2 d ∧ isPD d = false) ∨ ∃ t, TyX K H x t ∧ PySem.W.kitOne K t (.type "list") = some false
def spIsN (K : PySem.W.Frag) : Sp := fun vs H Q _ => ∃ x, vs = [x] ∧ NoP K H x ∧ ∀ H', Grows H H' → Q (.bl false) H'
def spPsN (K : PySem.W.Frag) (c : List Addr) : Sp := fun vs H _ E => ∃ x, vs = [x] ∧ NoP K H x ∧ Rz c H E 0
def spNP (c : List Addr) : Sp := fun vs H Q E => ∃ p n : Int, vs = [.int p, .int n] ∧ 0 ≤ n ∧ n ≤ 100 ∧ ((0 ≤ p ∧ p < n ∧ ∀ H', Grows H H' → Q .non H') ∨ (¬ (0 ≤ p ∧ p < n) ∧ Rz c H E 3))
def spNPs (c : List Addr) : Sp := fun vs H Q E => ∃ n : Int, vs = [.int n] ∧ ((1 ≤ n ∧ n ≤ 20 ∧ ∀ H', Grows H H' → Q .non H') ∨ (¬ (1 ≤ n ∧ n ≤ 20) ∧ Rz c H E 2))
def spNN (c : List Addr) : Sp := fun vs H Q E => ∃ d n : Int, vs = [.int d, .int n] ∧ 0 ≤ n ∧ n ≤ 100 ∧ ((-n < d ∧ d < n ∧ ∀ H', Grows H H' → Q .non H') ∨ (¬ (-n < d ∧ d < n) ∧ Rz c H E 4))
def spPBN (K : PySem.W.Frag) (c : List Addr) : Sp := fun vs H _ E => ∃ x d, vs = [x] ∧ Dd K H x d ∧ isC d = false ∧ Rz c H E 1
/-! ### what an f-string's field may hold -/
theorem ln_le {a b : Str} {m n : Nat} (ha : a.length ≤ m) (hb : b.length ≤ n) : (a ++ b).length ≤ m + n := by
  rw [Str.length_append]
  omega
theorem ln_ok {n m : Nat} (h : n ≤ m) (k : m ≤ 100000) : n ≤ sizeLine := by
  rw [sizeLine_eq]
  omega
theorem fmt_int {i : Nat} {σ : L2.St} {H : Hp} {v : Int} {Q : VK} (h0 : 0 ≤ v) (h1 : v ≤ 100) (hi : σ[i]? = some (some (.int v))) (k : ∀ y : Str, y.length ≤ 5000 → Q (.str y) H) : tFmt (tVar i) σ H Q := by
  have l : v.natAbs.log2 < 1920 := by
    have z : v.natAbs < 2 ^ 64 := by omega
    have := PySem.Flt.log2_lt_of (by decide) z
    omega
  refine ⟨_, hi, .inr ⟨v, rfl, l, k _ ?_⟩⟩
  have e := int_text_length_le (k := 1920) (by decide) l
  show (Str.ofString (toString v)).length ≤ 5000
  rw [PySem.ofString_length]
  omega
section
variable {P : Program} {w : World} {K : PySem.W.Frag} {mg : Str → Option Value} {base : Heap} {c : List Addr} {pe : Addr}
theorem scNeedP : FnScope ["person", "persons"] ["person", "persons"] (defScope sNeedP) := ⟨rfl, rfl, rfl, by decide +kernel, rfl, by decide +kernel, by decide +kernel⟩
theorem scNeedPs : FnScope ["persons"] ["persons"] (defScope sNeedPs) := ⟨rfl, rfl, rfl, by decide +kernel, rfl, by decide +kernel, by decide +kernel⟩
theorem scNeedN : FnScope ["node", "persons"] ["node", "persons"] (defScope sNeedN) := ⟨rfl, rfl, rfl, by decide +kernel, rfl, by decide +kernel, by decide +kernel⟩
theorem ok_isN (Z : ProgF K mg) (T : TxtP mg) : FnOk P w K mg base CX0 5 Z.fIs Z.dIs ["thing"] (spIsN K) := by
  have A : FnOk P w K mg base CX0 5 Z.fIs Z.dIs ["thing"] (spIsD K) := ok_isD Z T
  have B : FnOk P w K mg base CX0 5 Z.fIs Z.dIs ["thing"] (fun vs H Q _ => ∃ x t, vs = [x] ∧ TyX K H x t ∧ PySem.W.kitOne K t (.type "list") = some false ∧ ∀ H', Grows H H' → Q (.bl false) H') := by
    have GGr : FnOk P w K mg base CX0 4 Z.fGr Z.dGr ["thing", "persons"] (spPLD K grpD) := ok_grpD Z T
    have GAsc : FnOk P w K mg base CX0 1 Z.fAsc Z.dAsc ["items"] (spAscR K) := ok_ascR Z.FAsc T
    have GAny : FnOk P w K mg base CX0 2 Z.fAny Z.dAny ["groups"] (spAny K) := ok_any Z T
    refine Z.FIs.ok scParting (fun vs H Q E h => ?_) (fun cdv A outer s H vs Q E hr h => ?_)
    · obtain ⟨x, t, rfl, _⟩ := h
      rfl
    · obtain ⟨x, t, rfl, ty, kt, k⟩ := h
      refine ⟨_, (pss_cons (ps_if (PW.pt (pw_or (pt_not (pt_val (pe_callB call_isi (by rfl) T.isi (by decide +kernel) (pa_cons (pv 0) (pa_cons (pe_bltn (v := .ty "list") (u := .type "list") (by rfl) T.list (by decide +kernel) rfl) pa_nil))))) (pw_or1 (pt_cmpR op_ge (pe_callB call_len_seq (by rfl) T.len (by decide +kernel) (pa_cons (pv 0) pa_nil)) (pe_glob (v := .int 20) rfl Z.gMost ⟨_, rfl⟩) (nomark _))))) (pss_one (ps_ret pe_bl)) pss_nil)
      (pss_cons (ps_set (i := 1) scParting.nd rfl (.inr rfl) (pe_op op_add (pe_callB call_len_seq (by rfl) T.len (by decide +kernel) (pa_cons (pv 0) pa_nil)) pe_int))
      (pss_cons (ps_if (pt_not (pt_val (pe_callB (cr_all rfl) (by rfl) T.all (by decide +kernel) (pa_cons (pe_lc (own := [("group", 2)]) (g := gName 2) (tt := tYes) rfl scParting.nd (pi_list (pv 0)) (blkOk_by (own := [("group", 2)]) (N := ["thing", "persons", "group"]) (sc := defScope sParting) (by decide +kernel)) (fun _ _ _ _ _ => pg_name (i := 2) scParting.nd rfl (Or.inl rfl)) (fun _ _ _ _ _ => pts_nil) (fun _ _ _ _ _ => (pe_call GGr (hr.mono (by decide)) rfl Z.gGr Z.FGr.kp Z.bGr .nil pass0 (pa_cons (pv 2) (pa_cons (pv 1) pa_nil))))) pa_nil)))) (pss_one (ps_ret pe_bl)) pss_nil)
      (pss_one (ps_ret (pe_and (pe_call GAsc (hr.mono (by decide)) rfl Z.gAsc Z.FAsc.kp Z.bAsc .nil pass0 (pa_cons (pv 0) pa_nil)) (pe_one (pe_not (pe_call GAny (hr.mono (by decide)) rfl Z.gAny Z.FAny.kp Z.bAny .nil pass0 (pa_cons (pv 0) pa_nil)))))))))), ?_⟩
      exact ⟨_, rfl, _, _, _, _, false, rfl, .ty "list", ty, kt, false, rfl, iteT (k H .refl)⟩
  refine (fn_or A B).imp fun vs H Q E h => ?_
  obtain ⟨x, rfl, n, k⟩ := h
  rcases n with ⟨d, hd, l, e⟩ | ⟨t, ty, kt⟩
  · exact .inl ⟨x, d, rfl, hd, l, fun H' g => by rw [e]; exact k H' g⟩
  · exact .inr ⟨x, t, rfl, ty, kt, k⟩
theorem ok_psN (Z : ProgF K mg) (T : TxtP mg) (V : TxtE K mg c pe) : FnOk P w K mg base (L2.CX P w) 6 Z.fPs Z.dPs ["parting"] (spPsN K c) := by
  have GIs : FnOk P w K mg base CX0 5 Z.fIs Z.dIs ["thing"] (spIsN K) := ok_isN Z T
  refine Z.FPs.okX scPersons (fun vs H Q E h => ?_) (fun cdv A outer s H vs Q E hr h => ?_)
  · obtain ⟨x, rfl, _⟩ := h
    rfl
  · obtain ⟨x, rfl, n, k⟩ := h
    refine ⟨_, (pss_cons (ps_if (pt_not (pt_val (pe_call GIs (hr.mono (by decide)) rfl Z.gIs Z.FIs.kp Z.bIs .nil pass0 (pa_cons (pv 0) pa_nil)))) (pss_one (ps_raise rfl (takes_of rfl rfl rfl rfl) (pmk_own PySem.F.excBase_ValueError (V.exc 0 (by decide)) (V.g 0 (by decide)) (V.kc 0 (by decide)) (raises_own (V.ex 0 (by decide)).hs (V.ty 0 (by decide))) rfl))) pss_nil)
      (pss_one (ps_ret (pe_op op_add (pe_callB call_len_seq (by rfl) T.len (by decide +kernel) (pa_cons (pv 0) pa_nil)) pe_int)))), ?_⟩
    exact ⟨_, rfl, x, rfl, n, fun H2 g => ⟨_, rfl, iteT (k _ g)⟩⟩
theorem ok_np (Z : ProgF K mg) (T : TxtP mg) (U : LeaF K mg) (V : TxtE K mg c pe) : FnOk P w K mg base (L2.CX P w) 3 U.fNP U.dNP ["person", "persons"] (spNP c) := by
  have GPer : FnOk P w K mg base CX0 2 Z.fPer Z.dPer ["thing", "persons"] (spPerson K) := ok_person Z T
  refine U.FNP.okX scNeedP (fun vs H Q E h => ?_) (fun cdv A outer s H vs Q E hr h => ?_)
  · obtain ⟨p, n, rfl, _⟩ := h
    rfl
  · obtain ⟨p, n, rfl, n0, n1, k⟩ := h
    refine ⟨_, (pss_one (ps_if (pt_not (pt_val (pe_call GPer (hr.mono (by decide)) rfl Z.gPer Z.FPer.kp Z.bPer .nil pass0 (pa_cons (pv 0) (pa_cons (pv 1) pa_nil))))) (pss_one (ps_raise rfl (takes_of rfl rfl rfl rfl) (SkE.pmk_own1 PySem.F.excBase_ValueError (V.exc 3 (by decide)) (V.g 3 (by decide)) (V.kc 3 (by decide)) (raises_own (V.ex 3 (by decide)).hs (V.ty 3 (by decide))) rfl (pe_joined (.cons pe_str (.cons (pe_fmt (pv 1)) .nil)))))) pss_nil)), ?_⟩
    refine ⟨_, rfl, _, rfl, .int p, "int", n, rfl, .base (.int p), by simp [kinds], fun _ => ⟨p, rfl, _, rfl, ?_⟩, fun z => absurd rfl z⟩
    rcases k with ⟨h1, h2, k⟩ | ⟨no, k⟩
    · rw [decide_eq_true h1, decide_eq_true h2]
      exact iteF (k H .refl)
    · have e : (decide (0 ≤ p) && decide (p < n)) = false := by
        rw [Bool.eq_false_iff]
        intro z
        rw [Bool.and_eq_true] at z
        exact no ⟨of_decide_eq_true z.1, of_decide_eq_true z.2⟩
      rw [e]
      have l1 := ln_le (a := Str.empty) (b := "no such person among ") (m := 0) (n := 100) (by decide +kernel) (by decide +kernel)
      refine iteT ⟨_, rfl, ln_ok l1 (by decide), ?_⟩
      show tFmt (tVar 1) _ _ _
      refine fmt_int n0 n1 rfl fun y1 h1 => ?_
      exact ⟨_, rfl, ln_ok (ln_le l1 h1) (by decide), k.now⟩
theorem ok_nps (Z : ProgF K mg) (T : TxtP mg) (U : LeaF K mg) (V : TxtE K mg c pe) : FnOk P w K mg base (L2.CX P w) 2 U.fNPs U.dNPs ["persons"] (spNPs c) := by
  have GNum : FnOk P w K mg base CX0 1 Z.fNum Z.dNum ["thing"] (spNumber K) := ok_number Z.FNum T
  refine U.FNPs.okX scNeedPs (fun vs H Q E h => ?_) (fun cdv A outer s H vs Q E hr h => ?_)
  · obtain ⟨n, rfl, _⟩ := h
    rfl
  · obtain ⟨n, rfl, k⟩ := h
    refine ⟨_, (pss_one (ps_if (PW.pt (pw_or (pt_not (pt_val (pe_call GNum (hr.mono (by decide)) rfl Z.gNum Z.FNum.kp Z.bNum .nil pass0 (pa_cons (pv 0) pa_nil)))) (pw_or1 (pt_not (pt_chain op_le op_le pe_int (pv 0) (pe_glob (v := .int 20) rfl Z.gMost ⟨_, rfl⟩)))))) (pss_one (ps_raise rfl (takes_of rfl rfl rfl rfl) (pmk_own PySem.F.excBase_ValueError (V.exc 2 (by decide)) (V.g 2 (by decide)) (V.kc 2 (by decide)) (raises_own (V.ex 2 (by decide)).hs (V.ty 2 (by decide))) rfl))) pss_nil)), ?_⟩
    refine ⟨_, rfl, .int n, "int", rfl, .base (.int n), by simp [kinds], _, rfl, iteF ⟨_, rfl, _, _, rfl, rfl, _, rfl, ?_⟩⟩
    rcases k with ⟨h1, h2, k⟩ | ⟨no, k⟩
    · rw [if_pos (decide_eq_true h1)]
      refine ⟨_, _, rfl, rfl, _, rfl, ?_⟩
      rw [decide_eq_true h2]
      exact iteF (k H .refl)
    · by_cases h1 : 1 ≤ n
      · rw [if_pos (decide_eq_true h1)]
        refine ⟨_, _, rfl, rfl, _, rfl, ?_⟩
        rw [decide_eq_false (show ¬ n ≤ 20 from fun z => no ⟨h1, z⟩)]
        exact iteT k.now
      · rw [decide_eq_false h1]
        exact iteF ⟨_, rfl, iteT k.now⟩
theorem ok_nn (Z : ProgF K mg) (T : TxtP mg) (U : LeaF K mg) (V : TxtE K mg c pe) : FnOk P w K mg base (L2.CX P w) 2 U.fNN U.dNN ["node", "persons"] (spNN c) := by
  have GNum : FnOk P w K mg base CX0 1 Z.fNum Z.dNum ["thing"] (spNumber K) := ok_number Z.FNum T
  refine U.FNN.okX scNeedN (fun vs H Q E h => ?_) (fun cdv A outer s H vs Q E hr h => ?_)
  · obtain ⟨d, n, rfl, _⟩ := h
    rfl
  · obtain ⟨d, n, rfl, n0, n1, k⟩ := h
    refine ⟨_, (pss_one (ps_if (PW.pt (pw_or (pt_not (pt_val (pe_call GNum (hr.mono (by decide)) rfl Z.gNum Z.FNum.kp Z.bNum .nil pass0 (pa_cons (pv 0) pa_nil)))) (pw_or1 (pt_not (pt_chain op_lt op_lt (pe_un un_neg (pv 1)) (pv 0) (pv 1)))))) (pss_one (ps_raise rfl (takes_of rfl rfl rfl rfl) (SkE.pmk_own1 PySem.F.excBase_ValueError (V.exc 4 (by decide)) (V.g 4 (by decide)) (V.kc 4 (by decide)) (raises_own (V.ex 4 (by decide)).hs (V.ty 4 (by decide))) rfl (pe_joined (.cons pe_str (.cons (pe_fmt (pv 1)) .nil)))))) pss_nil)), ?_⟩
    have out : ¬ (-n < d ∧ d < n) → Rz c H E 4 → tJs [tC (.str "no item of someone who comes to "), tFmt (tVar 1)] Str.empty (L2.start ["node", "persons"] [.int d, .int n]) H fun _ H1 => E (.ref (ca c 4)) none H1 := fun _ k => by
      have l1 := ln_le (a := Str.empty) (b := "no item of someone who comes to ") (m := 0) (n := 100) (by decide +kernel) (by decide +kernel)
      refine ⟨_, rfl, ln_ok l1 (by decide), ?_⟩
      show tFmt (tVar 1) _ _ _
      refine fmt_int n0 n1 rfl fun y1 h1 => ?_
      exact ⟨_, rfl, ln_ok (ln_le l1 h1) (by decide), k.now⟩
    refine ⟨_, rfl, .int d, "int", rfl, .base (.int d), by simp [kinds], _, rfl, iteF ⟨_, rfl, _, rfl, _, rfl, _, _, rfl, rfl, _, rfl, ?_⟩⟩
    rcases k with ⟨h1, h2, k⟩ | ⟨no, k⟩
    · rw [if_pos (decide_eq_true h1)]
      refine ⟨_, rfl, _, _, rfl, rfl, _, rfl, ?_⟩
      rw [decide_eq_true h2]
      exact iteF (k H .refl)
    · by_cases h1 : -n < d
      · rw [if_pos (decide_eq_true h1)]
        refine ⟨_, rfl, _, _, rfl, rfl, _, rfl, ?_⟩
        rw [decide_eq_false (show ¬ d < n from fun z => no ⟨h1, z⟩)]
        exact iteT (out no k)
      · rw [decide_eq_false h1]
        exact iteF ⟨_, rfl, iteT (out no k)⟩
theorem ok_pbN (Z : ProgF K mg) (T : TxtP mg) (Y : ComF K mg) (V : TxtE K mg c pe) : FnOk P w K mg base (L2.CX P w) 3 Y.fPB Y.dPB ["coming"] (spPBN K c) := by
  have GComing : FnOk P w K mg base CX0 2 Y.fComing Y.dComing ["thing"] (spComing K) := ok_coming Z T Y
  refine Y.FPB.okX scPB (fun vs H Q E h => ?_) (fun cdv A outer s H vs Q E hr h => ?_)
  · obtain ⟨x, d, rfl, _⟩ := h
    rfl
  · obtain ⟨x, d, rfl, hd, e, k⟩ := h
    refine ⟨_, (pss_cons (ps_if (pt_not (pt_val (pe_call GComing (hr.mono (by decide)) rfl Y.gComing Y.FComing.kp Y.bComing .nil pass0 (pa_cons (pv 0) pa_nil)))) (pss_one (ps_raise rfl (takes_of rfl rfl rfl rfl) (pmk_own PySem.F.excBase_ValueError (V.exc 1 (by decide)) (V.g 1 (by decide)) (V.kc 1 (by decide)) (raises_own (V.ex 1 (by decide)).hs (V.ty 1 (by decide))) rfl))) pss_nil)
      (pss_cons ps_never
      (pss_cons ps_never
      (pss_one ps_never)))), ?_⟩
    refine ⟨_, rfl, x, d, rfl, hd, fun H2 g => ?_⟩
    rw [e]
    exact ⟨_, rfl, iteT (k _ g)⟩
theorem ok_comOfN (Z : ProgF K mg) (T : TxtP mg) (TC : Txt0 mg) (Y : ComF K mg) (V : TxtE K mg c pe) : FnOk P w K mg base (L2.CX P w) 7 Y.fComOf Y.dComOf ["parting"] (spPsN K c) := by
  have GPs : FnOk P w K mg base (L2.CX P w) 6 Z.fPs Z.dPs ["parting"] (spPsN K c) := ok_psN Z T V
  have GItem : FnOk P w K mg base CX0 2 Y.fItem Y.dItem ["parting", "person"] (spItem K) := ok_item T TC Y
  refine Y.FComOf.okX scComOf (fun vs H Q E h => ?_) (fun cdv A outer s H vs Q E hr h => ?_)
  · obtain ⟨x, rfl, _⟩ := h
    rfl
  · obtain ⟨x, rfl, n, k⟩ := h
    refine ⟨_, (pss_one (ps_ret (pe_lc (own := [("person", 1)]) (g := gName 1) (tt := tYes) rfl scComOf.nd (pi_range2 (by rfl) T.range (pa_cons pe_int (pa_cons (pe_callS GPs (hr.mono (by decide)) rfl Z.gPs Z.FPs.kp Z.bPs (fun σ => passAt (takes_of rfl rfl rfl rfl) σ) (pa_cons (pv 0) pa_nil)) pa_nil))) (blkOk_by (own := [("person", 1)]) (N := ["parting", "person"]) (sc := defScope sComOf) (by decide +kernel)) (fun _ _ _ _ _ => pg_name (i := 1) scComOf.nd rfl (Or.inl rfl)) (fun _ _ _ _ _ => pts_nil) (fun _ _ _ _ _ => (pe_call GItem (hr.mono (by decide)) rfl Y.gItem Y.FItem.kp Y.bItem .nil pass0 (pa_cons (pv 0) (pa_cons (pv 1) pa_nil))))))), ?_⟩
    exact ⟨_, rfl, x, rfl, n, k⟩
end
end K47

namespace K47
open PySem PySem.Spec PyProof.Rows L2 SortR LcM RepA Held
/-- the persons but one -/
def othersR (n p : Int) : List Int := ((List.range n.toNat).map fun i => (0 + (i : Nat) : Int)).filter fun x => decide (x ≠ p)
theorem others_kept (n p : Int) : kept (fun i => decide ((0 + (i : Nat) : Int) ≠ p)) (fun i => V.int (0 + (i : Nat))) n.toNat = (othersR n p).map V.int := by
  unfold kept othersR
  rw [List.filter_map, List.map_map]
  rfl
theorem kept_ints (p : Nat → Bool) (f : Nat → Int) (n : Nat) : ∃ js : List Int, kept p (fun i => V.int (f i)) n = js.map V.int := ⟨((List.range n).filter p).map f, by
  unfold kept
  rw [List.map_map]
  rfl⟩
theorem others_len (n p : Int) : (othersR n p).length ≤ n.toNat := by
  unfold othersR
  refine Nat.le_trans (List.length_filter_le _ _) ?_
  rw [List.length_map, List.length_range]
  exact Nat.le_refl _
/-- rs is the parting of the coming list is -/
def Coms (rs : List (List Int)) (is : List Int) : Prop := is.length = rs.length ∧ ∀ j, j < is.length → itemB rs (j + 1) (is.getD j 0) = true
theorem isP_lt {rs : List (List Int)} (h : isP rs = true) : rs.length < 20 := by
  unfold isP at h
  simp only [Bool.and_eq_true, decide_eq_true_eq] at h
  omega
/-- a parting, as it stands -/
structure PtA (K : PySem.W.Frag) (H : Hp) (x : V) (rs : List (List Int)) : Prop where
  ex : ∃ (a : Addr) (bs : List (Addr × List Int)), x = .ref a ∧ Rw K H a bs ∧ bs.map (·.2) = rs
  sz : Sz rs
  is : isP rs = true
theorem PtA.keep {K : PySem.W.Frag} {H H' : Hp} {x : V} {rs : List (List Int)} (h : PtA K H x rs) (g : Grows H H') : PtA K H' x rs := by
  obtain ⟨⟨a, bs, e, r, e2⟩, sz, is⟩ := h
  exact ⟨⟨a, bs, e, r.keep g, e2⟩, sz, is⟩
def spPsP (K : PySem.W.Frag) : Sp := fun vs H Q _ => ∃ x rs, vs = [x] ∧ PtA K H x rs ∧ ∀ H', Grows H H' → Q (.int (rs.length + 1)) H'
def spCoP (K : PySem.W.Frag) : Sp := fun vs H Q _ => ∃ x rs is, vs = [x] ∧ PtA K H x rs ∧ Coms rs is ∧ ∀ (p : Addr) (H' : Hp), Grows H H' → H' p = some (.lst (is.map V.int)) → Q (.ref p) H'
/-- with a parting that is none, or one -/
def spWith (K : PySem.W.Frag) (c : List Addr) : Sp := fun vs H Q E => ∃ x p, vs = [x, .int p] ∧ ((NoP K H x ∧ Rz c H E 0) ∨ ∃ rs, PtA K H x rs ∧ ((¬ (0 ≤ p ∧ p < rs.length + 1) ∧ Rz c H E 3) ∨ (rs = [] ∧ p = 0 ∧ Rz c H E 5) ∨
  (0 ≤ p ∧ p < rs.length + 1 ∧ rs ≠ [] ∧ ∀ (q : Addr) (cs : List (Addr × List Int)) (H' : Hp), cs.map (·.2) = cutR rs (othersR (rs.length + 1) p) → Grows H H' → Rw K H' q cs → Q (.ref q) H')))
def spCW (K : PySem.W.Frag) (c : List Addr) : Sp := fun vs H Q E => ∃ x p, vs = [x, .int p] ∧ ((∃ d, Dd K H x d ∧ isC d = false ∧ Rz c H E 1) ∨ ∃ a is, x = .ref a ∧ SqL K H a (is.map V.int) ∧ isC (.list (is.map .int)) = true ∧ isP (pbR is) = true ∧
  ((¬ (0 ≤ p ∧ p < is.length + 1) ∧ Rz c H E 3) ∨ (is = [] ∧ p = 0 ∧ Rz c H E 5) ∨ (0 ≤ p ∧ p < is.length + 1 ∧ is ≠ [] ∧ isP (cutR (pbR is) (othersR (is.length + 1) p)) = true ∧ (∃ js, Coms (cutR (pbR is) (othersR (is.length + 1) p)) js) ∧ ∀ v H', Grows H H' → Q v H')))
def spEnt (K : PySem.W.Frag) (c : List Addr) : Sp := fun vs H Q E => ∃ x d, vs = [x, .int d] ∧ ((NoP K H x ∧ Rz c H E 0) ∨ ∃ rs, PtA K H x rs ∧ ((rs.length = 19 ∧ Rz c H E 0) ∨ (rs.length ≠ 19 ∧ ¬ (-(rs.length + 1 : Int) < d ∧ d < rs.length + 1) ∧ Rz c H E 4) ∨
  (rs.length ≠ 19 ∧ -(rs.length + 1 : Int) < d ∧ d < rs.length + 1 ∧ (∃ is, Coms rs is ∧ isC (.list ((is ++ [d]).map .int)) = true) ∧ ∀ v H', Grows H H' → Q v H')))
def spTrc (K : PySem.W.Frag) (c : List Addr) : Sp := fun vs H Q E => ∃ x, vs = [x] ∧ ((NoP K H x ∧ Rz c H E 0) ∨ ∃ rs is, PtA K H x rs ∧ Coms rs is ∧ ∀ (q : Addr) (js : List Int) (H' : Hp), Grows H H' → H' q = some (.lst (js.map V.int)) → Q (.ref q) H')
def spIsT (K : PySem.W.Frag) (c : List Addr) : Sp := fun vs H Q E => ∃ x p, vs = [x, .int p] ∧ ((NoP K H x ∧ Rz c H E 0) ∨ ∃ rs, PtA K H x rs ∧ ((¬ (0 ≤ p ∧ p < rs.length + 1) ∧ Rz c H E 3) ∨ (0 ≤ p ∧ p < rs.length + 1 ∧ (∃ is, Coms rs is) ∧ ∀ v H', Grows H H' → Q v H')))
def spTSh (c : List Addr) : Sp := fun vs H Q E => ∃ n p : Int, vs = [.int n, .int p] ∧ ((¬ (1 ≤ n ∧ n ≤ 20) ∧ Rz c H E 2) ∨ (1 ≤ n ∧ n ≤ 20 ∧ ((¬ (0 ≤ p ∧ p < n) ∧ Rz c H E 3) ∨ (0 ≤ p ∧ p < n ∧ ∀ v H', Grows H H' → Q v H'))))
def spTCo (c : List Addr) : Sp := fun vs H Q E => ∃ n : Int, vs = [.int n] ∧ ((¬ (1 ≤ n ∧ n ≤ 20) ∧ Rz c H E 2) ∨ (1 ≤ n ∧ n ≤ 20 ∧ ∀ v H', Grows H H' → Q v H'))
def spFrac : Sp := fun vs H Q _ => ∃ x y : Int, vs = [.int x, .int y] ∧ 0 ≤ x ∧ x ≤ 1000 ∧ 1 ≤ y ∧ y ≤ 1000 ∧ ∀ v H', Grows H H' → Q v H'
section
variable {P : Program} {w : World} {K : PySem.W.Frag} {mg : Str → Option Value} {base : Heap} {c : List Addr} {pe : Addr}
theorem scWith : FnScope ["parting", "person", "persons", "other"] ["parting", "person"] (defScope sWith) := ⟨rfl, rfl, rfl, by decide +kernel, rfl, by decide +kernel, by decide +kernel⟩
theorem scCW : FnScope ["coming", "person"] ["coming", "person"] (defScope sCW) := ⟨rfl, rfl, rfl, by decide +kernel, rfl, by decide +kernel, by decide +kernel⟩
theorem scEnt : FnScope ["parting", "node", "persons"] ["parting", "node"] (defScope sEnt) := ⟨rfl, rfl, rfl, by decide +kernel, rfl, by decide +kernel, by decide +kernel⟩
theorem scTrc : FnScope ["parting", "coming", "traced", "item", "person"] ["parting"] (defScope sTrc) := ⟨rfl, rfl, rfl, by decide +kernel, rfl, by decide +kernel, by decide +kernel⟩
theorem scIsT : FnScope ["parting", "person"] ["parting", "person"] (defScope sIsT) := ⟨rfl, rfl, rfl, by decide +kernel, rfl, by decide +kernel, by decide +kernel⟩
theorem scTSh : FnScope ["persons", "person"] ["persons", "person"] (defScope sTSh) := ⟨rfl, rfl, rfl, by decide +kernel, rfl, by decide +kernel, by decide +kernel⟩
theorem scTCo : FnScope ["persons", "counts", "come", "free", "fewer", "alike"] ["persons"] (defScope sTCo) := ⟨rfl, rfl, rfl, by decide +kernel, rfl, by decide +kernel, by decide +kernel⟩
theorem scFrac : FnScope ["top", "bottom", "divisor"] ["top", "bottom"] (defScope sFrac) := ⟨rfl, rfl, rfl, by decide +kernel, rfl, by decide +kernel, by decide +kernel⟩
theorem ok_psX (Z : ProgF K mg) (T : TxtP mg) (V : TxtE K mg c pe) : FnOk P w K mg base (L2.CX P w) 6 Z.fPs Z.dPs ["parting"] (fun vs H Q E => spPsN K c vs H Q E ∨ spPsP K vs H Q E) :=
  fn_or (ok_psN Z T V) ((fn_up (ok_persons Z T)).imp fun vs H Q E h => by
    obtain ⟨x, rs, rfl, ⟨⟨a, bs, rfl, r, e⟩, sz, is⟩, k⟩ := h
    subst e
    exact ⟨a, bs, rfl, r, sz, is, fun H' g => by have q := k H' g; rw [List.length_map] at q; exact q⟩)
theorem ok_coX (Z : ProgF K mg) (T : TxtP mg) (TC : Txt0 mg) (Y : ComF K mg) (V : TxtE K mg c pe) : FnOk P w K mg base (L2.CX P w) 7 Y.fComOf Y.dComOf ["parting"] (fun vs H Q E => spPsN K c vs H Q E ∨ spCoP K vs H Q E) :=
  fn_or (ok_comOfN Z T TC Y V) ((fn_up (ok_comOf Z T TC Y)).imp fun vs H Q E h => by
    obtain ⟨x, rs, is, rfl, ⟨⟨a, bs, rfl, r, e⟩, sz, ip⟩, ⟨l, cm⟩, k⟩ := h
    subst e
    exact ⟨a, bs, is, rfl, r, sz, ip, by rw [l, List.length_map], cm, fun p H' g _ e => k p H' g e⟩)
theorem ok_pbX (Z : ProgF K mg) (T : TxtP mg) (Y : ComF K mg) (V : TxtE K mg c pe) : FnOk P w K mg base (L2.CX P w) 3 Y.fPB Y.dPB ["coming"] (fun vs H Q E => spPBN K c vs H Q E ∨ spPB K vs H Q E) :=
  fn_or (ok_pbN Z T Y V) (fn_up (ok_pb Z T Y))
theorem ok_with (Z : ProgF K mg) (T : TxtP mg) (Y : ComF K mg) (U : LeaF K mg) (V : TxtE K mg c pe) : FnOk P w K mg base (L2.CX P w) 7 U.fWith U.dWith ["parting", "person"] (spWith K c) := by
  have GPs := ok_psX (P := P) (w := w) (base := base) Z T V
  have GNP := ok_np (P := P) (w := w) (base := base) Z T U V
  have GCut : FnOk P w K mg base CX0 1 Y.fCut Y.dCut ["parting", "some"] (spCut K) := ok_cut Y.FCut T
  refine U.FWith.okX scWith (fun vs H Q E h => ?_) (fun cdv A outer s H vs Q E hr h => ?_)
  · obtain ⟨x, p, rfl, _⟩ := h
    rfl
  · obtain ⟨x, p, rfl, h⟩ := h
    refine ⟨_, (pss_cons (ps_set (i := 2) scWith.nd rfl (.inl rfl) (pe_callS GPs (hr.mono (by decide)) rfl Z.gPs Z.FPs.kp Z.bPs (fun σ => passAt (takes_of rfl rfl rfl rfl) σ) (pa_cons (pv 0) pa_nil)))
      (pss_cons (ps_expr (pe_callS GNP (hr.mono (by decide)) rfl U.gNP U.FNP.kp U.bNP (fun σ => passAt (takes_of rfl rfl rfl rfl) σ) (pa_cons (pv 1) (pa_cons (pv 2) pa_nil))))
      (pss_cons (ps_if (pt_cmpR op_eq (pv 2) pe_int (nomark _)) (pss_one (ps_raise rfl (takes_of rfl rfl rfl rfl) (pmk_own PySem.F.excBase_ValueError (V.exc 5 (by decide)) (V.g 5 (by decide)) (V.kc 5 (by decide)) (raises_own (V.ex 5 (by decide)).hs (V.ty 5 (by decide))) rfl))) pss_nil)
      (pss_one (ps_ret (pe_call GCut (hr.mono (by decide)) rfl Y.gCut Y.FCut.kp Y.bCut .nil pass0 (pa_cons (pv 0) (pa_cons (pe_lc (own := [("other", 3)]) (g := gName 3)  rfl scWith.nd (pi_range1 (by rfl) T.range (pa_cons (pv 2) pa_nil)) (blkOk_by (own := [("other", 3)]) (N := ["parting", "person", "persons", "other"]) (sc := defScope sWith) (by decide +kernel)) (fun _ _ _ _ _ => pg_name (i := 3) scWith.nd rfl (Or.inl rfl)) (fun _ _ _ _ _ => (pts_one (pt_cmpR op_ne (pv 3) (pv 1) (nomark _)))) (fun _ _ _ _ _ => (pv 3))) pa_nil)))))))), ?_⟩
    rcases h with ⟨no, k⟩ | ⟨rs, hP, h⟩
    · exact ⟨_, rfl, .inl ⟨x, rfl, no, k⟩⟩
    · have l20 := isP_lt hP.is
      refine ⟨_, rfl, .inr ⟨x, rs, rfl, hP, fun H1 g1 => ⟨_, rfl, _, rfl, p, _, rfl, by omega, by omega, ?_⟩⟩⟩
      rcases h with ⟨no, k⟩ | ⟨e, rfl, k⟩ | ⟨p0, p1, ne, k⟩
      · exact .inr ⟨no, k.keep g1⟩
      · subst e
        refine .inl ⟨by decide, by show (0 : Int) < _; simp, fun H2 g2 => ⟨_, rfl, rfl, _, rfl, ?_⟩⟩
        exact iteT ((k.keep g1).keep g2).now
      · refine .inl ⟨p0, p1, fun H2 g2 => ⟨_, rfl, rfl, _, rfl, ?_⟩⟩
        have pos : 0 < rs.length := List.length_pos_iff.mpr ne
        rw [decide_eq_false (show ¬ L2.V.int (rs.length + 1) = L2.V.int 1 from fun z => by have := L2.V.int.inj z; omega)]
        obtain ⟨⟨a, bs, rfl, r, e⟩, sz, is⟩ := hP
        refine iteF ⟨_, rfl, _, rfl, _, rfl, by omega, by omega, fun D hD => lc_rangeT (lo := 0) (n := ((rs.length : Int) + 1).toNat) (fun i => decide ((0 + (i : Nat) : Int) ≠ p)) (fun i => L2.V.int (0 + (i : Nat))) hD (by omega) (fun i H' Ry Rn il g ky kn => ?_) fun H3 g3 eD => ?_⟩
        · refine ⟨rfl, _, rfl, _, rfl, rfl, _, rfl, ?_⟩
          by_cases e3 : (0 + (i : Nat) : Int) = p
          · rw [decide_eq_true (show L2.V.int (0 + (i : Nat)) = L2.V.int p by rw [e3])]
            exact iteF (kn (decide_eq_false fun z => z e3) _ .refl)
          · rw [decide_eq_false (show ¬ L2.V.int (0 + (i : Nat)) = L2.V.int p from fun z => e3 (L2.V.int.inj z))]
            exact iteT ⟨_, rfl, ky (decide_eq_true e3) _ .refl⟩
        · have g13 := (g1.trans g2).trans g3
          rw [others_kept] at eD
          subst e
          refine ⟨a, D, bs, _, rfl, r.keep g13, sz, SqL.of eD, by have := others_len ((bs.map (·.2)).length + 1) p; omega, fun q cs H4 ec g4 _ nw _ top => ?_⟩
          exact k q cs H4 ec (g13.trans g4) ⟨SqL.of top, fun z hz => SqL.of (nw.lists z hz)⟩
theorem ok_cw (Z : ProgF K mg) (T : TxtP mg) (TC : Txt0 mg) (Y : ComF K mg) (U : LeaF K mg) (V : TxtE K mg c pe) : FnOk P w K mg base (L2.CX P w) 8 U.fCW U.dCW ["coming", "person"] (spCW K c) := by
  have GPB := ok_pbX (P := P) (w := w) (base := base) Z T Y V
  have GWith := ok_with (P := P) (w := w) (base := base) Z T Y U V
  have GComOf := ok_coX (P := P) (w := w) (base := base) Z T TC Y V
  refine U.FCW.okX scCW (fun vs H Q E h => ?_) (fun cdv A outer s H vs Q E hr h => ?_)
  · obtain ⟨x, p, rfl, _⟩ := h
    rfl
  · obtain ⟨x, p, rfl, h⟩ := h
    refine ⟨_, (pss_one (ps_ret (pe_callS GComOf (hr.mono (by decide)) rfl Y.gComOf Y.FComOf.kp Y.bComOf (fun σ => passAt (takes_of rfl rfl rfl rfl) σ) (pa_cons (pe_callS GWith (hr.mono (by decide)) rfl U.gWith U.FWith.kp U.bWith (fun σ => passAt (takes_of rfl rfl rfl rfl) σ) (pa_cons (pe_callS GPB (hr.mono (by decide)) rfl Y.gPB Y.FPB.kp Y.bPB (fun σ => passAt (takes_of rfl rfl rfl rfl) σ) (pa_cons (pv 0) pa_nil)) (pa_cons (pv 1) pa_nil))) pa_nil)))), ?_⟩
    rcases h with ⟨d, hd, no, k⟩ | ⟨a, is, rfl, hS, hC, hP, h⟩
    · exact ⟨_, rfl, .inl ⟨x, d, rfl, hd, no, k⟩⟩
    · obtain ⟨bd, l20⟩ := bd_of hC
      have rows : Sz (pbR is) := by
        unfold pbR
        refine ⟨by rw [List.length_mergeSort, madeR_len]; omega, fun r hr => ?_⟩
        have := (madeR_ok bd is.length (Nat.le_refl _) r (List.mem_mergeSort.mp hr)).2
        omega
      have len : (pbR is).length = is.length := by
        unfold pbR
        rw [List.length_mergeSort, madeR_len]
      refine ⟨_, rfl, .inr ⟨a, is, rfl, hS, hC, fun q cs H1 ec g1 _ rl _ => ⟨_, rfl, ?_⟩⟩⟩
      have pt : PtA K H1 (.ref q) (pbR is) := ⟨⟨q, cs, rfl, rl.rw, ec⟩, rows, hP⟩
      refine ⟨.ref q, p, rfl, .inr ⟨pbR is, pt, ?_⟩⟩
      rw [len]
      rcases h with ⟨no, k⟩ | ⟨e, rfl, k⟩ | ⟨p0, p1, ne, hP2, ⟨js, cm⟩, k⟩
      · exact .inl ⟨no, k.keep g1⟩
      · refine .inr (.inl ⟨?_, rfl, k.keep g1⟩)
        exact List.length_eq_zero_iff.mp (by rw [len, e]; rfl)
      · refine .inr (.inr ⟨p0, p1, fun z => ne (List.length_eq_zero_iff.mp (by rw [← len, z]; rfl)), fun q2 cs2 H2 ec2 g2 rw2 => .inr ⟨.ref q2, _, js, rfl, ⟨⟨q2, cs2, rfl, rw2, ec2⟩, ?_, hP2⟩, cm, fun p3 H3 g3 _ => k _ _ ((g1.trans g2).trans g3)⟩⟩)
        refine ⟨Nat.le_trans (cutR_len _ _) rows.1, fun r hr => ?_⟩
        obtain ⟨_, r0, h0, e0⟩ := cutR_row hr
        rw [e0]
        exact Nat.le_trans (meet_le _ _) (rows.2 _ h0)
theorem ok_ent (Z : ProgF K mg) (T : TxtP mg) (TC : Txt0 mg) (Y : ComF K mg) (U : LeaF K mg) (V : TxtE K mg c pe) : FnOk P w K mg base (L2.CX P w) 8 U.fEnt U.dEnt ["parting", "node"] (spEnt K c) := by
  have GPs := ok_psX (P := P) (w := w) (base := base) Z T V
  have GNN := ok_nn (P := P) (w := w) (base := base) Z T U V
  have GPB := ok_pbX (P := P) (w := w) (base := base) Z T Y V
  have GComOf := ok_coX (P := P) (w := w) (base := base) Z T TC Y V
  refine U.FEnt.okX scEnt (fun vs H Q E h => ?_) (fun cdv A outer s H vs Q E hr h => ?_)
  · obtain ⟨x, d, rfl, _⟩ := h
    rfl
  · obtain ⟨x, d, rfl, h⟩ := h
    refine ⟨_, (pss_cons (ps_set (i := 2) scEnt.nd rfl (.inl rfl) (pe_callS GPs (hr.mono (by decide)) rfl Z.gPs Z.FPs.kp Z.bPs (fun σ => passAt (takes_of rfl rfl rfl rfl) σ) (pa_cons (pv 0) pa_nil)))
      (pss_cons (ps_if (pt_cmpR op_eq (pv 2) (pe_glob (v := .int 20) rfl Z.gMost ⟨_, rfl⟩) (nomark _)) (pss_one (ps_raise rfl (takes_of rfl rfl rfl rfl) (pmk_own PySem.F.excBase_ValueError (V.exc 0 (by decide)) (V.g 0 (by decide)) (V.kc 0 (by decide)) (raises_own (V.ex 0 (by decide)).hs (V.ty 0 (by decide))) rfl))) pss_nil)
      (pss_cons (ps_expr (pe_callS GNN (hr.mono (by decide)) rfl U.gNN U.FNN.kp U.bNN (fun σ => passAt (takes_of rfl rfl rfl rfl) σ) (pa_cons (pv 1) (pa_cons (pv 2) pa_nil))))
      (pss_one (ps_ret (pe_callS GPB (hr.mono (by decide)) rfl Y.gPB Y.FPB.kp Y.bPB (fun σ => passAt (takes_of rfl rfl rfl rfl) σ) (pa_cons (pe_op op_cat (pe_callS GComOf (hr.mono (by decide)) rfl Y.gComOf Y.FComOf.kp Y.bComOf (fun σ => passAt (takes_of rfl rfl rfl rfl) σ) (pa_cons (pv 0) pa_nil)) (pe_lst (pa_cons (pv 1) pa_nil))) pa_nil))))))), ?_⟩
    rcases h with ⟨no, k⟩ | ⟨rs, hP, h⟩
    · exact ⟨_, rfl, .inl ⟨x, rfl, no, k⟩⟩
    · have l20 := isP_lt hP.is
      refine ⟨_, rfl, .inr ⟨x, rs, rfl, hP, fun H1 g1 => ⟨_, rfl, rfl, _, rfl, ?_⟩⟩⟩
      rcases h with ⟨e, k⟩ | ⟨ne, no, k⟩ | ⟨ne, h1, h2, ⟨is, cm, ok⟩, k⟩
      · rw [decide_eq_true (show L2.V.int (rs.length + 1) = L2.V.int 20 by rw [e]; rfl)]
        exact iteT (k.keep g1).now
      · rw [decide_eq_false (show ¬ L2.V.int (rs.length + 1) = L2.V.int 20 from fun z => by have := L2.V.int.inj z; omega)]
        exact iteF ⟨_, rfl, _, rfl, d, _, rfl, by omega, by omega, .inr ⟨no, k.keep g1⟩⟩
      · rw [decide_eq_false (show ¬ L2.V.int (rs.length + 1) = L2.V.int 20 from fun z => by have := L2.V.int.inj z; omega)]
        refine iteF ⟨_, rfl, _, rfl, d, _, rfl, by omega, by omega, .inl ⟨h1, h2, fun H2 g2 => ⟨_, rfl, .inr ⟨x, rs, is, rfl, hP.keep (g1.trans g2), cm, fun q H3 g3 e3 => ?_⟩⟩⟩⟩
        refine ⟨_, rfl, (by show 1 ≤ sizeLine; decide), fun z hz => ⟨q, z, _, _, rfl, rfl, Grows.new hz _ _ e3, upd_same, ?_, fun y hy => ?_⟩⟩
        · have := cm.1
          rw [List.length_map]
          show is.length + 1 ≤ sizeLine
          exact Nat.le_trans (show is.length + 1 ≤ 100 by omega) (by decide)
        · have gz : Grows H3 (upd H3 z (.lst [L2.V.int d])) := Grows.new hz
          have g4 := ((g1.trans g2).trans g3).trans (gz.trans (Grows.new (o := .lst (is.map L2.V.int ++ [L2.V.int d])) hy))
          refine .inr ⟨y, is ++ [d], rfl, SqL.of (by rw [upd_same, List.map_append]; rfl), ok, fun q5 cs H5 _ g5 _ _ _ => k _ _ (g4.trans g5)⟩
theorem ok_trc (Z : ProgF K mg) (T : TxtP mg) (TC : Txt0 mg) (Y : ComF K mg) (U : LeaF K mg) (V : TxtE K mg c pe) : FnOk P w K mg base (L2.CX P w) 8 U.fTrc U.dTrc ["parting"] (spTrc K c) := by
  have GComOf := ok_coX (P := P) (w := w) (base := base) Z T TC Y V
  refine U.FTrc.okX scTrc (fun vs H Q E h => ?_) (fun cdv A outer s H vs Q E hr h => ?_)
  · obtain ⟨x, rfl, _⟩ := h
    rfl
  · obtain ⟨x, rfl, h⟩ := h
    refine ⟨_, (pss_cons (ps_set (i := 1) scTrc.nd rfl (.inl rfl) (pe_callS GComOf (hr.mono (by decide)) rfl Y.gComOf Y.FComOf.kp Y.bComOf (fun σ => passAt (takes_of rfl rfl rfl rfl) σ) (pa_cons (pv 0) pa_nil)))
      (pss_cons (ps_if (pt_cmpR (op_eqD hr.units) (pv 1) (pe_lst pa_nil) (nomark _)) (pss_one (ps_ret (pe_lst (pa_cons pe_int pa_nil)))) pss_nil)
      (pss_cons (ps_set (i := 2) scTrc.nd rfl (.inr rfl) (pe_dc (own := [("item", 3)]) (g := gName 3) (tt := tYes) rfl scTrc.nd (pi_list (pv 1)) (blkOk_by (own := [("item", 3)]) (N := ["parting", "coming", "traced", "item", "person"]) (sc := defScope sTrc) (by decide +kernel)) (fun _ _ _ _ _ => pg_name (i := 3) scTrc.nd rfl (Or.inl rfl)) (fun _ _ _ _ _ => pts_nil) (fun _ _ _ _ _ => pe_callB call_abs (by rfl) TC.abs (by decide +kernel) (pa_cons (pv 3) pa_nil)) (fun _ _ _ _ _ => pe_bl)))
      (pss_one (ps_ret (pe_lc (own := [("person", 4)]) (g := gName 4)  rfl scTrc.nd (pi_range2 (by rfl) T.range (pa_cons pe_int (pa_cons (pe_op op_add (pe_callB call_len_seq (by rfl) T.len (by decide +kernel) (pa_cons (pv 1) pa_nil)) pe_int) pa_nil))) (blkOk_by (own := [("person", 4)]) (N := ["parting", "coming", "traced", "item", "person"]) (sc := defScope sTrc) (by decide +kernel)) (fun _ _ _ _ _ => pg_name (i := 4) scTrc.nd rfl (Or.inl rfl)) (fun _ _ _ _ _ => (pts_one (pt_cmp (pc_dnotin (hu_of hr) (pv 4) (pv 2))))) (fun _ _ _ _ _ => (pv 4)))))))), ?_⟩
    rcases h with ⟨no, k⟩ | ⟨rs, is, hP, cm, k⟩
    · exact ⟨_, rfl, .inl ⟨x, rfl, no, k⟩⟩
    · have l20 := isP_lt hP.is
      have l1 := cm.1
      refine ⟨_, rfl, .inr ⟨x, rs, is, rfl, hP, cm, fun q H1 g1 e1 => ⟨_, rfl, (by show 0 ≤ sizeLine; decide), fun z hz => ?_⟩⟩⟩
      have g2 : Grows H1 (upd H1 z (.lst [])) := Grows.new hz
      refine ⟨.list (is.map .int), .list [], .lst (SqL.of (g2 _ _ e1)) (rows_dp is), .lst (SqL.of upd_same) .nil, shaped_ints is, shaped_ints [], _, rfl, ?_⟩
      rw [show PyData.eqv (.list (is.map .int)) (.list []) = decide (is = []) from eqv_ints is []]
      have e2 := g2 _ _ e1
      have g12 := g1.trans g2
      by_cases em : is = []
      · rw [decide_eq_true em]
        exact iteT ⟨(by show 1 ≤ sizeLine; decide), fun y hy => k y [0] _ (g12.trans (Grows.new hy)) upd_same⟩
      · rw [decide_eq_false em]
        refine iteF ⟨_, rfl, q, rfl, ⟨_, SqL.of e2⟩, fun D hD => dc_listM (K := K) (fun i => Sum.inl (if is.getD i 0 < 0 then -(is.getD i 0) else is.getD i 0)) (fun i => L2.V.bl true) hD (SqL.of e2) (by rw [List.length_map]; omega) (fun i x H' R hx sm kR => ?_) fun H3 g3 eP => ?_⟩
        · obtain rfl := at_map (d := 0) hx
          exact ⟨rfl, _, rfl, _, rfl, kR _ _ .refl .refl⟩
        · have e3 := g3 _ _ e2
          rw [List.length_map] at eP
          refine ⟨_, rfl, q, _, rfl, .inl (SqL.of e3), _, _, rfl, rfl, _, _, rfl, by rw [List.length_map]; omega, fun D2 hD2 => lc_rangeT (lo := 1) (fun i => !(valV (laid (fun _ => true) (fun i => (Sum.inl (if is.getD i 0 < 0 then -(is.getD i 0) else is.getD i 0) : L2.Key)) (fun i => L2.V.bl true) is.length) (Sum.inl (1 + (i : Nat)))).isSome) (fun i => L2.V.int (1 + (i : Nat))) hD2 (by rw [List.length_map]; omega) (fun i H' Ry Rn il sm ky kn => ?_) fun H4 g4 e4 => ?_⟩
          · refine ⟨rfl, _, rfl, _, rfl, D, _, rfl, DGet.k (k := Sum.inl (1 + (i : Nat))) (sm _ _ eP), _, rfl, ?_⟩
            cases eb : (valV (laid (fun _ => true) (fun i => (Sum.inl (if is.getD i 0 < 0 then -(is.getD i 0) else is.getD i 0) : L2.Key)) (fun i => L2.V.bl true) is.length) (Sum.inl (1 + (i : Nat)))).isSome with
            | true => exact iteF (kn (by rw [eb]; rfl) _ .refl)
            | false => exact iteT ⟨_, rfl, ky (by rw [eb]; rfl) _ .refl⟩
          · obtain ⟨js, ej⟩ := kept_ints (fun i => !(valV (laid (fun _ => true) (fun i => (Sum.inl (if is.getD i 0 < 0 then -(is.getD i 0) else is.getD i 0) : L2.Key)) (fun i => L2.V.bl true) is.length) (Sum.inl (1 + (i : Nat)))).isSome) (fun i => 1 + (i : Int)) (((is.map L2.V.int).length : Int) + 1 - 1).toNat
            exact k D2 js H4 ((g12.trans g3).trans g4) (by rw [e4, ej])
theorem ok_isT (Z : ProgF K mg) (T : TxtP mg) (TC : Txt0 mg) (Y : ComF K mg) (U : LeaF K mg) (V : TxtE K mg c pe) : FnOk P w K mg base (L2.CX P w) 9 U.fIsT U.dIsT ["parting", "person"] (spIsT K c) := by
  have GPs := ok_psX (P := P) (w := w) (base := base) Z T V
  have GNP := ok_np (P := P) (w := w) (base := base) Z T U V
  have GTrc := ok_trc (P := P) (w := w) (base := base) Z T TC Y U V
  refine U.FIsT.okX scIsT (fun vs H Q E h => ?_) (fun cdv A outer s H vs Q E hr h => ?_)
  · obtain ⟨x, p, rfl, _⟩ := h
    rfl
  · obtain ⟨x, p, rfl, h⟩ := h
    refine ⟨_, (pss_cons (ps_expr (pe_callS GNP (hr.mono (by decide)) rfl U.gNP U.FNP.kp U.bNP (fun σ => passAt (takes_of rfl rfl rfl rfl) σ) (pa_cons (pv 1) (pa_cons (pe_callS GPs (hr.mono (by decide)) rfl Z.gPs Z.FPs.kp Z.bPs (fun σ => passAt (takes_of rfl rfl rfl rfl) σ) (pa_cons (pv 0) pa_nil)) pa_nil))))
      (pss_one (ps_ret (pe_cmpR op_in_seq (pv 1) (pe_callS GTrc (hr.mono (by decide)) rfl U.gTrc U.FTrc.kp U.bTrc (fun σ => passAt (takes_of rfl rfl rfl rfl) σ) (pa_cons (pv 0) pa_nil)) (by rfl))))), ?_⟩
    rcases h with ⟨no, k⟩ | ⟨rs, hP, h⟩
    · exact ⟨_, rfl, _, rfl, .inl ⟨x, rfl, no, k⟩⟩
    · have l20 := isP_lt hP.is
      refine ⟨_, rfl, _, rfl, .inr ⟨x, rs, rfl, hP, fun H1 g1 => ⟨p, _, rfl, by omega, by omega, ?_⟩⟩⟩
      rcases h with ⟨no, k⟩ | ⟨p0, p1, ⟨is, cm⟩, k⟩
      · exact .inr ⟨no, k.keep g1⟩
      · refine .inl ⟨p0, p1, fun H2 g2 => ⟨_, rfl, _, rfl, x, rfl, .inr ⟨rs, is, hP.keep (g1.trans g2), cm, fun q js H3 g3 e3 => ?_⟩⟩⟩
        refine ⟨q, _, rfl, .inl (SqL.of e3), rfl, flat_ints js, k _ _ ((g1.trans g2).trans g3)⟩
theorem ok_fracL (U : LeaF K mg) : FnOk P w K mg base CX0 1 U.fFrac U.dFrac ["top", "bottom"] spFrac := by
  refine U.FFrac.ok scFrac (fun vs H Q E h => ?_) (fun cdv A outer s H vs Q E hr h => ?_)
  · obtain ⟨x, y, rfl, _⟩ := h
    rfl
  · obtain ⟨x, y, rfl, x0, xb, y1, yb, k⟩ := h
    refine ⟨_, (pss_cons (ps_set (i := 2) scFrac.nd rfl (.inl rfl) (pe_callBfun (id := "math.gcd") cr_gcd rfl U.gGcd (pa_cons (pv 0) (pa_cons (pv 1) pa_nil))))
      (pss_one (ps_ret (pe_tup (pa_cons (pe_op op_fdivW (pv 0) (pv 2)) (pa_cons (pe_op op_fdivW (pv 1) (pv 2)) pa_nil)))))), ?_⟩
    have gpos : 0 < Nat.gcd x.natAbs y.natAbs := Nat.gcd_pos_of_pos_right _ (by omega)
    have gle : Nat.gcd x.natAbs y.natAbs ≤ y.natAbs := Nat.gcd_le_right _ (by omega)
    have gi : (0 : Int) < ((Nat.gcd x.natAbs y.natAbs : Nat) : Int) := by omega
    have gb : (((Nat.gcd x.natAbs y.natAbs : Nat) : Int)).natAbs < 2 ^ 320 := Nat.lt_of_le_of_lt gle (Nat.lt_of_le_of_lt (show y.natAbs ≤ 2000 by omega) (by decide))
    exact ⟨_, rfl, _, rfl, _, _, rfl, _, rfl, _, rfl, _, _, rfl, rfl, wide_div gi gb (by decide) (by decide), _, rfl, _, rfl, _, _, rfl, rfl, wide_div gi gb (by decide) (by decide), (by show 2 ≤ sizeLine; decide), fun t ht => k _ _ (Grows.new ht)⟩
theorem ok_tsh (Z : ProgF K mg) (T : TxtP mg) (U : LeaF K mg) (V : TxtE K mg c pe) : FnOk P w K mg base (L2.CX P w) 4 U.fTSh U.dTSh ["persons", "person"] (spTSh c) := by
  have GNPs := ok_nps (P := P) (w := w) (base := base) Z T U V
  have GNP := ok_np (P := P) (w := w) (base := base) Z T U V
  have GFrac : FnOk P w K mg base CX0 1 U.fFrac U.dFrac ["top", "bottom"] spFrac := ok_fracL U
  refine U.FTSh.okX scTSh (fun vs H Q E h => ?_) (fun cdv A outer s H vs Q E hr h => ?_)
  · obtain ⟨n, p, rfl, _⟩ := h
    rfl
  · obtain ⟨n, p, rfl, h⟩ := h
    refine ⟨_, (pss_cons (ps_expr (pe_callS GNPs (hr.mono (by decide)) rfl U.gNPs U.FNPs.kp U.bNPs (fun σ => passAt (takes_of rfl rfl rfl rfl) σ) (pa_cons (pv 0) pa_nil)))
      (pss_cons (ps_expr (pe_callS GNP (hr.mono (by decide)) rfl U.gNP U.FNP.kp U.bNP (fun σ => passAt (takes_of rfl rfl rfl rfl) σ) (pa_cons (pv 1) (pa_cons (pv 0) pa_nil))))
      (pss_cons (ps_if (pt_cmpR op_eq (pv 1) pe_int (nomark _)) (pss_one (ps_ret (pe_ifExp (pt_cmpR op_eq (pv 0) pe_int (nomark _)) (pe_tup (pa_cons pe_int (pa_cons pe_int pa_nil))) (pe_tup (pa_cons pe_int (pa_cons pe_int pa_nil)))))) pss_nil)
      (pss_one (ps_ret (pe_call GFrac (hr.mono (by decide)) rfl U.gFrac U.FFrac.kp U.bFrac .nil pass0 (pa_cons (pe_op op_sub (pe_op op_mul pe_int (pv 1)) pe_int) (pa_cons (pe_op op_sub (pe_op op_mul pe_int (pv 0)) pe_int) pa_nil)))))))), ?_⟩
    rcases h with ⟨no, k⟩ | ⟨n1, n2, h⟩
    · exact ⟨_, rfl, n, rfl, .inr ⟨no, k⟩⟩
    · refine ⟨_, rfl, n, rfl, .inl ⟨n1, n2, fun H1 g1 => ⟨_, rfl, _, rfl, p, n, rfl, by omega, by omega, ?_⟩⟩⟩
      rcases h with ⟨no, k⟩ | ⟨p0, p1, k⟩
      · exact .inr ⟨no, k.keep g1⟩
      · refine .inl ⟨p0, p1, fun H2 g2 => ⟨_, rfl, rfl, _, rfl, ?_⟩⟩
        have g12 := g1.trans g2
        by_cases e : p = 0
        · rw [decide_eq_true (show L2.V.int p = L2.V.int 0 by rw [e])]
          refine iteT ⟨_, rfl, rfl, _, rfl, ?_⟩
          by_cases e1 : n = 1
          · rw [decide_eq_true (show L2.V.int n = L2.V.int 1 by rw [e1])]
            exact iteT ⟨(by show 2 ≤ sizeLine; decide), fun t ht => k _ _ (g12.trans (Grows.new ht))⟩
          · rw [decide_eq_false (show ¬ L2.V.int n = L2.V.int 1 from fun z => e1 (L2.V.int.inj z))]
            exact iteF ⟨(by show 2 ≤ sizeLine; decide), fun t ht => k _ _ (g12.trans (Grows.new ht))⟩
        · rw [decide_eq_false (show ¬ L2.V.int p = L2.V.int 0 from fun z => e (L2.V.int.inj z))]
          exact iteF ⟨_, rfl, _, _, rfl, rfl, .inl ⟨by decide, by decide⟩, _, _, rfl, rfl, _, rfl, _, _, rfl, rfl, .inl ⟨by decide, by decide⟩, _, _, rfl, rfl, _, _, rfl, by omega, by omega, by omega, by omega, fun v H' g => k v H' (g12.trans g)⟩
theorem ok_tco (Z : ProgF K mg) (T : TxtP mg) (U : LeaF K mg) (V : TxtE K mg c pe) : FnOk P w K mg base (L2.CX P w) 3 U.fTCo U.dTCo ["persons"] (spTCo c) := by
  have GNPs := ok_nps (P := P) (w := w) (base := base) Z T U V
  refine U.FTCo.okX scTCo (fun vs H Q E h => ?_) (fun cdv A outer s H vs Q E hr h => ?_)
  · obtain ⟨n, rfl, _⟩ := h
    rfl
  · obtain ⟨n, rfl, h⟩ := h
    refine ⟨_, (pss_cons (ps_expr (pe_callS GNPs (hr.mono (by decide)) rfl U.gNPs U.FNPs.kp U.bNPs (fun σ => passAt (takes_of rfl rfl rfl rfl) σ) (pa_cons (pv 0) pa_nil)))
      (pss_cons (ps_if (pt_cmpR op_eq (pv 0) pe_int (nomark _)) (pss_one (ps_ret (pe_lst (pa_cons pe_int (pa_cons pe_int pa_nil))))) pss_nil)
      (pss_cons (ps_set (i := 1) scTCo.nd rfl (.inl rfl) (pe_lst (pa_cons pe_int pa_nil)))
      (pss_cons (ps_for (passes_of rfl) rfl (pi_range2 (by rfl) T.range (pa_cons pe_int (pa_cons (pv 0) pa_nil))) (pg_name (i := 2) scTCo.nd rfl (.inr rfl))
      (pss_one (ps_setLc (i := 1) (own := [("free", 3), ("fewer", 4), ("alike", 5)]) (g := gTup K 2 (gCons (gName 3) (gCons (gTup K 2 (gCons (gName 4) (gCons (gName 5) gNil))) gNil))) (tt := tYes) rfl scTCo.nd rfl rfl (sw_true rfl rfl rfl (by decide +kernel)) (EnZ.pi_enZ (by rfl) T.enumerate (EnZ.ev_zip (by rfl) T.zip (pa_cons (pe_op op_cat (pe_lst (pa_cons pe_int pa_nil)) (pv 1)) (pa_cons (pe_op op_cat (pv 1) (pe_lst (pa_cons pe_int pa_nil))) pa_nil)))) (blkOk_by (own := [("free", 3), ("fewer", 4), ("alike", 5)]) (N := ["persons", "counts", "come", "free", "fewer", "alike"]) (sc := defScope sTCo) (by decide +kernel)) (fun _ _ _ _ _ => pg_tup rfl (pgs_cons (pg_name (i := 3) scTCo.nd rfl (Or.inl rfl)) (pgs_cons (pg_tup rfl (pgs_cons (pg_name (i := 4) scTCo.nd rfl (Or.inl rfl)) (pgs_cons (pg_name (i := 5) scTCo.nd rfl (Or.inl rfl)) pgs_nil))) pgs_nil))) (fun _ _ _ _ _ => pts_nil) (fun _ _ _ _ _ => (pe_op op_add (pe_op op_mul (pe_op op_add (pe_op op_mul pe_int (pe_op op_sub (pv 2) (pv 3))) pe_int) (pv 4)) (pe_op op_mul (pe_op op_mul pe_int (pv 3)) (pv 5)))))))
      (pss_one (ps_ret (pe_op op_cat (pv 1) (pe_lst (pa_cons pe_int pa_nil))))))))), ?_⟩
    rcases h with ⟨no, k⟩ | ⟨n1, n2, k⟩
    · exact ⟨_, rfl, n, rfl, .inr ⟨no, k⟩⟩
    · refine ⟨_, rfl, n, rfl, .inl ⟨n1, n2, fun H1 g1 => ⟨_, rfl, rfl, _, rfl, ?_⟩⟩⟩
      by_cases e : n = 1
      · rw [decide_eq_true (show L2.V.int n = L2.V.int 1 by rw [e])]
        exact iteT ⟨(by show 2 ≤ sizeLine; decide), fun z hz => k _ _ (g1.trans (Grows.new hz))⟩
      · rw [decide_eq_false (show ¬ L2.V.int n = L2.V.int 1 from fun z => e (L2.V.int.inj z))]
        refine iteF ⟨(by show 1 ≤ sizeLine; decide), fun z hz => ?_⟩
        have g2 := g1.trans (Grows.new (o := .lst [L2.V.int 1]) hz)
        refine ⟨_, rfl, _, _, rfl, by omega, for_range (n := (n - 1).toNat) (fun i σ H' => ∃ (a : Addr) (cs : List Int) (o2 o3 o4 o5 : Option L2.V), σ = [some (.int n), some (.ref a), o2, o3, o4, o5] ∧ Grows H H' ∧ H' a = some (.lst (cs.map L2.V.int)) ∧ cs.length = i + 1)
          ⟨z, [1], none, none, none, none, rfl, g2, upd_same, rfl⟩ (fun i σ H' il ⟨a, cs, o2, o3, o4, o5, e, g, ea, el⟩ => ?_) fun σ H' ⟨a, cs, o2, o3, o4, o5, e, g, ea, el⟩ => ?_⟩
        · subst e
          have gz : ∀ {H2 : Hp} {z : Addr} {o : HO}, H2 z = none → Grows H2 (upd H2 z o) := fun h => Grows.new h
          refine ⟨(by show 1 ≤ sizeLine; decide), fun z0 hz0 => ⟨_, rfl, z0, a, _, _, rfl, rfl, upd_same, gz hz0 _ _ ea, ?_, fun y0 hy0 => ?_⟩⟩
          · rw [List.length_map, el]
            show 1 + (i + 1) ≤ sizeLine
            exact Nat.le_trans (show 1 + (i + 1) ≤ 100 by omega) (by decide)
          have ga := (gz (o := .lst [L2.V.int 0]) hz0).trans (gz (o := .lst ([L2.V.int 0] ++ cs.map L2.V.int)) hy0)
          refine ⟨_, rfl, (by show 1 ≤ sizeLine; decide), fun z1 hz1 => ⟨a, z1, _, _, rfl, rfl, (ga.trans (gz hz1)) _ _ ea, upd_same, ?_, fun y1 hy1 => ?_⟩⟩
          · rw [List.length_map, el]
            show i + 1 + 1 ≤ sizeLine
            exact Nat.le_trans (show i + 1 + 1 ≤ 100 by omega) (by decide)
          have gb := (gz (o := .lst [L2.V.int 0]) hz1).trans (gz (o := .lst (cs.map L2.V.int ++ [L2.V.int 0])) hy1)
          refine ⟨y0, y1, (0 :: cs).map L2.V.int, (cs ++ [0]).map L2.V.int, rfl, SqL.of (gb _ _ upd_same), SqL.of (by rw [upd_same, List.map_append]; rfl), fun D hD => EnZ.lc_enZM (K := K) (fun j => L2.V.int ((2 * (1 + (i : Int) - (j : Int)) + 1) * (0 :: cs).getD j 0 + 2 * (j : Int) * (cs ++ [0]).getD j 0)) hD (xs := (0 :: cs).map L2.V.int) (ys := (cs ++ [0]).map L2.V.int) (SqL.of (gb _ _ upd_same)) (SqL.of (by rw [upd_same, List.map_append]; rfl)) (by rw [List.length_map, List.length_cons]; omega) (fun j x y S T H4 R hx hy g4 hS hT ne kR => ?_) fun H5 g5 e5 => ?_⟩
          · have jl := (List.getElem?_eq_some_iff.mp hx).1
            rw [List.length_map, List.length_cons] at jl
            obtain rfl := at_map (d := 0) hx
            obtain rfl := at_map (d := 0) hy
            refine ⟨T, _, rfl, SqT.of upd_same, rfl, _, _, rfl, _, _, rfl, S, _, rfl, SqT.of (by rw [upd_ne ne]; exact upd_same), rfl, _, _, rfl, _, _, rfl, rfl, rfl, rfl, _, rfl, _, rfl, _, _, rfl, rfl, _, _, rfl, rfl, .inl ⟨by decide, by decide⟩, _, _, rfl, rfl, _, rfl, _, _, rfl, rfl, .inl ⟨by omega, by omega⟩, _, rfl, _, _, rfl, rfl, .inl ⟨by decide, by decide⟩, _, rfl, _, _, rfl, rfl, .inl ⟨by omega, by omega⟩, _, _, rfl, rfl, kR _ .refl⟩
          · refine ⟨D, (List.range (min ((0 :: cs).map L2.V.int).length ((cs ++ [0]).map L2.V.int).length)).map fun j : Nat => (2 * (1 + (i : Int) - (j : Int)) + 1) * (0 :: cs).getD j 0 + 2 * (j : Int) * (cs ++ [0]).getD j 0, _, _, _, _, rfl, ((g.trans ga).trans gb).trans g5, by rw [e5, List.map_map]; rfl, ?_⟩
            rw [List.length_map, List.length_range, List.length_map, List.length_map, List.length_cons, List.length_append, List.length_singleton, el, Nat.min_self]
        · subst e
          refine ⟨_, rfl, (by show 1 ≤ sizeLine; decide), fun z0 hz0 => ⟨a, z0, _, _, rfl, rfl, Grows.new hz0 _ _ ea, upd_same, ?_, fun y0 hy0 => k _ _ (g.trans ((Grows.new hz0).trans (Grows.new hy0)))⟩⟩
          rw [List.length_map, el]
          show (n - 1).toNat + 1 + 1 ≤ sizeLine
          exact Nat.le_trans (show (n - 1).toNat + 1 + 1 ≤ 100 by omega) (by decide)
end
end K47

namespace K47
open PySem PySem.Spec PyProof.Rows L2 SortR LcM RepA
/-! ### sorting that the kernel can do -/
def ins {α : Type} (le : α → α → Bool) (x : α) : List α → List α
  | [] => [x]
  | y :: ys => if le x y = true then x :: y :: ys else y :: ins le x ys
def isort {α : Type} (le : α → α → Bool) : List α → List α
  | [] => []
  | x :: xs => ins le x (isort le xs)
theorem ins_perm {α : Type} (le : α → α → Bool) (x : α) : ∀ ys : List α, (ins le x ys).Perm (x :: ys)
  | [] => .refl _
  | y :: ys => by
    unfold ins
    split
    · exact .refl _
    · exact ((ins_perm le x ys).cons y).trans (List.Perm.swap _ _ _)
theorem isort_perm {α : Type} (le : α → α → Bool) : ∀ xs : List α, (isort le xs).Perm xs
  | [] => .refl _
  | x :: xs => (ins_perm le x _).trans ((isort_perm le xs).cons x)
theorem ins_up {α : Type} {le : α → α → Bool} (tr : ∀ a b c, le a b = true → le b c = true → le a c = true) (tot : ∀ a b, le a b = true ∨ le b a = true) (x : α) : ∀ ys : List α, ys.Pairwise (fun a b => le a b = true) → (ins le x ys).Pairwise (fun a b => le a b = true)
  | [], _ => List.pairwise_singleton _ _
  | y :: ys, h => by
    obtain ⟨h1, h2⟩ := List.pairwise_cons.mp h
    unfold ins
    by_cases e : le x y = true
    · rw [if_pos e]
      refine List.pairwise_cons.mpr ⟨fun z hz => ?_, h⟩
      rcases List.mem_cons.mp hz with q | q
      · rw [q]; exact e
      · exact tr _ _ _ e (h1 z q)
    · rw [if_neg e]
      refine List.pairwise_cons.mpr ⟨fun z hz => ?_, ins_up tr tot x ys h2⟩
      rcases List.mem_cons.mp ((ins_perm le x ys).mem_iff.mp hz) with q | q
      · rw [q]; exact (tot x y).resolve_left e
      · exact h1 z q
theorem isort_up {α : Type} {le : α → α → Bool} (tr : ∀ a b c, le a b = true → le b c = true → le a c = true) (tot : ∀ a b, le a b = true ∨ le b a = true) : ∀ xs : List α, (isort le xs).Pairwise (fun a b => le a b = true)
  | [] => .nil
  | x :: xs => ins_up tr tot x _ (isort_up tr tot xs)
theorem sort_is {α : Type} {le : α → α → Bool} (tr : ∀ a b c, le a b = true → le b c = true → le a c = true) (tot : ∀ a b, le a b = true ∨ le b a = true) (anti : ∀ a b, le a b = true → le b a = true → a = b) (xs : List α) : xs.mergeSort le = isort le xs :=
  List.Perm.eq_of_pairwise (le := fun a b => le a b = true) (fun a b _ _ => anti a b) (List.pairwise_mergeSort tr (fun a b => by
    rcases tot a b with h | h
    · rw [h]; rfl
    · rw [h, Bool.or_true]) xs) (isort_up tr tot xs) ((List.mergeSort_perm _ _).trans (isort_perm le xs).symm)
def rowB (p q : List Int) : Bool := decide (p ≤ q)
theorem sort_rowsI (xs : List (List Int)) : (xs.mergeSort fun p q => decide (p ≤ q)) = isort rowB xs :=
  sort_is (le := rowB) (fun a b c h1 h2 => decide_eq_true (List.le_trans (of_decide_eq_true h1) (of_decide_eq_true h2))) (fun a b => (List.le_total a b).imp decide_eq_true decide_eq_true) (fun a b h1 h2 => List.le_antisymm (of_decide_eq_true h1) (of_decide_eq_true h2)) xs
theorem sort_intsI (xs : List Int) : xs.mergeSort intLe = isort intLe xs :=
  sort_is (fun a b c h1 h2 => by
    unfold intLe at *
    simp only [decide_eq_true_eq] at *
    omega) (fun a b => by
    unfold intLe
    simp only [decide_eq_true_eq]
    omega) (fun a b h1 h2 => by
    unfold intLe at *
    simp only [decide_eq_true_eq] at *
    omega) xs
def cutS (rs : List (List Int)) (ns : List Int) : List (List Int) := isort rowB (firsts (fun i => two (meet ns (rs.getD i []))) (fun i => meet ns (rs.getD i [])) rs.length)
theorem cutS_eq (rs : List (List Int)) (ns : List Int) : cutR rs ns = cutS rs ns := sort_rowsI _
/-- the chain of n persons, and its coming list -/
def lotC (n : Nat) : List (List Int) := (List.range (n - 1)).map fun k => upto (k + 2)
def comC (n : Nat) : List Int := (List.range (n - 1)).map fun k => -((k : Nat) : Int)
def rowC (n : Nat) : List Int := List.replicate (n - 1) 0
/-- what is left of the persons by nothing but noughts when person 0 has left -/
def leftC (n : Nat) : List (List Int) := cutS (isort rowB (madeR (rowC n) (rowC n).length)) (othersR (((rowC n).length : Nat) + 1 : Int) 0)
def upC (n : Nat) : List Int := (List.range (n - 2)).map fun k => ((k : Nat) : Int)
def itemsB (rs : List (List Int)) (is : List Int) : Bool := decide (is.length = rs.length) && (List.range is.length).all fun j => itemC (cutS rs (upto (j + 1 + 1))) ((j + 1 : Nat) : Int) (is.getD j 0)
def goodC (n : Nat) : Bool := isP (lotC n) && itemsB (lotC n) (comC n) && (lotC n).all (fun r => decide (r.length ≤ 1000))
def goodE (n : Nat) : Bool := isC (.list ((comC n ++ [(n : Int) - 1]).map .int)) && isC (.list ((comC n ++ [1 - (n : Int)]).map .int))
def goodW (n : Nat) : Bool := isC (.list ((rowC n).map .int)) && isP (isort rowB (madeR (rowC n) (rowC n).length)) && isP (leftC n) && itemsB (leftC n) (upC n)
theorem allC : ((List.range 20).all fun k => goodC (k + 1)) = true := by decide +kernel
theorem allE : ((List.range 19).all fun k => goodE (k + 1)) = true := by decide +kernel
theorem allW : ((List.range 18).all fun k => goodW (k + 2)) = true := by decide +kernel
theorem coms_of {rs : List (List Int)} {is : List Int} (h : itemsB rs is = true) : Coms rs is := by
  unfold itemsB at h
  rw [Bool.and_eq_true] at h
  refine ⟨of_decide_eq_true h.1, fun j hj => ?_⟩
  have q := List.all_eq_true.mp h.2 j (List.mem_range.mpr hj)
  unfold itemB
  rw [cutS_eq]
  exact q
theorem pb_isort (is : List Int) : pbR is = isort rowB (madeR is is.length) := sort_rowsI _
theorem all_in {n : Nat} {f : Nat → Bool} (h : (List.range n).all f = true) (i : Nat) (hi : i < n) : f i = true := List.all_eq_true.mp h i (List.mem_range.mpr hi)
theorem lotC_len (n : Nat) : (lotC n).length = n - 1 := by
  unfold lotC
  rw [List.length_map, List.length_range]
theorem chain_ok {n : Nat} (h1 : 1 ≤ n) (h2 : n ≤ 20) : isP (lotC n) = true ∧ Coms (lotC n) (comC n) ∧ Sz (lotC n) := by
  have q := all_in allC (n - 1) (by omega)
  rw [show n - 1 + 1 = n by omega] at q
  unfold goodC at q
  simp only [Bool.and_eq_true] at q
  refine ⟨q.1.1, coms_of q.1.2, ?_, fun r hr => of_decide_eq_true (List.all_eq_true.mp q.2 r hr)⟩
  rw [lotC_len]
  omega
theorem enter_ok {n : Nat} (h1 : 1 ≤ n) (h2 : n ≤ 19) : isC (.list ((comC n ++ [(n : Int) - 1]).map .int)) = true ∧ isC (.list ((comC n ++ [1 - (n : Int)]).map .int)) = true := by
  have q := all_in allE (n - 1) (by omega)
  rw [show n - 1 + 1 = n by omega] at q
  unfold goodE at q
  rw [Bool.and_eq_true] at q
  exact q
theorem row_ok {n : Nat} (h1 : 2 ≤ n) (h2 : n ≤ 19) : isC (.list ((rowC n).map .int)) = true ∧ isP (pbR (rowC n)) = true ∧ isP (cutR (pbR (rowC n)) (othersR (((rowC n).length : Nat) + 1 : Int) 0)) = true ∧ ∃ js, Coms (cutR (pbR (rowC n)) (othersR (((rowC n).length : Nat) + 1 : Int) 0)) js := by
  have q := all_in allW (n - 2) (by omega)
  rw [show n - 2 + 2 = n by omega] at q
  unfold goodW at q
  simp only [Bool.and_eq_true] at q
  rw [cutS_eq, pb_isort]
  exact ⟨q.1.1.1, q.1.1.2, q.1.2, upC n, coms_of q.2⟩
end K47

namespace K47
open PySem PySem.Spec PyProof.Rows L2 SortR LcM RepA Held
abbrev sWord : Stmt := top 56
abbrev sAsk : Stmt := top 57
/-- a block that is read in one of several ways -/
theorem pss_ex {X : Cx} {b : List Stmt} {ι : Type} {Pr : ι → Prop} {t : ι → TS} (F : ∀ i, Pr i → PSs X b (t i)) : PSs X b (fun D σ H => ∃ i, Pr i ∧ t i D σ H) :=
  ⟨fun pins s σ H D I h => by
    obtain ⟨i, hi, q⟩ := h
    exact (F i hi).run pins s σ H D I q⟩
def spWord (a : Addr) (i : Nat) : Sp := fun vs H Q _ => vs = [.ref a] ∧ ∀ H', Grows H H' → Q (.int (i : Nat)) H'
section
variable {P : Program} {w : World} {K : PySem.W.Frag} {mg : Str → Option Value} {base : Heap} {c : List Addr} {pe : Addr}
theorem scWord : FnScope ["e", "shown"] ["e"] (defScope sWord) := ⟨rfl, rfl, rfl, by decide +kernel, rfl, by decide +kernel, by decide +kernel⟩
theorem ok_word {f : Addr} {fd : FuncData} (F : Fun K "_law_word" "_law_word" sWord f fd) (T : TxtP mg) (V : TxtE K mg c pe) (a : Addr) (oe : Obj) (i : Nat) (hi : i < 6) (hz : Zc (.ref (ca c i)) none oe) (hf : ∃ vs, oe.data = .fields vs) : FnP P w K mg base 1 f fd ["e"] (a, oe) (spWord a i) := by
  refine fnP_of F scWord (fun vs H Q h => ?_) (fun cdv A outer s H vs Q hr h => ?_)
  · obtain ⟨rfl, _⟩ := h
    rfl
  · obtain ⟨rfl, k⟩ := h
    refine ⟨_, (pss_cons (ps_set (i := 1) scWord.nd rfl (.inl rfl) (pe_lst (pa_cons (pe_callB (call_isP (V.ex i hi) (List.mem_singleton.mpr rfl) hz hf) (by rfl) T.isi (by decide +kernel) (pa_cons (pv 0) (pa_cons (pe_glob (v := .ref (ca c 0)) rfl (V.g 0 (by decide)) rfl) pa_nil))) (pa_cons (pe_callB (call_isP (V.ex i hi) (List.mem_singleton.mpr rfl) hz hf) (by rfl) T.isi (by decide +kernel) (pa_cons (pv 0) (pa_cons (pe_glob (v := .ref (ca c 1)) rfl (V.g 1 (by decide)) rfl) pa_nil))) (pa_cons (pe_callB (call_isP (V.ex i hi) (List.mem_singleton.mpr rfl) hz hf) (by rfl) T.isi (by decide +kernel) (pa_cons (pv 0) (pa_cons (pe_glob (v := .ref (ca c 2)) rfl (V.g 2 (by decide)) rfl) pa_nil))) pa_nil)))))
      (pss_cons (ps_set (i := 1) scWord.nd rfl (.inl rfl) (pe_op op_cat (pv 1) (pe_lst (pa_cons (pe_callB (call_isP (V.ex i hi) (List.mem_singleton.mpr rfl) hz hf) (by rfl) T.isi (by decide +kernel) (pa_cons (pv 0) (pa_cons (pe_glob (v := .ref (ca c 3)) rfl (V.g 3 (by decide)) rfl) pa_nil))) (pa_cons (pe_callB (call_isP (V.ex i hi) (List.mem_singleton.mpr rfl) hz hf) (by rfl) T.isi (by decide +kernel) (pa_cons (pv 0) (pa_cons (pe_glob (v := .ref (ca c 4)) rfl (V.g 4 (by decide)) rfl) pa_nil))) (pa_cons (pe_callB (call_isP (V.ex i hi) (List.mem_singleton.mpr rfl) hz hf) (by rfl) T.isi (by decide +kernel) (pa_cons (pv 0) (pa_cons (pe_glob (v := .ref (ca c 5)) rfl (V.g 5 (by decide)) rfl) pa_nil))) pa_nil))))))
      (pss_one (ps_ret (pe_bm PySem.F.plainAttrs_list PySem.F.slot_list_index PySem.F.type_list_index mt_index (pe_op op_cat (pv 1) (pe_lst (pa_cons pe_bl pa_nil))) (pa_cons pe_bl pa_nil)))))), ?_⟩
    have kd : ∀ j, j < 6 → PySem.W.kitOne K (.ref (ca c i)) (.ref (ca c j)) = some (decide (i = j)) := fun j hj => V.kd i hi j hj
    refine ⟨_, rfl, _, _, _, rfl, fun u h => h, kd 0 (by decide), _, rfl, _, _, _, rfl, fun u h => h, kd 1 (by decide), _, rfl, _, _, _, rfl, fun u h => h, kd 2 (by decide), (by show 3 ≤ sizeLine; decide), fun q0 n0 => ?_⟩
    have g0 : Grows H (upd H q0 (.lst [.bl (decide (i = 0)), .bl (decide (i = 1)), .bl (decide (i = 2))])) := Grows.new n0
    refine ⟨_, rfl, _, rfl, _, _, _, rfl, fun u h => h, kd 3 (by decide), _, rfl, _, _, _, rfl, fun u h => h, kd 4 (by decide), _, rfl, _, _, _, rfl, fun u h => h, kd 5 (by decide), (by show 3 ≤ sizeLine; decide), fun p1 n1 => ?_⟩
    refine ⟨q0, p1, _, _, rfl, rfl, Grows.new n1 _ _ upd_same, upd_same, (by show 6 ≤ sizeLine; decide), fun q1 m1 => ?_⟩
    have g1 := g0.trans ((Grows.new (o := .lst [.bl (decide (i = 3)), .bl (decide (i = 4)), .bl (decide (i = 5))]) n1).trans (Grows.new (o := .lst [.bl (decide (i = 0)), .bl (decide (i = 1)), .bl (decide (i = 2)), .bl (decide (i = 3)), .bl (decide (i = 4)), .bl (decide (i = 5))]) m1))
    refine ⟨_, rfl, (by show 1 ≤ sizeLine; decide), fun p2 n2 => ⟨q1, p2, _, _, rfl, rfl, Grows.new n2 _ _ upd_same, upd_same, (by show 7 ≤ sizeLine; decide), fun q2 m2 => ?_⟩⟩
    have g2 := g1.trans ((Grows.new (o := .lst [L2.V.bl true]) n2).trans (Grows.new (o := .lst [.bl (decide (i = 0)), .bl (decide (i = 1)), .bl (decide (i = 2)), .bl (decide (i = 3)), .bl (decide (i = 4)), .bl (decide (i = 5)), .bl true]) m2))
    have six : i = 0 ∨ i = 1 ∨ i = 2 ∨ i = 3 ∨ i = 4 ∨ i = 5 := by omega
    refine ⟨.inl ⟨rfl, _, .inl (.inl upd_same)⟩, q2, _, .bl true, i, .bl true, rfl, rfl, SqL.of upd_same, rfl, ?_, ?_, rfl, ?_, k _ g2⟩
    · rcases six with rfl | rfl | rfl | rfl | rfl | rfl <;> rfl
    · rcases six with rfl | rfl | rfl | rfl | rfl | rfl <;> rfl
    · intro m z' hm e
      have no : ∀ j, j < 6 → j < i → eqV (L2.V.bl (decide (i = j))) (.bl true) = false := fun j hj lt => by
        rw [decide_eq_false (show ¬ i = j by omega)]
        rfl
      match m, hm, e with
      | 0, hm, e => cases e; exact no 0 (by decide) hm
      | 1, hm, e => cases e; exact no 1 (by decide) hm
      | 2, hm, e => cases e; exact no 2 (by decide) hm
      | 3, hm, e => cases e; exact no 3 (by decide) hm
      | 4, hm, e => cases e; exact no 4 (by decide) hm
      | m + 5, hm, _ => omega
/-! ### what a call is asked -/
def sel1 (K : PySem.W.Frag) (c : List Addr) {mg : Str → Option Value} (U : LeaF K mg) : Addr → Sp := fun g vs H Q E => (g = U.fWith ∧ spWith K c vs H Q E) ∨ (g = U.fCW ∧ spCW K c vs H Q E) ∨ (g = U.fIsT ∧ spIsT K c vs H Q E) ∨ (g = U.fEnt ∧ spEnt K c vs H Q E)
def selB (K : PySem.W.Frag) (c : List Addr) {mg : Str → Option Value} (U : LeaF K mg) : Addr → Sp := fun g vs H Q E => (g = U.fTrc ∧ spTrc K c vs H Q E) ∨ (g = U.fTCo ∧ spTCo c vs H Q E)
abbrev wLt (k : Int) : TT := tTest (tOp (rI0 fun i j => .bl (decide (i < j))) (tVar 0) (tC (.int k)))
abbrev tbA (K : PySem.W.Frag) (D1 D2 : Addr → Sp) (c : List Addr) {mg : Str → Option Value} (U : LeaF K mg) : WX → TS := fun W =>
  tIfS (wLt 4) (tDrop (tCallF K D1 (WE W) (tOp (rIxL K) (tLst (tCons (tC (.ref U.fWith)) (tCons (tC (.ref U.fCW)) (tCons (tC (.ref U.fIsT)) (tCons (tC (.ref U.fEnt)) tNil))))) (tVar 0)) (tCons (tVar 1) (tCons (tVar 2) tNil))))
    (tIfS (wLt 6) (tDrop (tCallF K D2 (WE W) (tOp (rIxL K) (tLst (tCons (tC (.ref U.fTrc)) (tCons (tC (.ref U.fTCo)) tNil))) (tOp (rI0 fun i j => .int (i - j)) (tVar 0) (tC (.int 4)))) (tCons (tVar 1) tNil)))
      (tDrop (tCallS (spTSh c) (WE W) (tCons (tVar 1) (tCons (tVar 2) tNil)))))
abbrev tsA (c : List Addr) : Addr → Value → Option Addr → TS := fun a cls d D σ H => ∃ i : Nat, (i < 6 ∧ cls = .ref (ca c i) ∧ d = none) ∧ tRet (tCallP (spWord a i) (tCons (tVar 3) tNil)) D σ H
/-- what the call must keep -/
def Sel (K : PySem.W.Frag) (c : List Addr) (way : Int) (x : L2.V) (k : Int) : Hp → VK → XK → Prop := fun H Q E =>
  (way = 0 ∧ spWith K c [x, .int k] H Q E) ∨ (way = 1 ∧ spCW K c [x, .int k] H Q E) ∨ (way = 2 ∧ spIsT K c [x, .int k] H Q E) ∨ (way = 3 ∧ spEnt K c [x, .int k] H Q E) ∨ (way = 4 ∧ spTrc K c [x] H Q E) ∨ (way = 5 ∧ spTCo c [x] H Q E) ∨ (way = 6 ∧ spTSh c [x, .int k] H Q E)
def Asks (K : PySem.W.Frag) (c : List Addr) (way : Int) (x : L2.V) (k : Int) (H : Hp) (r : Option Nat) : Prop := (∀ i, r = some i → i < 6) ∧ ∀ (Q : VK) (E : XK), (r = none → ∀ v H', Grows H H' → Q v H') → (∀ i, r = some i → Rz c H E i) → Sel K c way x k H Q E
def ans : Option Nat → L2.V
  | none => .non
  | some i => .int (i : Nat)
def spAsk (K : PySem.W.Frag) (c : List Addr) : Sp := fun vs H Q _ => ∃ way x k r, vs = [.int way, x, .int k] ∧ (∀ H1, Grows H H1 → Asks K c way x k H1 r) ∧ ∀ H', Grows H H' → Q (ans r) H'
theorem scAsk : FnScope ["way", "lot", "k", "e"] ["way", "lot", "k"] (defScope sAsk) := ⟨rfl, rfl, rfl, by decide +kernel, rfl, by decide +kernel, by decide +kernel⟩
theorem ok_ask {f fWord : Addr} {fd dWord : FuncData} (F : Fun K "_law_asked" "_law_asked" sAsk f fd) (Z : ProgF K mg) (T : TxtP mg) (TC : Txt0 mg) (Y : ComF K mg) (U : LeaF K mg) (V : TxtE K mg c pe) (FWord : Fun K "_law_word" "_law_word" sWord fWord dWord) (gWord : mg "_law_word" = some (.ref fWord)) (bWord : Binds K dWord ["e"] []) :
    FnOk P w K mg base CX0 10 f fd ["way", "lot", "k"] (spAsk K c) := by
  have GTSh := (ok_tsh (P := P) (w := w) (base := base) Z T U V).mono (show 4 ≤ 9 by decide)
  have GWord : ∀ (a : Addr) (oe : Obj) (i : Nat) (hi : i < 6) (hz : Zc (.ref (ca c i)) none oe) (hf : ∃ vs, oe.data = .fields vs), FnP P w K mg base 1 fWord dWord ["e"] (a, oe) (spWord a i) := ok_word FWord T V
  have sel4 : ∀ g vs H Q E', sel1 K c U g vs H Q E' → ∃ fd ps sp, FnOk P w K mg base (L2.CX P w) 9 g fd ps sp ∧ Binds K fd ps [] ∧ sp vs H Q E' := fun g vs H Q E' h => by
    rcases h with ⟨rfl, h⟩ | ⟨rfl, h⟩ | ⟨rfl, h⟩ | ⟨rfl, h⟩
    · exact ⟨_, _, _, (ok_with Z T Y U V).mono (by decide), U.bWith, h⟩
    · exact ⟨_, _, _, (ok_cw Z T TC Y U V).mono (by decide), U.bCW, h⟩
    · exact ⟨_, _, _, ok_isT Z T TC Y U V, U.bIsT, h⟩
    · exact ⟨_, _, _, (ok_ent Z T TC Y U V).mono (by decide), U.bEnt, h⟩
  have sel2 : ∀ g vs H Q E', selB K c U g vs H Q E' → ∃ fd ps sp, FnOk P w K mg base (L2.CX P w) 9 g fd ps sp ∧ Binds K fd ps [] ∧ sp vs H Q E' := fun g vs H Q E' h => by
    rcases h with ⟨rfl, h⟩ | ⟨rfl, h⟩
    · exact ⟨_, _, _, (ok_trc Z T TC Y U V).mono (by decide), U.bTrc, h⟩
    · exact ⟨_, _, _, (ok_tco Z T U V).mono (by decide), U.bTCo, h⟩
  refine F.ok scAsk (fun vs H Q E h => ?_) (fun cdv A outer s H vs Q E hr h => ?_)
  · obtain ⟨way, x, k, r, rfl, _⟩ := h
    rfl
  · obtain ⟨way, x, k, r, rfl, due, kk⟩ := h
    have room1 : L2H.RoomH 1 (A.deeper (envOfC "_law_asked" (defScope sAsk) s.heap.objs.size f cdv)) := L2H.roomH_of (hr.mono (show 1 ≤ 9 by decide))
    refine ⟨_, (pss_cons (ps_try_as (i := 3) (tb := tbA K (sel1 K c U) (selB K c U) c U) (ts := tsA c) (Wout := fun _ _ _ _ => False) rfl rfl scAsk.nd rfl rfl ⟨rfl, by decide, .inl V.gp⟩ takes0 (fun W2 pn xe tk _ => (pss_one (ps_if (pt_cmpR op_lt (pv 0) pe_int (nomark _)) (pss_one (ps_expr (pe_callF (pe_ix (r := rIxL K) ix_list (pe_lst (pa_cons (pe_glob (v := .ref U.fWith) rfl U.gWith rfl) (pa_cons (pe_glob (v := .ref U.fCW) rfl U.gCW rfl) (pa_cons (pe_glob (v := .ref U.fIsT) rfl U.gIsT rfl) (pa_cons (pe_glob (v := .ref U.fEnt) rfl U.gEnt rfl) pa_nil))))) (pv 0) (fun _ _ => rfl)) sel4 (hr.mono (by decide)) (fun σ => passAt tk σ) (pa_cons (pv 1) (pa_cons (pv 2) pa_nil))))) (pss_one (ps_if (pt_cmpR op_lt (pv 0) pe_int (nomark _)) (pss_one (ps_expr (pe_callF (pe_ix (r := rIxL K) ix_list (pe_lst (pa_cons (pe_glob (v := .ref U.fTrc) rfl U.gTrc rfl) (pa_cons (pe_glob (v := .ref U.fTCo) rfl U.gTCo rfl) pa_nil))) (pe_op op_sub (pv 0) pe_int) (fun _ _ => rfl)) sel2 (hr.mono (by decide)) (fun σ => passAt tk σ) (pa_cons (pv 1) pa_nil)))) (pss_one (ps_expr (pe_callS GTSh (hr.mono (by decide)) rfl U.gTSh U.FTSh.kp U.bTSh (fun σ => passAt tk σ) (pa_cons (pv 1) (pa_cons (pv 2) pa_nil)))))))))) (fun a oe cls d pn hz hf => (pss_ex fun i hi => by
      obtain ⟨i6, rfl, rfl⟩ := hi
      exact (pss_one (ps_ret (pe_callP (GWord a oe i i6 hz hf) ⟨room1.dp, room1.un⟩ List.mem_cons_self rfl gWord FWord.kp bWord (pa_cons (pv 3) pa_nil))))))) (pss_one (ps_ret pe_non))), ?_⟩
    have six := (due H .refl).1
    have main : ∀ (H1 : Hp), Grows H H1 → Sel K c way x k H1 (fun _ H2 => Q .non H2) (WE (wAs K (.ref pe) 3 (tsA c) (fun _ _ _ _ => False) { nx := tRet (tC .non) { nx := fun _ H' => Q .non H', rt := Q }, rt := Q }) [some (.int way), some x, some (.int k), none]) := fun H1 g1 =>
      (due H1 g1).2 _ _ (fun e v H' g => by subst e; exact kk H' (g1.trans g)) fun i e H' g => by
        subst e
        exact ⟨true, V.te i (six i rfl), fun _ a ha => ⟨i, ⟨six i rfl, rfl, rfl⟩, _, rfl, rfl, fun H2 g2 => kk H2 ((g1.trans g).trans g2)⟩, fun q => nomatch q⟩
    have lt1 : ∀ {j : Int}, j < 4 → (decide (j < 4)) = true := fun h => decide_eq_true h
    have ge1 : ∀ {j : Int}, ¬ j < 4 → (decide (j < 4)) = false := fun h => decide_eq_false h
    have pick : ∀ (q : Addr) (ys : List L2.V) (j : Nat) (y : L2.V), ys[j]? = some y → atI ys ((j : Nat) : Int) = some y := fun q ys j y h => atI_nat h
    rcases main H .refl with ⟨rfl, _⟩ | ⟨rfl, _⟩ | ⟨rfl, _⟩ | ⟨rfl, _⟩ | ⟨rfl, _⟩ | ⟨rfl, _⟩ | ⟨rfl, h⟩
    · refine ⟨_, rfl, _, _, rfl, rfl, _, rfl, ?_⟩
      rw [decide_eq_true (show (0 : Int) < 4 by decide)]
      refine iteT ⟨(by show 4 ≤ sizeLine; decide), fun q hq => ⟨_, rfl, q, _, 0, .ref U.fWith, rfl, rfl, SqL.of upd_same, atI_nat (j := 0) rfl, U.fWith, rfl, U.FWith.kp, _, rfl, _, rfl, ?_⟩⟩
      rcases main _ (Grows.new hq) with ⟨_, h⟩ | ⟨z, _⟩ | ⟨z, _⟩ | ⟨z, _⟩ | ⟨z, _⟩ | ⟨z, _⟩ | ⟨z, _⟩
      · exact .inl ⟨rfl, h⟩
      all_goals cases z
    · refine ⟨_, rfl, _, _, rfl, rfl, _, rfl, ?_⟩
      rw [decide_eq_true (show (1 : Int) < 4 by decide)]
      refine iteT ⟨(by show 4 ≤ sizeLine; decide), fun q hq => ⟨_, rfl, q, _, 1, .ref U.fCW, rfl, rfl, SqL.of upd_same, atI_nat (j := 1) rfl, U.fCW, rfl, U.FCW.kp, _, rfl, _, rfl, ?_⟩⟩
      rcases main _ (Grows.new hq) with ⟨z, _⟩ | ⟨_, h⟩ | ⟨z, _⟩ | ⟨z, _⟩ | ⟨z, _⟩ | ⟨z, _⟩ | ⟨z, _⟩
      · cases z
      · exact .inr (.inl ⟨rfl, h⟩)
      all_goals cases z
    · refine ⟨_, rfl, _, _, rfl, rfl, _, rfl, ?_⟩
      rw [decide_eq_true (show (2 : Int) < 4 by decide)]
      refine iteT ⟨(by show 4 ≤ sizeLine; decide), fun q hq => ⟨_, rfl, q, _, 2, .ref U.fIsT, rfl, rfl, SqL.of upd_same, atI_nat (j := 2) rfl, U.fIsT, rfl, U.FIsT.kp, _, rfl, _, rfl, ?_⟩⟩
      rcases main _ (Grows.new hq) with ⟨z, _⟩ | ⟨z, _⟩ | ⟨_, h⟩ | ⟨z, _⟩ | ⟨z, _⟩ | ⟨z, _⟩ | ⟨z, _⟩
      · cases z
      · cases z
      · exact .inr (.inr (.inl ⟨rfl, h⟩))
      all_goals cases z
    · refine ⟨_, rfl, _, _, rfl, rfl, _, rfl, ?_⟩
      rw [decide_eq_true (show (3 : Int) < 4 by decide)]
      refine iteT ⟨(by show 4 ≤ sizeLine; decide), fun q hq => ⟨_, rfl, q, _, 3, .ref U.fEnt, rfl, rfl, SqL.of upd_same, atI_nat (j := 3) rfl, U.fEnt, rfl, U.FEnt.kp, _, rfl, _, rfl, ?_⟩⟩
      rcases main _ (Grows.new hq) with ⟨z, _⟩ | ⟨z, _⟩ | ⟨z, _⟩ | ⟨_, h⟩ | ⟨z, _⟩ | ⟨z, _⟩ | ⟨z, _⟩
      · cases z
      · cases z
      · cases z
      · exact .inr (.inr (.inr ⟨rfl, h⟩))
      all_goals cases z
    · refine ⟨_, rfl, _, _, rfl, rfl, _, rfl, ?_⟩
      rw [decide_eq_false (show ¬ (4 : Int) < 4 by decide)]
      refine iteF ⟨_, rfl, _, _, rfl, rfl, _, rfl, ?_⟩
      rw [decide_eq_true (show (4 : Int) < 6 by decide)]
      refine iteT ⟨(by show 2 ≤ sizeLine; decide), fun q hq => ⟨_, rfl, _, _, rfl, rfl, q, _, 0, .ref U.fTrc, rfl, rfl, SqL.of upd_same, atI_nat (j := 0) rfl, U.fTrc, rfl, U.FTrc.kp, _, rfl, ?_⟩⟩
      rcases main _ (Grows.new hq) with ⟨z, _⟩ | ⟨z, _⟩ | ⟨z, _⟩ | ⟨z, _⟩ | ⟨_, h⟩ | ⟨z, _⟩ | ⟨z, _⟩
      · cases z
      · cases z
      · cases z
      · cases z
      · exact .inl ⟨rfl, h⟩
      all_goals cases z
    · refine ⟨_, rfl, _, _, rfl, rfl, _, rfl, ?_⟩
      rw [decide_eq_false (show ¬ (5 : Int) < 4 by decide)]
      refine iteF ⟨_, rfl, _, _, rfl, rfl, _, rfl, ?_⟩
      rw [decide_eq_true (show (5 : Int) < 6 by decide)]
      refine iteT ⟨(by show 2 ≤ sizeLine; decide), fun q hq => ⟨_, rfl, _, _, rfl, rfl, q, _, 1, .ref U.fTCo, rfl, rfl, SqL.of upd_same, atI_nat (j := 1) rfl, U.fTCo, rfl, U.FTCo.kp, _, rfl, ?_⟩⟩
      rcases main _ (Grows.new hq) with ⟨z, _⟩ | ⟨z, _⟩ | ⟨z, _⟩ | ⟨z, _⟩ | ⟨z, _⟩ | ⟨_, h⟩ | ⟨z, _⟩
      · cases z
      · cases z
      · cases z
      · cases z
      · cases z
      · exact .inr ⟨rfl, h⟩
      · cases z
    · refine ⟨_, rfl, _, _, rfl, rfl, _, rfl, ?_⟩
      rw [decide_eq_false (show ¬ (6 : Int) < 4 by decide)]
      refine iteF ⟨_, rfl, _, _, rfl, rfl, _, rfl, ?_⟩
      rw [decide_eq_false (show ¬ (6 : Int) < 6 by decide)]
      exact iteF ⟨_, rfl, _, rfl, h⟩
end
end K47

namespace K47
open PySem PySem.Spec PyProof.Rows L2 LcM
/-- an int or None -/
def Sc (x : L2.V) : Prop := (∃ i : Int, x = .int i) ∨ x = .non
theorem Sc.scal {x : L2.V} (h : Sc x) : scal x x = true := by
  rcases h with ⟨i, rfl⟩ | rfl <;> rfl
def scT : L2.V → Value
  | .int _ => .type "int"
  | _ => .type "NoneType"
def isI : L2.V → Bool
  | .int _ => true
  | _ => false
def isS : L2.V → Bool
  | _ => false
theorem Sc.ty {K : PySem.W.Frag} {H : Hp} {x : L2.V} (h : Sc x) : TyX K H x (scT x) := by
  rcases h with ⟨i, rfl⟩ | rfl
  · exact .base (.int i)
  · exact .base .non
theorem Sc.kSeq {K : PySem.W.Frag} {x : L2.V} (h : Sc x) : PySem.W.kitAny K (scT x) [.type "list", .type "tuple"] = some false := by
  rcases h with ⟨i, rfl⟩ | rfl
  · exact kitAny_cons (b := false) (kit_ty (by decide +kernel)) (fun _ => kitAny_cons (b := false) (kit_ty (by decide +kernel)) (fun _ => kitAny_nil) (fun z => nomatch z)) (fun z => nomatch z)
  · exact kitAny_cons (b := false) (kit_ty (by decide +kernel)) (fun _ => kitAny_cons (b := false) (kit_ty (by decide +kernel)) (fun _ => kitAny_nil) (fun z => nomatch z)) (fun z => nomatch z)
theorem kList {K : PySem.W.Frag} : PySem.W.kitAny K (.type "list") [.type "list", .type "tuple"] = some true := kitAny_cons (b := true) (kit_ty (by decide +kernel)) (fun z => nomatch z) (fun _ => rfl)
theorem Sc.kB {K : PySem.W.Frag} {x : L2.V} (h : Sc x) : PySem.W.kitOne K (scT x) (.type "bool") = some false := by
  rcases h with ⟨i, rfl⟩ | rfl <;> exact kit_ty (by decide +kernel)
theorem Sc.kI {K : PySem.W.Frag} {x : L2.V} (h : Sc x) : PySem.W.kitOne K (scT x) (.type "int") = some (isI x) := by
  rcases h with ⟨i, rfl⟩ | rfl
  · exact kit_ty (show kitB "int" "int" = some true by decide +kernel)
  · exact kit_ty (show kitB "NoneType" "int" = some false by decide +kernel)
theorem Sc.kS {K : PySem.W.Frag} {x : L2.V} (h : Sc x) : PySem.W.kitOne K (scT x) (.type "str") = some (isS x) := by
  rcases h with ⟨i, rfl⟩ | rfl
  · exact kit_ty (show kitB "int" "str" = some false by decide +kernel)
  · exact kit_ty (show kitB "NoneType" "str" = some false by decide +kernel)
/-- two equal scalars; or two lists of such -/
def spA0 : Sp := fun vs H Q _ => ∃ x : V, vs = [x, x] ∧ Sc x ∧ ∀ H', Same H H' → Q (.bl true) H'
def spA1 : Sp := fun vs H Q _ => (∃ x : V, vs = [x, x] ∧ Sc x ∧ ∀ H', Same H H' → Q (.bl true) H') ∨
  ∃ (a b : Addr) (xs : List V), vs = [.ref a, .ref b] ∧ H a = some (.lst xs) ∧ H b = some (.lst xs) ∧ (∀ x ∈ xs, Sc x) ∧ xs.length ≤ 100 ∧ ∀ H', Same H H' → Q (.bl true) H'
def spNo : Sp := fun _ _ _ _ => False
theorem sameU {H : Hp} {p : Addr} {o : HO} (h : H p = none) : Same H (upd H p o) := fun b x e => by
  rw [upd_ne (ne_of_none e h)]
  exact e
theorem iteP {c A B : Prop} [Decidable c] (hc : c) (h : A) : if (decide c) = true then A else B := by
  rw [decide_eq_true hc]
  exact iteT h
structure TxtA (mg : Str → Option Value) (fA : Addr) : Prop extends Txt0 mg where
  isi : mg "isinstance" = none
  lst : mg "list" = none
  tup : mg "tuple" = none
  all : mg "all" = none
  bool : mg "bool" = none
  str : mg "str" = none
  gA : mg "_law_alike" = some (.ref fA)
section
variable {P : Program} {w : World} {K : PySem.W.Frag} {mg : Str → Option Value} {base : Heap}
theorem fn_no {f : Addr} {fd : FuncData} {ps : List Str} : FnOk P w K mg base CX0 1 f fd ps spNo := ⟨fun _ _ _ _ h => h.elim, fun _ _ _ _ _ _ _ _ _ _ _ _ _ h => h.elim⟩
theorem scAlike : FnScope ["found", "due", "k"] ["found", "due"] (defScope sAlike) := ⟨rfl, rfl, rfl, by decide +kernel, rfl, by decide +kernel, by decide +kernel⟩
theorem alike_body {f : Addr} {fd : FuncData} {n : Nat} {sp0 sp : Sp} (F : Fun K "_law_alike" "_law_alike" sAlike f fd) (T : TxtA mg f) (bA : Binds K fd ["found", "due"] []) (G : FnOk P w K mg base CX0 n f fd ["found", "due"] sp0)
    (len : ∀ vs H Q E, sp vs H Q E → vs.length = 2) (hsp : ∀ vs H Q E, sp vs H Q E → (∃ x : V, vs = [x, x] ∧ Sc x ∧ ∀ H', Same H H' → Q (.bl true) H') ∨
      ∃ (a b : Addr) (xs : List V), vs = [.ref a, .ref b] ∧ H a = some (.lst xs) ∧ H b = some (.lst xs) ∧ (∀ x ∈ xs, Sc x) ∧ xs.length ≤ 100 ∧ (∀ H', Same H H' → Q (.bl true) H') ∧ ∀ (x : V) (H' : Hp) (Q' : VK), Sc x → (∀ H2, Same H' H2 → Q' (.bl true) H2) → sp0 [x, x] H' Q' E0) :
    FnOk P w K mg base CX0 (n + 1) f fd ["found", "due"] sp := by
  refine F.ok scAlike len (fun cdv A outer s H vs Q E hr h => ?_)
  refine ⟨_, (pss_cons (ps_if (pt_val (pe_callB call_isiT (by rfl) T.isi (by decide +kernel) (pa_cons (pv 1) (pa_cons (pe_tup (pa_cons (pe_bltn (v := .ty "list") (u := .type "list") (by rfl) T.lst (by decide +kernel) rfl) (pa_cons (pe_bltn (v := .ty "tuple") (u := .type "tuple") (by rfl) T.tup (by decide +kernel) rfl) pa_nil))) pa_nil))))
      (pss_cons (ps_if (PW.pt (pw_or (pt_not (pt_val (pe_callB call_isiT (by rfl) T.isi (by decide +kernel) (pa_cons (pv 0) (pa_cons (pe_tup (pa_cons (pe_bltn (v := .ty "list") (u := .type "list") (by rfl) T.lst (by decide +kernel) rfl) (pa_cons (pe_bltn (v := .ty "tuple") (u := .type "tuple") (by rfl) T.tup (by decide +kernel) rfl) pa_nil))) pa_nil))))) (pw_or1 (pt_cmpR op_ne (pe_callB call_isi (by rfl) T.isi (by decide +kernel) (pa_cons (pv 0) (pa_cons (pe_bltn (v := .ty "list") (u := .type "list") (by rfl) T.lst (by decide +kernel) rfl) pa_nil))) (pe_callB call_isi (by rfl) T.isi (by decide +kernel) (pa_cons (pv 1) (pa_cons (pe_bltn (v := .ty "list") (u := .type "list") (by rfl) T.lst (by decide +kernel) rfl) pa_nil))) (nomark _))))) (pss_one (ps_ret pe_bl)) pss_nil)
      (pss_cons (ps_if (pt_cmpR op_ne (pe_callB call_len_seq (by rfl) T.len boot_len (pa_cons (pv 0) pa_nil)) (pe_callB call_len_seq (by rfl) T.len boot_len (pa_cons (pv 1) pa_nil)) (nomark _)) (pss_one (ps_ret pe_bl)) pss_nil)
      (pss_one (ps_ret (pe_callB (cr_all rfl) (by rfl) T.all (by decide +kernel) (pa_cons (pe_lc (own := [("k", 2)]) (g := gName 2) (tt := tYes) rfl scAlike.nd (pi_range1 (by rfl) T.range (pa_cons (pe_callB call_len_seq (by rfl) T.len boot_len (pa_cons (pv 1) pa_nil)) pa_nil)) (blkOk_by (N := ["found", "due", "k"]) (sc := defScope sAlike) (by decide +kernel)) (fun _ _ _ _ _ => pg_name (i := 2) scAlike.nd rfl (Or.inl rfl)) (fun _ _ _ _ _ => pts_nil) (fun _ _ _ _ _ => pe_call G hr rfl T.gA F.kp bA .nil pass0 (pa_cons (pe_ix (r := rIxL K) ix_list (pv 0) (pv 2) (fun _ _ => rfl)) (pa_cons (pe_ix (r := rIxL K) ix_list (pv 1) (pv 2) (fun _ _ => rfl)) pa_nil)))) pa_nil))))))
      pss_nil)
      (pss_cons (ps_if (PW.pt (pw_or (pt_cmpR op_ne (pe_callB call_isi (by rfl) T.isi (by decide +kernel) (pa_cons (pv 0) (pa_cons (pe_bltn (v := .ty "bool") (u := .type "bool") (by rfl) T.bool (by decide +kernel) rfl) pa_nil))) (pe_callB call_isi (by rfl) T.isi (by decide +kernel) (pa_cons (pv 1) (pa_cons (pe_bltn (v := .ty "bool") (u := .type "bool") (by rfl) T.bool (by decide +kernel) rfl) pa_nil))) (nomark _)) (pw_or1 (pt_cmpR op_ne (pe_callB call_isi (by rfl) T.isi (by decide +kernel) (pa_cons (pv 0) (pa_cons (pe_bltn (v := .ty "int") (u := .type "int") (by rfl) T.int (by decide +kernel) rfl) pa_nil))) (pe_callB call_isi (by rfl) T.isi (by decide +kernel) (pa_cons (pv 1) (pa_cons (pe_bltn (v := .ty "int") (u := .type "int") (by rfl) T.int (by decide +kernel) rfl) pa_nil))) (nomark _))))) (pss_one (ps_ret pe_bl)) pss_nil)
      (pss_one (ps_ret (pe_and (pe_cmpR op_eq (pe_callB call_isi (by rfl) T.isi (by decide +kernel) (pa_cons (pv 0) (pa_cons (pe_bltn (v := .ty "str") (u := .type "str") (by rfl) T.str (by decide +kernel) rfl) pa_nil))) (pe_callB call_isi (by rfl) T.isi (by decide +kernel) (pa_cons (pv 1) (pa_cons (pe_bltn (v := .ty "str") (u := .type "str") (by rfl) T.str (by decide +kernel) rfl) pa_nil))) (nomark _)) (pe_one (pe_cmpR op_eq (pv 0) (pv 1) (nomark _)))))))), ?_⟩
  have pr : Paired ClsV [V.ty "list", V.ty "tuple"] [Value.type "list", Value.type "tuple"] := Paired.cons (ClsV.ty _) (Paired.cons (ClsV.ty _) Paired.nil)
  rcases hsp _ _ _ _ h with ⟨x, rfl, hx, k⟩ | ⟨a, b, xs, rfl, ha, hb, hxs, hl, k, k0⟩
  · refine ⟨_, rfl, (by show 2 ≤ sizeLine; decide), fun t nt => ⟨x, t, _, _, _, false, rfl, upd_same, pr, hx.ty, hx.kSeq, _, rfl, iteF ?_⟩⟩
    refine ⟨_, rfl, x, .ty "bool", _, _, false, rfl, .ty _, hx.ty, hx.kB, _, rfl, x, .ty "bool", _, _, false, rfl, .ty _, hx.ty, hx.kB, rfl, _, rfl, iteNS rfl ?_⟩
    refine ⟨_, rfl, x, .ty "int", _, _, isI x, rfl, .ty _, hx.ty, hx.kI, _, rfl, x, .ty "int", _, _, isI x, rfl, .ty _, hx.ty, hx.kI, rfl, _, rfl, iteNS rfl ?_⟩
    refine ⟨_, rfl, x, .ty "str", _, _, isS x, rfl, .ty _, hx.ty, hx.kS, _, rfl, x, .ty "str", _, _, isS x, rfl, .ty _, hx.ty, hx.kS, rfl, _, rfl, iteP rfl ?_⟩
    refine ⟨_, rfl, _, rfl, hx.scal, ?_⟩
    have e : decide (x = x) = true := decide_eq_true rfl
    show Q (.bl (decide (x = x))) _
    rw [e]
    exact k _ (sameU nt)
  · refine ⟨_, rfl, (by show 2 ≤ sizeLine; decide), fun t nt => ⟨.ref b, t, _, _, _, true, rfl, upd_same, pr, .base (.lst ((sameU nt) _ _ hb)), kList, _, rfl, iteT ?_⟩⟩
    have s1 : Same H (upd H t (.tup [V.ty "list", V.ty "tuple"])) := sameU nt
    refine ⟨_, rfl, (by show 2 ≤ sizeLine; decide), fun u nu => ⟨.ref a, u, _, _, _, true, rfl, upd_same, pr, .base (.lst ((s1.trans (sameU nu)) _ _ ha)), kList, _, rfl, iteF ?_⟩⟩
    have s2 := s1.trans (sameU (o := .tup [V.ty "list", V.ty "tuple"]) nu)
    refine ⟨_, rfl, .ref a, .ty "list", _, _, true, rfl, .ty _, .base (.lst (s2 _ _ ha)), kit_ty (by decide +kernel), _, rfl, .ref b, .ty "list", _, _, true, rfl, .ty _, .base (.lst (s2 _ _ hb)), kit_ty (by decide +kernel), rfl, _, rfl, iteNS rfl ?_⟩
    refine ⟨_, rfl, a, xs, rfl, .inl (SqL.of (s2 _ _ ha)), _, rfl, b, xs, rfl, .inl (SqL.of (s2 _ _ hb)), rfl, _, rfl, iteNS rfl ?_⟩
    refine ⟨_, rfl, b, xs, rfl, .inl (SqL.of (s2 _ _ hb)), _, rfl, by omega, by omega, fun D hD => ?_⟩
    have s3 := s2.trans (sameU (o := .lst []) hD)
    refine lc_range (n := xs.length) (fun i H2 => Same H H2 ∧ H2 D = some (.lst ((List.replicate i true).map V.bl))) ⟨s3, upd_same⟩ ?_ ?_
    · rintro i H2 hi ⟨sm, eD⟩
      have g : xs[i]? = some xs[i] := List.getElem?_eq_getElem hi
      refine ⟨rfl, ?_⟩
      unfold tYes
      dsimp only
      rw [if_pos rfl]
      refine ⟨_, rfl, _, rfl, a, xs, _, _, rfl, rfl, SqL.of (sm _ _ ha), (by rw [Int.zero_add]; exact atI_nat g), _, rfl, _, rfl, b, xs, _, _, rfl, rfl, SqL.of (sm _ _ hb), (by rw [Int.zero_add]; exact atI_nat g), ?_⟩
      refine k0 _ _ _ (hxs _ (List.getElem_mem hi)) fun H3 sm3 => ⟨_, sm3 _ _ eD, ?_, ?_, ?_⟩
      · rw [List.length_map, List.length_replicate]
        exact small1000 (by omega)
      · intro q o e
        have nq : q ≠ D := ne_of_none e (s2.free hD)
        rw [upd_ne nq]
        exact sm3 _ _ (sm _ _ e)
      · rw [upd_same, List.replicate_succ', List.map_append]
        rfl
    · rintro H2 ⟨sm, eD⟩
      refine ⟨D, _, rfl, SqL.of eD, ?_⟩
      rw [show (List.replicate xs.length true).all id = true by simp]
      exact k _ sm
theorem ok_alike {f : Addr} {fd : FuncData} (F : Fun K "_law_alike" "_law_alike" sAlike f fd) (T : TxtA mg f) (bA : Binds K fd ["found", "due"] []) : FnOk P w K mg base CX0 3 f fd ["found", "due"] spA1 := by
  have G0 : FnOk P w K mg base CX0 2 f fd ["found", "due"] spA0 := by
    refine alike_body F T bA (sp0 := spNo) fn_no (fun vs H Q E h => ?_) (fun vs H Q E h => .inl h)
    obtain ⟨x, rfl, _⟩ := h
    rfl
  refine alike_body F T bA G0 (fun vs H Q E h => ?_) (fun vs H Q E h => ?_)
  · rcases h with ⟨x, rfl, _⟩ | ⟨a, b, xs, rfl, _⟩ <;> rfl
  · rcases h with h | ⟨a, b, xs, rfl, ha, hb, hx, hl, k⟩
    · exact .inl h
    · exact .inr ⟨a, b, xs, rfl, ha, hb, hx, hl, k, fun x H' Q' hx hq => ⟨x, rfl, hx, hq⟩⟩
end
end K47

namespace K47
open PySem PySem.Spec PyProof.Rows L2 SortR LcM RepA Held
/-! ### the heap without some places -/
def hid (hs : List Addr) (H : Hp) : Hp := fun b => if b ∈ hs then none else H b
/-- all of it stays but at these places -/
def GrS (hs : List Addr) (H H' : Hp) : Prop := ∀ b o, b ∉ hs → H b = some o → H' b = some o
theorem grs_of {p : Addr} {hs : List Addr} {H H' : Hp} (hp : p ∈ hs) (g : Gr p H H') : GrS hs H H' := fun b o n e => g b o (fun z => n (by rw [z]; exact hp)) e
theorem _root_.LcM.Grows.grs {hs : List Addr} {H H' : Hp} (g : Grows H H') : GrS hs H H' := fun b o _ e => g b o e
theorem hid_gr {hs : List Addr} {H H' : Hp} (g : GrS hs H H') : Grows (hid hs H) (hid hs H') := fun b o e => by
  unfold hid at e ⊢
  by_cases z : b ∈ hs
  · rw [if_pos z] at e
    cases e
  · rw [if_neg z] at e ⊢
    exact g b o z e
theorem hid_le {hs : List Addr} {H : Hp} : Grows (hid hs H) H := fun b o e => by
  unfold hid at e
  by_cases z : b ∈ hs
  · rw [if_pos z] at e
    cases e
  · rw [if_neg z] at e
    exact e
theorem hid_less {hs ks : List Addr} {H : Hp} (h : ∀ x ∈ ks, x ∈ hs) : Grows (hid hs H) (hid ks H) := fun b o e => by
  unfold hid at e ⊢
  by_cases z : b ∈ hs
  · rw [if_pos z] at e
    cases e
  · rw [if_neg z] at e
    rw [if_neg fun y => z (h b y)]
    exact e
theorem hid_at {hs : List Addr} {a : Addr} {H : Hp} {o : HO} (e : H a = some o) (n : a ∉ hs) : hid hs H a = some o := by
  unfold hid
  rw [if_neg n]
  exact e
theorem hid_ne {hs : List Addr} {a : Addr} {H : Hp} {o : HO} (e : hid hs H a = some o) : a ∉ hs ∧ H a = some o := by
  unfold hid at e
  by_cases z : a ∈ hs
  · rw [if_pos z] at e
    cases e
  · rw [if_neg z] at e
    exact ⟨z, e⟩
/-- there is something at these places -/
def St (hs : List Addr) (H : Hp) : Prop := ∀ x ∈ hs, ∃ o, H x = some o
theorem St.keep {hs : List Addr} {H H' : Hp} (s : St hs H) (g : Grows H H') : St hs H' := fun x hx => by
  obtain ⟨o, e⟩ := s x hx
  exact ⟨o, g _ _ e⟩
theorem St.ne {hs : List Addr} {q : Addr} {H : Hp} (s : St hs H) (h : H q = none) : q ∉ hs := fun z => by
  obtain ⟨o, e⟩ := s q z
  rw [h] at e
  cases e
/-! ### displays of data -/
def MK (p : List Addr) (Pr : Hp → L2.V → Prop) (σ : L2.St) (te : TE) : Prop := ∀ (H : Hp) (Q : VK), St p H → (∀ v H', Grows H H' → Pr H' v → Q v H') → te σ H Q
def MKs (p : List Addr) (Pr : Hp → L2.V → Prop) (σ : L2.St) (t : TA) (n : Nat) : Prop := ∀ (H : Hp) (R : List L2.V → Hp → Prop), St p H → (∀ vs H', Grows H H' → vs.length = n → (∀ v ∈ vs, Pr H' v) → R vs H') → t σ H R
theorem mks_nil {p : List Addr} {Pr : Hp → L2.V → Prop} {σ : L2.St} : MKs p Pr σ tNil 0 := fun H R _ k => k [] H .refl rfl fun _ h => nomatch h
theorem mks_cons {p : List Addr} {Pr : Hp → L2.V → Prop} {σ : L2.St} {te : TE} {t : TA} {n : Nat} (last : ∀ H H' v, Pr H v → Grows H H' → Pr H' v) (h1 : MK p Pr σ te) (h2 : MKs p Pr σ t n) : MKs p Pr σ (tCons te t) (n + 1) :=
  fun H R b k => h1 H _ b fun v H1 g1 p1 => h2 H1 _ (b.keep g1) fun vs H2 g2 l p2 => k (v :: vs) H2 (g1.trans g2) (congrArg (· + 1) l) fun x hx => by
    rcases List.mem_cons.mp hx with z | z
    · rw [z]
      exact last _ _ _ p1 g2
    · exact p2 x z
theorem mk_map {p : List Addr} {Pr Pr' : Hp → L2.V → Prop} {σ : L2.St} {te : TE} (h : ∀ H v, Pr H v → Pr' H v) (m : MK p Pr σ te) : MK p Pr' σ te := fun H Q b k => m H Q b fun v H' g q => k v H' g (h _ _ q)
abbrev MD (p : List Addr) (K : PySem.W.Frag) (σ : L2.St) (te : TE) (d : PyData) : Prop := MK p (fun H v => Dp K (hid p H) v d) σ te
def MDs (p : List Addr) (K : PySem.W.Frag) (σ : L2.St) (t : TA) (ds : List PyData) : Prop := ∀ (H : Hp) (R : List L2.V → Hp → Prop), St p H → (∀ vs H', Grows H H' → DpAll K (hid p H') vs ds → R vs H') → t σ H R
section
variable {p : List Addr} {K : PySem.W.Frag} {σ : L2.St} {te : TE} {t : TA} {d : PyData} {ds : List PyData}
theorem mds_nil : MDs p K σ tNil [] := fun H R _ k => k [] H .refl .nil
theorem mds_cons (h1 : MD p K σ te d) (h2 : MDs p K σ t ds) : MDs p K σ (tCons te t) (d :: ds) :=
  fun H R b k => h1 H _ b fun v H1 g1 p1 => h2 H1 _ (b.keep g1) fun vs H2 g2 p2 => k (v :: vs) H2 (g1.trans g2) (.cons (Dp.grow (hid_gr g2.grs) p1) p2)
theorem md_non : MD p K σ (tC .non) .none := fun H Q _ k => k _ H .refl .non
theorem md_bl {b : Bool} : MD p K σ (tC (.bl b)) (.bool b) := fun H Q _ k => k _ H .refl (.bl b)
theorem md_int {i : Int} : MD p K σ (tC (.int i)) (.int i) := fun H Q _ k => k _ H .refl (.int i)
theorem md_str {z : Str} : MD p K σ (tC (.str z)) (.str z) := fun H Q _ k => k _ H .refl (.str z)
theorem md_neg {i : Int} : MD p K σ (tUn (rU fun i => .int (-i)) (tC (.int i))) (.int (-i)) := fun H Q _ k => ⟨_, rfl, k _ H .refl (.int _)⟩
theorem md_pow {i j : Int} (h : CPowW i j) : MD p K σ (tOp (rI CPowW fun i j => .int (i ^ j.toNat)) (tC (.int i)) (tC (.int j))) (.int (i ^ j.toNat)) := fun H Q _ k => ⟨_, _, rfl, rfl, h, k _ H .refl (.int _)⟩
theorem md_var {i : Nat} {n : Int} (h : σ[i]? = some (some (.int n))) : MD p K σ (tVar i) (.int n) := fun H Q _ k => ⟨_, h, k _ H .refl (.int n)⟩
theorem md_lst (h : MDs p K σ t ds) (l : ds.length ≤ 1000) : MD p K σ (tLst t) (.list ds) := fun H Q b k => h H _ b fun vs H1 g1 all =>
  ⟨by rw [DpAll.len all]; exact Nat.le_trans l (by decide), fun q hq => k _ _ (g1.trans (Grows.new hq)) (.lst (SqL.of (hid_at upd_same ((b.keep g1).ne hq))) (DpAll.grow (hid_gr (Grows.new hq).grs) all))⟩
theorem md_tup (h : MDs p K σ t ds) (l : ds.length ≤ 1000) : MD p K σ (tTup t) (.tuple ds) := fun H Q b k => h H _ b fun vs H1 g1 all =>
  ⟨by rw [DpAll.len all]; exact Nat.le_trans l (by decide), fun q hq => k _ _ (g1.trans (Grows.new hq)) (.tup (SqT.of (hid_at upd_same ((b.keep g1).ne hq))) (DpAll.grow (hid_gr (Grows.new hq).grs) all))⟩
end
/-! ### what is not too long -/
def limB : PyData → Bool
  | .list ds => decide (ds.length ≤ 1000)
  | _ => true
def lim2B : PyData → Bool
  | .list ds => decide (ds.length ≤ 1000) && ds.all limB
  | _ => true
theorem lim_of {d : PyData} (h : limB d = true) : Lim d := fun ds e => by
  subst e
  exact of_decide_eq_true h
theorem lim2_of {d : PyData} (h : lim2B d = true) : Lim2 d := fun ds e => by
  subst e
  unfold lim2B at h
  rw [Bool.and_eq_true] at h
  exact ⟨of_decide_eq_true h.1, fun x hx => lim_of (List.all_eq_true.mp h.2 x hx)⟩
/-! ### what is no parting -/
theorem NoP.grow {K : PySem.W.Frag} {H H' : Hp} {x : L2.V} (g : Grows H H') (h : NoP K H x) (hx : ∀ t, TyX K H x t → TyX K H' x t) : NoP K H' x := by
  rcases h with ⟨d, hd, l, e⟩ | ⟨t, ty, kt⟩
  · exact .inl ⟨d, Dd.grow g hd, l, e⟩
  · exact .inr ⟨t, hx t ty, kt⟩
/-- no parting, and it stays so -/
def NoL (K : PySem.W.Frag) (C : Addr) (H : Hp) (x : L2.V) : Prop := (∃ d, Dd K H x d ∧ Lim2 d ∧ isPD d = false) ∨ ∃ a dx fs, x = .ref a ∧ H a = some (.ins C dx fs)
theorem NoL.grow {K : PySem.W.Frag} {C : Addr} {H H' : Hp} {x : L2.V} (h : NoL K C H x) (g : Grows H H') : NoL K C H' x := by
  rcases h with ⟨d, hd, l, e⟩ | ⟨a, dx, fs, rfl, e⟩
  · exact .inl ⟨d, Dd.grow g hd, l, e⟩
  · exact .inr ⟨a, dx, fs, rfl, g _ _ e⟩
abbrev sCInit : Stmt := inClass (top 49) 0
/-- the class Company -/
structure CoF (K : PySem.W.Frag) (mg : Str → Option Value) where
  (C fI : Addr)
  dI : FuncData
  FI : Fun K "__init__" "Company.__init__" sCInit fI dI
  bI : Binds K dI ["self"] []
  cl : Cls K C
  nN : NoAttr K C "_now"
  nP : NoAttr K C "_past"
  gC : mg "Company" = some (.ref C)
  made : L2.Mk K C fI
  ca : PySem.W.findIn K (.ref C) "__class__" = some (some (.builtin "object.__class__"))
  cn : PySem.W.specialIn K (.builtin "object.__class__") "__get__" = some (some (.builtin "getset_descriptor.__get__"))
  ct : PySem.W.takesIn K (.builtin "object.__class__") = some true
  cm : PySem.W.mroIn K C (.type "object") = some true
  kl : PySem.W.kitOne K (.ref C) (.type "list") = some false
theorem NoL.noP {K : PySem.W.Frag} {mg : Str → Option Value} (O : CoF K mg) {H : Hp} {x : L2.V} (h : NoL K O.C H x) : NoP K H x := by
  rcases h with h | ⟨a, dx, fs, rfl, e⟩
  · exact .inl h
  · exact .inr ⟨_, .base (.ins e O.cl O.ca O.cn O.ct O.cm), O.kl⟩
def spCInit (C : Addr) : Sp := fun vs H Q _ => ∃ (a dx : Addr), vs = [.ref a] ∧ H a = some (.ins C dx []) ∧ ∀ H', (∀ b o, b ≠ a → H b = some o → H' b = some o) → (∃ dx fs, H' a = some (.ins C dx fs)) → Q .non H'
section
variable {P : Program} {w : World} {K : PySem.W.Frag} {mg : Str → Option Value} {base : Heap}
theorem scCI : FnScope ["self"] ["self"] (defScope sCInit) := ⟨rfl, rfl, rfl, by decide +kernel, rfl, by decide +kernel, by decide +kernel⟩
theorem ok_cinit (O : CoF K mg) : FnOk P w K mg base CX0 1 O.fI O.dI ["self"] (spCInit O.C) := by
  refine O.FI.ok scCI (fun vs H Q E h => ?_) (fun cdv A outer s H vs Q E hr h => ?_)
  · obtain ⟨a, dx, rfl, _⟩ := h
    rfl
  · obtain ⟨a, dx, rfl, ha, k⟩ := h
    refine ⟨_, pss_cons (ps_fld (pv 0) pe_non rfl) (pss_one (ps_fld (pv 0) (pe_lst pa_nil) rfl)), ?_⟩
    refine ⟨_, rfl, a, O.C, dx, [], rfl, ha, O.cl, O.nN, (by show 0 < 1000; decide), (by show 0 ≤ sizeLine; decide), fun z hz => ?_⟩
    have az : a ≠ z := ne_of_none upd_same hz
    refine ⟨_, rfl, a, O.C, dx, _, rfl, (by rw [upd_ne az]; exact upd_same), O.cl, O.nP, (by show 1 < 1000; decide), ?_⟩
    refine k _ (fun b o n e => ?_) ⟨_, _, upd_same⟩
    have bz : b ≠ z := ne_of_none (by rw [upd_ne n]; exact e) hz
    rw [upd_ne n, upd_ne bz, upd_ne n]
    exact e
end
/-! ### chains -/
section
variable {g : TG} {te : TE} {vs : List Nat} {σ : L2.St} {H0 : Hp} {D : Addr} {Qd : Hp → Prop}
theorem lc_chain {n : Nat} (hD : H0 D = none) (small : n ≤ 100)
    (turn : ∀ (i : Nat) (H : Hp) (Ry : L2.V → Hp → Prop), i < n → (∀ q, H q = none → Ry (.ref q) (upd H q (.lst ((upto (i + 2)).map L2.V.int)))) → g (.int (0 + i)) (wipe σ vs) H fun σ2 H2 => wipe σ2 vs = wipe σ vs ∧ te σ2 H2 Ry)
    (done : ∀ H cs, Grows H0 H → cs.map (·.2) = (List.range n).map (fun k => upto (k + 2)) → Rl H D cs → (∀ c ∈ cs, H0 c.1 = none ∧ c.1 ≠ D) → Qd H) :
    ∃ W : Nat → Nat → Hp → Prop, (∃ m, W 0 m (upd H0 D (.lst []))) ∧ ∀ i m H, W i m H →
      ((Itr 0 n).stop i H ∧ Qd H) ∨ ((Itr 0 n).go i H ∧ ∃ Nx : Hp → Prop, (∀ H', Nx H' → ∃ m', m' < m ∧ W (i + 1) m' H') ∧ ∀ x H', (Itr 0 n).yld i H x H' → g x (wipe σ vs) H' fun σ2 H2 => wipe σ2 vs = wipe σ vs ∧ tYes σ2 H2 fun b H3 =>
        if b = true then te σ2 H3 fun y H4 => ∃ acc, H4 D = some (.lst acc) ∧ acc.length < sizeLine ∧ Nx (upd H4 D (.lst (acc ++ [y]))) else Nx H3) := by
  refine lc_range (lo := 0) (n := n) (fun i G => ∃ cs : List (Addr × List Int), Grows H0 G ∧ cs.map (·.2) = (List.range i).map (fun k => upto (k + 2)) ∧ Rl G D cs ∧ ∀ c ∈ cs, H0 c.1 = none ∧ c.1 ≠ D) ⟨[], Grows.new hD, rfl, ⟨upd_same, fun _ h => nomatch h⟩, fun _ h => nomatch h⟩ (fun i G hi ⟨cs, gr, ec, rl, nw⟩ => ?_) fun G ⟨cs, gr, ec, rl, nw⟩ => done G cs gr ec rl nw
  rw [yes_eq (A := fun σ2 => wipe σ2 vs = wipe σ vs)]
  refine turn i G _ hi fun q hq => ?_
  have lc : cs.length = i := by
    have := congrArg List.length ec
    rw [List.length_map, List.length_map, List.length_range] at this
    exact this
  have qD : q ≠ D := (ne_of_none rl.top hq).symm
  have gq : Grows G (upd G q (.lst ((upto (i + 2)).map L2.V.int))) := Grows.new hq
  refine ⟨_, gq _ _ rl.top, ?_, cs ++ [(q, upto (i + 2))], fun b o e => ?_, ?_, ⟨?_, fun c hc => ?_⟩, fun c hc => ?_⟩
  · rw [List.length_map, lc]
    exact Nat.lt_of_le_of_lt (show i ≤ 100 by omega) (by decide)
  · rw [upd_ne (ne_of_none e hD)]
    exact (gr.trans gq) _ _ e
  · rw [List.map_append, ec, List.range_succ, List.map_append]
    rfl
  · rw [upd_same, List.map_append]
    rfl
  · rcases List.mem_append.mp hc with m | m
    · rw [upd_ne (nw c m).2]
      exact gq _ _ (rl.each c m)
    · rw [List.mem_singleton.mp m, upd_ne qD]
      exact upd_same
  · rcases List.mem_append.mp hc with m | m
    · exact nw c m
    · rw [List.mem_singleton.mp m]
      exact ⟨none_back gr hq, qD⟩
end
end K47

namespace K47
open PySem PySem.Spec PyProof.Rows L2 SortR LcM RepA Held
abbrev sBad : Stmt := top 55
/-! ### what can't be a group among n persons -/
theorem grp_as {n : Int} {ds : List PyData} (h : ascI (ds.map toI) = false) : grpD n (.list ds) = false := by
  rw [grpD_list, plistD_list, h, Bool.and_false, Bool.false_and]
theorem grp_sh {n : Int} {ds : List PyData} (h : decide (2 ≤ (ds.length : Int)) = false) : grpD n (.list ds) = false := by
  rw [grpD_list, h, Bool.and_false]
theorem grp_el {n : Int} {ds : List PyData} {i : Nat} {d : PyData} (h : ds[i]? = some d) (no : persD n d = false) : grpD n (.list ds) = false := by
  have z : ds.all (persD n) = false := by
    rw [Bool.eq_false_iff]
    intro t
    have := List.all_eq_true.mp t d (List.mem_of_getElem? h)
    rw [no] at this
    cases this
  rw [grpD_list, plistD_list, z, Bool.false_and, Bool.false_and]
theorem pers_ge {n i : Int} (h : n ≤ i) : persD n (.int i) = false := by
  show (decide (0 ≤ i) && decide (i < n)) = false
  rw [decide_eq_false (show ¬ i < n by omega), Bool.and_false]
theorem pers_lt {n i : Int} (h : i < 0) : persD n (.int i) = false := by
  show (decide (0 ≤ i) && decide (i < n)) = false
  rw [decide_eq_false (show ¬ 0 ≤ i by omega), Bool.false_and]
/-- can't be a group -/
def NoG (p : List Addr) (K : PySem.W.Frag) (n : Int) (H : Hp) (x : L2.V) : Prop := ∃ d, Dp K (hid p H) x d ∧ Lim d ∧ grpD n d = false
theorem ng_last {p : List Addr} {K : PySem.W.Frag} {n : Int} : ∀ H H' v, NoG p K n H v → Grows H H' → NoG p K n H' v := fun H H' v ⟨d, hd, l, e⟩ g => ⟨d, Dp.grow (hid_gr g.grs) hd, l, e⟩
theorem nl_last {p : List Addr} {K : PySem.W.Frag} {C : Addr} : ∀ H H' v, NoL K C (hid p H) v → Grows H H' → NoL K C (hid p H') v := fun H H' v h g => h.grow (hid_gr g.grs)
section
variable {p : List Addr} {K : PySem.W.Frag} {σ : L2.St} {te : TE} {d : PyData} {n : Int} {C : Addr}
theorem ng_md (h : MD p K σ te d) (l : limB d = true) (e : grpD n d = false) : MK p (NoG p K n) σ te := mk_map (fun H v q => ⟨d, q, lim_of l, e⟩) h
theorem nl_md (h : MD p K σ te d) (l : lim2B d = true) (e : isPD d = false) : MK p (fun H v => NoL K C (hid p H) v) σ te := mk_map (fun H v q => .inl ⟨d, .inl q, lim2_of l, e⟩) h
theorem nl_dict : MK p (fun H v => NoL K C (hid p H) v) σ tDNewK := fun H Q b k q hq => k _ _ (Grows.new hq) (.inl ⟨.dict [], .inr ⟨q, rfl, hid_at upd_same (b.ne hq), rfl⟩, (fun ds z => nomatch z), rfl⟩)
theorem nl_comp {E : XK} : MK p (fun H v => NoL K C (hid p H) v) σ (tMake C (spCInit C) [] E tNil) := fun H Q b k x dx hx hdx ne => by
  refine ⟨x, dx, rfl, upd_same, fun H' st hx' => ⟨rfl, ?_⟩⟩
  have g : Grows H H' := fun b o e => by
    have bx : b ≠ x := ne_of_none e hx
    have bd : b ≠ dx := ne_of_none e hdx
    exact st b o bx (by rw [upd_ne bx, upd_ne bd]; exact e)
  obtain ⟨dx', fs, e⟩ := hx'
  exact k _ _ g (.inr ⟨x, dx', fs, rfl, hid_at e (b.ne hx)⟩)
end
theorem dpall_set {K : PySem.W.Frag} {H : Hp} {v : L2.V} {d : PyData} (hd : Dp K H v d) : ∀ {vs : List L2.V} {ds : List PyData} (j : Nat), DpAll K H vs ds → DpAll K H (vs.set j v) (ds.set j d)
  | _, _, _, .nil => .nil
  | _, _, 0, .cons _ b => .cons hd b
  | _, _, j + 1, .cons a b => .cons a (dpall_set hd j b)
theorem rows_dps {K : PySem.W.Frag} {H : Hp} : ∀ {cs : List (Addr × List Int)}, (∀ c ∈ cs, H c.1 = some (.lst (c.2.map L2.V.int))) → DpAll K H (cs.map fun c => L2.V.ref c.1) (cs.map fun c => .list (c.2.map .int))
  | [], _ => .nil
  | c :: cs, h => .cons (.lst (SqL.of (h c List.mem_cons_self)) (rows_dp c.2)) (rows_dps fun x hx => h x (List.mem_cons_of_mem _ hx))
theorem set_no {ds : List PyData} {d : PyData} {j : Nat} (hj : j < ds.length) (no : grpD ((ds.length : Int) + 1) d = false) : isPD (.list (ds.set j d)) = false := by
  rw [isPD_list, List.length_set]
  have z : (ds.set j d).all (grpD ((ds.length : Int) + 1)) = false := by
    rw [Bool.eq_false_iff]
    intro t
    have := List.all_eq_true.mp t d (List.mem_of_getElem? (i := j) (by rw [List.getElem?_set_self hj]))
    rw [no] at this
    cases this
  rw [z, Bool.and_false, Bool.false_and, Bool.false_and]
theorem ixN_nat {n j : Nat} (h : j < n) : ixN n ((j : Nat) : Int) = some j := by
  unfold ixN
  rw [if_pos (by omega), if_pos (by omega)]
  simp
theorem bag_st {H : Hp} {p : Addr} (b : Bag H p) : St [p] H := fun x hx => by
  obtain ⟨_, _, _, _, _, _, e, _⟩ := b
  rw [List.mem_singleton.mp hx]
  exact ⟨_, e⟩
theorem st2 {H : Hp} {p D : Addr} {o : HO} (b : Bag H p) (e : H D = some o) : St [p, D] H := fun x hx => by
  rcases List.mem_cons.mp hx with z | z
  · rw [z]
    exact bag_st b p (List.mem_singleton.mpr rfl)
  · rw [List.mem_singleton.mp z]
    exact ⟨_, e⟩
theorem bag_upd {H : Hp} {p D a : Addr} {xs : List L2.V} {o : HO} (b : Bag H p) (dp : D ≠ p) (e : H D = some (.lst (.ref a :: xs))) : Bag (upd H D o) p := by
  obtain ⟨b0, i, t, s, k, cs, e1, e2, r⟩ := b
  have nb : b0 ≠ D := fun z => by
    rw [z, e] at e2
    cases cs with
    | nil => cases e2
    | cons y ys => cases e2
  exact ⟨b0, i, t, s, k, cs, by rw [upd_ne dp.symm]; exact e1, by rw [upd_ne nb]; exact e2, r⟩
theorem bag_grow {H H' : Hp} {p : Addr} (b : Bag H p) (g : Grows H H') : Bag H' p := by
  obtain ⟨b0, i, t, s, k, cs, e1, e2, r⟩ := b
  exact ⟨b0, i, t, s, k, cs, g _ _ e1, g _ _ e2, r⟩
theorem But.gr {p : Addr} {H H' : Hp} (h : But p H H') : Gr p H H' := fun b o n e => (h b n).trans e
theorem log_small {w : Int} (h0 : 0 < w) (h : w ≤ 100000) : w.natAbs.log2 < 200 := by
  have z : w.natAbs < 2 ^ 64 := by omega
  have := PySem.Flt.log2_lt_of (by decide) z
  omega
/-- a draw from the bag -/
theorem draw_at {p : Addr} {w : Int} {H : Hp} {Q : VK} (b : Bag H p) (w0 : 0 < w) (w1 : w ≤ 100000) (k : ∀ (v : Int) (H' : Hp), 0 ≤ v → v < w → Bag H' p → But p H H' → Q (.int v) H') : spStir [.ref p, .int w] H Q E0 :=
  ⟨p, w, rfl, b, w0, log_small w0 w1, k⟩
theorem seq_lst {p : List Addr} {Pr : Hp → L2.V → Prop} {σ : L2.St} {t : TA} {n i : Nat} {rest : TS} {D : Ends} {H : Hp} (last : ∀ H H' v, Pr H v → Grows H H' → Pr H' v) (A : MKs p Pr σ t n) (l : n ≤ 1000) (st : St p H)
    (k : ∀ vs q H', Grows H H' → H' q = some (.lst vs) → q ∉ p → vs.length = n → (∀ v ∈ vs, Pr H' v) → rest D (σ.set i (some (.ref q))) H') : tSeq (tAsg (tLst t) (gName i)) rest D σ H :=
  A H _ st fun vs H1 g1 l1 n1 => ⟨by rw [l1]; exact Nat.le_trans l (by decide), fun q hq => k vs q _ (g1.trans (Grows.new hq)) upd_same ((st.keep g1).ne hq) l1 fun v hv => last _ _ _ (n1 v hv) (Grows.new hq)⟩
theorem seq_cat {p : List Addr} {a : Addr} {Pr : Hp → L2.V → Prop} {σ : L2.St} {t : TA} {n i j : Nat} {xs : List L2.V} {rest : TS} {D : Ends} {H : Hp} (last : ∀ H H' v, Pr H v → Grows H H' → Pr H' v) (A : MKs p Pr σ t n) (hv : σ[j]? = some (some (.ref a))) (ha : H a = some (.lst xs)) (nx : ∀ v ∈ xs, Pr H v)
    (l : xs.length + n ≤ 1000) (st : St p H)
    (k : ∀ vs q H', Grows H H' → H' q = some (.lst (xs ++ vs)) → q ∉ p → vs.length = n → (∀ v ∈ xs ++ vs, Pr H' v) → rest D (σ.set i (some (.ref q))) H') : tSeq (tAsg (tOp rCat (tVar j) (tLst t)) (gName i)) rest D σ H :=
  ⟨_, hv, A H _ st fun vs H1 g1 l1 n1 => ⟨by rw [l1]; exact Nat.le_trans (show n ≤ 1000 by omega) (by decide), fun q hq => by
    have gq : Grows H1 (upd H1 q (.lst vs)) := Grows.new hq
    refine ⟨a, q, xs, vs, rfl, rfl, (g1.trans gq) _ _ ha, upd_same, by rw [l1]; exact Nat.le_trans l (by decide), fun y hy => ?_⟩
    have gy := gq.trans (Grows.new (o := .lst (xs ++ vs)) hy)
    refine k vs y _ (g1.trans gy) upd_same ((st.keep (g1.trans gq)).ne hy) l1 fun v hv => ?_
    rcases List.mem_append.mp hv with m | m
    · exact last _ _ _ (nx v m) (g1.trans gy)
    · exact last _ _ _ (n1 v m) gy⟩⟩
theorem iteN {A B : Prop} (c : Bool) (h1 : c = true → A) (h2 : c = false → B) : if c = true then A else B := by
  cases c
  · exact h2 rfl
  · exact h1 rfl
def spBad (K : PySem.W.Frag) (C : Addr) : Sp := fun vs H Q _ => ∃ p, vs = [.ref p] ∧ Bag H p ∧ ∀ v H', Bag H' p → Gr p H H' → NoL K C (hid [p] H') v → Q v H'
structure TxtD (K : PySem.W.Frag) (mg : Str → Option Value) (fD : Addr) : Prop where
  gD : mg "_law_draw" = some (.ref fD)
section
variable {P : Program} {w : World} {K : PySem.W.Frag} {mg : Str → Option Value} {base : Heap}
theorem scBad : FnScope ["bag", "odd", "wide", "found", "k", "wrong"] ["bag"] (defScope sBad) := ⟨rfl, rfl, rfl, by decide +kernel, rfl, by decide +kernel, by decide +kernel⟩
theorem ok_bad {f fDraw : Addr} {fd dDraw : FuncData} (F : Fun K "_law_bad_parting" "_law_bad_parting" sBad f fd) (T : TxtP mg) (O : CoF K mg) (GDraw : FnOk P w K mg base CX0 2 fDraw dDraw ["bag", "wide"] spStir) (FDraw : Fun K "_law_draw" "_law_draw" sDraw fDraw dDraw) (gDraw : mg "_law_draw" = some (.ref fDraw)) (bDraw : Binds K dDraw ["bag", "wide"] []) :
    FnOk P w K mg base CX0 3 f fd ["bag"] (spBad K O.C) := by
  have GCI : FnOk P w K mg base CX0 1 O.fI O.dI ["self"] (spCInit O.C) := ok_cinit O
  refine F.ok scBad (fun vs H Q E h => ?_) (fun cdv A outer s H vs Q E hr h => ?_)
  · obtain ⟨p, rfl, _⟩ := h
    rfl
  · obtain ⟨p, rfl, hB, k⟩ := h
    refine ⟨_, (pss_cons (ps_set (i := 1) scBad.nd rfl (.inl rfl) (pe_lst (pa_cons pe_non (pa_cons (pe_tup pa_nil) (pa_cons pe_dnewK (pa_cons pe_int (pa_cons pe_str (pa_cons (pe_lst (pa_cons pe_non pa_nil)) (pa_cons (pe_lst (pa_cons (pe_lst (pa_cons pe_int pa_nil)) pa_nil)) (pa_cons (pe_lst (pa_cons (pe_lst (pa_cons pe_int (pa_cons pe_int pa_nil))) pa_nil)) (pa_cons (pe_lst (pa_cons (pe_lst (pa_cons pe_int (pa_cons pe_int pa_nil))) pa_nil)) (pa_cons (pe_lst (pa_cons (pe_lst (pa_cons pe_bl (pa_cons pe_int pa_nil))) pa_nil)) (pa_cons (pe_lst (pa_cons (pe_tup (pa_cons pe_int (pa_cons pe_int pa_nil))) pa_nil)) (pa_cons (pe_lst (pa_cons (pe_lst (pa_cons pe_int (pa_cons pe_int pa_nil))) (pa_cons (pe_lst (pa_cons pe_int (pa_cons pe_int pa_nil))) pa_nil))) pa_nil))))))))))))))
      (pss_cons (ps_set (i := 1) scBad.nd rfl (.inl rfl) (pe_op op_cat (pv 1) (pe_lst (pa_cons (pe_lst (pa_cons (pe_lst (pa_cons pe_int (pa_cons pe_int pa_nil))) (pa_cons (pe_lst (pa_cons pe_int (pa_cons pe_int pa_nil))) (pa_cons (pe_lst (pa_cons pe_int (pa_cons pe_int (pa_cons pe_int pa_nil)))) pa_nil)))) (pa_cons (pe_lst (pa_cons (pe_lst (pa_cons pe_int (pa_cons pe_int pa_nil))) pa_nil)) (pa_cons (pe_lst (pa_cons (pe_lst (pa_cons pe_int (pa_cons pe_int (pa_cons pe_int pa_nil)))) (pa_cons (pe_lst (pa_cons pe_int (pa_cons pe_int pa_nil))) pa_nil))) (pa_cons (pe_lst (pa_cons (pe_lst (pa_cons pe_int (pa_cons pe_int (pa_cons pe_int pa_nil)))) pa_nil)) (pa_cons (pe_make0 O.made GCI (hr.mono (by decide)) rfl O.gC O.bI .nil pass0) (pa_cons pe_bl pa_nil)))))))))
      (pss_cons (ps_set (i := 1) scBad.nd rfl (.inl rfl) (pe_op op_cat (pv 1) (pe_lst (pa_cons (pe_lst (pa_cons (pe_lst pa_nil) pa_nil)) (pa_cons (pe_lst (pa_cons pe_str pa_nil)) pa_nil)))))
      (pss_cons (ps_if (pt_cmpR op_eq (pe_call GDraw (hr.mono (by decide)) rfl gDraw FDraw.kp bDraw .nil pass0 (pa_cons (pv 0) (pa_cons pe_int pa_nil))) pe_int (nomark _)) (pss_one (ps_ret (pe_ix (r := rIxL K) ix_list (pv 1) (pe_call GDraw (hr.mono (by decide)) rfl gDraw FDraw.kp bDraw .nil pass0 (pa_cons (pv 0) (pa_cons pe_int pa_nil))) (fun _ _ => rfl)))) pss_nil)
      (pss_cons (ps_set (i := 2) scBad.nd rfl (.inl rfl) (pe_op op_add pe_int (pe_call GDraw (hr.mono (by decide)) rfl gDraw FDraw.kp bDraw .nil pass0 (pa_cons (pv 0) (pa_cons pe_int pa_nil)))))
      (pss_cons (ps_setLc (i := 3) (own := [("k", 4)]) (g := gName 4) (tt := tYes) rfl scBad.nd rfl rfl (sw_true rfl rfl rfl (by decide +kernel)) (pi_range1 (by rfl) T.range (pa_cons (pe_op op_sub (pv 2) pe_int) pa_nil)) (blkOk_by (own := [("k", 4)]) (N := ["bag", "odd", "wide", "found", "k", "wrong"]) (sc := defScope sBad) (by decide +kernel)) (fun _ _ _ _ _ => pg_name (i := 4) scBad.nd rfl (Or.inl rfl)) (fun _ _ _ _ _ => pts_nil) (fun _ _ _ _ _ => (pe_listRg rfl (by rfl) T.list (prg_1 (by rfl) T.range (pe_op op_add (pv 4) pe_int)))))
      (pss_cons (ps_set (i := 5) scBad.nd rfl (.inl rfl) (pe_lst (pa_cons pe_non (pa_cons pe_bl (pa_cons (pe_lst (pa_cons pe_int (pa_cons pe_int pa_nil))) (pa_cons (pe_lst pa_nil) (pa_cons (pe_lst (pa_cons pe_int (pa_cons (pv 2) pa_nil))) (pa_cons (pe_lst (pa_cons pe_int (pa_cons (pe_op op_powW pe_int pe_int) pa_nil))) (pa_cons (pe_lst (pa_cons pe_str (pa_cons pe_int pa_nil))) (pa_cons (pe_tup (pa_cons pe_int (pa_cons pe_int pa_nil))) (pa_cons (pe_lst (pa_cons pe_int (pa_cons pe_non pa_nil))) (pa_cons (pe_lst (pa_cons pe_int (pa_cons pe_int pa_nil))) (pa_cons (pe_lst (pa_cons (pe_lst (pa_cons pe_int pa_nil)) (pa_cons pe_int pa_nil))) (pa_cons (pe_lst (pa_cons (pe_un un_neg pe_int) (pa_cons pe_int pa_nil))) pa_nil))))))))))))))
      (pss_cons (ps_asg (pe_ix (r := rIxL K) ix_list (pv 5) (pe_call GDraw (hr.mono (by decide)) rfl gDraw FDraw.kp bDraw .nil pass0 (pa_cons (pv 0) (pa_cons pe_int pa_nil))) (fun _ _ => rfl)) (pg_sub (pv 3) (pe_call GDraw (hr.mono (by decide)) rfl gDraw FDraw.kp bDraw .nil pass0 (pa_cons (pv 0) (pa_cons (pe_op op_sub (pv 2) pe_int) pa_nil))) set_list))
      (pss_one (ps_ret (pv 3))))))))))), ?_⟩
    refine seq_lst (p := [p]) (Pr := fun H v => NoL K O.C (hid [p] H) v) (n := 12) nl_last ((mks_cons nl_last (nl_md md_non (by decide +kernel) (by decide +kernel)) (mks_cons nl_last (nl_md (md_tup mds_nil (Nat.le_of_ble_eq_true rfl)) (by decide +kernel) (by decide +kernel)) (mks_cons nl_last nl_dict (mks_cons nl_last (nl_md md_int (by decide +kernel) (by decide +kernel)) (mks_cons nl_last (nl_md md_str (by decide +kernel) (by decide +kernel)) (mks_cons nl_last (nl_md (md_lst (mds_cons md_non mds_nil) (Nat.le_of_ble_eq_true rfl)) (by decide +kernel) (by decide +kernel)) (mks_cons nl_last (nl_md (md_lst (mds_cons (md_lst (mds_cons md_int mds_nil) (Nat.le_of_ble_eq_true rfl)) mds_nil) (Nat.le_of_ble_eq_true rfl)) (by decide +kernel) (by decide +kernel)) (mks_cons nl_last (nl_md (md_lst (mds_cons (md_lst (mds_cons md_int (mds_cons md_int mds_nil)) (Nat.le_of_ble_eq_true rfl)) mds_nil) (Nat.le_of_ble_eq_true rfl)) (by decide +kernel) (by decide +kernel)) (mks_cons nl_last (nl_md (md_lst (mds_cons (md_lst (mds_cons md_int (mds_cons md_int mds_nil)) (Nat.le_of_ble_eq_true rfl)) mds_nil) (Nat.le_of_ble_eq_true rfl)) (by decide +kernel) (by decide +kernel)) (mks_cons nl_last (nl_md (md_lst (mds_cons (md_lst (mds_cons md_bl (mds_cons md_int mds_nil)) (Nat.le_of_ble_eq_true rfl)) mds_nil) (Nat.le_of_ble_eq_true rfl)) (by decide +kernel) (by decide +kernel)) (mks_cons nl_last (nl_md (md_lst (mds_cons (md_tup (mds_cons md_int (mds_cons md_int mds_nil)) (Nat.le_of_ble_eq_true rfl)) mds_nil) (Nat.le_of_ble_eq_true rfl)) (by decide +kernel) (by decide +kernel)) (mks_cons nl_last (nl_md (md_lst (mds_cons (md_lst (mds_cons md_int (mds_cons md_int mds_nil)) (Nat.le_of_ble_eq_true rfl)) (mds_cons (md_lst (mds_cons md_int (mds_cons md_int mds_nil)) (Nat.le_of_ble_eq_true rfl)) mds_nil)) (Nat.le_of_ble_eq_true rfl)) (by decide +kernel) (by decide +kernel)) mks_nil))))))))))))) (by decide) (bag_st hB) fun vs1 q1 H1 g1 e1 np1 l1 n1 => ?_
    refine seq_cat (p := [p]) (a := q1) (Pr := fun H v => NoL K O.C (hid [p] H) v) (n := 6) nl_last ((mks_cons nl_last (nl_md (md_lst (mds_cons (md_lst (mds_cons md_int (mds_cons md_int mds_nil)) (Nat.le_of_ble_eq_true rfl)) (mds_cons (md_lst (mds_cons md_int (mds_cons md_int mds_nil)) (Nat.le_of_ble_eq_true rfl)) (mds_cons (md_lst (mds_cons md_int (mds_cons md_int (mds_cons md_int mds_nil))) (Nat.le_of_ble_eq_true rfl)) mds_nil))) (Nat.le_of_ble_eq_true rfl)) (by decide +kernel) (by decide +kernel)) (mks_cons nl_last (nl_md (md_lst (mds_cons (md_lst (mds_cons md_int (mds_cons md_int mds_nil)) (Nat.le_of_ble_eq_true rfl)) mds_nil) (Nat.le_of_ble_eq_true rfl)) (by decide +kernel) (by decide +kernel)) (mks_cons nl_last (nl_md (md_lst (mds_cons (md_lst (mds_cons md_int (mds_cons md_int (mds_cons md_int mds_nil))) (Nat.le_of_ble_eq_true rfl)) (mds_cons (md_lst (mds_cons md_int (mds_cons md_int mds_nil)) (Nat.le_of_ble_eq_true rfl)) mds_nil)) (Nat.le_of_ble_eq_true rfl)) (by decide +kernel) (by decide +kernel)) (mks_cons nl_last (nl_md (md_lst (mds_cons (md_lst (mds_cons md_int (mds_cons md_int (mds_cons md_int mds_nil))) (Nat.le_of_ble_eq_true rfl)) mds_nil) (Nat.le_of_ble_eq_true rfl)) (by decide +kernel) (by decide +kernel)) (mks_cons nl_last nl_comp (mks_cons nl_last (nl_md md_bl (by decide +kernel) (by decide +kernel)) mks_nil))))))) rfl e1 n1 (by rw [l1]; decide) ((bag_st hB).keep g1) fun vs2 q2 H2 g2 e2 np2 l2 n2 => ?_
    refine seq_cat (p := [p]) (a := q2) (Pr := fun H v => NoL K O.C (hid [p] H) v) (n := 2) nl_last ((mks_cons nl_last (nl_md (md_lst (mds_cons (md_lst mds_nil (Nat.le_of_ble_eq_true rfl)) mds_nil) (Nat.le_of_ble_eq_true rfl)) (by decide +kernel) (by decide +kernel)) (mks_cons nl_last (nl_md (md_lst (mds_cons md_str mds_nil) (Nat.le_of_ble_eq_true rfl)) (by decide +kernel) (by decide +kernel)) mks_nil))) rfl e2 n2 (by rw [List.length_append, l1, l2]; decide) ((bag_st hB).keep (g1.trans g2)) fun vs3 q3 H3 g3 e3 np3 l3 n3 => ?_
    have g13 := (g1.trans g2).trans g3
    have len20 : (vs1 ++ vs2 ++ vs3).length = 20 := by rw [List.length_append, List.length_append, l1, l2, l3]
    generalize vs1 ++ vs2 ++ vs3 = odd at e3 n3 len20
    refine ⟨_, rfl, p, _, rfl, (bag_grow hB g13), (by decide), log_small (by decide) (by decide), fun v H4 v0 v1 b4 but4 => ⟨rfl, _, rfl, iteN _ (fun _ => ?_) fun _ => ?_⟩⟩
    · refine ⟨_, rfl, _, rfl, p, _, rfl, b4, (by decide), log_small (by decide) (by decide), fun v2 H5 u0 u1 b5 but5 => ?_⟩
      obtain ⟨z, zin, ez⟩ := at_in (xs := odd) u0 (by rw [len20]; exact u1)
      have g35 : Gr p H3 H5 := but4.gr.trans but5.gr
      exact ⟨q3, odd, v2, z, rfl, rfl, SqL.of (g35 _ _ (fun z => np3 (by rw [z]; exact List.mem_singleton.mpr rfl)) e3), ez, k z H5 b5 (g13.gr.trans g35) ((n3 z zin).grow (hid_gr (grs_of (List.mem_singleton.mpr rfl) g35)))⟩
    · refine ⟨_, rfl, p, _, rfl, b4, (by decide), log_small (by decide) (by decide), fun v2 H5 u0 u1 b5 but5 => ⟨_, _, rfl, rfl, ?_⟩⟩
      have g5 : Gr p H H5 := g13.gr.trans (but4.gr.trans but5.gr)
      obtain ⟨m, em⟩ : ∃ m : Nat, (3 + v2 - 1 : Int) = (m : Nat) := ⟨(3 + v2 - 1).toNat, by omega⟩
      refine ⟨_, rfl, _, _, rfl, rfl, _, rfl, by omega, by omega, fun D hD => ?_⟩
      rw [em, Int.toNat_natCast]
      refine lc_chain hD (by omega) (fun i H' Ry hi kR => ?_) fun H6 cs g6 ec rl nw => ?_
      · refine ⟨rfl, _, rfl, _, _, rfl, rfl, _, rfl, .of_le (by decide) (by omega) (by decide) (by omega), fun q hq => ?_⟩
        rw [show (0 + (i : Int) + 2) = 0 + ((i + 2 : Nat) : Int) by omega, upto_V]
        exact kR q hq
      · have b6 := bag_grow b5 g6
        have big30 : (3 + v2 : Int) ≤ 10 ^ (30 : Int).toNat := Int.le_trans (show (3 + v2 : Int) ≤ 1000 by omega) (by decide)
        refine seq_lst (p := [p, D]) (Pr := NoG [p, D] K (3 + v2)) (n := 12) ng_last ((mks_cons ng_last (ng_md md_non rfl rfl) (mks_cons ng_last (ng_md md_bl rfl rfl) (mks_cons ng_last (ng_md (md_lst (mds_cons md_int (mds_cons md_int mds_nil)) (Nat.le_of_ble_eq_true rfl)) rfl (grp_as rfl)) (mks_cons ng_last (ng_md (md_lst mds_nil (Nat.le_of_ble_eq_true rfl)) rfl (grp_sh rfl)) (mks_cons ng_last (ng_md (md_lst (mds_cons md_int (mds_cons (md_var rfl) mds_nil)) (Nat.le_of_ble_eq_true rfl)) rfl (grp_el (i := 1) rfl (pers_ge (Int.le_refl _)))) (mks_cons ng_last (ng_md (md_lst (mds_cons md_int (mds_cons (md_pow ⟨by decide, by decide⟩) mds_nil)) (Nat.le_of_ble_eq_true rfl)) rfl (grp_el (i := 1) rfl (pers_ge big30))) (mks_cons ng_last (ng_md (md_lst (mds_cons md_str (mds_cons md_int mds_nil)) (Nat.le_of_ble_eq_true rfl)) rfl (grp_el (i := 0) rfl rfl)) (mks_cons ng_last (ng_md (md_tup (mds_cons md_int (mds_cons md_int mds_nil)) (Nat.le_of_ble_eq_true rfl)) rfl rfl) (mks_cons ng_last (ng_md (md_lst (mds_cons md_int (mds_cons md_non mds_nil)) (Nat.le_of_ble_eq_true rfl)) rfl (grp_el (i := 1) rfl rfl)) (mks_cons ng_last (ng_md (md_lst (mds_cons md_int (mds_cons md_int mds_nil)) (Nat.le_of_ble_eq_true rfl)) rfl (grp_as rfl)) (mks_cons ng_last (ng_md (md_lst (mds_cons (md_lst (mds_cons md_int mds_nil) (Nat.le_of_ble_eq_true rfl)) (mds_cons md_int mds_nil)) (Nat.le_of_ble_eq_true rfl)) rfl (grp_el (i := 0) rfl rfl)) (mks_cons ng_last (ng_md (md_lst (mds_cons md_neg (mds_cons md_int mds_nil)) (Nat.le_of_ble_eq_true rfl)) rfl (grp_el (i := 0) rfl (pers_lt (by decide)))) mks_nil))))))))))))) (by decide) (st2 b6 rl.top) fun ws q7 H7 g7 e7 np7 l7 n7 => ?_
        refine ⟨_, rfl, _, rfl, p, _, rfl, (bag_grow b6 g7), (by decide), log_small (by decide) (by decide), fun v8 H8 w0 w1 b8 but8 => ?_⟩
        obtain ⟨z, zin, ez⟩ := at_in (xs := ws) w0 (by rw [l7]; exact w1)
        refine ⟨q7, ws, v8, z, rfl, rfl, SqL.of (but8.gr _ _ (fun z => np7 (by rw [z]; exact List.mem_cons_self)) e7), ez, ?_⟩
        have lc : cs.length = m := by
          have := congrArg List.length ec
          rw [List.length_map, List.length_map, List.length_range] at this
          exact this
        have dp : D ≠ p := fun z => (bag_st b5).ne hD (by rw [z]; exact List.mem_singleton.mpr rfl)
        refine ⟨_, rfl, _, rfl, _, rfl, _, _, rfl, rfl, p, _, rfl, b8, (by omega), log_small (by omega) (by omega), fun v9 H9 x0 x1 b9 but9 => ?_⟩
        have g69 : Gr p H6 H9 := g7.gr.trans (but8.gr.trans but9.gr)
        have eD := g69 _ _ dp rl.top
        obtain ⟨j, ej⟩ : ∃ j : Nat, v9 = (j : Nat) := ⟨v9.toNat, by omega⟩
        subst ej
        have jl : j < cs.length := by omega
        refine ⟨D, _, _, j, rfl, rfl, eD, ixN_nat (by rw [List.length_map]; exact jl), _, rfl, ?_⟩
        obtain ⟨d, hd, ld, nd⟩ := n7 z zin
        have lds : (cs.map fun c => PyData.list (c.2.map .int)).length = cs.length := by rw [List.length_map]
        have g79 : GrS [p, D] H7 (upd H9 D (.lst ((cs.map fun c => L2.V.ref c.1).set j z))) := fun b o n e => by
          rw [upd_ne (fun y => n (by rw [y]; exact List.mem_cons_of_mem _ (List.mem_singleton.mpr rfl)))]
          exact (but8.gr.trans but9.gr) b o (fun y => n (by rw [y]; exact List.mem_cons_self)) e
        have hd' := Dp.grow ((hid_gr g79).trans (hid_less (ks := [p]) fun x hx => by rw [List.mem_singleton.mp hx]; exact List.mem_cons_self)) hd
        have rows := rows_dps (K := K) (H := hid [p] (upd H9 D (.lst ((cs.map fun c => L2.V.ref c.1).set j z)))) (cs := cs) fun c hc => by
          have cp : c.1 ≠ p := fun y => (bag_st b5).ne (nw c hc).1 (by rw [y]; exact List.mem_singleton.mpr rfl)
          exact hid_at (by rw [upd_ne (nw c hc).2]; exact g69 _ _ cp (rl.each c hc)) fun y => cp (List.mem_singleton.mp y)
        have top : ∃ a xs, (cs.map fun c => L2.V.ref c.1) = .ref a :: xs := by
          cases cs with
          | nil => exact absurd jl (Nat.not_lt_zero _)
          | cons c0 cr => exact ⟨_, _, rfl⟩
        obtain ⟨a0, xs0, etop⟩ := top
        refine k _ _ (bag_upd b9 dp (by rw [eD, etop])) (fun b o n e => ?_) (.inl ⟨.list ((cs.map fun c => PyData.list (c.2.map .int)).set j d), .inl (.lst (SqL.of (hid_at upd_same fun y => dp (List.mem_singleton.mp y))) (dpall_set hd' j rows)), fun ds eds => ?_, ?_⟩)
        · have e5 := g5 b o n e
          rw [upd_ne (ne_of_none e5 hD)]
          exact g69 _ _ n (g6 _ _ e5)
        · cases eds
          refine ⟨by rw [List.length_set, lds]; omega, fun x hx => ?_⟩
          rcases List.mem_or_eq_of_mem_set hx with y | y
          · obtain ⟨c, hc, rfl⟩ := List.mem_map.mp y
            intro es ees
            cases ees
            rw [List.length_map]
            have : c.2 ∈ (List.range m).map fun k => upto (k + 2) := by
              rw [← ec]
              exact List.mem_map.mpr ⟨c, hc, rfl⟩
            obtain ⟨i0, hi0, e0⟩ := List.mem_map.mp this
            have := List.mem_range.mp hi0
            rw [← e0]
            unfold upto
            rw [List.length_map, List.length_range]
            omega
          · rw [y]
            exact ld
        · refine set_no (by rw [lds]; exact jl) ?_
          rw [lds, lc, show ((m : Nat) : Int) + 1 = 3 + v2 by omega]
          exact nd
end
end K47

namespace K47
open PySem PySem.Spec PyProof.Rows L2 SortR LcM RepA Held
abbrev sEnd : Stmt := top 58
/-! ### what each call is due -/
section
variable {K : PySem.W.Frag} {c : List Addr} {H : Hp} {x : L2.V} {k : Int}
theorem six_of {i : Nat} (h : i < 6) : ∀ j, (some i : Option Nat) = some j → j < 6 := fun j e => by
  cases e
  exact h
theorem six_no : ∀ j, (none : Option Nat) = some j → j < 6 := fun j e => nomatch e
theorem asks_bad0 (h : NoP K H x) : Asks K c 0 x k H (some 0) := ⟨six_of (by decide), fun Q E _ r => .inl ⟨rfl, x, k, rfl, .inl ⟨h, r 0 rfl⟩⟩⟩
theorem asks_bad2 (h : NoP K H x) : Asks K c 2 x k H (some 0) := ⟨six_of (by decide), fun Q E _ r => .inr (.inr (.inl ⟨rfl, x, k, rfl, .inl ⟨h, r 0 rfl⟩⟩))⟩
theorem asks_bad3 (h : NoP K H x) : Asks K c 3 x k H (some 0) := ⟨six_of (by decide), fun Q E _ r => .inr (.inr (.inr (.inl ⟨rfl, x, k, rfl, .inl ⟨h, r 0 rfl⟩⟩)))⟩
theorem asks_bad4 (h : NoP K H x) : Asks K c 4 x k H (some 0) := ⟨six_of (by decide), fun Q E _ r => .inr (.inr (.inr (.inr (.inl ⟨rfl, x, rfl, .inl ⟨h, r 0 rfl⟩⟩))))⟩
theorem asks_bad1 (h : ∃ d, Dd K H x d ∧ isC d = false) : Asks K c 1 x k H (some 1) := ⟨six_of (by decide), fun Q E _ r => .inr (.inl ⟨rfl, x, k, rfl, .inl (by
  obtain ⟨d, hd, e⟩ := h
  exact ⟨d, hd, e, r 1 rfl⟩)⟩)⟩
variable {n : Nat}
theorem lenC (h1 : 1 ≤ n) : ((lotC n).length : Int) + 1 = n := by
  rw [lotC_len]
  omega
theorem asks_0far (h1 : 1 ≤ n) (h : PtA K H x (lotC n)) (out : ¬ (0 ≤ k ∧ k < n)) : Asks K c 0 x k H (some 3) := ⟨six_of (by decide), fun Q E _ r => .inl ⟨rfl, x, k, rfl, .inr ⟨lotC n, h, .inl ⟨by rw [lenC h1]; exact out, r 3 rfl⟩⟩⟩⟩
theorem asks_0one (h : PtA K H x (lotC 1)) : Asks K c 0 x 0 H (some 5) := ⟨six_of (by decide), fun Q E _ r => .inl ⟨rfl, x, 0, rfl, .inr ⟨lotC 1, h, .inr (.inl ⟨rfl, rfl, r 5 rfl⟩)⟩⟩⟩
theorem asks_0in (h1 : 2 ≤ n) (h : PtA K H x (lotC n)) (k0 : 0 ≤ k) (k1 : k < n) : Asks K c 0 x k H none := ⟨six_no, fun Q E f _ => .inl ⟨rfl, x, k, rfl, .inr ⟨lotC n, h, .inr (.inr ⟨k0, by rw [lenC (by omega)]; exact k1, fun z => by have := lotC_len n; rw [z] at this; simp only [List.length_nil] at this; omega, fun q cs H' _ g _ => f rfl _ _ g⟩)⟩⟩⟩
theorem asks_2far (h1 : 1 ≤ n) (h : PtA K H x (lotC n)) (out : ¬ (0 ≤ k ∧ k < n)) : Asks K c 2 x k H (some 3) := ⟨six_of (by decide), fun Q E _ r => .inr (.inr (.inl ⟨rfl, x, k, rfl, .inr ⟨lotC n, h, .inl ⟨by rw [lenC h1]; exact out, r 3 rfl⟩⟩⟩))⟩
theorem asks_2in (h1 : 1 ≤ n) (h2 : n ≤ 20) (h : PtA K H x (lotC n)) (k0 : 0 ≤ k) (k1 : k < n) : Asks K c 2 x k H none := ⟨six_no, fun Q E f _ => .inr (.inr (.inl ⟨rfl, x, k, rfl, .inr ⟨lotC n, h, .inr ⟨k0, by rw [lenC h1]; exact k1, ⟨_, (chain_ok h1 h2).2.1⟩, fun v H' g => f rfl v H' g⟩⟩⟩))⟩
theorem asks_3full (h : PtA K H x (lotC 20)) : Asks K c 3 x k H (some 0) := ⟨six_of (by decide), fun Q E _ r => .inr (.inr (.inr (.inl ⟨rfl, x, k, rfl, .inr ⟨lotC 20, h, .inl ⟨lotC_len 20, r 0 rfl⟩⟩⟩)))⟩
theorem asks_3far (h1 : 1 ≤ n) (h2 : n ≤ 19) (h : PtA K H x (lotC n)) (out : ¬ (-(n : Int) < k ∧ k < n)) : Asks K c 3 x k H (some 4) := ⟨six_of (by decide), fun Q E _ r => .inr (.inr (.inr (.inl ⟨rfl, x, k, rfl, .inr ⟨lotC n, h, .inr (.inl ⟨by rw [lotC_len]; omega, by rw [lenC h1]; exact out, r 4 rfl⟩)⟩⟩)))⟩
theorem asks_3up (h1 : 1 ≤ n) (h2 : n ≤ 19) (h : PtA K H x (lotC n)) : Asks K c 3 x ((n : Int) - 1) H none := ⟨six_no, fun Q E f _ => .inr (.inr (.inr (.inl ⟨rfl, x, _, rfl, .inr ⟨lotC n, h, .inr (.inr ⟨by rw [lotC_len]; omega, by rw [lenC h1]; omega, by rw [lenC h1]; omega, ⟨_, (chain_ok h1 (by omega)).2.1, (enter_ok h1 h2).1⟩, fun v H' g => f rfl v H' g⟩)⟩⟩)))⟩
theorem asks_3down (h1 : 1 ≤ n) (h2 : n ≤ 19) (h : PtA K H x (lotC n)) : Asks K c 3 x (1 - (n : Int)) H none := ⟨six_no, fun Q E f _ => .inr (.inr (.inr (.inl ⟨rfl, x, _, rfl, .inr ⟨lotC n, h, .inr (.inr ⟨by rw [lotC_len]; omega, by rw [lenC h1]; omega, by rw [lenC h1]; omega, ⟨_, (chain_ok h1 (by omega)).2.1, (enter_ok h1 h2).2⟩, fun v H' g => f rfl v H' g⟩)⟩⟩)))⟩
theorem asks_4 (h1 : 1 ≤ n) (h2 : n ≤ 20) (h : PtA K H x (lotC n)) : Asks K c 4 x k H none := ⟨six_no, fun Q E f _ => .inr (.inr (.inr (.inr (.inl ⟨rfl, x, rfl, .inr ⟨lotC n, comC n, h, (chain_ok h1 h2).2.1, fun q js H' g _ => f rfl _ _ g⟩⟩))))⟩
theorem rowC_len (h1 : 1 ≤ n) : ((rowC n).length : Int) + 1 = n := by
  unfold rowC
  rw [List.length_replicate]
  omega
theorem asks_1far {a : Addr} (h1 : 2 ≤ n) (h2 : n ≤ 19) (h : SqL K H a ((rowC n).map L2.V.int)) (out : ¬ (0 ≤ k ∧ k < n)) : Asks K c 1 (.ref a) k H (some 3) := ⟨six_of (by decide), fun Q E _ r => .inr (.inl ⟨rfl, _, k, rfl, .inr ⟨a, rowC n, rfl, h, (row_ok h1 h2).1, (row_ok h1 h2).2.1, .inl ⟨by rw [rowC_len (by omega)]; exact out, r 3 rfl⟩⟩⟩)⟩
theorem asks_1in {a : Addr} (h1 : 2 ≤ n) (h2 : n ≤ 19) (h : SqL K H a ((rowC n).map L2.V.int)) : Asks K c 1 (.ref a) 0 H none := ⟨six_no, fun Q E f _ => .inr (.inl ⟨rfl, _, 0, rfl, .inr ⟨a, rowC n, rfl, h, (row_ok h1 h2).1, (row_ok h1 h2).2.1, .inr (.inr ⟨by decide, by rw [rowC_len (by omega)]; omega, fun z => by have := rowC_len (n := n) (by omega); rw [z] at this; simp only [List.length_nil] at this; omega, (row_ok h1 h2).2.2.1, (row_ok h1 h2).2.2.2, fun v H' g => f rfl v H' g⟩)⟩⟩)⟩
theorem asks_1one {a : Addr} (h : SqL K H a ([].map L2.V.int)) : Asks K c 1 (.ref a) 0 H (some 5) := ⟨six_of (by decide), fun Q E _ r => .inr (.inl ⟨rfl, _, 0, rfl, .inr ⟨a, [], rfl, h, by decide, by rw [pb_isort]; decide +kernel, .inr (.inl ⟨rfl, rfl, r 5 rfl⟩)⟩⟩)⟩
theorem asks_5out {m : Int} (out : ¬ (1 ≤ m ∧ m ≤ 20)) : Asks K c 5 (.int m) k H (some 2) := ⟨six_of (by decide), fun Q E _ r => .inr (.inr (.inr (.inr (.inr (.inl ⟨rfl, m, rfl, .inl ⟨out, r 2 rfl⟩⟩)))))⟩
theorem asks_5in {m : Int} (h1 : 1 ≤ m) (h2 : m ≤ 20) : Asks K c 5 (.int m) k H none := ⟨six_no, fun Q E f _ => .inr (.inr (.inr (.inr (.inr (.inl ⟨rfl, m, rfl, .inr ⟨h1, h2, fun v H' g => f rfl v H' g⟩⟩)))))⟩
theorem asks_6out {m : Int} (out : ¬ (1 ≤ m ∧ m ≤ 20)) : Asks K c 6 (.int m) k H (some 2) := ⟨six_of (by decide), fun Q E _ r => .inr (.inr (.inr (.inr (.inr (.inr ⟨rfl, m, k, rfl, .inl ⟨out, r 2 rfl⟩⟩)))))⟩
theorem asks_6far {m : Int} (h1 : 1 ≤ m) (h2 : m ≤ 20) (out : ¬ (0 ≤ k ∧ k < m)) : Asks K c 6 (.int m) k H (some 3) := ⟨six_of (by decide), fun Q E _ r => .inr (.inr (.inr (.inr (.inr (.inr ⟨rfl, m, k, rfl, .inr ⟨h1, h2, .inl ⟨out, r 3 rfl⟩⟩⟩)))))⟩
theorem asks_6in {m : Int} (h1 : 1 ≤ m) (h2 : m ≤ 20) (k0 : 0 ≤ k) (k1 : k < m) : Asks K c 6 (.int m) k H none := ⟨six_no, fun Q E f _ => .inr (.inr (.inr (.inr (.inr (.inr ⟨rfl, m, k, rfl, .inr ⟨h1, h2, .inr ⟨k0, k1, fun v H' g => f rfl v H' g⟩⟩⟩)))))⟩
end
/-! ### displays of answers -/
def MV (B : Hp → Prop) (σ : L2.St) (te : TE) (v : L2.V) : Prop := ∀ (H : Hp) (Q : VK), B H → (∀ H', Grows H H' → Q v H') → te σ H Q
def MVs (B : Hp → Prop) (σ : L2.St) (t : TA) (vs : List L2.V) : Prop := ∀ (H : Hp) (R : List L2.V → Hp → Prop), B H → (∀ H', Grows H H' → R vs H') → t σ H R
def ML (B : Hp → Prop) (σ : L2.St) (te : TE) (vs : List L2.V) : Prop := ∀ (H : Hp) (Q : VK), B H → (∀ q H', Grows H H' → H' q = some (.lst vs) → Q (.ref q) H') → te σ H Q
def Lasts (B : Hp → Prop) : Prop := ∀ H H', B H → Grows H H' → B H'
section
variable {B : Hp → Prop} {σ : L2.St} {te : TE} {t : TA} {v : L2.V} {vs xs ys : List L2.V}
theorem flat_rep {v : L2.V} : ∀ m, (List.replicate m [v]).flatten = List.replicate m v
  | 0 => rfl
  | m + 1 => by
    rw [List.replicate_succ, List.flatten_cons, List.replicate_succ, flat_rep m]
    rfl
theorem mvs_nil : MVs B σ tNil [] := fun H R _ k => k H .refl
theorem mvs_cons (lb : Lasts B) (h1 : MV B σ te v) (h2 : MVs B σ t vs) : MVs B σ (tCons te t) (v :: vs) := fun H R b k => h1 H _ b fun H1 g1 => h2 H1 _ (lb _ _ b g1) fun H2 g2 => k H2 (g1.trans g2)
theorem mv_c : MV B σ (tC v) v := fun H Q _ k => k H .refl
theorem mv_neg {i : Int} : MV B σ (tUn (rU fun i => .int (-i)) (tC (.int i))) (.int (-i)) := fun H Q _ k => ⟨_, rfl, k H .refl⟩
theorem mv_var {i : Nat} (h : σ[i]? = some (some v)) : MV B σ (tVar i) v := fun H Q _ k => ⟨_, h, k H .refl⟩
theorem mv_sub {i j : Int} {t1 t2 : TE} (lb : Lasts B) (h1 : MV B σ t1 (.int i)) (h2 : MV B σ t2 (.int j)) : MV B σ (tOp (rI0 fun i j => .int (i - j)) t1 t2) (.int (i - j)) := fun H Q b k => h1 H _ b fun H1 g1 => h2 H1 _ (lb _ _ b g1) fun H2 g2 => ⟨_, _, rfl, rfl, k H2 (g1.trans g2)⟩
theorem mv_pow {i j : Int} (h : CPowW i j) : MV B σ (tOp (rI CPowW fun i j => .int (i ^ j.toNat)) (tC (.int i)) (tC (.int j))) (.int (i ^ j.toNat)) := fun H Q _ k => ⟨_, _, rfl, rfl, h, k H .refl⟩
theorem ml_lst (h : MVs B σ t vs) (l : vs.length ≤ 100) : ML B σ (tLst t) vs := fun H Q b k => h H _ b fun H1 g1 => ⟨Nat.le_trans l (by decide), fun q hq => k q _ (g1.trans (Grows.new hq)) upd_same⟩
theorem ml_rep {m : Nat} (l : m ≤ 100) : ML B σ (tOp rRep (tLst (tCons (tC v) tNil)) (tC (.int (m : Nat)))) (List.replicate m v) := fun H Q b k => ⟨(by show 1 ≤ sizeLine; decide), fun q hq => ⟨q, _, [v], rfl, rfl, upd_same, by omega, by omega, by
  rw [Int.toNat_natCast]
  exact Nat.le_trans (show 1 * m ≤ 100 by omega) (by decide), fun y hy => k y _ ((Grows.new hq).trans (Grows.new hy)) (by
    rw [upd_same, Int.toNat_natCast]
    rw [flat_rep])⟩⟩
theorem ml_cat {t1 t2 : TE} (lb : Lasts B) (h1 : ML B σ t1 xs) (h2 : ML B σ t2 ys) (l : xs.length + ys.length ≤ 200) : ML B σ (tOp rCat t1 t2) (xs ++ ys) := fun H Q b k => h1 H _ b fun q1 H1 g1 e1 => h2 H1 _ (lb _ _ b g1) fun q2 H2 g2 e2 =>
  ⟨q1, q2, xs, ys, rfl, rfl, g2 _ _ e1, e2, Nat.le_trans l (by decide), fun y hy => k y _ ((g1.trans g2).trans (Grows.new hy)) upd_same⟩
theorem mv_ask {K : PySem.W.Frag} {c : List Addr} {way k : Int} {tx tk : TE} {Px : Hp → L2.V → Prop} {r : Option Nat} (lb : Lasts B) (hx : ∀ (H : Hp) (Q : VK), B H → (∀ v H', Grows H H' → Px H' v → Q v H') → tx σ H Q) (hk : MV B σ tk (.int k))
    (due : ∀ H0 H v, B H0 → Px H0 v → Grows H0 H → Asks K c way v k H r) : MV B σ (tCall (spAsk K c) [] E0 (tCons (tC (.int way)) (tCons tx (tCons tk tNil)))) (ans r) :=
  fun H Q b kk => hx H _ b fun v H1 g1 p1 => hk H1 _ (lb _ _ b g1) fun H2 g2 => ⟨way, v, k, r, rfl, fun H3 g3 => due _ _ _ (lb _ _ b g1) p1 (g2.trans g3), fun H3 g3 => kk H3 ((g1.trans g2).trans g3)⟩
theorem px_var {i : Nat} (h : σ[i]? = some (some v)) : ∀ (H : Hp) (Q : VK), B H → (∀ w H', Grows H H' → w = v → Q w H') → (tVar i) σ H Q := fun H Q _ k => ⟨_, h, k _ H .refl rfl⟩
theorem px_int {i : Int} : ∀ (H : Hp) (Q : VK), B H → (∀ w H', Grows H H' → w = .int i → Q w H') → (tC (.int i)) σ H Q := fun H Q _ k => k _ H .refl rfl
theorem px_nil : ∀ (H : Hp) (Q : VK), B H → (∀ w H', Grows H H' → (∃ q, w = .ref q ∧ H' q = some (.lst [])) → Q w H') → (tLst tNil) σ H Q := fun H Q _ k => ⟨(by show 0 ≤ sizeLine; decide), fun q hq => k _ _ (Grows.new hq) ⟨q, rfl, upd_same⟩⟩
/-- x = a list that is made -/
theorem seq_ml {i : Nat} {rest : TS} {D : Ends} {H : Hp} (A : ML B σ te vs) (b : B H) (k : ∀ q H', Grows H H' → H' q = some (.lst vs) → rest D (σ.set i (some (.ref q))) H') : tSeq (tAsg te (gName i)) rest D σ H :=
  A H _ b fun q H' g e => k q H' g e
theorem ml_var {i : Nat} {a : Addr} (h : σ[i]? = some (some (.ref a))) (hb : ∀ H, B H → H a = some (.lst vs)) : ML B σ (tVar i) vs := fun H Q b k => ⟨_, h, k a H .refl (hb H b)⟩
/-- if not _law_alike(told, due): return False -/
theorem seq_alike {i : Nat} {a : Addr} {rest : TS} {D : Ends} {H : Hp} (lb : Lasts B) (h : σ[i]? = some (some (.ref a))) (ha : H a = some (.lst vs)) (A : ML B σ te vs) (b : B H) (sc : ∀ v ∈ vs, Sc v) (l : vs.length ≤ 100) (k : ∀ H', Grows H H' → rest D σ H') :
    tSeq (tIfS (tNot (tTest (tCall spA1 [] E0 (tCons (tVar i) (tCons te tNil))))) (tRet (tC (.bl false))) tNext) rest D σ H :=
  ⟨_, h, A H _ b fun q H' g e => .inr ⟨a, q, vs, rfl, g _ _ ha, e, sc, l, fun H2 g2 => ⟨_, rfl, iteF (k H2 (g.trans g2))⟩⟩⟩
end
theorem pt_nil {K : PySem.W.Frag} {H : Hp} {q : Addr} (e : H q = some (.lst [])) : PtA K H (.ref q) (lotC 1) := ⟨⟨q, [], rfl, ⟨SqL.of e, fun _ h => nomatch h⟩, rfl⟩, (chain_ok (by decide) (by decide)).2.2, (chain_ok (by decide) (by decide)).1⟩
theorem pt_chain {K : PySem.W.Frag} {H : Hp} {q : Addr} {cs : List (Addr × List Int)} {n : Nat} (h1 : 1 ≤ n) (h2 : n ≤ 20) (rl : Rl H q cs) (e : cs.map (·.2) = lotC n) : PtA K H (.ref q) (lotC n) := ⟨⟨q, cs, rfl, rl.rw, e⟩, (chain_ok h1 h2).2.2, (chain_ok h1 h2).1⟩
theorem sc_ans : ∀ r, Sc (ans r)
  | none => .inr rfl
  | some i => .inl ⟨_, rfl⟩
section
variable {P : Program} {w : World} {K : PySem.W.Frag} {mg : Str → Option Value} {base : Heap} {c : List Addr}
def spEnd : Sp := fun vs H Q _ => vs = [] ∧ ∀ H', Grows H H' → Q (.bl true) H'
theorem scEnd : FnScope ["told", "full", "k"] [] (defScope sEnd) := ⟨rfl, rfl, rfl, by decide +kernel, rfl, by decide +kernel, by decide +kernel⟩
theorem ok_end {f fAsk fAl : Addr} {fd dAsk dAl : FuncData} (F : Fun K "_law_ends_right" "_law_ends_right" sEnd f fd) (T : TxtP mg) (GAsk : FnOk P w K mg base CX0 10 fAsk dAsk ["way", "lot", "k"] (spAsk K c)) (FAsk : Fun K "_law_asked" "_law_asked" sAsk fAsk dAsk) (gAsk : mg "_law_asked" = some (.ref fAsk)) (bAsk : Binds K dAsk ["way", "lot", "k"] [])
    (GAl : FnOk P w K mg base CX0 3 fAl dAl ["found", "due"] spA1) (FAl : Fun K "_law_alike" "_law_alike" sAlike fAl dAl) (gAl : mg "_law_alike" = some (.ref fAl)) (bAl : Binds K dAl ["found", "due"] []) : FnOk P w K mg base CX0 11 f fd [] spEnd := by
  refine F.ok scEnd (fun vs H Q E h => ?_) (fun cdv A outer s H vs Q E hr h => ?_)
  · obtain ⟨rfl, _⟩ := h
    rfl
  · obtain ⟨rfl, k⟩ := h
    refine ⟨_, (pss_cons (ps_set (i := 0) scEnd.nd rfl (.inl rfl) (pe_lst (pa_cons (pe_call GAsk (hr.mono (by decide)) rfl gAsk FAsk.kp bAsk .nil pass0 (pa_cons pe_int (pa_cons (pe_lst pa_nil) (pa_cons pe_int pa_nil)))) (pa_cons (pe_call GAsk (hr.mono (by decide)) rfl gAsk FAsk.kp bAsk .nil pass0 (pa_cons pe_int (pa_cons (pe_lst pa_nil) (pa_cons pe_int pa_nil)))) (pa_cons (pe_call GAsk (hr.mono (by decide)) rfl gAsk FAsk.kp bAsk .nil pass0 (pa_cons pe_int (pa_cons (pe_lst pa_nil) (pa_cons pe_int pa_nil)))) (pa_cons (pe_call GAsk (hr.mono (by decide)) rfl gAsk FAsk.kp bAsk .nil pass0 (pa_cons pe_int (pa_cons (pe_lst pa_nil) (pa_cons pe_int pa_nil)))) pa_nil))))))
      (pss_cons (ps_set (i := 0) scEnd.nd rfl (.inl rfl) (pe_op op_cat (pv 0) (pe_lst (pa_cons (pe_call GAsk (hr.mono (by decide)) rfl gAsk FAsk.kp bAsk .nil pass0 (pa_cons pe_int (pa_cons (pe_lst pa_nil) (pa_cons pe_int pa_nil)))) pa_nil))))
      (pss_cons (ps_set (i := 0) scEnd.nd rfl (.inl rfl) (pe_op op_cat (pv 0) (pe_lst (pa_cons (pe_call GAsk (hr.mono (by decide)) rfl gAsk FAsk.kp bAsk .nil pass0 (pa_cons pe_int (pa_cons (pe_lst pa_nil) (pa_cons pe_int pa_nil)))) (pa_cons (pe_call GAsk (hr.mono (by decide)) rfl gAsk FAsk.kp bAsk .nil pass0 (pa_cons pe_int (pa_cons (pe_lst pa_nil) (pa_cons (pe_un un_neg pe_int) pa_nil)))) (pa_cons (pe_call GAsk (hr.mono (by decide)) rfl gAsk FAsk.kp bAsk .nil pass0 (pa_cons pe_int (pa_cons (pe_lst pa_nil) (pa_cons pe_int pa_nil)))) (pa_cons (pe_call GAsk (hr.mono (by decide)) rfl gAsk FAsk.kp bAsk .nil pass0 (pa_cons pe_int (pa_cons pe_int (pa_cons pe_int pa_nil)))) pa_nil)))))))
      (pss_cons (ps_if (pt_not (pt_val (pe_call GAl (hr.mono (by decide)) rfl gAl FAl.kp bAl .nil pass0 (pa_cons (pv 0) (pa_cons (pe_lst (pa_cons pe_int (pa_cons pe_int (pa_cons pe_int (pa_cons pe_non (pa_cons pe_non (pa_cons pe_int (pa_cons pe_int (pa_cons pe_non (pa_cons pe_non pa_nil)))))))))) pa_nil))))) (pss_one (ps_ret pe_bl)) pss_nil)
      (pss_cons (ps_setLc (i := 1) (own := [("k", 2)]) (g := gName 2) (tt := tYes) rfl scEnd.nd rfl rfl (sw_true rfl rfl rfl (by decide +kernel)) (pi_range1 (by rfl) T.range (pa_cons pe_int pa_nil)) (blkOk_by (own := [("k", 2)]) (N := ["told", "full", "k"]) (sc := defScope sEnd) (by decide +kernel)) (fun _ _ _ _ _ => pg_name (i := 2) scEnd.nd rfl (Or.inl rfl)) (fun _ _ _ _ _ => pts_nil) (fun _ _ _ _ _ => (pe_listRg rfl (by rfl) T.list (prg_1 (by rfl) T.range (pe_op op_add (pv 2) pe_int)))))
      (pss_cons (ps_set (i := 0) scEnd.nd rfl (.inl rfl) (pe_lst (pa_cons (pe_call GAsk (hr.mono (by decide)) rfl gAsk FAsk.kp bAsk .nil pass0 (pa_cons pe_int (pa_cons (pv 1) (pa_cons pe_int pa_nil)))) (pa_cons (pe_call GAsk (hr.mono (by decide)) rfl gAsk FAsk.kp bAsk .nil pass0 (pa_cons pe_int (pa_cons (pv 1) (pa_cons (pe_un un_neg pe_int) pa_nil)))) (pa_cons (pe_call GAsk (hr.mono (by decide)) rfl gAsk FAsk.kp bAsk .nil pass0 (pa_cons pe_int (pa_cons (pe_slice (r := rSlL K) sl_list (pv 1) po_none (po_some pe_int)) (pa_cons pe_int pa_nil)))) (pa_cons (pe_call GAsk (hr.mono (by decide)) rfl gAsk FAsk.kp bAsk .nil pass0 (pa_cons pe_int (pa_cons (pv 1) (pa_cons pe_int pa_nil)))) pa_nil))))))
      (pss_one (ps_ret (pe_call GAl (hr.mono (by decide)) rfl gAl FAl.kp bAl .nil pass0 (pa_cons (pv 0) (pa_cons (pe_lst (pa_cons pe_int (pa_cons pe_int (pa_cons pe_non (pa_cons pe_non pa_nil))))) pa_nil))))))))))), ?_⟩
    have lb : Lasts (fun _ => True) := fun _ _ _ _ => trivial
    have lbq : ∀ (q : Addr) (vs : List L2.V), Lasts (fun H => H q = some (.lst vs)) := fun q vs _ _ e g => g _ _ e
    have nil0 : ∀ {B : Hp → Prop} {way kk : Int} {tk : TE} {r : Option Nat} {σ : L2.St}, Lasts B → MV B σ tk (.int kk) → (∀ H q, H q = some (.lst []) → Asks K c way (.ref q) kk H r) → MV B σ (tCall (spAsk K c) [] E0 (tCons (tC (.int way)) (tCons (tLst tNil) (tCons tk tNil)))) (ans r) := fun lb hk due =>
      mv_ask (Px := fun H w => ∃ q, w = .ref q ∧ H q = some (.lst [])) lb px_nil hk fun H0 H v _ ⟨q, e, eq⟩ g => by
        subst e
        exact due H q (g _ _ eq)
    refine seq_ml (B := fun _ => True) (vs := [ans (some 5), ans (some 5), ans (some 3), ans none]) (ml_lst (mvs_cons lb (nil0 lb mv_c fun H q e => asks_0one (pt_nil e)) (mvs_cons lb (nil0 lb mv_c fun H q e => asks_1one (SqL.of e)) (mvs_cons lb (nil0 lb mv_c fun H q e => asks_0far (by decide) (pt_nil e) (by decide)) (mvs_cons lb (nil0 lb mv_c fun H q e => asks_2in (by decide) (by decide) (pt_nil e) (by decide) (by decide)) mvs_nil)))) (by decide)) trivial fun q1 H1 g1 e1 => ?_
    refine seq_ml (B := fun H => H q1 = some (.lst [ans (some 5), ans (some 5), ans (some 3), ans none])) (vs := [ans (some 5), ans (some 5), ans (some 3), ans none] ++ [ans none]) (ml_cat (lbq _ _) (ml_var rfl fun H b => b) (ml_lst (mvs_cons (lbq _ _) (nil0 (lbq _ _) mv_c fun H q e => asks_3up (n := 1) (by decide) (by decide) (pt_nil e)) mvs_nil) (by decide)) (by decide)) e1 fun q2 H2 g2' e2 => ?_
    refine seq_ml (B := fun H => H q2 = some (.lst ([ans (some 5), ans (some 5), ans (some 3), ans none] ++ [ans none]))) (vs := [ans (some 5), ans (some 5), ans (some 3), ans none] ++ [ans none] ++ [ans (some 4), ans (some 4), ans none, ans none])
      (ml_cat (lbq _ _) (ml_var rfl fun H b => b) (ml_lst (mvs_cons (lbq _ _) (nil0 (lbq _ _) mv_c fun H q e => asks_3far (n := 1) (by decide) (by decide) (pt_nil e) (by decide)) (mvs_cons (lbq _ _) (nil0 (lbq _ _) mv_neg fun H q e => asks_3far (n := 1) (by decide) (by decide) (pt_nil e) (by decide)) (mvs_cons (lbq _ _) (nil0 (lbq _ _) mv_c fun H q e => asks_4 (by decide) (by decide) (pt_nil e))
        (mvs_cons (lbq _ _) (mv_ask (Px := fun H w => w = .int 1) (lbq _ _) px_int mv_c fun H0 H v _ e g => by subst e; exact asks_6in (by decide) (by decide) (by decide) (by decide)) mvs_nil)))) (by decide)) (by decide)) e2 fun q3 H3 g3 e3 => ?_
    refine seq_alike (B := fun _ => True) lb rfl e3 (ml_lst (mvs_cons lb mv_c (mvs_cons lb mv_c (mvs_cons lb mv_c (mvs_cons lb mv_c (mvs_cons lb mv_c (mvs_cons lb mv_c (mvs_cons lb mv_c (mvs_cons lb mv_c (mvs_cons lb mv_c mvs_nil))))))))) (by decide)) trivial (fun v hv => ?_) (by decide) fun H4 g4 => ?_
    · simp only [List.mem_append, List.mem_cons, List.not_mem_nil, or_false] at hv
      rcases hv with ((rfl | rfl | rfl | rfl) | rfl) | (rfl | rfl | rfl | rfl) <;> exact sc_ans _
    · refine ⟨_, rfl, by decide, by decide, fun D hD => ?_⟩
      refine lc_chain (n := 19) hD (by decide) (fun i H' Ry hi kR => ?_) fun H5 cs g5 ec rl nw => ?_
      · refine ⟨rfl, _, rfl, _, _, rfl, rfl, _, rfl, .of_le (by decide) (by omega) (by decide) (by omega), fun q hq => ?_⟩
        rw [show (0 + (i : Int) + 2) = 0 + ((i + 2 : Nat) : Int) by omega, upto_V]
        exact kR q hq
      · have lbR : Lasts (fun H => Rl H D cs) := fun H H' r g => r.keep g
        have full : ∀ H, Rl H D cs → PtA K H (.ref D) (lotC 20) := fun H r => pt_chain (by decide) (by decide) r ec
        have lc : cs.length = 19 := by
          have := congrArg List.length ec
          rw [List.length_map, List.length_map, List.length_range] at this
          exact this
        refine seq_ml (B := fun H => Rl H D cs) (vs := [ans (some 0), ans (some 0), ans none, ans none]) (ml_lst (mvs_cons lbR (mv_ask (Px := fun H w => w = .ref D) lbR (px_var rfl) mv_c fun H0 H v r e g => by subst e; exact asks_3full (full H (r.keep g))) (mvs_cons lbR (mv_ask (Px := fun H w => w = .ref D) lbR (px_var rfl) mv_neg fun H0 H v r e g => by subst e; exact asks_3full (full H (r.keep g)))
          (mvs_cons lbR (mv_ask (Px := fun H w => PtA K H w (lotC 19)) lbR (fun H Q r kk => ?_) mv_c fun H0 H v r e g => asks_3up (n := 19) (by decide) (by decide) (e.keep g)) (mvs_cons lbR (mv_ask (Px := fun H w => w = .ref D) lbR (px_var rfl) mv_c fun H0 H v r e g => by subst e; exact asks_0in (n := 20) (by decide) (full H (r.keep g)) (by decide) (by decide)) mvs_nil)))) (by decide)) rl fun q6 H6 g6 e6 => ?_
        · refine ⟨_, rfl, 18, rfl, D, _, rfl, SqL.of r.top, fun y hy => kk _ _ (Grows.new hy) ?_⟩
          refine pt_chain (cs := cs.take 18) (by decide) (by decide) ⟨?_, fun z hz => Grows.new hy _ _ (r.each z (List.mem_of_mem_take hz))⟩ ?_
          · rw [upd_same]
            unfold cutV
            rw [HT.sIx_none, show (some (18 : Int)) = some ((18 : Nat) : Int) from rfl, HT.sIx_nat, List.drop_zero, List.length_map, lc, List.map_take]
            rfl
          · rw [List.map_take, ec]
            decide
        · refine ⟨_, rfl, (ml_lst (B := fun _ => True) (mvs_cons lb mv_c (mvs_cons lb mv_c (mvs_cons lb mv_c (mvs_cons lb mv_c mvs_nil)))) (by decide)) H6 _ trivial fun q H' g e => .inr ⟨q6, q, _, rfl, g _ _ e6, e, fun v hv => ?_, by decide, fun H2 g2 => k H2 (g1.trans (g2'.trans (g3.trans (g4.trans (g5.trans (g6.trans (g.trans g2)))))))⟩⟩
          simp only [List.mem_cons, List.not_mem_nil, or_false] at hv
          rcases hv with rfl | rfl | rfl | rfl
          · exact .inl ⟨_, rfl⟩
          · exact .inl ⟨_, rfl⟩
          · exact .inr rfl
          · exact .inr rfl
end
end K47

namespace K47
open PySem PySem.Spec PyProof.Rows L2 SortR LcM RepA Held
abbrev sLaw : Stmt := top 59
def spLaw (K : PySem.W.Frag) : Sp := fun vs H Q _ => ∃ (a : Addr) (ns : List Int), vs = [.ref a] ∧ SqL K H a (ns.map L2.V.int) ∧ ns.length ≤ 63 ∧ ∀ H', Q (.bl true) H'
theorem scLaw : FnScope ["script", "bag", "turn", "bad", "far", "told", "way", "wide", "good", "k", "row", "wrong", "bound"] ["script"] (defScope sLaw) := ⟨rfl, rfl, rfl, by decide +kernel, rfl, by decide +kernel, by decide +kernel⟩
theorem tcons_i {ta : TE} {tr : TA} {σ : L2.St} {H : Hp} {Q : List L2.V → Hp → Prop} (h : ta σ H fun x H1 => tr σ H1 fun xs H2 => Q (x :: xs) H2) : tCons ta tr σ H Q := h
theorem tseq_i {te : TE} {i : Nat} {rest : TS} {D : Ends} {σ : L2.St} {H : Hp} (h : te σ H fun x H1 => rest D (σ.set i (some x)) H1) : tSeq (tAsg te (gName i)) rest D σ H := h
theorem tnext_i {D : Ends} {σ : L2.St} {H : Hp} (h : D.nx σ H) : tNext D σ H := h
theorem tif_i {te : TE} {rest : TS} {D : Ends} {σ : L2.St} {H : Hp} (h : te σ H fun v H1 => ∃ c, v = .bl c ∧ if (!c) = true then tRet (tC (.bl false)) { D with nx := rest D } σ H1 else rest D σ H1) : tSeq (tIfS (tNot (tB te)) (tRet (tC (.bl false))) tNext) rest D σ H := h
theorem top_i {r : R2} {ta tb : TE} {σ : L2.St} {H : Hp} {Q : VK} (h : ta σ H fun x H1 => tb σ H1 fun y H2 => r x y H2 Q) : tOp r ta tb σ H Q := h
theorem mv_askV {K : PySem.W.Frag} {c : List Addr} {B : Hp → Prop} {σ : L2.St} {i : Nat} {x : L2.V} {way k : Int} {tk : TE} {r : Option Nat} (lb : Lasts B) (h : σ[i]? = some (some x)) (hk : MV B σ tk (.int k)) (due : ∀ H, B H → Asks K c way x k H r) : MV B σ (tCall (spAsk K c) [] E0 (tCons (tC (.int way)) (tCons (tVar i) (tCons tk tNil)))) (ans r) :=
  mv_ask (Px := fun H w => w = x) lb (px_var h) hk fun H0 H v b e g => by
    subst e
    exact due H (lb _ _ b g)
theorem ml_repE {B : Hp → Prop} {σ : L2.St} {v : L2.V} {te : TE} {m : Nat} (h : MV B σ te (.int (m : Nat))) (lb : Lasts B) (l : m ≤ 100) : ML B σ (tOp rRep (tLst (tCons (tC v) tNil)) te) (List.replicate m v) := fun H Q b k => ⟨(by show 1 ≤ sizeLine; decide), fun q hq => h _ _ (lb _ _ b (Grows.new hq)) fun H1 g1 => ⟨q, _, [v], rfl, rfl, g1 _ _ upd_same, by omega, by omega, by
  rw [Int.toNat_natCast]
  exact Nat.le_trans (show 1 * m ≤ 100 by omega) (by decide), fun y hy => k y _ (((Grows.new hq).trans g1).trans (Grows.new hy)) (by
    rw [upd_same, Int.toNat_natCast]
    rw [flat_rep])⟩⟩
/-- if not _law_alike(told, due): return False, at the end -/
theorem one_alike {B : Hp → Prop} {σ : L2.St} {te : TE} {vs : List L2.V} {i : Nat} {a : Addr} {D : Ends} {H : Hp} (h : σ[i]? = some (some (.ref a))) (ha : H a = some (.lst vs)) (A : ML B σ te vs) (b : B H) (sc : ∀ v ∈ vs, Sc v) (l : vs.length ≤ 100) (k : ∀ H', Grows H H' → D.nx σ H') :
    tIfS (tNot (tTest (tCall spA1 [] E0 (tCons (tVar i) (tCons te tNil))))) (tRet (tC (.bl false))) tNext D σ H :=
  ⟨_, h, A H _ b fun q H' g e => .inr ⟨a, q, vs, rfl, g _ _ ha, e, sc, l, fun H2 g2 => ⟨_, rfl, iteF (k H2 (g.trans g2))⟩⟩⟩
theorem dpall_rep {K : PySem.W.Frag} {H : Hp} {i : Int} {vs : List L2.V} {ds : List PyData} (z : DpAll K H vs ds) : ∀ m, DpAll K H (List.replicate m (.int i) ++ vs) (List.replicate m (.int i) ++ ds)
  | 0 => z
  | m + 1 => .cons (.int i) (dpall_rep z m)
section
variable {p : List Addr} {K : PySem.W.Frag} {σ : L2.St}
theorem md_rep {m : Nat} {i : Int} (l : m ≤ 100) : MD p K σ (tOp rRep (tLst (tCons (tC (.int i)) tNil)) (tC (.int (m : Nat)))) (.list (List.replicate m (.int i))) := fun H Q b k => ⟨(by show 1 ≤ sizeLine; decide), fun q hq => ⟨q, _, [.int i], rfl, rfl, upd_same, by omega, by omega, by
  rw [Int.toNat_natCast]
  exact Nat.le_trans (show 1 * m ≤ 100 by omega) (by decide), fun y hy => k _ _ ((Grows.new hq).trans (Grows.new hy)) (by
    have r := dpall_rep (K := K) (H := hid p (upd (upd H q (.lst [.int i])) y (.lst (List.replicate ((m : Nat) : Int).toNat [L2.V.int i]).flatten))) (i := i) .nil m
    rw [List.append_nil, List.append_nil] at r
    refine .lst (SqL.of (hid_at ?_ ((b.keep (Grows.new hq)).ne hy))) r
    rw [upd_same, Int.toNat_natCast, flat_rep])⟩⟩
theorem md_repn {m : Nat} {i : Int} (l : m ≤ 100) : MD p K σ (tOp rCat (tOp rRep (tLst (tCons (tC (.int i)) tNil)) (tC (.int (m : Nat)))) (tLst (tCons (tC .non) tNil))) (.list (List.replicate m (.int i) ++ [.none])) := fun H Q b k => ⟨(by show 1 ≤ sizeLine; decide), fun q hq => ⟨q, _, [.int i], rfl, rfl, upd_same, by omega, by omega, by
  rw [Int.toNat_natCast]
  exact Nat.le_trans (show 1 * m ≤ 100 by omega) (by decide), fun y hy => ⟨(by show 1 ≤ sizeLine; decide), fun z hz => ⟨y, z, _, _, rfl, rfl, Grows.new hz _ _ upd_same, upd_same, by
    rw [Int.toNat_natCast, flat_rep, List.length_replicate]
    exact Nat.le_trans (show m + 1 ≤ 101 by omega) (by decide), fun u hu => k _ _ (((Grows.new hq).trans (Grows.new hy)).trans ((Grows.new hz).trans (Grows.new hu))) (by
    have bu := (b.keep (((Grows.new hq).trans (Grows.new (o := .lst (List.replicate ((m : Nat) : Int).toNat [L2.V.int i]).flatten) hy)).trans (Grows.new (o := .lst [.non]) hz))).ne hu
    refine .lst (SqL.of (hid_at upd_same bu)) ?_
    rw [Int.toNat_natCast, flat_rep]
    exact dpall_rep (.cons .non .nil) m)⟩⟩⟩⟩
end
/-- no item of a coming list, or the parting itself -/
def NoC (p : List Addr) (K : PySem.W.Frag) (g : L2.V) (H : Hp) (v : L2.V) : Prop := v = g ∨ ∃ d, Dd K (hid p H) v d ∧ isC d = false
theorem nc_last {p : List Addr} {K : PySem.W.Frag} {g : L2.V} : ∀ H H' v, NoC p K g H v → Grows H H' → NoC p K g H' v := fun H H' v h s => by
  rcases h with e | ⟨d, hd, e⟩
  · exact .inl e
  · exact .inr ⟨d, Dd.grow (hid_gr s.grs) hd, e⟩
theorem nc_md {p : List Addr} {K : PySem.W.Frag} {g : L2.V} {σ : L2.St} {te : TE} {d : PyData} (h : MD p K σ te d) (e : isC d = false) : MK p (NoC p K g) σ te := mk_map (fun H v q => .inr ⟨d, .inl q, e⟩) h
theorem nc_dict {p : List Addr} {K : PySem.W.Frag} {g : L2.V} {σ : L2.St} : MK p (NoC p K g) σ tDNewK := fun H Q b k q hq => k _ _ (Grows.new hq) (.inr ⟨.dict [], .inr ⟨q, rfl, hid_at upd_same (b.ne hq), rfl⟩, rfl⟩)
theorem nc_var {p : List Addr} {K : PySem.W.Frag} {g : L2.V} {σ : L2.St} {i : Nat} (h : σ[i]? = some (some g)) : MK p (NoC p K g) σ (tVar i) := fun H Q b k => ⟨_, h, k _ H .refl (.inl rfl)⟩
theorem good_noC {ds : List PyData} {es : List PyData} : isC (.list (.list es :: ds)) = false := by
  have z : ((List.range (PyData.list es :: ds).length).all fun i => itemOk i ((PyData.list es :: ds).getD i .none)) = false := by
    rw [Bool.eq_false_iff]
    intro t
    exact absurd (List.all_eq_true.mp t 0 (List.mem_range.mpr (Nat.succ_pos _))) (by
      intro z
      cases z)
  rw [isC_list, z, Bool.and_false]
theorem ne_bag {H : Hp} {p q : Addr} {i : Int} {xs : List L2.V} (b : Bag H p) (e : H q = some (.lst (.int i :: xs))) : q ≠ p := fun y => by
  obtain ⟨b0, i0, t0, s0, k0, cs0, e1, _⟩ := b
  unfold bagL at e1
  rw [y, e1] at e
  cases e
section
variable {P : Program} {w : World} {K : PySem.W.Frag} {mg : Str → Option Value} {base : Heap} {c : List Addr}
theorem ok_law {f fAsk fAl fDraw fBad fBag fEnd : Addr} {fd dAsk dAl dDraw dBad dBag dEnd : FuncData} (F : Fun K "law" "law" sLaw f fd) (T : TxtP mg) (O : CoF K mg)
    (GAsk : FnOk P w K mg base CX0 10 fAsk dAsk ["way", "lot", "k"] (spAsk K c)) (FAsk : Fun K "_law_asked" "_law_asked" sAsk fAsk dAsk) (gAsk : mg "_law_asked" = some (.ref fAsk)) (bAsk : Binds K dAsk ["way", "lot", "k"] [])
    (GAl : FnOk P w K mg base CX0 3 fAl dAl ["found", "due"] spA1) (FAl : Fun K "_law_alike" "_law_alike" sAlike fAl dAl) (gAl : mg "_law_alike" = some (.ref fAl)) (bAl : Binds K dAl ["found", "due"] [])
    (GDraw : FnOk P w K mg base CX0 2 fDraw dDraw ["bag", "wide"] spStir) (FDraw : Fun K "_law_draw" "_law_draw" sDraw fDraw dDraw) (gDraw : mg "_law_draw" = some (.ref fDraw)) (bDraw : Binds K dDraw ["bag", "wide"] [])
    (GBad : FnOk P w K mg base CX0 3 fBad dBad ["bag"] (spBad K O.C)) (FBad : Fun K "_law_bad_parting" "_law_bad_parting" sBad fBad dBad) (gBad : mg "_law_bad_parting" = some (.ref fBad)) (bBad : Binds K dBad ["bag"] [])
    (GBag : FnOk P w K mg base CX0 1 fBag dBag ["script"] (spBag K)) (FBag : Fun K "_law_bag" "_law_bag" sBag fBag dBag) (gBag : mg "_law_bag" = some (.ref fBag)) (bBag : Binds K dBag ["script"] [])
    (GEnd : FnOk P w K mg base CX0 11 fEnd dEnd [] spEnd) (FEnd : Fun K "_law_ends_right" "_law_ends_right" sEnd fEnd dEnd) (gEnd : mg "_law_ends_right" = some (.ref fEnd)) (bEnd : Binds K dEnd [] []) :
    FnOk P w K mg base CX0 12 f fd ["script"] (spLaw K) := by
  refine F.ok scLaw (fun vs H Q E h => ?_) (fun cdv A outer s H vs Q E hr h => ?_)
  · obtain ⟨a, ns, rfl, _⟩ := h
    rfl
  · obtain ⟨a, ns, rfl, hS, hl, k⟩ := h
    refine ⟨_, (pss_cons (ps_set (i := 1) scLaw.nd rfl (.inl rfl) (pe_call GBag (hr.mono (by decide)) rfl gBag FBag.kp bBag .nil pass0 (pa_cons (pv 0) pa_nil)))
      (pss_cons (ps_for PassesOwn.never rfl (pi_range1 (by rfl) T.range (pa_cons pe_int pa_nil)) (pg_name (i := 2) scLaw.nd rfl (.inl rfl))
      (pss_cons (ps_asg (pe_tup (pa_cons (pe_call GBad (hr.mono (by decide)) rfl gBad FBad.kp bBad .nil pass0 (pa_cons (pv 1) pa_nil)) (pa_cons (pe_ix (r := rIxL K) ix_list (pe_lst (pa_cons (pe_un un_neg pe_int) (pa_cons pe_int (pa_cons (pe_op op_powW pe_int pe_int) (pa_cons (pe_op op_sub pe_int (pe_op op_powW pe_int pe_int)) pa_nil))))) (pe_call GDraw (hr.mono (by decide)) rfl gDraw FDraw.kp bDraw .nil pass0 (pa_cons (pv 1) (pa_cons pe_int pa_nil))) (fun _ _ => rfl)) pa_nil))) (pg_tup (by rfl) (pgs_cons (pg_name (i := 3) scLaw.nd rfl (.inr rfl)) (pgs_cons (pg_name (i := 4) scLaw.nd rfl (.inr rfl)) pgs_nil))))
      (pss_cons (ps_setLc (i := 5) (own := [("way", 6)]) (g := gName 6) (tt := tYes) rfl scLaw.nd rfl rfl (sw_true rfl rfl rfl (by decide +kernel)) (pi_tup (pe_tup (pa_cons pe_int (pa_cons pe_int (pa_cons pe_int (pa_cons pe_int pa_nil)))))) (blkOk_by (own := [("way", 6)]) (N := ["script", "bag", "turn", "bad", "far", "told", "way", "wide", "good", "k", "row", "wrong", "bound"]) (sc := defScope sLaw) (by decide +kernel)) (fun _ _ _ _ _ => pg_name (i := 6) scLaw.nd rfl (Or.inl rfl)) (fun _ _ _ _ _ => pts_nil) (fun _ _ _ _ _ => (pe_call GAsk (hr.mono (by decide)) rfl gAsk FAsk.kp bAsk .nil pass0 (pa_cons (pv 6) (pa_cons (pv 3) (pa_cons (pv 4) pa_nil))))))
      (pss_cons (ps_if (pt_not (pt_val (pe_call GAl (hr.mono (by decide)) rfl gAl FAl.kp bAl .nil pass0 (pa_cons (pv 5) (pa_cons (pe_op op_rep (pe_lst (pa_cons pe_int pa_nil)) pe_int) pa_nil))))) (pss_one (ps_ret pe_bl)) pss_nil)
      (pss_cons (ps_set (i := 7) scLaw.nd rfl (.inl rfl) (pe_op op_add pe_int (pe_call GDraw (hr.mono (by decide)) rfl gDraw FDraw.kp bDraw .nil pass0 (pa_cons (pv 1) (pa_cons pe_int pa_nil)))))
      (pss_cons (ps_par (i := 8) (j := 10) (by rfl) scLaw.nd rfl rfl (by decide) rfl rfl (pa_cons (pe_lc (own := [("k", 9)]) (g := gName 9) (tt := tYes) rfl scLaw.nd (pi_range1 (by rfl) T.range (pa_cons (pe_op op_sub (pv 7) pe_int) pa_nil)) (blkOk_by (own := [("k", 9)]) (N := ["script", "bag", "turn", "bad", "far", "told", "way", "wide", "good", "k", "row", "wrong", "bound"]) (sc := defScope sLaw) (by decide +kernel)) (fun _ _ _ _ _ => pg_name (i := 9) scLaw.nd rfl (Or.inl rfl)) (fun _ _ _ _ _ => pts_nil) (fun _ _ _ _ _ => (pe_listRg rfl (by rfl) T.list (prg_1 (by rfl) T.range (pe_op op_add (pv 9) pe_int))))) (pa_cons (pe_op op_rep (pe_lst (pa_cons pe_int pa_nil)) (pe_op op_sub (pv 7) pe_int)) pa_nil)) (by rfl))
      (pss_cons (ps_set (i := 5) scLaw.nd rfl (.inl rfl) (pe_lst (pa_cons (pe_call GAsk (hr.mono (by decide)) rfl gAsk FAsk.kp bAsk .nil pass0 (pa_cons pe_int (pa_cons (pv 8) (pa_cons (pv 4) pa_nil)))) (pa_cons (pe_call GAsk (hr.mono (by decide)) rfl gAsk FAsk.kp bAsk .nil pass0 (pa_cons pe_int (pa_cons (pv 10) (pa_cons (pv 4) pa_nil)))) (pa_cons (pe_call GAsk (hr.mono (by decide)) rfl gAsk FAsk.kp bAsk .nil pass0 (pa_cons pe_int (pa_cons (pv 8) (pa_cons (pv 4) pa_nil)))) (pa_cons (pe_call GAsk (hr.mono (by decide)) rfl gAsk FAsk.kp bAsk .nil pass0 (pa_cons pe_int (pa_cons (pv 8) (pa_cons (pv 7) pa_nil)))) pa_nil))))))
      (pss_cons (ps_set (i := 5) scLaw.nd rfl (.inl rfl) (pe_op op_cat (pv 5) (pe_lst (pa_cons (pe_call GAsk (hr.mono (by decide)) rfl gAsk FAsk.kp bAsk .nil pass0 (pa_cons pe_int (pa_cons (pv 10) (pa_cons (pv 7) pa_nil)))) (pa_cons (pe_call GAsk (hr.mono (by decide)) rfl gAsk FAsk.kp bAsk .nil pass0 (pa_cons pe_int (pa_cons (pv 8) (pa_cons (pv 7) pa_nil)))) (pa_cons (pe_call GAsk (hr.mono (by decide)) rfl gAsk FAsk.kp bAsk .nil pass0 (pa_cons pe_int (pa_cons (pv 8) (pa_cons (pv 7) pa_nil)))) pa_nil))))))
      (pss_cons (ps_set (i := 5) scLaw.nd rfl (.inl rfl) (pe_op op_cat (pv 5) (pe_lst (pa_cons (pe_call GAsk (hr.mono (by decide)) rfl gAsk FAsk.kp bAsk .nil pass0 (pa_cons pe_int (pa_cons (pv 8) (pa_cons (pe_op op_sub pe_int (pv 7)) pa_nil)))) (pa_cons (pe_call GAsk (hr.mono (by decide)) rfl gAsk FAsk.kp bAsk .nil pass0 (pa_cons pe_int (pa_cons (pv 8) (pa_cons (pe_op op_powW pe_int pe_int) pa_nil)))) pa_nil)))))
      (pss_cons (ps_if (pt_not (pt_val (pe_call GAl (hr.mono (by decide)) rfl gAl FAl.kp bAl .nil pass0 (pa_cons (pv 5) (pa_cons (pe_op op_cat (pe_op op_rep (pe_lst (pa_cons pe_int pa_nil)) pe_int) (pe_op op_rep (pe_lst (pa_cons pe_int pa_nil)) pe_int)) pa_nil))))) (pss_one (ps_ret pe_bl)) pss_nil)
      (pss_cons (ps_set (i := 5) scLaw.nd rfl (.inl rfl) (pe_lst (pa_cons (pe_call GAsk (hr.mono (by decide)) rfl gAsk FAsk.kp bAsk .nil pass0 (pa_cons pe_int (pa_cons (pv 8) (pa_cons (pe_op op_sub (pv 7) pe_int) pa_nil)))) (pa_cons (pe_call GAsk (hr.mono (by decide)) rfl gAsk FAsk.kp bAsk .nil pass0 (pa_cons pe_int (pa_cons (pv 10) (pa_cons pe_int pa_nil)))) (pa_cons (pe_call GAsk (hr.mono (by decide)) rfl gAsk FAsk.kp bAsk .nil pass0 (pa_cons pe_int (pa_cons (pv 8) (pa_cons pe_int pa_nil)))) pa_nil)))))
      (pss_cons (ps_set (i := 5) scLaw.nd rfl (.inl rfl) (pe_op op_cat (pv 5) (pe_lst (pa_cons (pe_call GAsk (hr.mono (by decide)) rfl gAsk FAsk.kp bAsk .nil pass0 (pa_cons pe_int (pa_cons (pv 8) (pa_cons (pe_op op_sub (pv 7) pe_int) pa_nil)))) pa_nil))))
      (pss_cons (ps_set (i := 5) scLaw.nd rfl (.inl rfl) (pe_op op_cat (pv 5) (pe_lst (pa_cons (pe_call GAsk (hr.mono (by decide)) rfl gAsk FAsk.kp bAsk .nil pass0 (pa_cons pe_int (pa_cons (pv 8) (pa_cons (pe_op op_sub pe_int (pv 7)) pa_nil)))) (pa_cons (pe_call GAsk (hr.mono (by decide)) rfl gAsk FAsk.kp bAsk .nil pass0 (pa_cons pe_int (pa_cons (pv 8) (pa_cons pe_int pa_nil)))) pa_nil)))))
      (pss_cons (ps_if (pt_not (pt_val (pe_call GAl (hr.mono (by decide)) rfl gAl FAl.kp bAl .nil pass0 (pa_cons (pv 5) (pa_cons (pe_op op_rep (pe_lst (pa_cons pe_non pa_nil)) pe_int) pa_nil))))) (pss_one (ps_ret pe_bl)) pss_nil)
      (pss_cons (ps_set (i := 11) scLaw.nd rfl (.inl rfl) (pe_lst (pa_cons pe_non (pa_cons (pe_tup pa_nil) (pa_cons (pe_lst (pa_cons pe_int pa_nil)) (pa_cons (pe_lst (pa_cons pe_bl pa_nil)) (pa_cons (pe_lst (pa_cons pe_int (pa_cons pe_int pa_nil))) (pa_cons (pe_lst (pa_cons pe_int (pa_cons (pe_un un_neg pe_int) pa_nil))) (pa_cons (pe_lst (pa_cons pe_str pa_nil)) (pa_cons (pe_lst (pa_cons pe_non pa_nil)) (pa_cons (pe_op op_rep (pe_lst (pa_cons pe_int pa_nil)) pe_int) (pa_cons (pe_op op_cat (pe_op op_rep (pe_lst (pa_cons pe_int pa_nil)) pe_int) (pe_lst (pa_cons pe_non pa_nil))) pa_nil))))))))))))
      (pss_cons (ps_set (i := 11) scLaw.nd rfl (.inl rfl) (pe_op op_cat (pv 11) (pe_lst (pa_cons pe_dnewK (pa_cons (pe_lst (pa_cons (pe_lst (pa_cons pe_int pa_nil)) pa_nil)) (pa_cons pe_str (pa_cons (pv 8) pa_nil)))))))
      (pss_cons (ps_if (pt_not (pt_val (pe_call GAl (hr.mono (by decide)) rfl gAl FAl.kp bAl .nil pass0 (pa_cons (pe_call GAsk (hr.mono (by decide)) rfl gAsk FAsk.kp bAsk .nil pass0 (pa_cons pe_int (pa_cons (pe_ix (r := rIxL K) ix_list (pv 11) (pe_call GDraw (hr.mono (by decide)) rfl gDraw FDraw.kp bDraw .nil pass0 (pa_cons (pv 1) (pa_cons pe_int pa_nil))) (fun _ _ => rfl)) (pa_cons (pv 4) pa_nil)))) (pa_cons pe_int pa_nil))))) (pss_one (ps_ret pe_bl)) pss_nil)
      (pss_cons (ps_set (i := 12) scLaw.nd rfl (.inl rfl) (pe_ix (r := rIxL K) ix_list (pe_lst (pa_cons pe_int (pa_cons (pe_un un_neg pe_int) (pa_cons pe_int (pa_cons (pe_op op_powW pe_int pe_int) pa_nil))))) (pe_call GDraw (hr.mono (by decide)) rfl gDraw FDraw.kp bDraw .nil pass0 (pa_cons (pv 1) (pa_cons pe_int pa_nil))) (fun _ _ => rfl)))
      (pss_cons (ps_set (i := 5) scLaw.nd rfl (.inl rfl) (pe_lst (pa_cons (pe_call GAsk (hr.mono (by decide)) rfl gAsk FAsk.kp bAsk .nil pass0 (pa_cons pe_int (pa_cons (pv 12) (pa_cons pe_int pa_nil)))) (pa_cons (pe_call GAsk (hr.mono (by decide)) rfl gAsk FAsk.kp bAsk .nil pass0 (pa_cons pe_int (pa_cons (pv 12) (pa_cons (pv 4) pa_nil)))) (pa_cons (pe_call GAsk (hr.mono (by decide)) rfl gAsk FAsk.kp bAsk .nil pass0 (pa_cons pe_int (pa_cons (pv 7) (pa_cons (pv 4) pa_nil)))) (pa_cons (pe_call GAsk (hr.mono (by decide)) rfl gAsk FAsk.kp bAsk .nil pass0 (pa_cons pe_int (pa_cons (pv 7) (pa_cons (pv 7) pa_nil)))) pa_nil))))))
      (pss_cons (ps_set (i := 5) scLaw.nd rfl (.inl rfl) (pe_op op_cat (pv 5) (pe_lst (pa_cons (pe_call GAsk (hr.mono (by decide)) rfl gAsk FAsk.kp bAsk .nil pass0 (pa_cons pe_int (pa_cons (pv 7) (pa_cons pe_int pa_nil)))) (pa_cons (pe_call GAsk (hr.mono (by decide)) rfl gAsk FAsk.kp bAsk .nil pass0 (pa_cons pe_int (pa_cons (pv 7) (pa_cons pe_int pa_nil)))) (pa_cons (pe_call GAsk (hr.mono (by decide)) rfl gAsk FAsk.kp bAsk .nil pass0 (pa_cons pe_int (pa_cons (pv 7) (pa_cons (pe_op op_sub (pv 7) pe_int) pa_nil)))) pa_nil))))))
      (pss_one (ps_if (pt_not (pt_val (pe_call GAl (hr.mono (by decide)) rfl gAl FAl.kp bAl .nil pass0 (pa_cons (pv 5) (pa_cons (pe_lst (pa_cons pe_int (pa_cons pe_int (pa_cons pe_int (pa_cons pe_int (pa_cons pe_non (pa_cons pe_non (pa_cons pe_non pa_nil)))))))) pa_nil))))) (pss_one (ps_ret pe_bl)) pss_nil))))))))))))))))))))))
      (pss_one (ps_ret (pe_call0 GEnd (hr.mono (by decide)) rfl gEnd FEnd.kp bEnd .nil pass0))))), ?_⟩
    refine ⟨_, rfl, a, ns, rfl, hS, hl, fun H1 p g1 hp b1 => ?_⟩
    have hS1 : SqL K H1 a (ns.map L2.V.int) := Grows.seq g1 hS
    refine ⟨10, rfl, by decide, by decide, for_range (n := 10) (fun i σ H' => ∃ o2 o3 o4 o5 o6 o7 o8 o9 o10 o11 o12, σ = [some (.ref a), some (.ref p), o2, o3, o4, o5, o6, o7, o8, o9, o10, o11, o12] ∧ Bag H' p) ⟨_, _, _, _, _, _, _, _, _, _, _, rfl, b1⟩ (fun i σ H2 hi ⟨o2, o3, o4, o5, o6, o7, o8, o9, o10, o11, o12, e, b2⟩ => ?_) fun σ H2 ⟨o2, o3, o4, o5, o6, o7, o8, o9, o10, o11, o12, e, b2⟩ => ?_⟩
    · subst e
      have lb : Lasts (fun _ => True) := fun _ _ _ _ => trivial
      refine ⟨_, rfl, p, rfl, b2, fun vb H3 b3 g3 nl3 => ?_⟩
      refine tcons_i (top_i ?_)
      refine (ml_lst (B := fun _ => True) (mvs_cons lb mv_neg (mvs_cons lb mv_c (mvs_cons lb (mv_pow (i := 10) (j := 29) ⟨by decide, by decide⟩) (mvs_cons lb (mv_sub lb mv_c (mv_pow (i := 10) (j := 29) ⟨by decide, by decide⟩)) mvs_nil)))) (by show 4 ≤ 100; decide)) H3 _ trivial fun q4 H4 g4 e4 => ?_
      refine ⟨_, rfl, p, _, rfl, bag_grow b3 g4, (by decide), log_small (by decide) (by decide), fun vd H5 v0 v1 b5 but5 => ?_⟩
      obtain ⟨z, zin, ez⟩ := at_in (xs := [L2.V.int (-1), .int 20, .int (10 ^ (29 : Int).toNat), .int (0 - 10 ^ (29 : Int).toNat)]) v0 (by show vd < 4; omega)
      have big29 : (20 : Int) ≤ 10 ^ (29 : Int).toNat := by decide
      obtain ⟨far, rfl, hfar⟩ : ∃ far : Int, z = .int far ∧ (far < 0 ∨ 20 ≤ far) := by
        simp only [List.mem_cons, List.not_mem_nil, or_false] at zin
        rcases zin with rfl | rfl | rfl | rfl
        · exact ⟨_, rfl, .inl (by decide)⟩
        · exact ⟨_, rfl, .inr (by decide)⟩
        · exact ⟨_, rfl, .inr big29⟩
        · exact ⟨_, rfl, .inl (by omega)⟩
      clear zin
      have q4p : q4 ≠ p := ne_bag (bag_grow b3 g4) e4
      refine ⟨q4, _, vd, .int far, rfl, rfl, SqL.of (but5 _ q4p ▸ e4), ez, (by show 2 ≤ sizeLine; decide), fun t ht => ⟨t, _, rfl, SqT.of upd_same, rfl, _, _, rfl, _, _, rfl, rfl, ?_⟩⟩
      have gt : Grows H5 (upd H5 t (.tup [vb, .int far])) := Grows.new ht
      have nl6 : NoL K O.C (hid [p] (upd H5 t (.tup [vb, .int far]))) vb := nl3.grow (hid_gr (grs_of (List.mem_singleton.mpr rfl) ((g4.gr.trans but5.gr).trans gt.gr)))
      have b6 := bag_grow b5 gt
      clear nl3 ez e4 g4 b3 b5 but5 gt ht
      generalize upd H5 t (.tup [vb, .int far]) = H6 at nl6 b6 ⊢
      have hout : ∀ k : Int, k ≤ 20 → ¬ (0 ≤ far ∧ far < k) := fun k hk => by omega
      have npb : ∀ H, Grows H6 H → NoP K H vb := fun H g => NoL.noP O (nl6.grow (hid_le.trans g))
      refine ⟨(by show 4 ≤ sizeLine; decide), fun t4 ht4 => ⟨t4, rfl, ⟨_, SqT.of upd_same⟩, fun D4 hD4 => lc_tupX (K := K) (fun j y _ => y = ans (some 0)) (fun _ _ _ _ _ h => h) (fun _ _ _ _ h _ _ => h) hD4 (SqT.of upd_same) (by show 4 ≤ 1000000; decide) (fun j x H' Rk ex sm nD kR => ?_) fun H7 ys mx => ?_⟩⟩
      · have ex' := List.mem_of_getElem? ex
        simp only [List.mem_cons, List.not_mem_nil, or_false] at ex'
        have gr := (Grows.new ht4).trans sm
        rcases ex' with rfl | rfl | rfl | rfl
        · exact ⟨rfl, _, rfl, _, rfl, _, rfl, 0, vb, far, some 0, rfl, fun H1 g => asks_bad0 (npb _ (gr.trans g)), fun H1 g => kR _ _ g rfl⟩
        · exact ⟨rfl, _, rfl, _, rfl, _, rfl, 2, vb, far, some 0, rfl, fun H1 g => asks_bad2 (npb _ (gr.trans g)), fun H1 g => kR _ _ g rfl⟩
        · exact ⟨rfl, _, rfl, _, rfl, _, rfl, 3, vb, far, some 0, rfl, fun H1 g => asks_bad3 (npb _ (gr.trans g)), fun H1 g => kR _ _ g rfl⟩
        · exact ⟨rfl, _, rfl, _, rfl, _, rfl, 4, vb, far, some 0, rfl, fun H1 g => asks_bad4 (npb _ (gr.trans g)), fun H1 g => kR _ _ g rfl⟩
      have ey : ys = List.replicate 4 (ans (some 0)) := List.eq_replicate_iff.mpr ⟨mx.len, fun b hb => by
        obtain ⟨j, ej⟩ := List.getElem?_of_mem hb
        exact mx.rel j b ej⟩
      subst ey
      have b7 := bag_grow b6 ((Grows.new ht4).trans mx.grow)
      refine seq_alike (B := fun _ => True) (vs := List.replicate 4 (ans (some 0))) lb rfl mx.top (ml_rep (m := 4) (by decide)) trivial (fun v hv => by rw [(List.mem_replicate.mp hv).2]; exact sc_ans _) (by decide) fun H8 g8 => ?_
      have b8 := bag_grow b7 g8
      clear mx ht4 b6 b7 g8 npb nl6
      dsimp only [List.set_cons_succ, List.set_cons_zero]
      refine ⟨_, rfl, p, _, rfl, b8, (by decide), log_small (by decide) (by decide), fun wd H9 w0 w1 b9 but9 => ⟨_, _, rfl, rfl, ?_⟩⟩
      clear but9 b8
      obtain ⟨n, en⟩ : ∃ n : Nat, (2 + wd : Int) = (n : Nat) := ⟨(2 + wd).toNat, by omega⟩
      show gName 7 (L2.V.int (2 + wd)) _ _ _
      rw [en]
      have n2 : 2 ≤ n := by omega
      have n19 : n ≤ 19 := by omega
      have em : ((n : Int) - 1) = ((n - 1 : Nat) : Int) := by omega
      refine ⟨_, rfl, _, _, rfl, rfl, _, rfl, by omega, by omega, fun D hD => ?_⟩
      rw [show ((n : Int) - 1).toNat = n - 1 by omega]
      refine lc_chain hD (by omega) (fun i H' Ry hi kR => ?_) fun H10 cs g10 ec rl nw => ?_
      · refine ⟨rfl, _, rfl, _, _, rfl, rfl, _, rfl, .of_le (by decide) (by omega) (by decide) (by omega), fun q hq => ?_⟩
        rw [show (0 + (i : Int) + 2) = 0 + ((i + 2 : Nat) : Int) by omega, upto_V]
        exact kR q hq
      refine ml_repE (m := n - 1) (B := fun _ => True) (em ▸ mv_sub lb (mv_var rfl) mv_c) lb (by omega) H10 _ trivial fun r H11 g11 e11 => ⟨_, _, rfl, ?_⟩
      dsimp only [List.set_cons_succ, List.set_cons_zero]
      have Dp : D ≠ p := fun z => (bag_st b9).ne hD (by rw [z]; exact List.mem_singleton.mpr rfl)
      have nwp : ∀ c ∈ cs, c.1 ≠ p := fun c hc y => (bag_st b9).ne (nw c hc).1 (by rw [y]; exact List.mem_singleton.mpr rfl)
      have rl := rl.keep g11
      have b11 := bag_grow b9 (g10.trans g11)
      have er : H11 r = some (.lst ((rowC n).map L2.V.int)) := by
        rw [e11]
        unfold rowC
        rw [List.map_replicate]
      clear e11 g11 g10 b9 hD
      have pA : ∀ H, Rl H D cs → PtA K H (.ref D) (lotC n) := fun H r => pt_chain (by omega) (by omega) r ec
      have lb0 : Lasts (fun H => Rl H D cs ∧ H r = some (.lst ((rowC n).map L2.V.int))) := fun H H' b g => ⟨b.1.keep g, g _ _ b.2⟩
      have lb1 : ∀ (q : Addr) (vs : List L2.V), Lasts (fun H => (Rl H D cs ∧ H r = some (.lst ((rowC n).map L2.V.int))) ∧ H q = some (.lst vs)) := fun q vs H H' b g => ⟨lb0 _ _ b.1 g, g _ _ b.2⟩
      have n21 : ¬ (-(n : Int) < 10 ^ (29 : Int).toNat ∧ (10 : Int) ^ (29 : Int).toNat < n) := fun ⟨_, z⟩ => by omega
      refine seq_ml (B := fun H => Rl H D cs ∧ H r = some (.lst ((rowC n).map L2.V.int))) (vs := [ans (some 3), ans (some 3), ans (some 3), ans (some 3)]) (ml_lst
        (mvs_cons lb0 (mv_askV lb0 rfl (mv_var rfl) fun H b => asks_0far (by omega) (pA H b.1) (hout _ (by omega)))
        (mvs_cons lb0 (mv_askV lb0 rfl (mv_var rfl) fun H b => asks_1far n2 n19 (SqL.of b.2) (hout _ (by omega)))
        (mvs_cons lb0 (mv_askV lb0 rfl (mv_var rfl) fun H b => asks_2far (by omega) (pA H b.1) (hout _ (by omega)))
        (mvs_cons lb0 (mv_askV lb0 rfl (mv_var rfl) fun H b => asks_0far (by omega) (pA H b.1) (by omega)) mvs_nil)))) (by show 4 ≤ 100; decide)) ⟨rl, er⟩ fun q1 H12 g12 e12 => ?_
      have b12 := lb0 _ _ ⟨rl, er⟩ g12
      refine seq_ml (B := fun H => (Rl H D cs ∧ H r = some (.lst ((rowC n).map L2.V.int))) ∧ H q1 = some (.lst [ans (some 3), ans (some 3), ans (some 3), ans (some 3)])) (vs := [ans (some 3), ans (some 3), ans (some 3), ans (some 3)] ++ [ans (some 3), ans (some 3), ans (some 4)]) (ml_cat (lb1 _ _) (ml_var rfl fun H b => b.2) (ml_lst
        (mvs_cons (lb1 _ _) (mv_askV (lb1 _ _) rfl (mv_var rfl) fun H b => asks_1far n2 n19 (SqL.of b.1.2) (by omega))
        (mvs_cons (lb1 _ _) (mv_askV (lb1 _ _) rfl (mv_var rfl) fun H b => asks_2far (by omega) (pA H b.1.1) (by omega))
        (mvs_cons (lb1 _ _) (mv_askV (lb1 _ _) rfl (mv_var rfl) fun H b => asks_3far (by omega) n19 (pA H b.1.1) (by omega)) mvs_nil))) (by show 3 ≤ 100; decide)) (by show 4 + 3 ≤ 200; decide)) ⟨b12, e12⟩ fun q2 H13 g13 e13 => ?_
      have b13 := lb0 _ _ b12 g13
      refine seq_ml (B := fun H => (Rl H D cs ∧ H r = some (.lst ((rowC n).map L2.V.int))) ∧ H q2 = some (.lst ([ans (some 3), ans (some 3), ans (some 3), ans (some 3)] ++ [ans (some 3), ans (some 3), ans (some 4)]))) (vs := [ans (some 3), ans (some 3), ans (some 3), ans (some 3)] ++ [ans (some 3), ans (some 3), ans (some 4)] ++ [ans (some 4), ans (some 4)]) (ml_cat (lb1 _ _) (ml_var rfl fun H b => b.2) (ml_lst
        (mvs_cons (lb1 _ _) (mv_askV (lb1 _ _) rfl (mv_sub (lb1 _ _) mv_c (mv_var rfl)) fun H b => asks_3far (by omega) n19 (pA H b.1.1) (by omega))
        (mvs_cons (lb1 _ _) (mv_askV (lb1 _ _) rfl (mv_pow (i := 10) (j := 29) ⟨by decide, by decide⟩) fun H b => asks_3far (by omega) n19 (pA H b.1.1) n21) mvs_nil)) (by show 2 ≤ 100; decide)) (by show 7 + 2 ≤ 200; decide)) ⟨b13, e13⟩ fun q3 H14 g14 e14 => ?_
      have b14 := lb0 _ _ b13 g14
      refine seq_alike (B := fun _ => True) (vs := List.replicate 6 (.int 3) ++ List.replicate 3 (.int 4)) lb rfl e14 (ml_cat lb (ml_rep (m := 6) (by decide)) (ml_rep (m := 3) (by decide)) (by decide)) trivial (fun v hv => ?_) (by decide) fun H15 g15 => ?_
      · rcases List.mem_append.mp hv with z | z
        · rw [(List.mem_replicate.mp z).2]
          exact .inl ⟨_, rfl⟩
        · rw [(List.mem_replicate.mp z).2]
          exact .inl ⟨_, rfl⟩
      have b15 := lb0 _ _ b14 g15
      have b11' := bag_grow b11 (g12.trans (g13.trans (g14.trans g15)))
      clear e12 e13 e14 g12 g13 g14 g15 b12 b13 b14 b11 rl er
      refine seq_ml (B := fun H => Rl H D cs ∧ H r = some (.lst ((rowC n).map L2.V.int))) (vs := [ans none, ans none, ans none]) (ml_lst
        (mvs_cons lb0 (mv_askV lb0 rfl (mv_sub lb0 (mv_var rfl) mv_c) fun H b => asks_0in n2 (pA H b.1) (by omega) (by omega))
        (mvs_cons lb0 (mv_askV lb0 rfl mv_c fun H b => asks_1in n2 n19 (SqL.of b.2))
        (mvs_cons lb0 (mv_askV lb0 rfl mv_c fun H b => asks_2in (by omega) (by omega) (pA H b.1) (by omega) (by omega)) mvs_nil))) (by show 3 ≤ 100; decide)) b15 fun q4 H16 g16 e16 => ?_
      have b16 := lb0 _ _ b15 g16
      refine seq_ml (B := fun H => (Rl H D cs ∧ H r = some (.lst ((rowC n).map L2.V.int))) ∧ H q4 = some (.lst [ans none, ans none, ans none])) (vs := [ans none, ans none, ans none] ++ [ans none]) (ml_cat (lb1 _ _) (ml_var rfl fun H b => b.2) (ml_lst
        (mvs_cons (lb1 _ _) (mv_askV (lb1 _ _) rfl (mv_sub (lb1 _ _) (mv_var rfl) mv_c) fun H b => asks_3up (by omega) n19 (pA H b.1.1)) mvs_nil) (by show 1 ≤ 100; decide)) (by show 3 + 1 ≤ 200; decide)) ⟨b16, e16⟩ fun q5 H17 g17 e17 => ?_
      have b17 := lb0 _ _ b16 g17
      refine seq_ml (B := fun H => (Rl H D cs ∧ H r = some (.lst ((rowC n).map L2.V.int))) ∧ H q5 = some (.lst ([ans none, ans none, ans none] ++ [ans none]))) (vs := [ans none, ans none, ans none] ++ [ans none] ++ [ans none, ans none]) (ml_cat (lb1 _ _) (ml_var rfl fun H b => b.2) (ml_lst
        (mvs_cons (lb1 _ _) (mv_askV (lb1 _ _) rfl (mv_sub (lb1 _ _) mv_c (mv_var rfl)) fun H b => asks_3down (by omega) n19 (pA H b.1.1))
        (mvs_cons (lb1 _ _) (mv_askV (lb1 _ _) rfl mv_c fun H b => asks_4 (by omega) (by omega) (pA H b.1.1)) mvs_nil)) (by show 2 ≤ 100; decide)) (by show 4 + 2 ≤ 200; decide)) ⟨b17, e17⟩ fun q6 H18 g18 e18 => ?_
      have b18 := lb0 _ _ b17 g18
      refine seq_alike (B := fun _ => True) (vs := List.replicate 6 .non) lb rfl e18 (ml_rep (m := 6) (by decide)) trivial (fun v hv => by rw [(List.mem_replicate.mp hv).2]; exact .inr rfl) (by decide) fun H19 g19 => ?_
      have b19 := (lb0 _ _ b18 g19).1
      have b19' := bag_grow b11' (g16.trans (g17.trans (g18.trans g19)))
      clear e16 e17 e18 g16 g17 g18 g19 b16 b17 b18 b15 b11' lb0 lb1
      dsimp only [List.set_cons_succ, List.set_cons_zero]
      refine seq_lst (p := [p]) (Pr := NoC [p] K (.ref D)) (n := 10) nc_last (mks_cons nc_last (nc_md md_non (by decide +kernel)) (mks_cons nc_last (nc_md (md_tup mds_nil (Nat.le_of_ble_eq_true rfl)) (by decide +kernel)) (mks_cons nc_last (nc_md (md_lst (mds_cons md_int mds_nil) (Nat.le_of_ble_eq_true rfl)) (by decide +kernel)) (mks_cons nc_last (nc_md (md_lst (mds_cons md_bl mds_nil) (Nat.le_of_ble_eq_true rfl)) (by decide +kernel)) (mks_cons nc_last (nc_md (md_lst (mds_cons md_int (mds_cons md_int mds_nil)) (Nat.le_of_ble_eq_true rfl)) (by decide +kernel)) (mks_cons nc_last (nc_md (md_lst (mds_cons md_int (mds_cons md_neg mds_nil)) (Nat.le_of_ble_eq_true rfl)) (by decide +kernel)) (mks_cons nc_last (nc_md (md_lst (mds_cons md_str mds_nil) (Nat.le_of_ble_eq_true rfl)) (by decide +kernel)) (mks_cons nc_last (nc_md (md_lst (mds_cons md_non mds_nil) (Nat.le_of_ble_eq_true rfl)) (by decide +kernel)) (mks_cons nc_last (nc_md (md_rep (m := 20) (by decide)) (by decide +kernel)) (mks_cons nc_last (nc_md (md_repn (m := 19) (by decide)) (by decide +kernel)) mks_nil)))))))))) (by decide) (bag_st b19') fun vs1 q7 H20 g20 e20 np20 l20 n20 => ?_
      refine seq_cat (p := [p]) (a := q7) (Pr := NoC [p] K (.ref D)) (n := 4) nc_last (mks_cons nc_last nc_dict (mks_cons nc_last (nc_md (md_lst (mds_cons (md_lst (mds_cons md_int mds_nil) (Nat.le_of_ble_eq_true rfl)) mds_nil) (Nat.le_of_ble_eq_true rfl)) (by decide +kernel)) (mks_cons nc_last (nc_md md_str (by decide +kernel)) (mks_cons nc_last (nc_var rfl) mks_nil)))) rfl e20 n20 (by rw [l20]; decide) ((bag_st b19').keep g20) fun vs2 q8 H21 g21 e21 np21 l21 n21' => ?_
      have len14 : (vs1 ++ vs2).length = 14 := by rw [List.length_append, l20, l21]
      generalize vs1 ++ vs2 = wrong at e21 n21' len14
      have rl21 := (b19.keep g20).keep g21
      have b21 := bag_grow b19' (g20.trans g21)
      refine tif_i ?_
      refine ⟨_, rfl, _, rfl, p, _, rfl, b21, (by decide), log_small (by decide) (by decide), fun v22 H22 u0 u1 b22 but22 => ?_⟩
      obtain ⟨z, zin, ez⟩ := at_in (xs := wrong) u0 (by rw [len14]; exact u1)
      refine ⟨q8, wrong, v22, z, rfl, rfl, SqL.of (but22.gr _ _ (fun y => np21 (by rw [y]; exact List.mem_singleton.mpr rfl)) e21), ez, _, rfl, 1, z, far, some 1, rfl, fun H23 g23 => asks_bad1 ?_, fun H23 g23 => .inl ⟨.int 1, rfl, .inl ⟨_, rfl⟩, fun H24 g24 => ⟨_, rfl, iteF ?_⟩⟩⟩
      · have g21' : GrS [p] H21 H23 := grs_of (List.mem_singleton.mpr rfl) (but22.gr.trans g23.gr)
        rcases n21' z zin with e | ⟨d, hd, e⟩
        · subst e
          have rows := rows_dps (K := K) (H := hid [p] H23) (cs := cs) fun c hc => hid_at (g21' _ _ (fun y => nwp c hc (List.mem_singleton.mp y)) (rl21.each c hc)) fun y => nwp c hc (List.mem_singleton.mp y)
          have top : hid [p] H23 D = some (.lst (cs.map fun c => L2.V.ref c.1)) := hid_at (g21' _ _ (fun y => Dp (List.mem_singleton.mp y)) rl21.top) fun y => Dp (List.mem_singleton.mp y)
          refine ⟨.list (cs.map fun c => .list (c.2.map .int)), .inl (.lst (SqL.of (hid_le _ _ top)) (DpAll.grow hid_le rows)), ?_⟩
          cases cs with
          | nil =>
            have := congrArg List.length ec
            rw [List.length_map, List.length_map, List.length_range, List.length_nil] at this
            omega
          | cons c cr => exact good_noC
        · exact ⟨d, Dd.grow hid_le (Dd.grow (hid_gr g21') hd), e⟩
      · have b24 := bag_grow b22 (g23.trans g24)
        clear n20 n21' e20 e21 g20 g21 b19 b19' rl21 b21 b22 but22 g23 g24 ez zin n21
        dsimp only [List.set_cons_succ, List.set_cons_zero]
        refine tseq_i (top_i ?_)
        refine (ml_lst (B := fun _ => True) (vs := [.int 0, .int (-1), .int 21, .int (10 ^ (30 : Int).toNat)]) (mvs_cons lb mv_c (mvs_cons lb mv_neg (mvs_cons lb mv_c (mvs_cons lb (mv_pow (i := 10) (j := 30) ⟨by decide, by decide⟩) mvs_nil)))) (by show 4 ≤ 100; decide)) H24 _ trivial fun q9 H25 g25 e25 => ?_
        have b25 := bag_grow b24 g25
        refine ⟨_, rfl, p, _, rfl, b25, (by decide), log_small (by decide) (by decide), fun v26 H26 x0 x1 b26 but26 => ?_⟩
        obtain ⟨z2, zin2, ez2⟩ := at_in (xs := [L2.V.int 0, .int (-1), .int 21, .int (10 ^ (30 : Int).toNat)]) x0 (by show v26 < 4; omega)
        obtain ⟨bd, rfl, hbd⟩ : ∃ bd : Int, z2 = .int bd ∧ ¬ (1 ≤ bd ∧ bd ≤ 20) := by
          have big30 : (21 : Int) ≤ 10 ^ (30 : Int).toNat := by decide
          simp only [List.mem_cons, List.not_mem_nil, or_false] at zin2
          rcases zin2 with rfl | rfl | rfl | rfl
          · exact ⟨_, rfl, by decide⟩
          · exact ⟨_, rfl, by decide⟩
          · exact ⟨_, rfl, by decide⟩
          · exact ⟨_, rfl, by omega⟩
        refine ⟨q9, _, v26, .int bd, rfl, rfl, SqL.of (but26 _ (ne_bag b25 e25) ▸ e25), ez2, ?_⟩
        clear ez2 zin2 e25 but26 b25 b24
        dsimp only [List.set_cons_succ, List.set_cons_zero]
        have lbq : ∀ (q : Addr) (vs : List L2.V), Lasts (fun H => H q = some (.lst vs)) := fun q vs _ _ e g => g _ _ e
        refine seq_ml (B := fun _ => True) (vs := [ans (some 2), ans (some 2), ans (some 3), ans (some 3)]) (ml_lst
          (mvs_cons lb (mv_askV lb rfl mv_c fun H b => asks_5out hbd)
          (mvs_cons lb (mv_askV lb rfl (mv_var rfl) fun H b => asks_6out hbd)
          (mvs_cons lb (mv_askV lb rfl (mv_var rfl) fun H b => asks_6far (by omega) (by omega) (hout _ (by omega)))
          (mvs_cons lb (mv_askV lb rfl (mv_var rfl) fun H b => asks_6far (by omega) (by omega) (by omega)) mvs_nil)))) (by show 4 ≤ 100; decide)) trivial fun y1 H27 g27 e27 => ?_
        refine seq_ml (B := fun H => H y1 = some (.lst [ans (some 2), ans (some 2), ans (some 3), ans (some 3)])) (vs := [ans (some 2), ans (some 2), ans (some 3), ans (some 3)] ++ [ans none, ans none, ans none]) (ml_cat (lbq _ _) (ml_var rfl fun H b => b) (ml_lst
          (mvs_cons (lbq _ _) (mv_askV (lbq _ _) rfl mv_c fun H b => asks_5in (by omega) (by omega))
          (mvs_cons (lbq _ _) (mv_askV (lbq _ _) rfl mv_c fun H b => asks_6in (by omega) (by omega) (by omega) (by omega))
          (mvs_cons (lbq _ _) (mv_askV (lbq _ _) rfl (mv_sub (lbq _ _) (mv_var rfl) mv_c) fun H b => asks_6in (by omega) (by omega) (by omega) (by omega)) mvs_nil))) (by show 3 ≤ 100; decide)) (by show 4 + 3 ≤ 200; decide)) e27 fun y2 H28 g28 e28 => ?_
        refine one_alike (B := fun _ => True) rfl e28 (ml_lst (mvs_cons lb mv_c (mvs_cons lb mv_c (mvs_cons lb mv_c (mvs_cons lb mv_c (mvs_cons lb mv_c (mvs_cons lb mv_c (mvs_cons lb mv_c mvs_nil))))))) (by show 7 ≤ 100; decide)) trivial (fun v hv => ?_) (by show 7 ≤ 100; decide) fun H29 g29 => ⟨_, _, _, _, _, _, _, _, _, _, _, rfl, bag_grow b26 (g27.trans (g28.trans g29))⟩
        simp only [List.mem_append, List.mem_cons, List.not_mem_nil, or_false] at hv
        rcases hv with (rfl | rfl | rfl | rfl) | (rfl | rfl | rfl) <;> exact sc_ans _
    · subst e
      exact ⟨rfl, fun H3 g3 => k H3⟩
end
end K47

namespace K47
open PySem PySem.Spec PyProof.Rows L2 SortR LcM RepA
def exB (K : PySem.W.Frag) (D : Addr) : Bool :=
  decide (PySem.W.findIn K (.ref D) "__getattribute__" = some (some (.builtin "BaseException.__getattribute__"))) && (decide (PySem.W.findIn K (.ref D) "__getattr__" = some none) && (decide (PySem.W.subIn K (.ref D) (.type "BaseException") = some true) &&
  (PySem.W.hasDictIn K D && (decide (PySem.W.findIn K (.ref D) "__class__" = some (some (.builtin "object.__class__"))) && (decide (PySem.W.specialIn K (.builtin "object.__class__") "__get__" = some (some (.builtin "getset_descriptor.__get__"))) &&
  (decide (PySem.W.takesIn K (.builtin "object.__class__") = some true) && decide (PySem.W.mroIn K D (.type "object") = some true)))))))
theorem exB_ok {K : PySem.W.Frag} {D : Addr} (h : exB K D = true) : ExcC K D := by
  unfold exB at h
  simp only [Bool.and_eq_true, decide_eq_true_eq] at h
  obtain ⟨h1, h2, h3, h4, h5, h6, h7, h8⟩ := h
  exact ⟨h1, h2, h3, h4, h5, h6, h7, h8⟩
/-- the six errors -/
def sixB (K : PySem.W.Frag) (c : List Addr) (pe : Addr) : Bool :=
  (List.range 6).all fun i => exB K (ca c i) && (((List.range 6).all fun j => decide (PySem.W.kitOne K (.ref (ca c i)) (.ref (ca c j)) = some (decide (i = j)))) && (PySem.W.excIn K (ca c i) PySem.HandSPX.veTail "ValueError.__new__" && (PySem.W.keepIn K (.ref (ca c i)) &&
  (decide (PySem.W.typeIn K (.ref (ca c i)) = some (.type "type")) && decide (PySem.W.exmOne K (.ref (ca c i)) (.ref pe) = some true)))))
/-- the class Company -/
def coB (K : PySem.W.Frag) (C fI : Addr) : Bool :=
  PySem.W.plainGet K C Str.empty && (PySem.W.hasDictIn K C && (PySem.W.plainOver K C && (decide (PySem.W.findIn K (.ref C) "__setattr__" = some (some (.builtin "object.__setattr__"))) && (decide (PySem.W.findIn K (.ref C) "_now" = some none) && (decide (PySem.W.findIn K (.ref C) "_past" = some none) &&
  (PySem.W.makesIn K C && (decide (PySem.W.findIn K (.ref C) "__init__" = some (some (.ref fI))) && (PySem.W.isFn K (.ref fI) && (PySem.W.keepIn K (.ref C) && (decide (PySem.W.findIn K (.ref C) "__class__" = some (some (.builtin "object.__class__"))) &&
  (decide (PySem.W.specialIn K (.builtin "object.__class__") "__get__" = some (some (.builtin "getset_descriptor.__get__"))) && (decide (PySem.W.takesIn K (.builtin "object.__class__") = some true) && (decide (PySem.W.mroIn K C (.type "object") = some true) && decide (PySem.W.kitOne K (.ref C) (.type "list") = some false))))))))))))))
theorem all_mk {l : PySem.W.OpenLaw} {w : World} {K : PySem.W.Frag} {h : Heap} {mg : Str → Option Value} {fa pe cCo fCI c0 c1 c2 c3 c4 c5 fNum fPer fAsc fPL fGr fMask fCross fAny fIs fPs fCut fComing fBoth fItem fComOf fGrown fPlace fCome fPB fNP fNPs fNN fFrac fWith fCW fEnt fTrc fIsT fTSh fTCo fBag fStir fDraw fAl fBad fWord fAsk fEnd fL : Addr} (X : K.In h) (G : h.Ns mainGlobals mg) (hfa : mg "law" = some (.ref fa))
    {odNum anNum odPer anPer odAsc anAsc odPL anPL odGr anGr odMask anMask odCross anCross odAny anAny odIs anIs odPs anPs odCut anCut odComing anComing odBoth anBoth odItem anItem odComOf anComOf odGrown anGrown odPlace anPlace odCome anCome odPB anPB odNP anNP odNPs anNPs odNN anNN odFrac anFrac odWith anWith odCW anCW odEnt anEnt odTrc anTrc odIsT anIsT odTSh anTSh odTCo anTCo odBag anBag odStir anStir odDraw anDraw odAl anAl odBad anBad odWord anWord odAsk anAsk odEnd anEnd odL anL odCI anCI : Option Addr} {slNum slPer slAsc slPL slGr slMask slCross slAny slIs slPs slCut slComing slBoth slItem slComOf slGrown slPlace slCome slPB slNP slNPs slNN slFrac slWith slCW slEnt slTrc slIsT slTSh slTCo slBag slStir slDraw slAl slBad slWord slAsk slEnd slL slCI : Array (Option Value)} {ocNum kVNum dcNum pmNum cvNum ctNum ocPer kVPer dcPer pmPer cvPer ctPer ocAsc kVAsc dcAsc pmAsc cvAsc ctAsc ocPL kVPL dcPL pmPL cvPL ctPL ocGr kVGr dcGr pmGr cvGr ctGr ocMask kVMask dcMask pmMask cvMask ctMask ocCross kVCross dcCross pmCross cvCross ctCross ocAny kVAny dcAny pmAny cvAny ctAny ocIs kVIs dcIs pmIs cvIs ctIs ocPs kVPs dcPs pmPs cvPs ctPs ocCut kVCut dcCut pmCut cvCut ctCut ocComing kVComing dcComing pmComing cvComing ctComing ocBoth kVBoth dcBoth pmBoth cvBoth ctBoth ocItem kVItem dcItem pmItem cvItem ctItem ocComOf kVComOf dcComOf pmComOf cvComOf ctComOf ocGrown kVGrown dcGrown pmGrown cvGrown ctGrown ocPlace kVPlace dcPlace pmPlace cvPlace ctPlace ocCome kVCome dcCome pmCome cvCome ctCome ocPB kVPB dcPB pmPB cvPB ctPB ocNP kVNP dcNP pmNP cvNP ctNP ocNPs kVNPs dcNPs pmNPs cvNPs ctNPs ocNN kVNN dcNN pmNN cvNN ctNN ocFrac kVFrac dcFrac pmFrac cvFrac ctFrac ocWith kVWith dcWith pmWith cvWith ctWith ocCW kVCW dcCW pmCW cvCW ctCW ocEnt kVEnt dcEnt pmEnt cvEnt ctEnt ocTrc kVTrc dcTrc pmTrc cvTrc ctTrc ocIsT kVIsT dcIsT pmIsT cvIsT ctIsT ocTSh kVTSh dcTSh pmTSh cvTSh ctTSh ocTCo kVTCo dcTCo pmTCo cvTCo ctTCo ocBag kVBag dcBag pmBag cvBag ctBag ocStir kVStir dcStir pmStir cvStir ctStir ocDraw kVDraw dcDraw pmDraw cvDraw ctDraw ocAl kVAl dcAl pmAl cvAl ctAl ocBad kVBad dcBad pmBad cvBad ctBad ocWord kVWord dcWord pmWord cvWord ctWord ocAsk kVAsk dcAsk pmAsk cvAsk ctAsk ocEnd kVEnd dcEnd pmEnd cvEnd ctEnd ocL kVL dcL pmL cvL ctL ocCI kVCI dcCI pmCI cvCI ctCI : Value} {mtok : Tok}
    (aNum : PySem.W.nsIn K mainGlobals "is_number" = some (some (.ref fNum))) (lNum : K.lookup fNum = some ⟨ocNum, odNum, .func (PySem.W.fnOf "is_number" "is_number" (defArgs sNumber) (defBody sNumber) (defScope sNumber) .none kVNum dcNum pmNum anNum cvNum ctNum), slNum⟩) (xNum : PySem.W.codeIn K cvNum "is_number" = true) (kNum : PySem.W.keepIn K (.ref fNum) = true)
    (aPer : PySem.W.nsIn K mainGlobals "is_person" = some (some (.ref fPer))) (lPer : K.lookup fPer = some ⟨ocPer, odPer, .func (PySem.W.fnOf "is_person" "is_person" (defArgs sPerson) (defBody sPerson) (defScope sPerson) .none kVPer dcPer pmPer anPer cvPer ctPer), slPer⟩) (xPer : PySem.W.codeIn K cvPer "is_person" = true) (kPer : PySem.W.keepIn K (.ref fPer) = true)
    (aAsc : PySem.W.nsIn K mainGlobals "is_ascending" = some (some (.ref fAsc))) (lAsc : K.lookup fAsc = some ⟨ocAsc, odAsc, .func (PySem.W.fnOf "is_ascending" "is_ascending" (defArgs sAsc) (defBody sAsc) (defScope sAsc) .none kVAsc dcAsc pmAsc anAsc cvAsc ctAsc), slAsc⟩) (xAsc : PySem.W.codeIn K cvAsc "is_ascending" = true) (kAsc : PySem.W.keepIn K (.ref fAsc) = true)
    (aPL : PySem.W.nsIn K mainGlobals "is_person_list" = some (some (.ref fPL))) (lPL : K.lookup fPL = some ⟨ocPL, odPL, .func (PySem.W.fnOf "is_person_list" "is_person_list" (defArgs sPList) (defBody sPList) (defScope sPList) .none kVPL dcPL pmPL anPL cvPL ctPL), slPL⟩) (xPL : PySem.W.codeIn K cvPL "is_person_list" = true) (kPL : PySem.W.keepIn K (.ref fPL) = true)
    (aGr : PySem.W.nsIn K mainGlobals "is_group" = some (some (.ref fGr))) (lGr : K.lookup fGr = some ⟨ocGr, odGr, .func (PySem.W.fnOf "is_group" "is_group" (defArgs sGroup) (defBody sGroup) (defScope sGroup) .none kVGr dcGr pmGr anGr cvGr ctGr), slGr⟩) (xGr : PySem.W.codeIn K cvGr "is_group" = true) (kGr : PySem.W.keepIn K (.ref fGr) = true)
    (aMask : PySem.W.nsIn K mainGlobals "mask_of" = some (some (.ref fMask))) (lMask : K.lookup fMask = some ⟨ocMask, odMask, .func (PySem.W.fnOf "mask_of" "mask_of" (defArgs sMask) (defBody sMask) (defScope sMask) .none kVMask dcMask pmMask anMask cvMask ctMask), slMask⟩) (xMask : PySem.W.codeIn K cvMask "mask_of" = true) (kMask : PySem.W.keepIn K (.ref fMask) = true)
    (aCross : PySem.W.nsIn K mainGlobals "masks_cross" = some (some (.ref fCross))) (lCross : K.lookup fCross = some ⟨ocCross, odCross, .func (PySem.W.fnOf "masks_cross" "masks_cross" (defArgs sCross) (defBody sCross) (defScope sCross) .none kVCross dcCross pmCross anCross cvCross ctCross), slCross⟩) (xCross : PySem.W.codeIn K cvCross "masks_cross" = true) (kCross : PySem.W.keepIn K (.ref fCross) = true)
    (aAny : PySem.W.nsIn K mainGlobals "any_cross" = some (some (.ref fAny))) (lAny : K.lookup fAny = some ⟨ocAny, odAny, .func (PySem.W.fnOf "any_cross" "any_cross" (defArgs sAny) (defBody sAny) (defScope sAny) .none kVAny dcAny pmAny anAny cvAny ctAny), slAny⟩) (xAny : PySem.W.codeIn K cvAny "any_cross" = true) (kAny : PySem.W.keepIn K (.ref fAny) = true)
    (aIs : PySem.W.nsIn K mainGlobals "is_parting" = some (some (.ref fIs))) (lIs : K.lookup fIs = some ⟨ocIs, odIs, .func (PySem.W.fnOf "is_parting" "is_parting" (defArgs sParting) (defBody sParting) (defScope sParting) .none kVIs dcIs pmIs anIs cvIs ctIs), slIs⟩) (xIs : PySem.W.codeIn K cvIs "is_parting" = true) (kIs : PySem.W.keepIn K (.ref fIs) = true)
    (aPs : PySem.W.nsIn K mainGlobals "persons_of" = some (some (.ref fPs))) (lPs : K.lookup fPs = some ⟨ocPs, odPs, .func (PySem.W.fnOf "persons_of" "persons_of" (defArgs sPersons) (defBody sPersons) (defScope sPersons) .none kVPs dcPs pmPs anPs cvPs ctPs), slPs⟩) (xPs : PySem.W.codeIn K cvPs "persons_of" = true) (kPs : PySem.W.keepIn K (.ref fPs) = true)
    (aCut : PySem.W.nsIn K mainGlobals "cut" = some (some (.ref fCut))) (lCut : K.lookup fCut = some ⟨ocCut, odCut, .func (PySem.W.fnOf "cut" "cut" (defArgs sCut) (defBody sCut) (defScope sCut) .none kVCut dcCut pmCut anCut cvCut ctCut), slCut⟩) (xCut : PySem.W.codeIn K cvCut "cut" = true) (kCut : PySem.W.keepIn K (.ref fCut) = true)
    (aComing : PySem.W.nsIn K mainGlobals "is_coming" = some (some (.ref fComing))) (lComing : K.lookup fComing = some ⟨ocComing, odComing, .func (PySem.W.fnOf "is_coming" "is_coming" (defArgs sComing) (defBody sComing) (defScope sComing) .none kVComing dcComing pmComing anComing cvComing ctComing), slComing⟩) (xComing : PySem.W.codeIn K cvComing "is_coming" = true) (kComing : PySem.W.keepIn K (.ref fComing) = true)
    (aBoth : PySem.W.nsIn K mainGlobals "both_parts" = some (some (.ref fBoth))) (lBoth : K.lookup fBoth = some ⟨ocBoth, odBoth, .func (PySem.W.fnOf "both_parts" "both_parts" (defArgs sBoth) (defBody sBoth) (defScope sBoth) .none kVBoth dcBoth pmBoth anBoth cvBoth ctBoth), slBoth⟩) (xBoth : PySem.W.codeIn K cvBoth "both_parts" = true) (kBoth : PySem.W.keepIn K (.ref fBoth) = true)
    (aItem : PySem.W.nsIn K mainGlobals "item_of" = some (some (.ref fItem))) (lItem : K.lookup fItem = some ⟨ocItem, odItem, .func (PySem.W.fnOf "item_of" "item_of" (defArgs sItem) (defBody sItem) (defScope sItem) .none kVItem dcItem pmItem anItem cvItem ctItem), slItem⟩) (xItem : PySem.W.codeIn K cvItem "item_of" = true) (kItem : PySem.W.keepIn K (.ref fItem) = true)
    (aComOf : PySem.W.nsIn K mainGlobals "coming_of" = some (some (.ref fComOf))) (lComOf : K.lookup fComOf = some ⟨ocComOf, odComOf, .func (PySem.W.fnOf "coming_of" "coming_of" (defArgs sComOf) (defBody sComOf) (defScope sComOf) .none kVComOf dcComOf pmComOf anComOf cvComOf ctComOf), slComOf⟩) (xComOf : PySem.W.codeIn K cvComOf "coming_of" = true) (kComOf : PySem.W.keepIn K (.ref fComOf) = true)
    (aGrown : PySem.W.nsIn K mainGlobals "grown" = some (some (.ref fGrown))) (lGrown : K.lookup fGrown = some ⟨ocGrown, odGrown, .func (PySem.W.fnOf "grown" "grown" (defArgs sGrown) (defBody sGrown) (defScope sGrown) .none kVGrown dcGrown pmGrown anGrown cvGrown ctGrown), slGrown⟩) (xGrown : PySem.W.codeIn K cvGrown "grown" = true) (kGrown : PySem.W.keepIn K (.ref fGrown) = true)
    (aPlace : PySem.W.nsIn K mainGlobals "place_of" = some (some (.ref fPlace))) (lPlace : K.lookup fPlace = some ⟨ocPlace, odPlace, .func (PySem.W.fnOf "place_of" "place_of" (defArgs sPlace) (defBody sPlace) (defScope sPlace) .none kVPlace dcPlace pmPlace anPlace cvPlace ctPlace), slPlace⟩) (xPlace : PySem.W.codeIn K cvPlace "place_of" = true) (kPlace : PySem.W.keepIn K (.ref fPlace) = true)
    (aCome : PySem.W.nsIn K mainGlobals "come_into" = some (some (.ref fCome))) (lCome : K.lookup fCome = some ⟨ocCome, odCome, .func (PySem.W.fnOf "come_into" "come_into" (defArgs sCome) (defBody sCome) (defScope sCome) .none kVCome dcCome pmCome anCome cvCome ctCome), slCome⟩) (xCome : PySem.W.codeIn K cvCome "come_into" = true) (kCome : PySem.W.keepIn K (.ref fCome) = true)
    (aPB : PySem.W.nsIn K mainGlobals "parting_by" = some (some (.ref fPB))) (lPB : K.lookup fPB = some ⟨ocPB, odPB, .func (PySem.W.fnOf "parting_by" "parting_by" (defArgs sPB) (defBody sPB) (defScope sPB) .none kVPB dcPB pmPB anPB cvPB ctPB), slPB⟩) (xPB : PySem.W.codeIn K cvPB "parting_by" = true) (kPB : PySem.W.keepIn K (.ref fPB) = true)
    (aNP : PySem.W.nsIn K mainGlobals "need_person" = some (some (.ref fNP))) (lNP : K.lookup fNP = some ⟨ocNP, odNP, .func (PySem.W.fnOf "need_person" "need_person" (defArgs sNeedP) (defBody sNeedP) (defScope sNeedP) .none kVNP dcNP pmNP anNP cvNP ctNP), slNP⟩) (xNP : PySem.W.codeIn K cvNP "need_person" = true) (kNP : PySem.W.keepIn K (.ref fNP) = true)
    (aNPs : PySem.W.nsIn K mainGlobals "need_persons" = some (some (.ref fNPs))) (lNPs : K.lookup fNPs = some ⟨ocNPs, odNPs, .func (PySem.W.fnOf "need_persons" "need_persons" (defArgs sNeedPs) (defBody sNeedPs) (defScope sNeedPs) .none kVNPs dcNPs pmNPs anNPs cvNPs ctNPs), slNPs⟩) (xNPs : PySem.W.codeIn K cvNPs "need_persons" = true) (kNPs : PySem.W.keepIn K (.ref fNPs) = true)
    (aNN : PySem.W.nsIn K mainGlobals "need_node" = some (some (.ref fNN))) (lNN : K.lookup fNN = some ⟨ocNN, odNN, .func (PySem.W.fnOf "need_node" "need_node" (defArgs sNeedN) (defBody sNeedN) (defScope sNeedN) .none kVNN dcNN pmNN anNN cvNN ctNN), slNN⟩) (xNN : PySem.W.codeIn K cvNN "need_node" = true) (kNN : PySem.W.keepIn K (.ref fNN) = true)
    (aFrac : PySem.W.nsIn K mainGlobals "fraction" = some (some (.ref fFrac))) (lFrac : K.lookup fFrac = some ⟨ocFrac, odFrac, .func (PySem.W.fnOf "fraction" "fraction" (defArgs sFrac) (defBody sFrac) (defScope sFrac) .none kVFrac dcFrac pmFrac anFrac cvFrac ctFrac), slFrac⟩) (xFrac : PySem.W.codeIn K cvFrac "fraction" = true) (kFrac : PySem.W.keepIn K (.ref fFrac) = true)
    (aWith : PySem.W.nsIn K mainGlobals "without" = some (some (.ref fWith))) (lWith : K.lookup fWith = some ⟨ocWith, odWith, .func (PySem.W.fnOf "without" "without" (defArgs sWith) (defBody sWith) (defScope sWith) .none kVWith dcWith pmWith anWith cvWith ctWith), slWith⟩) (xWith : PySem.W.codeIn K cvWith "without" = true) (kWith : PySem.W.keepIn K (.ref fWith) = true)
    (aCW : PySem.W.nsIn K mainGlobals "coming_without" = some (some (.ref fCW))) (lCW : K.lookup fCW = some ⟨ocCW, odCW, .func (PySem.W.fnOf "coming_without" "coming_without" (defArgs sCW) (defBody sCW) (defScope sCW) .none kVCW dcCW pmCW anCW cvCW ctCW), slCW⟩) (xCW : PySem.W.codeIn K cvCW "coming_without" = true) (kCW : PySem.W.keepIn K (.ref fCW) = true)
    (aEnt : PySem.W.nsIn K mainGlobals "entered" = some (some (.ref fEnt))) (lEnt : K.lookup fEnt = some ⟨ocEnt, odEnt, .func (PySem.W.fnOf "entered" "entered" (defArgs sEnt) (defBody sEnt) (defScope sEnt) .none kVEnt dcEnt pmEnt anEnt cvEnt ctEnt), slEnt⟩) (xEnt : PySem.W.codeIn K cvEnt "entered" = true) (kEnt : PySem.W.keepIn K (.ref fEnt) = true)
    (aTrc : PySem.W.nsIn K mainGlobals "traceless" = some (some (.ref fTrc))) (lTrc : K.lookup fTrc = some ⟨ocTrc, odTrc, .func (PySem.W.fnOf "traceless" "traceless" (defArgs sTrc) (defBody sTrc) (defScope sTrc) .none kVTrc dcTrc pmTrc anTrc cvTrc ctTrc), slTrc⟩) (xTrc : PySem.W.codeIn K cvTrc "traceless" = true) (kTrc : PySem.W.keepIn K (.ref fTrc) = true)
    (aIsT : PySem.W.nsIn K mainGlobals "is_traceless" = some (some (.ref fIsT))) (lIsT : K.lookup fIsT = some ⟨ocIsT, odIsT, .func (PySem.W.fnOf "is_traceless" "is_traceless" (defArgs sIsT) (defBody sIsT) (defScope sIsT) .none kVIsT dcIsT pmIsT anIsT cvIsT ctIsT), slIsT⟩) (xIsT : PySem.W.codeIn K cvIsT "is_traceless" = true) (kIsT : PySem.W.keepIn K (.ref fIsT) = true)
    (aTSh : PySem.W.nsIn K mainGlobals "traceless_share" = some (some (.ref fTSh))) (lTSh : K.lookup fTSh = some ⟨ocTSh, odTSh, .func (PySem.W.fnOf "traceless_share" "traceless_share" (defArgs sTSh) (defBody sTSh) (defScope sTSh) .none kVTSh dcTSh pmTSh anTSh cvTSh ctTSh), slTSh⟩) (xTSh : PySem.W.codeIn K cvTSh "traceless_share" = true) (kTSh : PySem.W.keepIn K (.ref fTSh) = true)
    (aTCo : PySem.W.nsIn K mainGlobals "traceless_counts" = some (some (.ref fTCo))) (lTCo : K.lookup fTCo = some ⟨ocTCo, odTCo, .func (PySem.W.fnOf "traceless_counts" "traceless_counts" (defArgs sTCo) (defBody sTCo) (defScope sTCo) .none kVTCo dcTCo pmTCo anTCo cvTCo ctTCo), slTCo⟩) (xTCo : PySem.W.codeIn K cvTCo "traceless_counts" = true) (kTCo : PySem.W.keepIn K (.ref fTCo) = true)
    (aBag : PySem.W.nsIn K mainGlobals "_law_bag" = some (some (.ref fBag))) (lBag : K.lookup fBag = some ⟨ocBag, odBag, .func (PySem.W.fnOf "_law_bag" "_law_bag" (defArgs sBag) (defBody sBag) (defScope sBag) .none kVBag dcBag pmBag anBag cvBag ctBag), slBag⟩) (xBag : PySem.W.codeIn K cvBag "_law_bag" = true) (kBag : PySem.W.keepIn K (.ref fBag) = true)
    (aStir : PySem.W.nsIn K mainGlobals "_law_stirred" = some (some (.ref fStir))) (lStir : K.lookup fStir = some ⟨ocStir, odStir, .func (PySem.W.fnOf "_law_stirred" "_law_stirred" (defArgs sStir) (defBody sStir) (defScope sStir) .none kVStir dcStir pmStir anStir cvStir ctStir), slStir⟩) (xStir : PySem.W.codeIn K cvStir "_law_stirred" = true) (kStir : PySem.W.keepIn K (.ref fStir) = true)
    (aDraw : PySem.W.nsIn K mainGlobals "_law_draw" = some (some (.ref fDraw))) (lDraw : K.lookup fDraw = some ⟨ocDraw, odDraw, .func (PySem.W.fnOf "_law_draw" "_law_draw" (defArgs sDraw) (defBody sDraw) (defScope sDraw) .none kVDraw dcDraw pmDraw anDraw cvDraw ctDraw), slDraw⟩) (xDraw : PySem.W.codeIn K cvDraw "_law_draw" = true) (kDraw : PySem.W.keepIn K (.ref fDraw) = true)
    (aAl : PySem.W.nsIn K mainGlobals "_law_alike" = some (some (.ref fAl))) (lAl : K.lookup fAl = some ⟨ocAl, odAl, .func (PySem.W.fnOf "_law_alike" "_law_alike" (defArgs sAlike) (defBody sAlike) (defScope sAlike) .none kVAl dcAl pmAl anAl cvAl ctAl), slAl⟩) (xAl : PySem.W.codeIn K cvAl "_law_alike" = true) (kAl : PySem.W.keepIn K (.ref fAl) = true)
    (aBad : PySem.W.nsIn K mainGlobals "_law_bad_parting" = some (some (.ref fBad))) (lBad : K.lookup fBad = some ⟨ocBad, odBad, .func (PySem.W.fnOf "_law_bad_parting" "_law_bad_parting" (defArgs sBad) (defBody sBad) (defScope sBad) .none kVBad dcBad pmBad anBad cvBad ctBad), slBad⟩) (xBad : PySem.W.codeIn K cvBad "_law_bad_parting" = true) (kBad : PySem.W.keepIn K (.ref fBad) = true)
    (aWord : PySem.W.nsIn K mainGlobals "_law_word" = some (some (.ref fWord))) (lWord : K.lookup fWord = some ⟨ocWord, odWord, .func (PySem.W.fnOf "_law_word" "_law_word" (defArgs sWord) (defBody sWord) (defScope sWord) .none kVWord dcWord pmWord anWord cvWord ctWord), slWord⟩) (xWord : PySem.W.codeIn K cvWord "_law_word" = true) (kWord : PySem.W.keepIn K (.ref fWord) = true)
    (aAsk : PySem.W.nsIn K mainGlobals "_law_asked" = some (some (.ref fAsk))) (lAsk : K.lookup fAsk = some ⟨ocAsk, odAsk, .func (PySem.W.fnOf "_law_asked" "_law_asked" (defArgs sAsk) (defBody sAsk) (defScope sAsk) .none kVAsk dcAsk pmAsk anAsk cvAsk ctAsk), slAsk⟩) (xAsk : PySem.W.codeIn K cvAsk "_law_asked" = true) (kAsk : PySem.W.keepIn K (.ref fAsk) = true)
    (aEnd : PySem.W.nsIn K mainGlobals "_law_ends_right" = some (some (.ref fEnd))) (lEnd : K.lookup fEnd = some ⟨ocEnd, odEnd, .func (PySem.W.fnOf "_law_ends_right" "_law_ends_right" (defArgs sEnd) (defBody sEnd) (defScope sEnd) .none kVEnd dcEnd pmEnd anEnd cvEnd ctEnd), slEnd⟩) (xEnd : PySem.W.codeIn K cvEnd "_law_ends_right" = true) (kEnd : PySem.W.keepIn K (.ref fEnd) = true)
    (aL : PySem.W.nsIn K mainGlobals "law" = some (some (.ref fL))) (lL : K.lookup fL = some ⟨ocL, odL, .func (PySem.W.fnOf "law" "law" (defArgs sLaw) (defBody sLaw) (defScope sLaw) .none kVL dcL pmL anL cvL ctL), slL⟩) (xL : PySem.W.codeIn K cvL "law" = true) (kL : PySem.W.keepIn K (.ref fL) = true)
    (y_isinstance : PySem.W.nsIn K mainGlobals "isinstance" = some none)
    (y_int : PySem.W.nsIn K mainGlobals "int" = some none)
    (y_bool : PySem.W.nsIn K mainGlobals "bool" = some none)
    (y_list : PySem.W.nsIn K mainGlobals "list" = some none)
    (y_len : PySem.W.nsIn K mainGlobals "len" = some none)
    (y_all : PySem.W.nsIn K mainGlobals "all" = some none)
    (y_any : PySem.W.nsIn K mainGlobals "any" = some none)
    (y_sum : PySem.W.nsIn K mainGlobals "sum" = some none)
    (y_zip : PySem.W.nsIn K mainGlobals "zip" = some none)
    (y_sorted : PySem.W.nsIn K mainGlobals "sorted" = some none)
    (y_tuple : PySem.W.nsIn K mainGlobals "tuple" = some none)
    (y_range : PySem.W.nsIn K mainGlobals "range" = some none)
    (y_enumerate : PySem.W.nsIn K mainGlobals "enumerate" = some none)
    (y_abs : PySem.W.nsIn K mainGlobals "abs" = some none)
    (y_max : PySem.W.nsIn K mainGlobals "max" = some none)
    (y_min : PySem.W.nsIn K mainGlobals "min" = some none)
    (y_str : PySem.W.nsIn K mainGlobals "str" = some none)
    (e0 : PySem.W.nsIn K mainGlobals "InvalidParting" = some (some (.ref c0)))
    (e1 : PySem.W.nsIn K mainGlobals "InvalidComing" = some (some (.ref c1)))
    (e2 : PySem.W.nsIn K mainGlobals "InvalidPersons" = some (some (.ref c2)))
    (e3 : PySem.W.nsIn K mainGlobals "InvalidPerson" = some (some (.ref c3)))
    (e4 : PySem.W.nsIn K mainGlobals "InvalidNode" = some (some (.ref c4)))
    (e5 : PySem.W.nsIn K mainGlobals "NoPerson" = some (some (.ref c5)))
    (zp : PySem.W.nsIn K mainGlobals "PartError" = some (some (.ref pe))) (zCo : PySem.W.nsIn K mainGlobals "Company" = some (some (.ref cCo))) (aCI : PySem.W.findIn K (.ref cCo) "__init__" = some (some (.ref fCI)))
    (lCI : K.lookup fCI = some ⟨ocCI, odCI, .func (PySem.W.fnOf "__init__" "Company.__init__" (defArgs sCInit) (defBody sCInit) (defScope sCInit) .none kVCI dcCI pmCI anCI cvCI ctCI), slCI⟩) (xCI : PySem.W.codeIn K cvCI "Company.__init__" = true) (kCI : PySem.W.keepIn K (.ref fCI) = true)
    (zComb : PySem.W.nsIn K mainGlobals "combinations" = some (some (.type "itertools.combinations"))) (zMost : PySem.W.nsIn K mainGlobals "MOST_PERSONS" = some (some (.int 20 mtok))) (zGcd : PySem.W.nsIn K mainGlobals "gcd" = some (some (.builtin "math.gcd")))
    (h6 : sixB K [c0, c1, c2, c3, c4, c5] pe = true) (hco : coB K cCo fCI = true) :
    ∃ fd : FuncData, (∀ (s : Shared) (v : Value), BindsTo s fd ⟨[v], []⟩ [("script", v)]) ∧ ∀ base : Heap, K.In base → base.Ns mainGlobals mg → FnOk l.prog w K mg base CX0 12 fa fd ["script"] (spLaw K) := by
  have e := hfa.symm.trans (PySem.W.mg_of X G aL)
  cases e
  have FNum := fun_mk (st := sNumber) lNum xNum kNum
  have bNum := FNum.binds (ps := ["thing"]) fun _ _ _ _ _ _ us hl => match us, hl with | [_], _ => rfl
  have FPer := fun_mk (st := sPerson) lPer xPer kPer
  have bPer := FPer.binds (ps := ["thing", "persons"]) fun _ _ _ _ _ _ us hl => match us, hl with | [_, _], _ => rfl
  have FAsc := fun_mk (st := sAsc) lAsc xAsc kAsc
  have bAsc := FAsc.binds (ps := ["items"]) fun _ _ _ _ _ _ us hl => match us, hl with | [_], _ => rfl
  have FPL := fun_mk (st := sPList) lPL xPL kPL
  have bPL := FPL.binds (ps := ["thing", "persons"]) fun _ _ _ _ _ _ us hl => match us, hl with | [_, _], _ => rfl
  have FGr := fun_mk (st := sGroup) lGr xGr kGr
  have bGr := FGr.binds (ps := ["thing", "persons"]) fun _ _ _ _ _ _ us hl => match us, hl with | [_, _], _ => rfl
  have FMask := fun_mk (st := sMask) lMask xMask kMask
  have bMask := FMask.binds (ps := ["group"]) fun _ _ _ _ _ _ us hl => match us, hl with | [_], _ => rfl
  have FCross := fun_mk (st := sCross) lCross xCross kCross
  have bCross := FCross.binds (ps := ["one", "other"]) fun _ _ _ _ _ _ us hl => match us, hl with | [_, _], _ => rfl
  have FAny := fun_mk (st := sAny) lAny xAny kAny
  have bAny := FAny.binds (ps := ["groups"]) fun _ _ _ _ _ _ us hl => match us, hl with | [_], _ => rfl
  have FIs := fun_mk (st := sParting) lIs xIs kIs
  have bIs := FIs.binds (ps := ["thing"]) fun _ _ _ _ _ _ us hl => match us, hl with | [_], _ => rfl
  have FPs := fun_mk (st := sPersons) lPs xPs kPs
  have bPs := FPs.binds (ps := ["parting"]) fun _ _ _ _ _ _ us hl => match us, hl with | [_], _ => rfl
  have FCut := fun_mk (st := sCut) lCut xCut kCut
  have bCut := FCut.binds (ps := ["parting", "some"]) fun _ _ _ _ _ _ us hl => match us, hl with | [_, _], _ => rfl
  have FComing := fun_mk (st := sComing) lComing xComing kComing
  have bComing := FComing.binds (ps := ["thing"]) fun _ _ _ _ _ _ us hl => match us, hl with | [_], _ => rfl
  have FBoth := fun_mk (st := sBoth) lBoth xBoth kBoth
  have bBoth := FBoth.binds (ps := ["parting", "group"]) fun _ _ _ _ _ _ us hl => match us, hl with | [_, _], _ => rfl
  have FItem := fun_mk (st := sItem) lItem xItem kItem
  have bItem := FItem.binds (ps := ["parting", "person"]) fun _ _ _ _ _ _ us hl => match us, hl with | [_, _], _ => rfl
  have FComOf := fun_mk (st := sComOf) lComOf xComOf kComOf
  have bComOf := FComOf.binds (ps := ["parting"]) fun _ _ _ _ _ _ us hl => match us, hl with | [_], _ => rfl
  have FGrown := fun_mk (st := sGrown) lGrown xGrown kGrown
  have bGrown := FGrown.binds (ps := ["group", "place", "person"]) fun _ _ _ _ _ _ us hl => match us, hl with | [_, _, _], _ => rfl
  have FPlace := fun_mk (st := sPlace) lPlace xPlace kPlace
  have bPlace := FPlace.binds (ps := ["made", "item"]) fun _ _ _ _ _ _ us hl => match us, hl with | [_, _], _ => rfl
  have FCome := fun_mk (st := sCome) lCome xCome kCome
  have bCome := FCome.binds (ps := ["made", "item", "person"]) fun _ _ _ _ _ _ us hl => match us, hl with | [_, _, _], _ => rfl
  have FPB := fun_mk (st := sPB) lPB xPB kPB
  have bPB := FPB.binds (ps := ["coming"]) fun _ _ _ _ _ _ us hl => match us, hl with | [_], _ => rfl
  have FNP := fun_mk (st := sNeedP) lNP xNP kNP
  have bNP := FNP.binds (ps := ["person", "persons"]) fun _ _ _ _ _ _ us hl => match us, hl with | [_, _], _ => rfl
  have FNPs := fun_mk (st := sNeedPs) lNPs xNPs kNPs
  have bNPs := FNPs.binds (ps := ["persons"]) fun _ _ _ _ _ _ us hl => match us, hl with | [_], _ => rfl
  have FNN := fun_mk (st := sNeedN) lNN xNN kNN
  have bNN := FNN.binds (ps := ["node", "persons"]) fun _ _ _ _ _ _ us hl => match us, hl with | [_, _], _ => rfl
  have FFrac := fun_mk (st := sFrac) lFrac xFrac kFrac
  have bFrac := FFrac.binds (ps := ["top", "bottom"]) fun _ _ _ _ _ _ us hl => match us, hl with | [_, _], _ => rfl
  have FWith := fun_mk (st := sWith) lWith xWith kWith
  have bWith := FWith.binds (ps := ["parting", "person"]) fun _ _ _ _ _ _ us hl => match us, hl with | [_, _], _ => rfl
  have FCW := fun_mk (st := sCW) lCW xCW kCW
  have bCW := FCW.binds (ps := ["coming", "person"]) fun _ _ _ _ _ _ us hl => match us, hl with | [_, _], _ => rfl
  have FEnt := fun_mk (st := sEnt) lEnt xEnt kEnt
  have bEnt := FEnt.binds (ps := ["parting", "node"]) fun _ _ _ _ _ _ us hl => match us, hl with | [_, _], _ => rfl
  have FTrc := fun_mk (st := sTrc) lTrc xTrc kTrc
  have bTrc := FTrc.binds (ps := ["parting"]) fun _ _ _ _ _ _ us hl => match us, hl with | [_], _ => rfl
  have FIsT := fun_mk (st := sIsT) lIsT xIsT kIsT
  have bIsT := FIsT.binds (ps := ["parting", "person"]) fun _ _ _ _ _ _ us hl => match us, hl with | [_, _], _ => rfl
  have FTSh := fun_mk (st := sTSh) lTSh xTSh kTSh
  have bTSh := FTSh.binds (ps := ["persons", "person"]) fun _ _ _ _ _ _ us hl => match us, hl with | [_, _], _ => rfl
  have FTCo := fun_mk (st := sTCo) lTCo xTCo kTCo
  have bTCo := FTCo.binds (ps := ["persons"]) fun _ _ _ _ _ _ us hl => match us, hl with | [_], _ => rfl
  have FBag := fun_mk (st := sBag) lBag xBag kBag
  have bBag := FBag.binds (ps := ["script"]) fun _ _ _ _ _ _ us hl => match us, hl with | [_], _ => rfl
  have FStir := fun_mk (st := sStir) lStir xStir kStir
  have bStir := FStir.binds (ps := ["bag", "wide"]) fun _ _ _ _ _ _ us hl => match us, hl with | [_, _], _ => rfl
  have FDraw := fun_mk (st := sDraw) lDraw xDraw kDraw
  have bDraw := FDraw.binds (ps := ["bag", "wide"]) fun _ _ _ _ _ _ us hl => match us, hl with | [_, _], _ => rfl
  have FAl := fun_mk (st := sAlike) lAl xAl kAl
  have bAl := FAl.binds (ps := ["found", "due"]) fun _ _ _ _ _ _ us hl => match us, hl with | [_, _], _ => rfl
  have FBad := fun_mk (st := sBad) lBad xBad kBad
  have bBad := FBad.binds (ps := ["bag"]) fun _ _ _ _ _ _ us hl => match us, hl with | [_], _ => rfl
  have FWord := fun_mk (st := sWord) lWord xWord kWord
  have bWord := FWord.binds (ps := ["e"]) fun _ _ _ _ _ _ us hl => match us, hl with | [_], _ => rfl
  have FAsk := fun_mk (st := sAsk) lAsk xAsk kAsk
  have bAsk := FAsk.binds (ps := ["way", "lot", "k"]) fun _ _ _ _ _ _ us hl => match us, hl with | [_, _, _], _ => rfl
  have FEnd := fun_mk (st := sEnd) lEnd xEnd kEnd
  have bEnd := FEnd.binds (ps := []) fun _ _ _ _ _ _ us hl => match us, hl with | [], _ => rfl
  have FL := fun_mk (st := sLaw) lL xL kL
  have bL := FL.binds (ps := ["script"]) fun _ _ _ _ _ _ us hl => match us, hl with | [_], _ => rfl
  have FCI := fun_mk (st := sCInit) lCI xCI kCI
  have bCI := FCI.binds (ps := ["self"]) fun _ _ _ _ _ _ us hl => match us, hl with | [_], _ => rfl
  have T : TxtP mg := ⟨PySem.W.mg_none_of X G y_isinstance, PySem.W.mg_none_of X G y_int, PySem.W.mg_none_of X G y_bool, PySem.W.mg_none_of X G y_list, PySem.W.mg_none_of X G y_len, PySem.W.mg_none_of X G y_all, PySem.W.mg_none_of X G y_any, PySem.W.mg_none_of X G y_sum, PySem.W.mg_none_of X G y_zip, PySem.W.mg_none_of X G y_sorted, PySem.W.mg_none_of X G y_tuple, PySem.W.mg_none_of X G y_range, PySem.W.mg_none_of X G y_enumerate⟩
  have T0 : Txt0 mg := ⟨PySem.W.mg_none_of X G y_int, PySem.W.mg_none_of X G y_range, PySem.W.mg_none_of X G y_len, PySem.W.mg_none_of X G y_abs, PySem.W.mg_none_of X G y_max, PySem.W.mg_none_of X G y_min⟩
  have T1 : Txt1 K mg fStir := ⟨T0, PySem.W.mg_of X G aStir⟩
  have TA : TxtA mg fAl := ⟨T0, PySem.W.mg_none_of X G y_isinstance, PySem.W.mg_none_of X G y_list, PySem.W.mg_none_of X G y_tuple, PySem.W.mg_none_of X G y_all, PySem.W.mg_none_of X G y_bool, PySem.W.mg_none_of X G y_str, PySem.W.mg_of X G aAl⟩
  have Z : ProgF K mg := { fNum := fNum, dNum := _, FNum := FNum, gNum := PySem.W.mg_of X G aNum, bNum := bNum, fPer := fPer, dPer := _, FPer := FPer, gPer := PySem.W.mg_of X G aPer, bPer := bPer, fAsc := fAsc, dAsc := _, FAsc := FAsc, gAsc := PySem.W.mg_of X G aAsc, bAsc := bAsc, fPL := fPL, dPL := _, FPL := FPL, gPL := PySem.W.mg_of X G aPL, bPL := bPL, fGr := fGr, dGr := _, FGr := FGr, gGr := PySem.W.mg_of X G aGr, bGr := bGr, fMask := fMask, dMask := _, FMask := FMask, gMask := PySem.W.mg_of X G aMask, bMask := bMask, fCross := fCross, dCross := _, FCross := FCross, gCross := PySem.W.mg_of X G aCross, bCross := bCross, fAny := fAny, dAny := _, FAny := FAny, gAny := PySem.W.mg_of X G aAny, bAny := bAny, fIs := fIs, dIs := _, FIs := FIs, gIs := PySem.W.mg_of X G aIs, bIs := bIs, fPs := fPs, dPs := _, FPs := FPs, gPs := PySem.W.mg_of X G aPs, bPs := bPs, gComb := PySem.W.mg_of X G zComb, mostT := _, gMost := PySem.W.mg_of X G zMost }
  have Y : ComF K mg := { fCut := fCut, dCut := _, FCut := FCut, gCut := PySem.W.mg_of X G aCut, bCut := bCut, fComing := fComing, dComing := _, FComing := FComing, gComing := PySem.W.mg_of X G aComing, bComing := bComing, fBoth := fBoth, dBoth := _, FBoth := FBoth, gBoth := PySem.W.mg_of X G aBoth, bBoth := bBoth, fItem := fItem, dItem := _, FItem := FItem, gItem := PySem.W.mg_of X G aItem, bItem := bItem, fComOf := fComOf, dComOf := _, FComOf := FComOf, gComOf := PySem.W.mg_of X G aComOf, bComOf := bComOf, fGrown := fGrown, dGrown := _, FGrown := FGrown, gGrown := PySem.W.mg_of X G aGrown, bGrown := bGrown, fPlace := fPlace, dPlace := _, FPlace := FPlace, gPlace := PySem.W.mg_of X G aPlace, bPlace := bPlace, fCome := fCome, dCome := _, FCome := FCome, gCome := PySem.W.mg_of X G aCome, bCome := bCome, fPB := fPB, dPB := _, FPB := FPB, gPB := PySem.W.mg_of X G aPB, bPB := bPB }
  have U : LeaF K mg := { fNP := fNP, dNP := _, FNP := FNP, gNP := PySem.W.mg_of X G aNP, bNP := bNP, fNPs := fNPs, dNPs := _, FNPs := FNPs, gNPs := PySem.W.mg_of X G aNPs, bNPs := bNPs, fNN := fNN, dNN := _, FNN := FNN, gNN := PySem.W.mg_of X G aNN, bNN := bNN, fFrac := fFrac, dFrac := _, FFrac := FFrac, gFrac := PySem.W.mg_of X G aFrac, bFrac := bFrac, fWith := fWith, dWith := _, FWith := FWith, gWith := PySem.W.mg_of X G aWith, bWith := bWith, fCW := fCW, dCW := _, FCW := FCW, gCW := PySem.W.mg_of X G aCW, bCW := bCW, fEnt := fEnt, dEnt := _, FEnt := FEnt, gEnt := PySem.W.mg_of X G aEnt, bEnt := bEnt, fTrc := fTrc, dTrc := _, FTrc := FTrc, gTrc := PySem.W.mg_of X G aTrc, bTrc := bTrc, fIsT := fIsT, dIsT := _, FIsT := FIsT, gIsT := PySem.W.mg_of X G aIsT, bIsT := bIsT, fTSh := fTSh, dTSh := _, FTSh := FTSh, gTSh := PySem.W.mg_of X G aTSh, bTSh := bTSh, fTCo := fTCo, dTCo := _, FTCo := FTCo, gTCo := PySem.W.mg_of X G aTCo, bTCo := bTCo, gGcd := PySem.W.mg_of X G zGcd }
  have all6 : ∀ i, i < 6 → (exB K (ca [c0, c1, c2, c3, c4, c5] i) = true ∧ (∀ j, j < 6 → PySem.W.kitOne K (.ref (ca [c0, c1, c2, c3, c4, c5] i)) (.ref (ca [c0, c1, c2, c3, c4, c5] j)) = some (decide (i = j))) ∧ PySem.W.excIn K (ca [c0, c1, c2, c3, c4, c5] i) PySem.HandSPX.veTail "ValueError.__new__" = true ∧ PySem.W.keepIn K (.ref (ca [c0, c1, c2, c3, c4, c5] i)) = true ∧
      PySem.W.typeIn K (.ref (ca [c0, c1, c2, c3, c4, c5] i)) = some (.type "type") ∧ PySem.W.exmOne K (.ref (ca [c0, c1, c2, c3, c4, c5] i)) (.ref pe) = some true) := fun i hi => by
    have z := List.all_eq_true.mp h6 i (List.mem_range.mpr hi)
    simp only [Bool.and_eq_true, decide_eq_true_eq] at z
    obtain ⟨z1, z2, z3, z4, z5, z6⟩ := z
    exact ⟨z1, fun j hj => of_decide_eq_true (List.all_eq_true.mp z2 j (List.mem_range.mpr hj)), z3, z4, z5, z6⟩
  have V : TxtE K mg [c0, c1, c2, c3, c4, c5] pe :=
    { g := fun i hi => by
        match i, hi with
        | 0, _ => exact PySem.W.mg_of X G e0
        | 1, _ => exact PySem.W.mg_of X G e1
        | 2, _ => exact PySem.W.mg_of X G e2
        | 3, _ => exact PySem.W.mg_of X G e3
        | 4, _ => exact PySem.W.mg_of X G e4
        | 5, _ => exact PySem.W.mg_of X G e5
        | n + 6, hh => exact absurd hh (by omega)
      gp := PySem.W.mg_of X G zp, ex := fun i hi => exB_ok (all6 i hi).1, kd := fun i hi => (all6 i hi).2.1, exc := fun i hi => (all6 i hi).2.2.1, kc := fun i hi => (all6 i hi).2.2.2.1, ty := fun i hi => (all6 i hi).2.2.2.2.1, te := fun i hi => (all6 i hi).2.2.2.2.2 }
  have co := hco
  unfold coB at co
  simp only [Bool.and_eq_true, decide_eq_true_eq] at co
  obtain ⟨o1, o2, o3, o4, o5, o6, o7, o8, o9, o10, o11, o12, o13, o14, o15⟩ := co
  have O : CoF K mg := { C := cCo, fI := fCI, dI := _, FI := FCI, bI := bCI, cl := ⟨o1, o2, o3, o4⟩, nN := o5, nP := o6, gC := PySem.W.mg_of X G zCo, made := ⟨o7, o8, o9, o10⟩, ca := o11, cn := o12, ct := o13, cm := o14, kl := o15 }
  refine ⟨PySem.W.fnOf "law" "law" (defArgs sLaw) (defBody sLaw) (defScope sLaw) .none kVL dcL pmL anL cvL ctL, fun s v => .of_eq rfl, fun base _ _ => ?_⟩
  have GBag := ok_bag (P := l.prog) (w := w) (base := base) FBag T0
  have GDraw := ok_draw (P := l.prog) (w := w) (base := base) FDraw T1 FStir bStir
  have GAl := ok_alike (P := l.prog) (w := w) (base := base) FAl TA bAl
  have GAsk := ok_ask (P := l.prog) (w := w) (base := base) FAsk Z T T0 Y U V FWord (PySem.W.mg_of X G aWord) bWord
  have GBad := ok_bad (P := l.prog) (w := w) (base := base) FBad T O GDraw FDraw (PySem.W.mg_of X G aDraw) bDraw
  have GEnd := ok_end FEnd T GAsk FAsk (PySem.W.mg_of X G aAsk) bAsk GAl FAl (PySem.W.mg_of X G aAl) bAl
  exact ok_law FL T O GAsk FAsk (PySem.W.mg_of X G aAsk) bAsk GAl FAl (PySem.W.mg_of X G aAl) bAl GDraw FDraw (PySem.W.mg_of X G aDraw) bDraw GBad FBad (PySem.W.mg_of X G aBad) bBad GBag FBag (PySem.W.mg_of X G aBag) bBag GEnd FEnd (PySem.W.mg_of X G aEnd) bEnd
theorem walk {l : PySem.W.OpenLaw} {q : Program} {loose : List Str} {XP : (Str → Option Value) → Heap → Prop} {YP : World → Heap → Prop} {d : DefRec} {K : Params → PySem.W.Frag} (hn : l.most = some 63) (hdf : d.params.defaults = [])
    (hY : ∀ (w : World) (h : Heap), YP w h → (K w.params).In h)
    (F : ∀ (w : World) (mg : Str → Option Value) (fa : Addr) (h : Heap), (K w.params).In h → h.Ns mainGlobals mg → mg d.name = some (.ref fa) →
      ∃ fd : FuncData, (∀ (s : Shared) (u : Value), BindsTo s fd ⟨[u], []⟩ [("script", u)]) ∧ ∀ base : Heap, (K w.params).In base → base.Ns mainGlobals mg → FnOk l.prog w (K w.params) mg base CX0 12 fa fd ["script"] (spLaw (K w.params))) :
    PySem.W.WalkO q loose XP YP l.row.toRowW d [] (fun f vs => PySem.call f vs) :=
  L2.walk_of (n := 63) (k := 12) (x := "script") (CX := fun _ => CX0) (sp := fun w => spLaw (K w.params)) hn (by decide) hdf ⟨rfl, by decide, by decide⟩ hY F (fun _ _ a ns hl _ hS => ⟨a, ns, rfl, hS, hl, fun _ => rfl⟩) fun _ _ _ _ _ z => z
end K47


open PySem PySem.W PyProof.Rows in
set_option maxRecDepth 100000 in
set_option maxHeartbeats 0 in
theorem PySem.Challenge.cw_twopartings_k47_errors_of_leaving_holds : PySem.Challenge.rw_twopartings_k47_errors_of_leaving.Holds := by
  w_on; o_law; k_head; (case hw => w_witness2)
  k_fill
  refine K47.walk (l := PySem.Challenge.rw_twopartings_k47_errors_of_leaving) rfl rfl (fun w h Y => PySem.W.kIn_of Y) ?F
  case F =>
    intro w mg fa h KX G hmg
    refine' K47.all_mk KX G hmg ?aNum ?lNum ?xNum ?kNum ?aPer ?lPer ?xPer ?kPer ?aAsc ?lAsc ?xAsc ?kAsc ?aPL ?lPL ?xPL ?kPL ?aGr ?lGr ?xGr ?kGr ?aMask ?lMask ?xMask ?kMask ?aCross ?lCross ?xCross ?kCross ?aAny ?lAny ?xAny ?kAny ?aIs ?lIs ?xIs ?kIs ?aPs ?lPs ?xPs ?kPs ?aCut ?lCut ?xCut ?kCut ?aComing ?lComing ?xComing ?kComing ?aBoth ?lBoth ?xBoth ?kBoth ?aItem ?lItem ?xItem ?kItem ?aComOf ?lComOf ?xComOf ?kComOf ?aGrown ?lGrown ?xGrown ?kGrown ?aPlace ?lPlace ?xPlace ?kPlace ?aCome ?lCome ?xCome ?kCome ?aPB ?lPB ?xPB ?kPB ?aNP ?lNP ?xNP ?kNP ?aNPs ?lNPs ?xNPs ?kNPs ?aNN ?lNN ?xNN ?kNN ?aFrac ?lFrac ?xFrac ?kFrac ?aWith ?lWith ?xWith ?kWith ?aCW ?lCW ?xCW ?kCW ?aEnt ?lEnt ?xEnt ?kEnt ?aTrc ?lTrc ?xTrc ?kTrc ?aIsT ?lIsT ?xIsT ?kIsT ?aTSh ?lTSh ?xTSh ?kTSh ?aTCo ?lTCo ?xTCo ?kTCo ?aBag ?lBag ?xBag ?kBag ?aStir ?lStir ?xStir ?kStir ?aDraw ?lDraw ?xDraw ?kDraw ?aAl ?lAl ?xAl ?kAl ?aBad ?lBad ?xBad ?kBad ?aWord ?lWord ?xWord ?kWord ?aAsk ?lAsk ?xAsk ?kAsk ?aEnd ?lEnd ?xEnd ?kEnd ?aL ?lL ?xL ?kL ?y_isinstance ?y_int ?y_bool ?y_list ?y_len ?y_all ?y_any ?y_sum ?y_zip ?y_sorted ?y_tuple ?y_range ?y_enumerate ?y_abs ?y_max ?y_min ?y_str ?e0 ?e1 ?e2 ?e3 ?e4 ?e5 ?zp ?zCo ?aCI ?lCI ?xCI ?kCI ?zComb ?zMost ?zGcd ?h6 ?hco
    (case aNum => k_is)
    (case lNum => k_is)
    (case xNum => k_is)
    (case kNum => k_is)
    (case aPer => k_is)
    (case lPer => k_is)
    (case xPer => k_is)
    (case kPer => k_is)
    (case aAsc => k_is)
    (case lAsc => k_is)
    (case xAsc => k_is)
    (case kAsc => k_is)
    (case aPL => k_is)
    (case lPL => k_is)
    (case xPL => k_is)
    (case kPL => k_is)
    (case aGr => k_is)
    (case lGr => k_is)
    (case xGr => k_is)
    (case kGr => k_is)
    (case aMask => k_is)
    (case lMask => k_is)
    (case xMask => k_is)
    (case kMask => k_is)
    (case aCross => k_is)
    (case lCross => k_is)
    (case xCross => k_is)
    (case kCross => k_is)
    (case aAny => k_is)
    (case lAny => k_is)
    (case xAny => k_is)
    (case kAny => k_is)
    (case aIs => k_is)
    (case lIs => k_is)
    (case xIs => k_is)
    (case kIs => k_is)
    (case aPs => k_is)
    (case lPs => k_is)
    (case xPs => k_is)
    (case kPs => k_is)
    (case aCut => k_is)
    (case lCut => k_is)
    (case xCut => k_is)
    (case kCut => k_is)
    (case aComing => k_is)
    (case lComing => k_is)
    (case xComing => k_is)
    (case kComing => k_is)
    (case aBoth => k_is)
    (case lBoth => k_is)
    (case xBoth => k_is)
    (case kBoth => k_is)
    (case aItem => k_is)
    (case lItem => k_is)
    (case xItem => k_is)
    (case kItem => k_is)
    (case aComOf => k_is)
    (case lComOf => k_is)
    (case xComOf => k_is)
    (case kComOf => k_is)
    (case aGrown => k_is)
    (case lGrown => k_is)
    (case xGrown => k_is)
    (case kGrown => k_is)
    (case aPlace => k_is)
    (case lPlace => k_is)
    (case xPlace => k_is)
    (case kPlace => k_is)
    (case aCome => k_is)
    (case lCome => k_is)
    (case xCome => k_is)
    (case kCome => k_is)
    (case aPB => k_is)
    (case lPB => k_is)
    (case xPB => k_is)
    (case kPB => k_is)
    (case aNP => k_is)
    (case lNP => k_is)
    (case xNP => k_is)
    (case kNP => k_is)
    (case aNPs => k_is)
    (case lNPs => k_is)
    (case xNPs => k_is)
    (case kNPs => k_is)
    (case aNN => k_is)
    (case lNN => k_is)
    (case xNN => k_is)
    (case kNN => k_is)
    (case aFrac => k_is)
    (case lFrac => k_is)
    (case xFrac => k_is)
    (case kFrac => k_is)
    (case aWith => k_is)
    (case lWith => k_is)
    (case xWith => k_is)
    (case kWith => k_is)
    (case aCW => k_is)
    (case lCW => k_is)
    (case xCW => k_is)
    (case kCW => k_is)
    (case aEnt => k_is)
    (case lEnt => k_is)
    (case xEnt => k_is)
    (case kEnt => k_is)
    (case aTrc => k_is)
    (case lTrc => k_is)
    (case xTrc => k_is)
    (case kTrc => k_is)
    (case aIsT => k_is)
    (case lIsT => k_is)
    (case xIsT => k_is)
    (case kIsT => k_is)
    (case aTSh => k_is)
    (case lTSh => k_is)
    (case xTSh => k_is)
    (case kTSh => k_is)
    (case aTCo => k_is)
    (case lTCo => k_is)
    (case xTCo => k_is)
    (case kTCo => k_is)
    (case aBag => k_is)
    (case lBag => k_is)
    (case xBag => k_is)
    (case kBag => k_is)
    (case aStir => k_is)
    (case lStir => k_is)
    (case xStir => k_is)
    (case kStir => k_is)
    (case aDraw => k_is)
    (case lDraw => k_is)
    (case xDraw => k_is)
    (case kDraw => k_is)
    (case aAl => k_is)
    (case lAl => k_is)
    (case xAl => k_is)
    (case kAl => k_is)
    (case aBad => k_is)
    (case lBad => k_is)
    (case xBad => k_is)
    (case kBad => k_is)
    (case aWord => k_is)
    (case lWord => k_is)
    (case xWord => k_is)
    (case kWord => k_is)
    (case aAsk => k_is)
    (case lAsk => k_is)
    (case xAsk => k_is)
    (case kAsk => k_is)
    (case aEnd => k_is)
    (case lEnd => k_is)
    (case xEnd => k_is)
    (case kEnd => k_is)
    (case aL => k_is)
    (case lL => k_is)
    (case xL => k_is)
    (case kL => k_is)
    (case y_isinstance => k_is)
    (case y_int => k_is)
    (case y_bool => k_is)
    (case y_list => k_is)
    (case y_len => k_is)
    (case y_all => k_is)
    (case y_any => k_is)
    (case y_sum => k_is)
    (case y_zip => k_is)
    (case y_sorted => k_is)
    (case y_tuple => k_is)
    (case y_range => k_is)
    (case y_enumerate => k_is)
    (case y_abs => k_is)
    (case y_max => k_is)
    (case y_min => k_is)
    (case y_str => k_is)
    (case e0 => k_is)
    (case e1 => k_is)
    (case e2 => k_is)
    (case e3 => k_is)
    (case e4 => k_is)
    (case e5 => k_is)
    (case zp => k_is)
    (case zCo => k_is)
    (case aCI => k_is)
    (case lCI => k_is)
    (case xCI => k_is)
    (case kCI => k_is)
    (case zComb => k_is)
    (case zMost => k_is)
    (case zGcd => k_is)
    (case h6 => first | kernel_rfl | rfl)
    (case hco => first | kernel_rfl | rfl)
